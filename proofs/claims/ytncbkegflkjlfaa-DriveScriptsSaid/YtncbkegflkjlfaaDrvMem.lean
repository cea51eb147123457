/- Drives in memory: what the blocks of a drive hold, and what a call of a drive's may turn. -/
import Derived.Test.YtncbkegflkjlfaaZonMem
import Derived.Test.YtncbkegflkjlfaaDrvM
import Derived.Lib.AppendStr
import Derived.Laws.OwnMore
import Derived.OwnWalk
namespace Go.Proofs.Ytncbkegflkjlfaa
open Go.RowKit Zon Drv

/-- A call may turn the blocks F, and make new ones. -/
structure Turn (w w' : World) (F : Nat → Prop) : Prop where
  os : w'.os = w.os
  tape : w'.tape = w.tape
  output : w'.output = w.output
  size : w.heap.size ≤ w'.heap.size
  block : ∀ k, k < w.heap.size → ¬ F k → w'.heap[k]? = w.heap[k]?
theorem Turn.refl (w : World) (F : Nat → Prop) : Turn w w F := ⟨rfl, rfl, rfl, Nat.le_refl _, fun _ _ _ => rfl⟩
theorem Turn.trans {a b c : World} {F : Nat → Prop} (h : Turn a b F) (k : Turn b c F) : Turn a c F :=
  ⟨k.os.trans h.os, k.tape.trans h.tape, k.output.trans h.output, Nat.le_trans h.size k.size, fun i hi hn => (k.block i (Nat.lt_of_lt_of_le hi h.size) hn).trans (h.block i hi hn)⟩
/-- The second may turn what the first made. -/
theorem Turn.trans' {a b c : World} {F G : Nat → Prop} (h : Turn a b F) (k : Turn b c G) (hG : ∀ i, G i → F i ∨ a.heap.size ≤ i) : Turn a c F :=
  ⟨k.os.trans h.os, k.tape.trans h.tape, k.output.trans h.output, Nat.le_trans h.size k.size, fun i hi hn =>
    (k.block i (Nat.lt_of_lt_of_le hi h.size) (fun hg => (hG i hg).elim hn (fun h' => by omega))).trans (h.block i hi hn)⟩
theorem Turn.mono {a b : World} {F G : Nat → Prop} (h : Turn a b F) (hG : ∀ i, i < a.heap.size → F i → G i) : Turn a b G := ⟨h.os, h.tape, h.output, h.size, fun i hi hn => h.block i hi fun hf => hn (hG i hi hf)⟩
theorem Turn.of_below {w w' : World} (h : Below w.heap.size w w') (F : Nat → Prop) : Turn w w' F := ⟨h.os, h.tape, h.output, h.size, fun k hk _ => h.block k hk⟩
theorem Turn.of_grown {w w' : World} {row : Option Nat} (h : w.grownBy w' row) {F : Nat → Prop} (hF : ∀ k, row = some k → F k) : Turn w w' F := ⟨h.os, h.tape, h.output, h.size, fun k hk hn => h.block k hk fun e => hn (hF k e.symm)⟩
theorem Turn.of_only {w w' : World} {z : Nat} (h : Only w w' z) {F : Nat → Prop} (hF : F z) : Turn w w' F := Turn.of_grown h fun k hk => by injection hk with e; exact e ▸ hF
theorem Turn.set (w : World) {F : Nat → Prop} {b : Nat} (hb : F b) (o : Nat) (u : Value) : Turn w (w.setCell ⟨b, o, none⟩ u) F := Turn.of_grown (grownBy_set w _ _) fun k hk => by injection hk with e; exact e ▸ hb
theorem Turn.drewN {a w : World} {F : Nat → Prop} (h : Turn a w F) (n : Nat) : Turn a (w.drewN n) F := h.trans ⟨rfl, rfl, rfl, Nat.le_refl _, fun _ _ _ => rfl⟩
theorem Turn.below {w w' : World} {F : Nat → Prop} (h : Turn w w' F) {B : Nat} (hF : ∀ k, F k → B ≤ k) (hw : B ≤ w.heap.size) : Below B w w' := ⟨h.os, h.tape, h.output, h.size, fun k hk => h.block k (by omega) (fun hf => by have := hF k hf; omega)⟩
theorem Turn.cell {w w' : World} {F : Nat → Prop} (h : Turn w w' F) {b o : Nat} {v : Value} (hc : w.cell? ⟨b, o, none⟩ = some v) (hb : ¬ F b) : w'.cell? ⟨b, o, none⟩ = some v :=
  (World.cell?_of_block (a := ⟨b, o, none⟩) (h.block b (lt_of_cell hc) hb)).trans hc

theorem fresh_endD {P : Program} {f : Func} {post : Ending → World → Prop} {e : Exit} {a : Act} {W : World} (R : World → Prop) (hR : R W) (h : ∀ W2, R W2 → bodyPost P f post e a W2) : bodyPost P f post e a W := h W hR
/-- Two cells that hold a zone. -/
def Zn2 (W : World) (b : Nat) (s l : Int) : Prop := W.cell? ⟨b, 0, none⟩ = some (.int .i64 s) ∧ W.cell? ⟨b, 1, none⟩ = some (.int .i64 l)
theorem Zn2.set {W : World} {b : Nat} {u v : Value} (h0 : W.cell? ⟨b, 0, none⟩ = some u) (h1 : W.cell? ⟨b, 1, none⟩ = some v) (s l : Int) : Zn2 ((W.setCell ⟨b, 0, none⟩ (.int .i64 s)).setCell ⟨b, 1, none⟩ (.int .i64 l)) b s l := by
  have h1' : (W.setCell ⟨b, 0, none⟩ (.int .i64 s)).cell? ⟨b, 1, none⟩ = some v := (World.cell?_setCell_other _ _ _ _ (by intro e'; injection e' with _ e'; omega)).trans h1
  refine ⟨?_, World.cell?_setCell_same' _ _ _ (by rw [h1']; rfl)⟩
  exact (World.cell?_setCell_other _ _ _ _ (by intro e'; injection e' with _ e'; omega)).trans (World.cell?_setCell_same' _ _ _ (by rw [h0]; rfl))

/-- The cells of a text. -/
def u8s (l : List UInt8) : List Value := l.map fun b => Value.int .u8 b.toNat
theorem u8s_len (l : List UInt8) : (u8s l).length = l.length := List.length_map ..
theorem u8s_app (l r : List UInt8) : u8s (l ++ r) = u8s l ++ u8s r := List.map_append ..
theorem u8s_str (s : ByteArray) : Lib.strCells s = u8s s.data.toList := rfl

/-- Where a drive's parts lie. -/
structure Blk where
  g : Nat
  z : Nat
  c : Nat
  l : Nat
  vs : List Value
def Blk.v (B : Blk) (i : Nat) : Value := at_ B.vs i (.slice none 0 0)

/-- A drive lies in block d. -/
structure Lies (w : World) (d : Nat) (B : Blk) (D : Dr) : Prop where
  c0 : w.cell? ⟨d, 0, none⟩ = some (.pointer (some ⟨B.g, 0, none⟩))
  c1 : w.cell? ⟨d, 1, none⟩ = some (.slice (some ⟨B.c, 0, none⟩) D.cs.length D.cs.length)
  c2 : w.cell? ⟨d, 2, none⟩ = some (.slice (some ⟨B.l, 0, none⟩) D.ls.length D.ls.length)
  c3 : w.cell? ⟨d, 3, none⟩ = some (.bool D.dead)
  f3 : w.frozen? ⟨d, 3, none⟩ = false
  m : MAt w B.g B.z D.m
  vl : B.vs.length = D.cs.length
  row : ∀ i, i < D.cs.length → w.cell? ⟨B.c, i, none⟩ = some (B.v i) ∧ w.frozen? ⟨B.c, i, none⟩ = false
  own : ∀ i, i < D.cs.length → w.ownsRow 0 5 1 (B.v i) (D.c i).length (u8s (D.c i))
  lrow : ∀ i, i < D.ls.length → w.cell? ⟨B.l, i, none⟩ = some (.int .i64 (D.l i : Int)) ∧ w.frozen? ⟨B.l, i, none⟩ = false
  lc : B.c < w.heap.size
  ll : B.l < w.heap.size
  dg : d ≠ B.g
  dz : d ≠ B.z
  dc : d ≠ B.c
  dl : d ≠ B.l
  gc : B.g ≠ B.c
  gl : B.g ≠ B.l
  zc : B.z ≠ B.c
  zl : B.z ≠ B.l
  cl : B.c ≠ B.l
  od : ∀ i, i < D.cs.length → ∀ b, (B.v i).ownBlock = some b → b ≠ d ∧ b ≠ B.g ∧ b ≠ B.z ∧ b ≠ B.c ∧ b ≠ B.l
  oo : ∀ i j, i < D.cs.length → j < D.cs.length → i ≠ j → ∀ b, (B.v i).ownBlock = some b → (B.v j).ownBlock ≠ some b

theorem Lies.dlt {w : World} {d : Nat} {B : Blk} {D : Dr} (h : Lies w d B D) : d < w.heap.size := lt_of_cell h.c0
theorem Lies.olt {w : World} {d : Nat} {B : Blk} {D : Dr} (h : Lies w d B D) {i : Nat} (hi : i < D.cs.length) {b : Nat} (hb : (B.v i).ownBlock = some b) : b < w.heap.size := ((h.own i hi).lt b hb).2

/-- A drive's blocks. -/
structure Lies.In (F : Nat → Prop) (d : Nat) (B : Blk) (n : Nat) : Prop where
  d : F d
  g : F B.g
  z : F B.z
  c : F B.c
  l : F B.l
  o : ∀ i, i < n → ∀ b, (B.v i).ownBlock = some b → F b

theorem same_cell {w w' : World} {b o : Nat} (h : w'.heap[b]? = w.heap[b]?) : w'.cell? ⟨b, o, none⟩ = w.cell? ⟨b, o, none⟩ := World.cell?_of_block (a := ⟨b, o, none⟩) h
theorem same_frozen {w w' : World} {b o : Nat} (h : w'.heap[b]? = w.heap[b]?) : w'.frozen? ⟨b, o, none⟩ = w.frozen? ⟨b, o, none⟩ := World.frozen?_of_block (a := ⟨b, o, none⟩) h
theorem same_own {w w' : World} {e : TypeId} {v : Value} {n : Nat} {xs : List Value} (h : w.ownsRow 0 e 1 v n xs) (hb : ∀ b, v.ownBlock = some b → w'.heap[b]? = w.heap[b]?) : w'.ownsRow 0 e 1 v n xs := by
  refine ⟨h.1, ?_⟩
  rcases h.2 with hn | ⟨g, cap, cur, rfl, h0, hg, h1, h2, h3, h4⟩
  · exact .inl hn
  · exact .inr ⟨g, cap, cur, rfl, h0, (hb g rfl).trans hg, h1, h2, h3, h4⟩
theorem ZAt.same {w w' : World} {z : Nat} {zs : List Zn} (h : ZAt w z zs) (hb : w'.heap[z]? = w.heap[z]?) : ZAt w' z zs := fun i hi => by
  obtain ⟨h1, h2, h3, h4⟩ := h i hi
  exact ⟨(same_cell hb).trans h1, (same_cell hb).trans h2, (same_frozen hb).trans h3, (same_frozen hb).trans h4⟩
theorem MAt.same {w w' : World} {g z : Nat} {m : Mc} (h : MAt w g z m) (hs : w.heap.size ≤ w'.heap.size) (hg : w'.heap[g]? = w.heap[g]?) (hz : w'.heap[z]? = w.heap[z]?) : MAt w' g z m := by
  obtain ⟨⟨cap, c0⟩, c1, c2, c3, ne, zl, za⟩ := h
  exact ⟨⟨cap, (same_cell hg).trans c0⟩, (same_cell hg).trans c1, (same_cell hg).trans c2, (same_cell hg).trans c3, ne, Nat.lt_of_lt_of_le zl hs, za.same hz⟩

/-- A drive stays where its blocks do. -/
theorem Lies.same {w w' : World} {d : Nat} {B : Blk} {D : Dr} (h : Lies w d B D) (hs : w.heap.size ≤ w'.heap.size) {F : Nat → Prop} (hF : Lies.In F d B D.cs.length) (hk : ∀ b, b < w.heap.size → F b → w'.heap[b]? = w.heap[b]?) : Lies w' d B D where
  c0 := (same_cell (hk d h.dlt hF.d)).trans h.c0
  c1 := (same_cell (hk d h.dlt hF.d)).trans h.c1
  c2 := (same_cell (hk d h.dlt hF.d)).trans h.c2
  c3 := (same_cell (hk d h.dlt hF.d)).trans h.c3
  f3 := (same_frozen (hk d h.dlt hF.d)).trans h.f3
  m := h.m.same hs (hk _ h.m.gl hF.g) (hk _ h.m.zl hF.z)
  vl := h.vl
  row := fun i hi => ⟨(same_cell (hk _ h.lc hF.c)).trans (h.row i hi).1, (same_frozen (hk _ h.lc hF.c)).trans (h.row i hi).2⟩
  own := fun i hi => same_own (h.own i hi) fun b hb => hk b (h.olt hi hb) (hF.o i hi b hb)
  lrow := fun i hi => ⟨(same_cell (hk _ h.ll hF.l)).trans (h.lrow i hi).1, (same_frozen (hk _ h.ll hF.l)).trans (h.lrow i hi).2⟩
  lc := Nat.lt_of_lt_of_le h.lc hs
  ll := Nat.lt_of_lt_of_le h.ll hs
  dg := h.dg
  dz := h.dz
  dc := h.dc
  dl := h.dl
  gc := h.gc
  gl := h.gl
  zc := h.zc
  zl := h.zl
  cl := h.cl
  od := h.od
  oo := h.oo

theorem Lies.below {w w' : World} {d : Nat} {B : Blk} {D : Dr} (h : Lies w d B D) (hb : Below w.heap.size w w') : Lies w' d B D :=
  h.same hb.size (F := fun _ => True) ⟨trivial, trivial, trivial, trivial, trivial, fun _ _ _ _ => trivial⟩ fun b hl _ => hb.block b hl

/-- The machine's zones have turned. -/
theorem Lies.machine {w w' : World} {d : Nat} {B : Blk} {D : Dr} (h : Lies w d B D) (ho : Only w w' B.z) {m : Mc} (hm : MAt w' B.g B.z m) : Lies w' d B { D with m := m } where
  c0 := ho.cell h.c0 h.dz
  c1 := ho.cell h.c1 h.dz
  c2 := ho.cell h.c2 h.dz
  c3 := ho.cell h.c3 h.dz
  f3 := (ho.frozen h.dlt h.dz).trans h.f3
  m := hm
  vl := h.vl
  row := fun i hi => ⟨ho.cell (h.row i hi).1 h.zc.symm, (ho.frozen h.lc h.zc.symm).trans (h.row i hi).2⟩
  own := fun i hi => (h.own i hi).kept ho (by
    cases e : (B.v i).ownBlock with
    | none => exact .inl rfl
    | some b => exact .inr (by simpa using (h.od i hi b e).2.2.1))
  lrow := fun i hi => ⟨ho.cell (h.lrow i hi).1 h.zl.symm, (ho.frozen h.ll h.zl.symm).trans (h.lrow i hi).2⟩
  lc := Nat.lt_of_lt_of_le h.lc ho.size
  ll := Nat.lt_of_lt_of_le h.ll ho.size
  dg := h.dg
  dz := h.dz
  dc := h.dc
  dl := h.dl
  gc := h.gc
  gl := h.gl
  zc := h.zc
  zl := h.zl
  cl := h.cl
  od := h.od
  oo := h.oo

theorem set_block (w : World) (a : Addr) (u : Value) {b : Nat} (h : b ≠ a.block) (hb : b < w.heap.size) : (w.setCell a u).heap[b]? = w.heap[b]? := (grownBy_set w a u).block b hb (by simpa using h)
theorem heap_set (w : World) (a : Addr) (u : Value) : w.heap.size ≤ (w.setCell a u).heap.size := by simp [World.setCell]

/-- How many blocks of a zone last, stored. -/
theorem Lies.put_l {w : World} {d : Nat} {B : Blk} {D : Dr} (h : Lies w d B D) {i : Nat} (hi : i < D.ls.length) (x : Nat) : Lies (w.setCell ⟨B.l, i, none⟩ (.int .i64 (x : Int))) d B { D with ls := D.ls.set i x } where
  c0 := (same_cell (set_block w _ _ h.dl h.dlt)).trans h.c0
  c1 := (same_cell (set_block w _ _ h.dl h.dlt)).trans h.c1
  c2 := by
    show _ = some (Value.slice _ (D.ls.set i x).length (D.ls.set i x).length)
    rw [List.length_set]
    exact (same_cell (set_block w _ _ h.dl h.dlt)).trans h.c2
  c3 := (same_cell (set_block w _ _ h.dl h.dlt)).trans h.c3
  f3 := (same_frozen (set_block w _ _ h.dl h.dlt)).trans h.f3
  m := h.m.same (heap_set _ _ _) (set_block w _ _ h.gl h.m.gl) (set_block w _ _ h.zl h.m.zl)
  vl := h.vl
  row := fun j hj => ⟨(same_cell (set_block w _ _ h.cl h.lc)).trans (h.row j hj).1, (same_frozen (set_block w _ _ h.cl h.lc)).trans (h.row j hj).2⟩
  own := fun j hj => same_own (h.own j hj) fun b hb => set_block w _ _ (h.od j hj b hb).2.2.2.2 (h.olt hj hb)
  lrow := fun j hj => by
    have hj' : j < D.ls.length := by simpa using hj
    rw [World.frozen?_setCell]
    refine ⟨?_, (h.lrow j hj').2⟩
    show _ = some (Value.int .i64 ((at_ (D.ls.set i x) j 0 : Nat) : Int))
    by_cases e : i = j
    · subst e
      rw [World.cell?_setCell_same' _ _ _ (by rw [(h.lrow i hi).1]; rfl), at_set hi]
    · rw [World.cell?_setCell_other _ _ _ _ (by intro e'; injection e' with _ e'; omega), at_set_ne e]
      exact (h.lrow j hj').1
  lc := Nat.lt_of_lt_of_le h.lc (heap_set _ _ _)
  ll := Nat.lt_of_lt_of_le h.ll (heap_set _ _ _)
  dg := h.dg
  dz := h.dz
  dc := h.dc
  dl := h.dl
  gc := h.gc
  gl := h.gl
  zc := h.zc
  zl := h.zl
  cl := h.cl
  od := h.od
  oo := h.oo

def Blk.put (B : Blk) (i : Nat) (v : Value) : Blk := { B with vs := B.vs.set i v }
theorem Blk.put_v (B : Blk) {i : Nat} (hi : i < B.vs.length) (v : Value) (j : Nat) : (B.put i v).v j = if i = j then v else B.v j := by
  unfold Blk.put Blk.v
  by_cases e : i = j
  · subst e; rw [if_pos rfl, at_set hi]
  · rw [if_neg e, at_set_ne e]

/-- A zone's text, stored: from the world in which the drive lay, by way of one that differs in that text's own block alone. -/
theorem Lies.put_c {w w1 : World} {d : Nat} {B : Blk} {D : Dr} (h : Lies w d B D) {i : Nat} (hi : i < D.cs.length) {v : Value} {x : List UInt8} (hg : w.grownBy w1 (B.v i).ownBlock) (hown : w1.ownsRow 0 5 1 v x.length (u8s x))
    (hat : v.ownBlock = none ∨ v.ownBlock = (B.v i).ownBlock ∨ ∃ b, v.ownBlock = some b ∧ w.heap.size ≤ b) :
    Lies (w1.setCell ⟨B.c, i, none⟩ v) d (B.put i v) { D with cs := D.cs.set i x } := by
  have hiv : i < B.vs.length := by rw [h.vl]; exact hi
  have hv : ∀ b, v.ownBlock = some b → (∃ b', (B.v i).ownBlock = some b' ∧ b = b') ∨ w.heap.size ≤ b := fun b hb => by
    rcases hat with h' | h' | ⟨b', h', hl⟩
    · rw [h'] at hb; cases hb
    · exact .inl ⟨b, h' ▸ hb, rfl⟩
    · rw [hb] at h'; injection h' with e; exact .inr (e ▸ hl)
  have hblk : ∀ b, b < w.heap.size → (∀ b', (B.v i).ownBlock = some b' → b ≠ b') → b ≠ B.c → (w1.setCell ⟨B.c, i, none⟩ v).heap[b]? = w.heap[b]? := fun b hb hn hc =>
    (set_block w1 _ _ hc (Nat.lt_of_lt_of_le hb hg.size)).trans (hg.block b hb (fun e => hn b e.symm rfl))
  have hod := fun b' e => h.od i hi b' e
  have kd := hblk d h.dlt (fun b' e => (hod b' e).1.symm) h.dc
  have kg := hblk B.g h.m.gl (fun b' e => (hod b' e).2.1.symm) h.gc
  have kz := hblk B.z h.m.zl (fun b' e => (hod b' e).2.2.1.symm) h.zc
  have kl := hblk B.l h.ll (fun b' e => (hod b' e).2.2.2.2.symm) h.cl.symm
  have kc : w1.heap[B.c]? = w.heap[B.c]? := hg.block B.c h.lc (fun e => (hod B.c e.symm).2.2.2.1 rfl)
  have hsz : w.heap.size ≤ (w1.setCell ⟨B.c, i, none⟩ v).heap.size := Nat.le_trans hg.size (heap_set _ _ _)
  have hcell : ∀ j, j < D.cs.length → w1.cell? ⟨B.c, j, none⟩ = some (B.v j) := fun j hj => (same_cell kc).trans (h.row j hj).1
  refine ⟨(same_cell kd).trans h.c0, ?_, (same_cell kd).trans h.c2, (same_cell kd).trans h.c3, (same_frozen kd).trans h.f3, h.m.same hsz kg kz, ?_, ?_, ?_, fun j hj => ⟨(same_cell kl).trans (h.lrow j hj).1, (same_frozen kl).trans (h.lrow j hj).2⟩, Nat.lt_of_lt_of_le h.lc hsz, Nat.lt_of_lt_of_le h.ll hsz,
    h.dg, h.dz, h.dc, h.dl, h.gc, h.gl, h.zc, h.zl, h.cl, ?_, ?_⟩
  · show _ = some (Value.slice _ (D.cs.set i x).length (D.cs.set i x).length)
    rw [List.length_set]
    exact (same_cell kd).trans h.c1
  · show (B.vs.set i v).length = (D.cs.set i x).length
    rw [List.length_set, List.length_set, h.vl]
  · intro j hj
    have hj' : j < D.cs.length := by simpa using hj
    rw [B.put_v hiv, World.frozen?_setCell]
    refine ⟨?_, (same_frozen kc).trans (h.row j hj').2⟩
    by_cases e : i = j
    · subst e
      rw [if_pos rfl]
      exact World.cell?_setCell_same' _ _ _ (by rw [hcell i hi]; rfl)
    · rw [if_neg e]
      exact (World.cell?_setCell_other _ _ _ _ (by intro e'; injection e' with _ e'; omega)).trans (hcell j hj')
  · intro j hj
    have hj' : j < D.cs.length := by simpa using hj
    rw [B.put_v hiv]
    show World.ownsRow _ 0 _ 1 _ (at_ (D.cs.set i x) j []).length (u8s (at_ (D.cs.set i x) j []))
    by_cases e : i = j
    · subst e
      rw [if_pos rfl, at_set hi]
      refine same_own hown fun b hb => set_block w1 _ _ ?_ (hown.lt b hb).2
      rcases hv b hb with ⟨b', e', rfl⟩ | hl
      · exact (hod b e').2.2.2.1
      · have := h.lc
        show b ≠ B.c
        omega
    · rw [if_neg e, at_set_ne e]
      refine same_own (h.own j hj') fun b hb => hblk b (h.olt hj' hb) (fun b' e' => ?_) (h.od j hj' b hb).2.2.2.1
      intro eq
      subst eq
      exact h.oo i j hi hj' e b e' hb
  · intro j hj b hb
    have hj' : j < D.cs.length := by simpa using hj
    rw [B.put_v hiv] at hb
    by_cases e : i = j
    · subst e
      rw [if_pos rfl] at hb
      rcases hv b hb with ⟨b', e', rfl⟩ | hl
      · exact hod b e'
      · have h1 := h.dlt
        have h2 := h.m.gl
        have h3 := h.m.zl
        have h4 := h.lc
        have h5 := h.ll
        show b ≠ d ∧ b ≠ B.g ∧ b ≠ B.z ∧ b ≠ B.c ∧ b ≠ B.l
        omega
    · rw [if_neg e] at hb
      exact h.od j hj' b hb
  · intro j k hj hk hjk b hb hb2
    have hj' : j < D.cs.length := by simpa using hj
    have hk' : k < D.cs.length := by simpa using hk
    rw [B.put_v hiv] at hb hb2
    by_cases e : i = j
    · subst e
      rw [if_pos rfl] at hb
      rw [if_neg hjk] at hb2
      rcases hv b hb with ⟨b', e', rfl⟩ | hl
      · exact h.oo i k hi hk' hjk b e' hb2
      · have := h.olt hk' hb2
        omega
    · rw [if_neg e] at hb
      by_cases e2 : i = k
      · subst e2
        rw [if_pos rfl] at hb2
        rcases hv b hb2 with ⟨b', e', rfl⟩ | hl
        · exact h.oo i j hi hj' e b e' hb
        · have := h.olt hj' hb
          omega
      · rw [if_neg e2] at hb2
        exact h.oo j k hj' hk' hjk b hb hb2

/-- It dies. -/
theorem Lies.die {w : World} {d : Nat} {B : Blk} {D : Dr} (h : Lies w d B D) : Lies (w.setCell ⟨d, 3, none⟩ (.bool true)) d B { D with dead := true } where
  c0 := (World.cell?_setCell_other _ _ _ _ (by intro e'; injection e' with _ e'; omega)).trans h.c0
  c1 := (World.cell?_setCell_other _ _ _ _ (by intro e'; injection e' with _ e'; omega)).trans h.c1
  c2 := (World.cell?_setCell_other _ _ _ _ (by intro e'; injection e' with _ e'; omega)).trans h.c2
  c3 := World.cell?_setCell_same' _ _ _ (by rw [h.c3]; rfl)
  f3 := by rw [World.frozen?_setCell]; exact h.f3
  m := h.m.same (heap_set _ _ _) (set_block w _ _ h.dg.symm h.m.gl) (set_block w _ _ h.dz.symm h.m.zl)
  vl := h.vl
  row := fun j hj => ⟨(same_cell (set_block w _ _ h.dc.symm h.lc)).trans (h.row j hj).1, (same_frozen (set_block w _ _ h.dc.symm h.lc)).trans (h.row j hj).2⟩
  own := fun j hj => same_own (h.own j hj) fun b hb => set_block w _ _ (h.od j hj b hb).1 (h.olt hj hb)
  lrow := fun j hj => ⟨(same_cell (set_block w _ _ h.dl.symm h.ll)).trans (h.lrow j hj).1, (same_frozen (set_block w _ _ h.dl.symm h.ll)).trans (h.lrow j hj).2⟩
  lc := Nat.lt_of_lt_of_le h.lc (heap_set _ _ _)
  ll := Nat.lt_of_lt_of_le h.ll (heap_set _ _ _)
  dg := h.dg
  dz := h.dz
  dc := h.dc
  dl := h.dl
  gc := h.gc
  gl := h.gl
  zc := h.zc
  zl := h.zl
  cl := h.cl
  od := h.od
  oo := h.oo

/-- A drive in block d, of whose blocks F speaks. -/
def DAt (w : World) (F : Nat → Prop) (d : Nat) (D : Dr) : Prop := ∃ B, Lies w d B D ∧ Lies.In F d B D.cs.length
theorem DAt.lt {w : World} {F : Nat → Prop} {d : Nat} {D : Dr} (h : DAt w F d D) : d < w.heap.size := by
  obtain ⟨B, h, _⟩ := h
  exact h.dlt
theorem DAt.in_ {w : World} {F : Nat → Prop} {d : Nat} {D : Dr} (h : DAt w F d D) : F d := by
  obtain ⟨B, _, h⟩ := h
  exact h.d
theorem DAt.below {w w' : World} {F : Nat → Prop} {d : Nat} {D : Dr} (h : DAt w F d D) (hb : Below w.heap.size w w') : DAt w' F d D := by
  obtain ⟨B, h, hF⟩ := h
  exact ⟨B, h.below hb, hF⟩
/-- Another's turn. -/
theorem DAt.turn {w w' : World} {F G : Nat → Prop} {d : Nat} {D : Dr} (h : DAt w F d D) (ht : Turn w w' G) (hd : ∀ b, F b → ¬ G b) : DAt w' F d D := by
  obtain ⟨B, h, hF⟩ := h
  exact ⟨B, h.same ht.size hF fun b hb hf => ht.block b hb (hd b hf), hF⟩
/-- Two footprints apart stay so: what one has more is new. -/
theorem Lies.In.mono {F G : Nat → Prop} {d : Nat} {B : Blk} {n : Nat} (h : Lies.In F d B n) (hG : ∀ b, F b → G b) : Lies.In G d B n := ⟨hG _ h.d, hG _ h.g, hG _ h.z, hG _ h.c, hG _ h.l, fun i hi b hb => hG _ (h.o i hi b hb)⟩
end Go.Proofs.Ytncbkegflkjlfaa
