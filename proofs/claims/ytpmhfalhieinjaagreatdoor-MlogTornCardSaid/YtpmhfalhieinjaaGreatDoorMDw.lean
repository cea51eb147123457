/- Drives in memory; what the small functions of drive do. -/
import Derived.Test.YtpmhfalhieinjaaGreatDoorMZw
import Derived.Test.YtpmhfalhieinjaaGreatDoorMDm
import Derived.Lib.AppendStr
import Derived.Laws.OwnMore
import Derived.OwnWalk
import Derived.Test.YtpmhfalhieinjaaGreatDoorMBase
namespace Go.Proofs.YtpmhfalhieinjaaGreatDoor
open Go.RowKit Zon Drv
/-- A call may turn the blocks F, and make new ones. -/
structure Turn (w w' : World) (F : Nat → Prop) : Prop where
  os : w'.os = w.os
  tape : w'.tape = w.tape
  output : w'.output = w.output
  size : w.heap.size ≤ w'.heap.size
  block : ∀ k, k < w.heap.size → ¬ F k → w'.heap[k]? = w.heap[k]?
theorem Turn.refl (w : World) (F : Nat → Prop) : Turn w w F := ⟨rfl, rfl, rfl, Nat.le_refl _, fun _ _ _ => rfl⟩
theorem Turn.trans {a b c : World} {F : Nat → Prop} (h : Turn a b F) (k : Turn b c F) : Turn a c F :=
  ⟨k.os.trans h.os, k.tape.trans h.tape, k.output.trans h.output, Nat.le_trans h.size k.size, fun i hi hn => (k.block i (Nat.lt_of_lt_of_le hi h.size) hn).trans (h.block i hi hn)⟩
/-- The second may turn what the first made. -/
theorem Turn.trans' {a b c : World} {F G : Nat → Prop} (h : Turn a b F) (k : Turn b c G) (hG : ∀ i, G i → F i ∨ a.heap.size ≤ i) : Turn a c F :=
  ⟨k.os.trans h.os, k.tape.trans h.tape, k.output.trans h.output, Nat.le_trans h.size k.size, fun i hi hn =>
    (k.block i (Nat.lt_of_lt_of_le hi h.size) (fun hg => (hG i hg).elim hn (fun h' => by omega))).trans (h.block i hi hn)⟩
theorem Turn.mono {a b : World} {F G : Nat → Prop} (h : Turn a b F) (hG : ∀ i, i < a.heap.size → F i → G i) : Turn a b G := ⟨h.os, h.tape, h.output, h.size, fun i hi hn => h.block i hi fun hf => hn (hG i hi hf)⟩
theorem Turn.of_below {w w' : World} (h : Below w.heap.size w w') (F : Nat → Prop) : Turn w w' F := ⟨h.os, h.tape, h.output, h.size, fun k hk _ => h.block k hk⟩
theorem Turn.of_grown {w w' : World} {row : Option Nat} (h : w.grownBy w' row) {F : Nat → Prop} (hF : ∀ k, row = some k → F k) : Turn w w' F := ⟨h.os, h.tape, h.output, h.size, fun k hk hn => h.block k hk fun e => hn (hF k e.symm)⟩
theorem Turn.of_only {w w' : World} {z : Nat} (h : Only w w' z) {F : Nat → Prop} (hF : F z) : Turn w w' F := Turn.of_grown h fun k hk => by injection hk with e; exact e ▸ hF
theorem Turn.set (w : World) {F : Nat → Prop} {b : Nat} (hb : F b) (o : Nat) (u : Value) : Turn w (w.setCell ⟨b, o, none⟩ u) F := Turn.of_grown (grownBy_set w _ _) fun k hk => by injection hk with e; exact e ▸ hb
theorem Turn.drewN {a w : World} {F : Nat → Prop} (h : Turn a w F) (n : Nat) : Turn a (w.drewN n) F := h.trans ⟨rfl, rfl, rfl, Nat.le_refl _, fun _ _ _ => rfl⟩
theorem Turn.below {w w' : World} {F : Nat → Prop} (h : Turn w w' F) {B : Nat} (hF : ∀ k, F k → B ≤ k) (hw : B ≤ w.heap.size) : Below B w w' := ⟨h.os, h.tape, h.output, h.size, fun k hk => h.block k (by omega) (fun hf => by have := hF k hf; omega)⟩
theorem Turn.cell {w w' : World} {F : Nat → Prop} (h : Turn w w' F) {b o : Nat} {v : Value} (hc : w.cell? ⟨b, o, none⟩ = some v) (hb : ¬ F b) : w'.cell? ⟨b, o, none⟩ = some v :=
  (World.cell?_of_block (a := ⟨b, o, none⟩) (h.block b (lt_of_cell hc) hb)).trans hc
theorem fresh_endD {P : Program} {f : Func} {post : Ending → World → Prop} {e : Exit} {a : Act} {W : World} (R : World → Prop) (hR : R W) (h : ∀ W2, R W2 → bodyPost P f post e a W2) : bodyPost P f post e a W := h W hR
/-- Two cells that hold a zone. -/
def Zn2 (W : World) (b : Nat) (s l : Int) : Prop := W.cell? ⟨b, 0, none⟩ = some (.int .i64 s) ∧ W.cell? ⟨b, 1, none⟩ = some (.int .i64 l)
theorem Zn2.set {W : World} {b : Nat} {u v : Value} (h0 : W.cell? ⟨b, 0, none⟩ = some u) (h1 : W.cell? ⟨b, 1, none⟩ = some v) (s l : Int) : Zn2 ((W.setCell ⟨b, 0, none⟩ (.int .i64 s)).setCell ⟨b, 1, none⟩ (.int .i64 l)) b s l := by
  have h1' : (W.setCell ⟨b, 0, none⟩ (.int .i64 s)).cell? ⟨b, 1, none⟩ = some v := (World.cell?_setCell_other _ _ _ _ (by intro e'; injection e' with _ e'; omega)).trans h1
  refine ⟨?_, World.cell?_setCell_same' _ _ _ (by rw [h1']; rfl)⟩
  exact (World.cell?_setCell_other _ _ _ _ (by intro e'; injection e' with _ e'; omega)).trans (World.cell?_setCell_same' _ _ _ (by rw [h0]; rfl))
/-- The cells of a text. -/
def u8s (l : List UInt8) : List Value := l.map fun b => Value.int .u8 b.toNat
theorem u8s_len (l : List UInt8) : (u8s l).length = l.length := List.length_map ..
theorem u8s_app (l r : List UInt8) : u8s (l ++ r) = u8s l ++ u8s r := List.map_append ..
theorem u8s_str (s : ByteArray) : Lib.strCells s = u8s s.data.toList := rfl
/-- Where a drive's parts lie. -/
structure Blk where
  g : Nat
  z : Nat
  c : Nat
  l : Nat
  vs : List Value
def Blk.v (B : Blk) (i : Nat) : Value := at_ B.vs i (.slice none 0 0)
/-- A drive lies in block d. -/
structure Lies (w : World) (d : Nat) (B : Blk) (D : Dr) : Prop where
  c0 : w.cell? ⟨d, 0, none⟩ = some (.pointer (some ⟨B.g, 0, none⟩))
  c1 : w.cell? ⟨d, 1, none⟩ = some (.slice (some ⟨B.c, 0, none⟩) D.cs.length D.cs.length)
  c2 : w.cell? ⟨d, 2, none⟩ = some (.slice (some ⟨B.l, 0, none⟩) D.ls.length D.ls.length)
  c3 : w.cell? ⟨d, 3, none⟩ = some (.bool D.dead)
  f3 : w.frozen? ⟨d, 3, none⟩ = false
  m : MAt w B.g B.z D.m
  vl : B.vs.length = D.cs.length
  row : ∀ i, i < D.cs.length → w.cell? ⟨B.c, i, none⟩ = some (B.v i) ∧ w.frozen? ⟨B.c, i, none⟩ = false
  own : ∀ i, i < D.cs.length → w.ownsRow 0 5 1 (B.v i) (D.c i).length (u8s (D.c i))
  lrow : ∀ i, i < D.ls.length → w.cell? ⟨B.l, i, none⟩ = some (.int .i64 (D.l i : Int)) ∧ w.frozen? ⟨B.l, i, none⟩ = false
  lc : B.c < w.heap.size
  ll : B.l < w.heap.size
  dg : d ≠ B.g
  dz : d ≠ B.z
  dc : d ≠ B.c
  dl : d ≠ B.l
  gc : B.g ≠ B.c
  gl : B.g ≠ B.l
  zc : B.z ≠ B.c
  zl : B.z ≠ B.l
  cl : B.c ≠ B.l
  od : ∀ i, i < D.cs.length → ∀ b, (B.v i).ownBlock = some b → b ≠ d ∧ b ≠ B.g ∧ b ≠ B.z ∧ b ≠ B.c ∧ b ≠ B.l
  oo : ∀ i j, i < D.cs.length → j < D.cs.length → i ≠ j → ∀ b, (B.v i).ownBlock = some b → (B.v j).ownBlock ≠ some b
theorem Lies.dlt {w : World} {d : Nat} {B : Blk} {D : Dr} (h : Lies w d B D) : d < w.heap.size := lt_of_cell h.c0
theorem Lies.olt {w : World} {d : Nat} {B : Blk} {D : Dr} (h : Lies w d B D) {i : Nat} (hi : i < D.cs.length) {b : Nat} (hb : (B.v i).ownBlock = some b) : b < w.heap.size := ((h.own i hi).lt b hb).2
/-- A drive's blocks. -/
structure Lies.In (F : Nat → Prop) (d : Nat) (B : Blk) (n : Nat) : Prop where
  d : F d
  g : F B.g
  z : F B.z
  c : F B.c
  l : F B.l
  o : ∀ i, i < n → ∀ b, (B.v i).ownBlock = some b → F b
theorem same_cell {w w' : World} {b o : Nat} (h : w'.heap[b]? = w.heap[b]?) : w'.cell? ⟨b, o, none⟩ = w.cell? ⟨b, o, none⟩ := World.cell?_of_block (a := ⟨b, o, none⟩) h
theorem same_frozen {w w' : World} {b o : Nat} (h : w'.heap[b]? = w.heap[b]?) : w'.frozen? ⟨b, o, none⟩ = w.frozen? ⟨b, o, none⟩ := World.frozen?_of_block (a := ⟨b, o, none⟩) h
theorem same_own {w w' : World} {e : TypeId} {v : Value} {n : Nat} {xs : List Value} (h : w.ownsRow 0 e 1 v n xs) (hb : ∀ b, v.ownBlock = some b → w'.heap[b]? = w.heap[b]?) : w'.ownsRow 0 e 1 v n xs := by
  refine ⟨h.1, ?_⟩
  rcases h.2 with hn | ⟨g, cap, cur, rfl, h0, hg, h1, h2, h3, h4⟩
  · exact .inl hn
  · exact .inr ⟨g, cap, cur, rfl, h0, (hb g rfl).trans hg, h1, h2, h3, h4⟩
theorem ZAt.same {w w' : World} {z : Nat} {zs : List Zn} (h : ZAt w z zs) (hb : w'.heap[z]? = w.heap[z]?) : ZAt w' z zs := fun i hi => by
  obtain ⟨h1, h2, h3, h4⟩ := h i hi
  exact ⟨(same_cell hb).trans h1, (same_cell hb).trans h2, (same_frozen hb).trans h3, (same_frozen hb).trans h4⟩
theorem MAt.same {w w' : World} {g z : Nat} {m : Mc} (h : MAt w g z m) (hs : w.heap.size ≤ w'.heap.size) (hg : w'.heap[g]? = w.heap[g]?) (hz : w'.heap[z]? = w.heap[z]?) : MAt w' g z m := by
  obtain ⟨⟨cap, c0⟩, c1, c2, c3, ne, zl, za⟩ := h
  exact ⟨⟨cap, (same_cell hg).trans c0⟩, (same_cell hg).trans c1, (same_cell hg).trans c2, (same_cell hg).trans c3, ne, Nat.lt_of_lt_of_le zl hs, za.same hz⟩
/-- A drive stays where its blocks do. -/
theorem Lies.same {w w' : World} {d : Nat} {B : Blk} {D : Dr} (h : Lies w d B D) (hs : w.heap.size ≤ w'.heap.size) {F : Nat → Prop} (hF : Lies.In F d B D.cs.length) (hk : ∀ b, b < w.heap.size → F b → w'.heap[b]? = w.heap[b]?) : Lies w' d B D where
  c0 := (same_cell (hk d h.dlt hF.d)).trans h.c0
  c1 := (same_cell (hk d h.dlt hF.d)).trans h.c1
  c2 := (same_cell (hk d h.dlt hF.d)).trans h.c2
  c3 := (same_cell (hk d h.dlt hF.d)).trans h.c3
  f3 := (same_frozen (hk d h.dlt hF.d)).trans h.f3
  m := h.m.same hs (hk _ h.m.gl hF.g) (hk _ h.m.zl hF.z)
  vl := h.vl
  row := fun i hi => ⟨(same_cell (hk _ h.lc hF.c)).trans (h.row i hi).1, (same_frozen (hk _ h.lc hF.c)).trans (h.row i hi).2⟩
  own := fun i hi => same_own (h.own i hi) fun b hb => hk b (h.olt hi hb) (hF.o i hi b hb)
  lrow := fun i hi => ⟨(same_cell (hk _ h.ll hF.l)).trans (h.lrow i hi).1, (same_frozen (hk _ h.ll hF.l)).trans (h.lrow i hi).2⟩
  lc := Nat.lt_of_lt_of_le h.lc hs
  ll := Nat.lt_of_lt_of_le h.ll hs
  dg := h.dg
  dz := h.dz
  dc := h.dc
  dl := h.dl
  gc := h.gc
  gl := h.gl
  zc := h.zc
  zl := h.zl
  cl := h.cl
  od := h.od
  oo := h.oo
theorem Lies.below {w w' : World} {d : Nat} {B : Blk} {D : Dr} (h : Lies w d B D) (hb : Below w.heap.size w w') : Lies w' d B D :=
  h.same hb.size (F := fun _ => True) ⟨trivial, trivial, trivial, trivial, trivial, fun _ _ _ _ => trivial⟩ fun b hl _ => hb.block b hl
/-- The machine's zones have turned. -/
theorem Lies.machine {w w' : World} {d : Nat} {B : Blk} {D : Dr} (h : Lies w d B D) (ho : Only w w' B.z) {m : Mc} (hm : MAt w' B.g B.z m) : Lies w' d B { D with m := m } where
  c0 := ho.cell h.c0 h.dz
  c1 := ho.cell h.c1 h.dz
  c2 := ho.cell h.c2 h.dz
  c3 := ho.cell h.c3 h.dz
  f3 := (ho.frozen h.dlt h.dz).trans h.f3
  m := hm
  vl := h.vl
  row := fun i hi => ⟨ho.cell (h.row i hi).1 h.zc.symm, (ho.frozen h.lc h.zc.symm).trans (h.row i hi).2⟩
  own := fun i hi => (h.own i hi).kept ho (by
    cases e : (B.v i).ownBlock with
    | none => exact .inl rfl
    | some b => exact .inr (by simpa using (h.od i hi b e).2.2.1))
  lrow := fun i hi => ⟨ho.cell (h.lrow i hi).1 h.zl.symm, (ho.frozen h.ll h.zl.symm).trans (h.lrow i hi).2⟩
  lc := Nat.lt_of_lt_of_le h.lc ho.size
  ll := Nat.lt_of_lt_of_le h.ll ho.size
  dg := h.dg
  dz := h.dz
  dc := h.dc
  dl := h.dl
  gc := h.gc
  gl := h.gl
  zc := h.zc
  zl := h.zl
  cl := h.cl
  od := h.od
  oo := h.oo
theorem set_block (w : World) (a : Addr) (u : Value) {b : Nat} (h : b ≠ a.block) (hb : b < w.heap.size) : (w.setCell a u).heap[b]? = w.heap[b]? := (grownBy_set w a u).block b hb (by simpa using h)
theorem heap_set (w : World) (a : Addr) (u : Value) : w.heap.size ≤ (w.setCell a u).heap.size := by simp [World.setCell]
/-- How many blocks of a zone last, stored. -/
theorem Lies.put_l {w : World} {d : Nat} {B : Blk} {D : Dr} (h : Lies w d B D) {i : Nat} (hi : i < D.ls.length) (x : Nat) : Lies (w.setCell ⟨B.l, i, none⟩ (.int .i64 (x : Int))) d B { D with ls := D.ls.set i x } where
  c0 := (same_cell (set_block w _ _ h.dl h.dlt)).trans h.c0
  c1 := (same_cell (set_block w _ _ h.dl h.dlt)).trans h.c1
  c2 := by
    show _ = some (Value.slice _ (D.ls.set i x).length (D.ls.set i x).length)
    rw [List.length_set]
    exact (same_cell (set_block w _ _ h.dl h.dlt)).trans h.c2
  c3 := (same_cell (set_block w _ _ h.dl h.dlt)).trans h.c3
  f3 := (same_frozen (set_block w _ _ h.dl h.dlt)).trans h.f3
  m := h.m.same (heap_set _ _ _) (set_block w _ _ h.gl h.m.gl) (set_block w _ _ h.zl h.m.zl)
  vl := h.vl
  row := fun j hj => ⟨(same_cell (set_block w _ _ h.cl h.lc)).trans (h.row j hj).1, (same_frozen (set_block w _ _ h.cl h.lc)).trans (h.row j hj).2⟩
  own := fun j hj => same_own (h.own j hj) fun b hb => set_block w _ _ (h.od j hj b hb).2.2.2.2 (h.olt hj hb)
  lrow := fun j hj => by
    have hj' : j < D.ls.length := by simpa using hj
    rw [World.frozen?_setCell]
    refine ⟨?_, (h.lrow j hj').2⟩
    show _ = some (Value.int .i64 ((at_ (D.ls.set i x) j 0 : Nat) : Int))
    by_cases e : i = j
    · subst e
      rw [World.cell?_setCell_same' _ _ _ (by rw [(h.lrow i hi).1]; rfl), at_set hi]
    · rw [World.cell?_setCell_other _ _ _ _ (by intro e'; injection e' with _ e'; omega), at_set_ne e]
      exact (h.lrow j hj').1
  lc := Nat.lt_of_lt_of_le h.lc (heap_set _ _ _)
  ll := Nat.lt_of_lt_of_le h.ll (heap_set _ _ _)
  dg := h.dg
  dz := h.dz
  dc := h.dc
  dl := h.dl
  gc := h.gc
  gl := h.gl
  zc := h.zc
  zl := h.zl
  cl := h.cl
  od := h.od
  oo := h.oo
def Blk.put (B : Blk) (i : Nat) (v : Value) : Blk := { B with vs := B.vs.set i v }
theorem Blk.put_v (B : Blk) {i : Nat} (hi : i < B.vs.length) (v : Value) (j : Nat) : (B.put i v).v j = if i = j then v else B.v j := by
  unfold Blk.put Blk.v
  by_cases e : i = j
  · subst e; rw [if_pos rfl, at_set hi]
  · rw [if_neg e, at_set_ne e]
/-- A zone's text, stored: from the world in which the drive lay, by way of one that differs in that text's own block alone. -/
theorem Lies.put_c {w w1 : World} {d : Nat} {B : Blk} {D : Dr} (h : Lies w d B D) {i : Nat} (hi : i < D.cs.length) {v : Value} {x : List UInt8} (hg : w.grownBy w1 (B.v i).ownBlock) (hown : w1.ownsRow 0 5 1 v x.length (u8s x))
    (hat : v.ownBlock = none ∨ v.ownBlock = (B.v i).ownBlock ∨ ∃ b, v.ownBlock = some b ∧ w.heap.size ≤ b) :
    Lies (w1.setCell ⟨B.c, i, none⟩ v) d (B.put i v) { D with cs := D.cs.set i x } := by
  have hiv : i < B.vs.length := by rw [h.vl]; exact hi
  have hv : ∀ b, v.ownBlock = some b → (∃ b', (B.v i).ownBlock = some b' ∧ b = b') ∨ w.heap.size ≤ b := fun b hb => by
    rcases hat with h' | h' | ⟨b', h', hl⟩
    · rw [h'] at hb; cases hb
    · exact .inl ⟨b, h' ▸ hb, rfl⟩
    · rw [hb] at h'; injection h' with e; exact .inr (e ▸ hl)
  have hblk : ∀ b, b < w.heap.size → (∀ b', (B.v i).ownBlock = some b' → b ≠ b') → b ≠ B.c → (w1.setCell ⟨B.c, i, none⟩ v).heap[b]? = w.heap[b]? := fun b hb hn hc =>
    (set_block w1 _ _ hc (Nat.lt_of_lt_of_le hb hg.size)).trans (hg.block b hb (fun e => hn b e.symm rfl))
  have hod := fun b' e => h.od i hi b' e
  have kd := hblk d h.dlt (fun b' e => (hod b' e).1.symm) h.dc
  have kg := hblk B.g h.m.gl (fun b' e => (hod b' e).2.1.symm) h.gc
  have kz := hblk B.z h.m.zl (fun b' e => (hod b' e).2.2.1.symm) h.zc
  have kl := hblk B.l h.ll (fun b' e => (hod b' e).2.2.2.2.symm) h.cl.symm
  have kc : w1.heap[B.c]? = w.heap[B.c]? := hg.block B.c h.lc (fun e => (hod B.c e.symm).2.2.2.1 rfl)
  have hsz : w.heap.size ≤ (w1.setCell ⟨B.c, i, none⟩ v).heap.size := Nat.le_trans hg.size (heap_set _ _ _)
  have hcell : ∀ j, j < D.cs.length → w1.cell? ⟨B.c, j, none⟩ = some (B.v j) := fun j hj => (same_cell kc).trans (h.row j hj).1
  refine ⟨(same_cell kd).trans h.c0, ?_, (same_cell kd).trans h.c2, (same_cell kd).trans h.c3, (same_frozen kd).trans h.f3, h.m.same hsz kg kz, ?_, ?_, ?_, fun j hj => ⟨(same_cell kl).trans (h.lrow j hj).1, (same_frozen kl).trans (h.lrow j hj).2⟩, Nat.lt_of_lt_of_le h.lc hsz, Nat.lt_of_lt_of_le h.ll hsz,
    h.dg, h.dz, h.dc, h.dl, h.gc, h.gl, h.zc, h.zl, h.cl, ?_, ?_⟩
  · show _ = some (Value.slice _ (D.cs.set i x).length (D.cs.set i x).length)
    rw [List.length_set]
    exact (same_cell kd).trans h.c1
  · show (B.vs.set i v).length = (D.cs.set i x).length
    rw [List.length_set, List.length_set, h.vl]
  · intro j hj
    have hj' : j < D.cs.length := by simpa using hj
    rw [B.put_v hiv, World.frozen?_setCell]
    refine ⟨?_, (same_frozen kc).trans (h.row j hj').2⟩
    by_cases e : i = j
    · subst e
      rw [if_pos rfl]
      exact World.cell?_setCell_same' _ _ _ (by rw [hcell i hi]; rfl)
    · rw [if_neg e]
      exact (World.cell?_setCell_other _ _ _ _ (by intro e'; injection e' with _ e'; omega)).trans (hcell j hj')
  · intro j hj
    have hj' : j < D.cs.length := by simpa using hj
    rw [B.put_v hiv]
    show World.ownsRow _ 0 _ 1 _ (at_ (D.cs.set i x) j []).length (u8s (at_ (D.cs.set i x) j []))
    by_cases e : i = j
    · subst e
      rw [if_pos rfl, at_set hi]
      refine same_own hown fun b hb => set_block w1 _ _ ?_ (hown.lt b hb).2
      rcases hv b hb with ⟨b', e', rfl⟩ | hl
      · exact (hod b e').2.2.2.1
      · have := h.lc
        show b ≠ B.c
        omega
    · rw [if_neg e, at_set_ne e]
      refine same_own (h.own j hj') fun b hb => hblk b (h.olt hj' hb) (fun b' e' => ?_) (h.od j hj' b hb).2.2.2.1
      intro eq
      subst eq
      exact h.oo i j hi hj' e b e' hb
  · intro j hj b hb
    have hj' : j < D.cs.length := by simpa using hj
    rw [B.put_v hiv] at hb
    by_cases e : i = j
    · subst e
      rw [if_pos rfl] at hb
      rcases hv b hb with ⟨b', e', rfl⟩ | hl
      · exact hod b e'
      · have h1 := h.dlt
        have h2 := h.m.gl
        have h3 := h.m.zl
        have h4 := h.lc
        have h5 := h.ll
        show b ≠ d ∧ b ≠ B.g ∧ b ≠ B.z ∧ b ≠ B.c ∧ b ≠ B.l
        omega
    · rw [if_neg e] at hb
      exact h.od j hj' b hb
  · intro j k hj hk hjk b hb hb2
    have hj' : j < D.cs.length := by simpa using hj
    have hk' : k < D.cs.length := by simpa using hk
    rw [B.put_v hiv] at hb hb2
    by_cases e : i = j
    · subst e
      rw [if_pos rfl] at hb
      rw [if_neg hjk] at hb2
      rcases hv b hb with ⟨b', e', rfl⟩ | hl
      · exact h.oo i k hi hk' hjk b e' hb2
      · have := h.olt hk' hb2
        omega
    · rw [if_neg e] at hb
      by_cases e2 : i = k
      · subst e2
        rw [if_pos rfl] at hb2
        rcases hv b hb2 with ⟨b', e', rfl⟩ | hl
        · exact h.oo i j hi hj' e b e' hb
        · have := h.olt hj' hb
          omega
      · rw [if_neg e2] at hb2
        exact h.oo j k hj' hk' hjk b hb hb2
/-- It dies. -/
theorem Lies.die {w : World} {d : Nat} {B : Blk} {D : Dr} (h : Lies w d B D) : Lies (w.setCell ⟨d, 3, none⟩ (.bool true)) d B { D with dead := true } where
  c0 := (World.cell?_setCell_other _ _ _ _ (by intro e'; injection e' with _ e'; omega)).trans h.c0
  c1 := (World.cell?_setCell_other _ _ _ _ (by intro e'; injection e' with _ e'; omega)).trans h.c1
  c2 := (World.cell?_setCell_other _ _ _ _ (by intro e'; injection e' with _ e'; omega)).trans h.c2
  c3 := World.cell?_setCell_same' _ _ _ (by rw [h.c3]; rfl)
  f3 := by rw [World.frozen?_setCell]; exact h.f3
  m := h.m.same (heap_set _ _ _) (set_block w _ _ h.dg.symm h.m.gl) (set_block w _ _ h.dz.symm h.m.zl)
  vl := h.vl
  row := fun j hj => ⟨(same_cell (set_block w _ _ h.dc.symm h.lc)).trans (h.row j hj).1, (same_frozen (set_block w _ _ h.dc.symm h.lc)).trans (h.row j hj).2⟩
  own := fun j hj => same_own (h.own j hj) fun b hb => set_block w _ _ (h.od j hj b hb).1 (h.olt hj hb)
  lrow := fun j hj => ⟨(same_cell (set_block w _ _ h.dl.symm h.ll)).trans (h.lrow j hj).1, (same_frozen (set_block w _ _ h.dl.symm h.ll)).trans (h.lrow j hj).2⟩
  lc := Nat.lt_of_lt_of_le h.lc (heap_set _ _ _)
  ll := Nat.lt_of_lt_of_le h.ll (heap_set _ _ _)
  dg := h.dg
  dz := h.dz
  dc := h.dc
  dl := h.dl
  gc := h.gc
  gl := h.gl
  zc := h.zc
  zl := h.zl
  cl := h.cl
  od := h.od
  oo := h.oo
/-- A drive in block d, of whose blocks F speaks. -/
def DAt (w : World) (F : Nat → Prop) (d : Nat) (D : Dr) : Prop := ∃ B, Lies w d B D ∧ Lies.In F d B D.cs.length
theorem DAt.lt {w : World} {F : Nat → Prop} {d : Nat} {D : Dr} (h : DAt w F d D) : d < w.heap.size := by
  obtain ⟨B, h, _⟩ := h
  exact h.dlt
theorem DAt.in_ {w : World} {F : Nat → Prop} {d : Nat} {D : Dr} (h : DAt w F d D) : F d := by
  obtain ⟨B, _, h⟩ := h
  exact h.d
theorem DAt.below {w w' : World} {F : Nat → Prop} {d : Nat} {D : Dr} (h : DAt w F d D) (hb : Below w.heap.size w w') : DAt w' F d D := by
  obtain ⟨B, h, hF⟩ := h
  exact ⟨B, h.below hb, hF⟩
/-- Another's turn. -/
theorem DAt.turn {w w' : World} {F G : Nat → Prop} {d : Nat} {D : Dr} (h : DAt w F d D) (ht : Turn w w' G) (hd : ∀ b, F b → ¬ G b) : DAt w' F d D := by
  obtain ⟨B, h, hF⟩ := h
  exact ⟨B, h.same ht.size hF fun b hb hf => ht.block b hb (hd b hf), hF⟩
/-- Two footprints apart stay so: what one has more is new. -/
theorem Lies.In.mono {F G : Nat → Prop} {d : Nat} {B : Blk} {n : Nat} (h : Lies.In F d B n) (hG : ∀ b, F b → G b) : Lies.In G d B n := ⟨hG _ h.d, hG _ h.g, hG _ h.z, hG _ h.c, hG _ h.l, fun i hi b hb => hG _ (h.o i hi b hb)⟩
end Go.Proofs.YtpmhfalhieinjaaGreatDoor
namespace Go.Proofs.YtpmhfalhieinjaaGreatDoor
open Go.RowKit Zon Drv
theorem ddead_any (w : World) (F : Nat → Prop) (d : Nat) (D : Dr) (h : DAt w F d D) :
    Calls Tryz.prog 71 #[.pointer (some ⟨d, 0, none⟩)] w fun e w' => e = .returned (.bool D.dead) ∧ w = w' := by
  obtain ⟨B, h, _⟩ := h
  have c3 := h.c3
  clear h
  go_enter Tryz.func71, Tryz.ntmps71
  go_wp2
  go_ret
  exact ⟨rfl, rfl⟩
theorem ddead_nil (w : World) :
    Calls Tryz.prog 71 #[.pointer none] w fun e w' => e = .returned (.bool false) ∧ w = w' := by
  go_enter Tryz.func71, Tryz.ntmps71
  go_wp2
  go_ret
  exact ⟨rfl, rfl⟩
/-- Of the zone that is asked for, as many. -/
def lastsD (D : Dr) (z : Int) : Int := if 0 ≤ z ∧ z < D.ls.length then (D.l z.toNat : Int) else 0
theorem dzone_any (w : World) (F : Nat → Prop) (d : Nat) (D : Dr) (z : Int) (h : DAt w F d D) :
    Calls Tryz.prog 87 #[.pointer (some ⟨d, 0, none⟩), .int .i64 z] w fun e w' => e = .returned (.tuple #[.agg #[.int .i64 (getM D.m z).s, .int .i64 (getM D.m z).l], .bool (hasB D.m z)]) ∧ Below w.heap.size w w' := by
  obtain ⟨B, h, _⟩ := h
  have c0 := h.c0
  have hg := Lib.hid (fun W (hb : Below w.heap.size w W) => get_any B.g B.z D.m z W (h.m.below hb))
  have hdl := h.dlt
  clear h
  generalize getM D.m z = y at hg ⊢
  generalize hasB D.m z = q at hg ⊢
  go_enter Tryz.func87, Tryz.ntmps87
  have hBa : Below w.heap.size w (w.alloc (.cells #[.int .i64 0, .int .i64 0] 118)) := (Below.refl _ _).alloc (Nat.le_refl _) _
  go_wp2_with (go_at_call 106; refine (hg.out _ hBa).mono ?_; rintro e w1 ⟨rfl, hb⟩; obtain ⟨hc, hf⟩ := bcell hb)
  refine fresh_endD (fun W => Zn2 W w.heap.size y.s y.l ∧ Below w.heap.size w W) ⟨Zn2.set (u := .int .i64 0) (v := .int .i64 0) (by rw [hc _ _ (by simp)]; go_simp) (by rw [hc _ _ (by simp)]; go_simp) _ _, bput (bput (hBa.trans (hb.mono (by simp))) (Nat.le_refl _)) (Nat.le_refl _)⟩ ?_
  rintro W9 ⟨⟨d0, d1⟩, hB9⟩
  refine bodyPost_ret (v := .tuple #[.agg #[.int .i64 y.s, .int .i64 y.l], .bool q]) (by simp [results, Tryz.results87, go_sem, d0, d1]) rfl ⟨rfl, ?_⟩
  exact hB9
theorem dzone_nil (w : World) (z : Int) :
    Calls Tryz.prog 87 #[.pointer none, .int .i64 z] w fun e w' => e = .returned (.tuple #[.agg #[.int .i64 0, .int .i64 0], .bool false]) ∧ Below w.heap.size w w' := by
  go_enter Tryz.func87, Tryz.ntmps87
  go_wp2
  refine bodyPost_ret (v := .tuple #[.agg #[.int .i64 0, .int .i64 0], .bool false]) (by simp [results, Tryz.results87, go_sem]) rfl ⟨rfl, ?_⟩
  exact (Below.refl _ _).alloc (Nat.le_refl _) _
theorem writes_any (k z a n : Int) (w : World) :
    Calls Tryz.prog 126 #[.agg #[.int .i64 k, .int .i64 z, .int .i64 a, .int .i64 n]] w fun e w' => e = .returned (.bool (writesB k)) ∧ Below w.heap.size w w' := by
  by_cases h1 : k = 1
  · subst h1
    go_enter Tryz.func126, Tryz.ntmps126
    go_wp2
    go_ret
    exact ⟨rfl, (Below.refl _ _).alloc (Nat.le_refl _) _⟩
  · have e1 : (k == 1) = false := by simp [h1]
    have e2 : writesB k = (k == 2) := by simp [writesB, e1]
    rw [e2]
    clear e2
    go_enter Tryz.func126, Tryz.ntmps126
    go_wp2
    go_ret
    exact ⟨rfl, (Below.refl _ _).alloc (Nat.le_refl _) _⟩
theorem written_any (w : World) (d : Nat) (B : Blk) (D : Dr) (i : Nat) (h : Lies w d B D) (hi : i < D.cs.length) (hn : (D.c i).length ≤ 262144) :
    Calls Tryz.prog 116 #[.pointer (some ⟨d, 0, none⟩), .int .i64 (i : Int)] w fun e w' => e = .returned (.int .i64 (((D.c i).length / 64 : Nat) : Int)) ∧ w = w' := by
  have c1 := h.c1
  obtain ⟨k1, _⟩ := h.row i hi
  have hv : ∃ A cap, B.v i = .slice A (D.c i).length cap := by
    rcases (h.own i hi).2 with ⟨e, e2⟩ | ⟨g, cap, _, e, _⟩
    · exact ⟨none, 0, by rw [e, e2]⟩
    · exact ⟨_, cap, e⟩
  obtain ⟨A, cap, hv⟩ := hv
  rw [hv] at k1
  clear hv h
  generalize (D.c i).length = y at k1 hn ⊢
  rw [show (((y / 64 : Nat)) : Int) = (y : Int) / 64 by omega]
  go_enter Tryz.func116, Tryz.ntmps116
  go_wp2
  go_ret
  exact ⟨rfl, rfl⟩
end Go.Proofs.YtpmhfalhieinjaaGreatDoor
namespace Go.Proofs.YtpmhfalhieinjaaGreatDoor
open Go.RowKit Zon Drv
theorem matches_any (k z a n : Int) (s : ByteArray) (w : World) (hs : s.size ≤ 9223372036854775807) :
    Calls Tryz.prog 104 #[.agg #[.int .i64 k, .int .i64 z, .int .i64 a, .int .i64 n], .string s] w fun e w' => e = .returned (.bool (fits k n s.size)) ∧ Below w.heap.size w w' := by
  have hw := Lib.hid (fun W => writes_any k z a n W)
  have hem : decide (s.size = 0) = s.toList.isEmpty := by
    rw [ByteArray.toList_eq, Bool.eq_iff_iff, decide_eq_true_iff, List.isEmpty_iff]
    exact ⟨fun h => List.eq_nil_of_length_eq_zero h, fun h => congrArg List.length h⟩
  have hBa : Below w.heap.size w (w.alloc (.cells #[.int .i64 k, .int .i64 z, .int .i64 a, .int .i64 n] 116)) := (Below.refl _ _).alloc (Nat.le_refl _) _
  by_cases h0 : writesB k = true ∧ 0 ≤ n
  · have hf : fits k n s.size = decide (s.size % 64 = 0 ∧ ((s.size / 64 : Nat) : Int) = n) := by unfold fits; rw [if_pos h0]
    rw [hf]
    obtain ⟨h1, h2⟩ := h0
    rw [h1] at hw
    clear hf h1 hem
    by_cases h3 : s.size % 64 = 0
    · have e3 : ((s.size : Int) % 64 == 0) = true := by
        have : (s.size : Int) % 64 = 0 := by omega
        rw [this]; rfl
      have e3' : (s.size : Int) % 64 = 0 := by omega
      have e4 : decide (s.size % 64 = 0 ∧ ((s.size / 64 : Nat) : Int) = n) = ((s.size : Int) / 64 == n) := by
        rw [Bool.eq_iff_iff]; simp [h3]
      rw [e4]
      clear e4 h3
      go_enter Tryz.func104, Tryz.ntmps104
      go_wp2_with (go_at_call 126; refine (hw.out _).mono ?_; rintro e w1 ⟨rfl, hb⟩; obtain ⟨hc, hf⟩ := bcell hb)
      go_ret
      exact ⟨rfl, hBa.trans (hb.mono (by simp))⟩
    · have e3 : ((s.size : Int) % 64 == 0) = false := by
        have : ¬ (s.size : Int) % 64 = 0 := by omega
        simp [this]
      have e3' : ¬ (s.size : Int) % 64 = 0 := by omega
      have e4 : decide (s.size % 64 = 0 ∧ ((s.size / 64 : Nat) : Int) = n) = false := by simp [h3]
      rw [e4]
      clear e4 h3
      go_enter Tryz.func104, Tryz.ntmps104
      go_wp2_with (go_at_call 126; refine (hw.out _).mono ?_; rintro e w1 ⟨rfl, hb⟩; obtain ⟨hc, hf⟩ := bcell hb)
      go_ret
      exact ⟨rfl, hBa.trans (hb.mono (by simp))⟩
  · have hf : fits k n s.size = decide (s.size = 0) := by unfold fits; rw [if_neg h0]
    rw [hf]
    clear hf
    generalize decide (s.size = 0) = em at hem ⊢
    have hemH := Lib.hid hem
    clear hem
    cases hq : writesB k with
    | true =>
      have h2 : n < 0 := by
        rw [hq] at h0
        by_cases h : 0 ≤ n
        · exact absurd ⟨rfl, h⟩ h0
        · omega
      rw [hq] at hw
      clear h0 hq
      go_enter Tryz.func104, Tryz.ntmps104
      go_wp2_with (go_at_call 126; refine (hw.out _).mono ?_; rintro e w1 ⟨rfl, hb⟩; obtain ⟨hc, hf⟩ := bcell hb)
      go_ret
      exact ⟨by rw [hemH.out]; rfl, hBa.trans (hb.mono (by simp))⟩
    | false =>
      rw [hq] at hw
      clear h0 hq
      go_enter Tryz.func104, Tryz.ntmps104
      go_wp2_with (go_at_call 126; refine (hw.out _).mono ?_; rintro e w1 ⟨rfl, hb⟩; obtain ⟨hc, hf⟩ := bcell hb)
      go_ret
      exact ⟨by rw [hemH.out]; rfl, hBa.trans (hb.mono (by simp))⟩
end Go.Proofs.YtpmhfalhieinjaaGreatDoor
namespace Go.Proofs.YtpmhfalhieinjaaGreatDoor
open Go.RowKit Go.Lib
section
variable {P : Program} (w : World)
theorem run_append_str (t u ty e : TypeId) (i : TypeInfo) (ht : P.underlying t = some (.slice e)) (hu : P.underlying u = some .string) (hi : P.info? e = some i) (hz : i.zero = some (.int .u8 0)) (hsize : i.size = 1) (hby : i.bytes = 1)
    (v : Value) (n : Nat) (xs : List Value) (hown : w.ownsRow 0 e 1 v n xs) (s : ByteArray) (h63 : n + s.size ≤ maxLen) (hbytes : n + s.size ≤ 140737488355328) :
    ∃ v' w', (Builtin.append_ #[t, u] ty #[v, .string s]).run P w = .ok v' w' ∧ w'.ownsRow 0 e 1 v' (n + s.size) (xs ++ strCells s) ∧ w.grownBy w' v.ownBlock ∧ (v'.ownBlock = v.ownBlock ∨ v'.ownBlock = some w.heap.size) := by
  obtain ⟨v', w', hr, h2, h3, h4⟩ := run_append_own_string (P := P) w 0 t u ty e i ht hu hi hz hsize hby v n xs hown s h63 hbytes (Nat.zero_le _)
  have hmx : (9223372036854775807 : Nat) = maxLen := rfl
  refine ⟨v', w', hr, h2, h3, ?_⟩
  rcases hown.2 with ⟨rfl, hn⟩ | ⟨g, cap, cur, rfl, hbg, hg, hnc, hcm, hcs, htake⟩
  · by_cases hm : s.size = 0
    · left
      rw [h4.2 ⟨rfl, hm⟩]
    · right
      have hr2 := run_append_nil_string (P := P) w t u ty e i (.int .u8 0) ht hu hi hz s (by omega) (by omega) (by rw [hby]; omega)
      rw [hr2] at hr
      injection hr with e1 _
      rw [← e1]
      rfl
  · by_cases hroom : n + s.size ≤ cap
    · left
      have hr2 := run_append_room_string (P := P) w t u ty e i ht hu hi hsize g n cap cur hg s hroom (by omega)
      rw [hr2] at hr
      injection hr with e1 _
      rw [← e1]
      rfl
    · right
      have hxl : xs.length = n := by simpa using hown.1
      have hr2 := run_append_grow_string (P := P) w t u ty e i (.int .u8 0) ht hu hi hz ⟨g, 0, none⟩ n cap xs (by rw [hsize]; simpa using hxl) (hown.cells (g := g) rfl) s (by omega) (by omega) (by rw [hby]; exact growslice_fits (by omega) (by omega))
      rw [hr2] at hr
      injection hr with e1 _
      rw [← e1]
      rfl
theorem append_str_step {ops : Array Oper} {o : Oper} {a : Act} {w w' : World} {K : Act → World → Prop} {Q : Exit → Act → World → Prop} {E : Prop} (hg : o.guard = none) (s x : Operand) (t u : TypeId)
    (ho : o.op = .call { callee := .builtin .append, args := #[s, x], argTypes := #[t, u] }) {vs vx r : Value} (hs : a.eval s = vs) (hx : a.eval x = vx) (hrun : (Builtin.append_ #[t, u] o.type #[vs, vx]).run P w = .ok r w')
    (h : K (a.put o.dst r) w') : if Region.wanted o (yielded ops a.tmps) = true then Oper.wp P o a w K Q else E := by
  have hw : Region.wanted o (yielded ops a.tmps) = true := by simp [Region.wanted, hg]
  rw [if_pos hw]
  unfold Oper.wp execOp
  simp only [ho, resolve, invoke, builtin, Sem.run_bind, Sem.run_pure, Result.andThen_ok, List.map_toArray, List.map_cons, List.map_nil, hs, hx, hrun]
  exact h
end
theorem infoU8 : (Tryz.prog.info? 5).map (fun i => (i.zero, i.size, i.bytes)) = some (some (.int .u8 0), 1, 1) := by kernel_rfl
/-- Of a zone's text. -/
theorem text_append (w : World) (ty : TypeId) (v : Value) (x : List UInt8) (hown : w.ownsRow 0 5 1 v x.length (u8s x)) (s : ByteArray) (h : x.length + s.size ≤ 1048576) :
    ∃ v' w', (Builtin.append_ #[45, 9] ty #[v, .string s]).run Tryz.prog w = .ok v' w' ∧ w'.ownsRow 0 5 1 v' (x ++ s.data.toList).length (u8s (x ++ s.data.toList)) ∧ w.grownBy w' v.ownBlock ∧ (v'.ownBlock = v.ownBlock ∨ v'.ownBlock = some w.heap.size) := by
  obtain ⟨i, hi, hz, hs, hby⟩ := info_parts infoU8
  obtain ⟨v', w', h1, h2, h3, h4⟩ := run_append_str (P := Tryz.prog) w 45 9 ty 5 i Tryz.underlying45 Tryz.underlying9 hi hz hs hby v x.length (u8s x) hown s (by unfold maxLen; omega) (by omega)
  refine ⟨v', w', h1, ?_, h3, h4⟩
  rw [u8s_app, List.length_append]
  exact h2
end Go.Proofs.YtpmhfalhieinjaaGreatDoor
