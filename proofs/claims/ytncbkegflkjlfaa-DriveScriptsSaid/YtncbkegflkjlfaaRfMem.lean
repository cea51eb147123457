/- The document's drive in memory: its machine, the blocks of each zone, how many last. -/
import Derived.Test.YtncbkegflkjlfaaDrvM
import Derived.Test.YtncbkegflkjlfaaKit
import Derived.Test.YtncbkegflkjlfaaDrvMem
namespace Go.Proofs.Ytncbkegflkjlfaa
open Go.RowKit Zon Drv

/-- The k-th block of bytes. -/
def blk (c : List UInt8) (k : Nat) : List UInt8 := (c.drop (64 * k)).take 64
/-- All whole blocks of bytes. -/
def bls (c : List UInt8) : List (List UInt8) := (List.range (c.length / 64)).map (blk c)
def bks (c : List UInt8) : List Value := (bls c).map fun t => Value.string ⟨t.toArray⟩
theorem bls_len (c : List UInt8) : (bls c).length = c.length / 64 := by unfold bls; simp
theorem bks_len (c : List UInt8) : (bks c).length = c.length / 64 := by unfold bks; rw [List.length_map, bls_len]
theorem bls_get {c : List UInt8} {k : Nat} (h : k < (bls c).length) : (bls c)[k] = blk c k := by
  have e : (bls c)[k]? = some (blk c k) := by
    have h' := h
    rw [bls_len] at h'
    unfold bls
    rw [List.getElem?_map, List.getElem?_range h']
    rfl
  rw [List.getElem?_eq_getElem h] at e
  exact Option.some.inj e
theorem bks_get {c : List UInt8} {k : Nat} (h : k < (bks c).length) : (bks c)[k] = .string ⟨(blk c k).toArray⟩ := by
  have h' := h
  rw [bks_len, ← bls_len] at h'
  have e : (bks c)[k]? = some (.string ⟨(blk c k).toArray⟩) := by
    unfold bks
    rw [List.getElem?_map, List.getElem?_eq_getElem h', bls_get]
    rfl
  rw [List.getElem?_eq_getElem h] at e
  exact Option.some.inj e
theorem bks_nil : bks [] = [] := rfl
theorem blk_app {c t : List UInt8} {k : Nat} (h : 64 * (k + 1) ≤ c.length) : blk (c ++ t) k = blk c k := by
  unfold blk
  rw [List.drop_append_of_le_length (by omega), List.take_append_of_le_length (by rw [List.length_drop]; omega)]
theorem blk_end {c t : List UInt8} {k : Nat} (h : c.length = 64 * k) (ht : t.length = 64) : blk (c ++ t) k = t := by
  unfold blk
  rw [← h, List.drop_left, List.take_of_length_le (by omega)]
theorem blk_take {c : List UInt8} {n k : Nat} (h : k < n) : blk (c.take (64 * n)) k = blk c k := by
  unfold blk
  rw [List.drop_take, List.take_take, Nat.min_eq_left (by omega)]
theorem bls_snoc {c t : List UInt8} {k : Nat} (h : c.length = 64 * k) (ht : t.length = 64) : bls (c ++ t) = bls c ++ [t] := by
  refine List.ext_getElem ?_ fun i h1 h2 => ?_
  · rw [List.length_append, bls_len, bls_len, List.length_append, List.length_singleton]; omega
  · rw [bls_get h1]
    rw [bls_len, List.length_append] at h1
    by_cases hi : i < k
    · rw [List.getElem_append_left (by rw [bls_len]; omega), bls_get, blk_app (by omega)]
    · obtain rfl : i = k := by omega
      rw [List.getElem_append_right (by rw [bls_len]; omega)]
      simp [blk_end h ht]
theorem bks_snoc {c t : List UInt8} {k : Nat} (h : c.length = 64 * k) (ht : t.length = 64) : bks (c ++ t) = bks c ++ [.string ⟨t.toArray⟩] := by
  unfold bks
  rw [bls_snoc h ht, List.map_append]
  rfl
theorem bls_take {c : List UInt8} {n : Nat} (h : 64 * n ≤ c.length) : bls (c.take (64 * n)) = (bls c).take n := by
  refine List.ext_getElem ?_ fun i h1 h2 => ?_
  · rw [List.length_take, bls_len, bls_len, List.length_take]; omega
  · rw [bls_len, List.length_take] at h1
    rw [bls_get, List.getElem_take, bls_get, blk_take (by omega)]
theorem bks_take {c : List UInt8} {n : Nat} (h : 64 * n ≤ c.length) : bks (c.take (64 * n)) = (bks c).take n := by
  unfold bks
  rw [bls_take h, List.map_take]
/-- What is read block by block. -/
theorem cut_step (c : List UInt8) (a k : Nat) : cut c a ((k + 1 : Nat) : Int) = cut c a (k : Nat) ++ blk c (a + k) := by
  unfold cut blk
  rw [show (64 * (a : Int)).toNat = 64 * a by omega, show (64 * ((k + 1 : Nat) : Int)).toNat = 64 * k + 64 by omega, show (64 * (k : Int)).toNat = 64 * k by omega, List.take_add, List.drop_drop, show 64 * a + 64 * k = 64 * (a + k) by omega]
theorem cut_zero (c : List UInt8) (a : Int) : cut c a 0 = [] := rfl
/-- The blocks of the data, one more. -/
theorem data_step (c data : List UInt8) (k : Nat) : c ++ data.take (64 * (k + 1)) = (c ++ data.take (64 * k)) ++ blk data k := by
  unfold blk
  rw [show 64 * (k + 1) = 64 * k + 64 by omega, List.take_add, List.append_assoc]
theorem blk_len {c : List UInt8} {k : Nat} (h : 64 * (k + 1) ≤ c.length) : (blk c k).length = 64 := by
  unfold blk
  rw [List.length_take, List.length_drop]
  omega
/-- The text of a block of data. -/
theorem blk_text (s : ByteArray) (k : Nat) : s.extract (64 * k) (64 * k + 64) = ⟨(blk s.data.toList k).toArray⟩ := by
  have h : (s.extract (64 * k) (64 * k + 64)).data.toList = blk s.data.toList k := by
    rw [ByteArray.data_extract, Array.toList_extract, List.extract_eq_take_drop]
    unfold blk
    rw [show 64 * k + 64 - 64 * k = 64 by omega]
  generalize s.extract (64 * k) (64 * k + 64) = y at h
  obtain ⟨⟨l⟩⟩ := y
  rw [← h]
end Go.Proofs.Ytncbkegflkjlfaa
namespace Go.Proofs.Ytncbkegflkjlfaa
open Go.RowKit Zon Drv

/-- A drive lies in block d. -/
structure RLies (w : World) (d : Nat) (B : Blk) (D : Dr) : Prop where
  c0 : w.cell? ⟨d, 0, none⟩ = some (.pointer (some ⟨B.g, 0, none⟩))
  c1 : w.cell? ⟨d, 1, none⟩ = some (.slice (some ⟨B.c, 0, none⟩) D.cs.length D.cs.length)
  c2 : w.cell? ⟨d, 2, none⟩ = some (.slice (some ⟨B.l, 0, none⟩) D.ls.length D.ls.length)
  c3 : w.cell? ⟨d, 3, none⟩ = some (.bool D.dead)
  f3 : w.frozen? ⟨d, 3, none⟩ = false
  m : MAt w B.g B.z D.m
  vl : B.vs.length = D.cs.length
  row : ∀ i, i < D.cs.length → w.cell? ⟨B.c, i, none⟩ = some (B.v i) ∧ w.frozen? ⟨B.c, i, none⟩ = false
  own : ∀ i, i < D.cs.length → w.ownsRow 0 9 1 (B.v i) (bks (D.c i)).length (bks (D.c i))
  lrow : ∀ i, i < D.ls.length → w.cell? ⟨B.l, i, none⟩ = some (.int .i64 (D.l i : Int)) ∧ w.frozen? ⟨B.l, i, none⟩ = false
  lc : B.c < w.heap.size
  ll : B.l < w.heap.size
  dg : d ≠ B.g
  dz : d ≠ B.z
  dc : d ≠ B.c
  dl : d ≠ B.l
  gc : B.g ≠ B.c
  gl : B.g ≠ B.l
  zc : B.z ≠ B.c
  zl : B.z ≠ B.l
  cl : B.c ≠ B.l
  od : ∀ i, i < D.cs.length → ∀ b, (B.v i).ownBlock = some b → b ≠ d ∧ b ≠ B.g ∧ b ≠ B.z ∧ b ≠ B.c ∧ b ≠ B.l
  oo : ∀ i j, i < D.cs.length → j < D.cs.length → i ≠ j → ∀ b, (B.v i).ownBlock = some b → (B.v j).ownBlock ≠ some b

theorem RLies.dlt {w : World} {d : Nat} {B : Blk} {D : Dr} (h : RLies w d B D) : d < w.heap.size := lt_of_cell h.c0
theorem RLies.olt {w : World} {d : Nat} {B : Blk} {D : Dr} (h : RLies w d B D) {i : Nat} (hi : i < D.cs.length) {b : Nat} (hb : (B.v i).ownBlock = some b) : b < w.heap.size := ((h.own i hi).lt b hb).2

/-- A drive's blocks. -/
structure RLies.In (F : Nat → Prop) (d : Nat) (B : Blk) (n : Nat) : Prop where
  d : F d
  g : F B.g
  z : F B.z
  c : F B.c
  l : F B.l
  o : ∀ i, i < n → ∀ b, (B.v i).ownBlock = some b → F b

/-- A drive stays where its blocks do. -/
theorem RLies.same {w w' : World} {d : Nat} {B : Blk} {D : Dr} (h : RLies w d B D) (hs : w.heap.size ≤ w'.heap.size) {F : Nat → Prop} (hF : RLies.In F d B D.cs.length) (hk : ∀ b, b < w.heap.size → F b → w'.heap[b]? = w.heap[b]?) : RLies w' d B D where
  c0 := (same_cell (hk d h.dlt hF.d)).trans h.c0
  c1 := (same_cell (hk d h.dlt hF.d)).trans h.c1
  c2 := (same_cell (hk d h.dlt hF.d)).trans h.c2
  c3 := (same_cell (hk d h.dlt hF.d)).trans h.c3
  f3 := (same_frozen (hk d h.dlt hF.d)).trans h.f3
  m := h.m.same hs (hk _ h.m.gl hF.g) (hk _ h.m.zl hF.z)
  vl := h.vl
  row := fun i hi => ⟨(same_cell (hk _ h.lc hF.c)).trans (h.row i hi).1, (same_frozen (hk _ h.lc hF.c)).trans (h.row i hi).2⟩
  own := fun i hi => same_own (h.own i hi) fun b hb => hk b (h.olt hi hb) (hF.o i hi b hb)
  lrow := fun i hi => ⟨(same_cell (hk _ h.ll hF.l)).trans (h.lrow i hi).1, (same_frozen (hk _ h.ll hF.l)).trans (h.lrow i hi).2⟩
  lc := Nat.lt_of_lt_of_le h.lc hs
  ll := Nat.lt_of_lt_of_le h.ll hs
  dg := h.dg
  dz := h.dz
  dc := h.dc
  dl := h.dl
  gc := h.gc
  gl := h.gl
  zc := h.zc
  zl := h.zl
  cl := h.cl
  od := h.od
  oo := h.oo

theorem RLies.below {w w' : World} {d : Nat} {B : Blk} {D : Dr} (h : RLies w d B D) (hb : Below w.heap.size w w') : RLies w' d B D :=
  h.same hb.size (F := fun _ => True) ⟨trivial, trivial, trivial, trivial, trivial, fun _ _ _ _ => trivial⟩ fun b hl _ => hb.block b hl

/-- The machine's zones have turned. -/
theorem RLies.machine {w w' : World} {d : Nat} {B : Blk} {D : Dr} (h : RLies w d B D) (ho : Only w w' B.z) {m : Mc} (hm : MAt w' B.g B.z m) : RLies w' d B { D with m := m } where
  c0 := ho.cell h.c0 h.dz
  c1 := ho.cell h.c1 h.dz
  c2 := ho.cell h.c2 h.dz
  c3 := ho.cell h.c3 h.dz
  f3 := (ho.frozen h.dlt h.dz).trans h.f3
  m := hm
  vl := h.vl
  row := fun i hi => ⟨ho.cell (h.row i hi).1 h.zc.symm, (ho.frozen h.lc h.zc.symm).trans (h.row i hi).2⟩
  own := fun i hi => (h.own i hi).kept ho (by
    cases e : (B.v i).ownBlock with
    | none => exact .inl rfl
    | some b => exact .inr (by simpa using (h.od i hi b e).2.2.1))
  lrow := fun i hi => ⟨ho.cell (h.lrow i hi).1 h.zl.symm, (ho.frozen h.ll h.zl.symm).trans (h.lrow i hi).2⟩
  lc := Nat.lt_of_lt_of_le h.lc ho.size
  ll := Nat.lt_of_lt_of_le h.ll ho.size
  dg := h.dg
  dz := h.dz
  dc := h.dc
  dl := h.dl
  gc := h.gc
  gl := h.gl
  zc := h.zc
  zl := h.zl
  cl := h.cl
  od := h.od
  oo := h.oo

/-- How many blocks of a zone last, stored. -/
theorem RLies.put_l {w : World} {d : Nat} {B : Blk} {D : Dr} (h : RLies w d B D) {i : Nat} (hi : i < D.ls.length) (x : Nat) : RLies (w.setCell ⟨B.l, i, none⟩ (.int .i64 (x : Int))) d B { D with ls := D.ls.set i x } where
  c0 := (same_cell (set_block w _ _ h.dl h.dlt)).trans h.c0
  c1 := (same_cell (set_block w _ _ h.dl h.dlt)).trans h.c1
  c2 := by
    show _ = some (Value.slice _ (D.ls.set i x).length (D.ls.set i x).length)
    rw [List.length_set]
    exact (same_cell (set_block w _ _ h.dl h.dlt)).trans h.c2
  c3 := (same_cell (set_block w _ _ h.dl h.dlt)).trans h.c3
  f3 := (same_frozen (set_block w _ _ h.dl h.dlt)).trans h.f3
  m := h.m.same (heap_set _ _ _) (set_block w _ _ h.gl h.m.gl) (set_block w _ _ h.zl h.m.zl)
  vl := h.vl
  row := fun j hj => ⟨(same_cell (set_block w _ _ h.cl h.lc)).trans (h.row j hj).1, (same_frozen (set_block w _ _ h.cl h.lc)).trans (h.row j hj).2⟩
  own := fun j hj => same_own (h.own j hj) fun b hb => set_block w _ _ (h.od j hj b hb).2.2.2.2 (h.olt hj hb)
  lrow := fun j hj => by
    have hj' : j < D.ls.length := by simpa using hj
    rw [World.frozen?_setCell]
    refine ⟨?_, (h.lrow j hj').2⟩
    show _ = some (Value.int .i64 ((at_ (D.ls.set i x) j 0 : Nat) : Int))
    by_cases e : i = j
    · subst e
      rw [World.cell?_setCell_same' _ _ _ (by rw [(h.lrow i hi).1]; rfl), at_set hi]
    · rw [World.cell?_setCell_other _ _ _ _ (by intro e'; injection e' with _ e'; omega), at_set_ne e]
      exact (h.lrow j hj').1
  lc := Nat.lt_of_lt_of_le h.lc (heap_set _ _ _)
  ll := Nat.lt_of_lt_of_le h.ll (heap_set _ _ _)
  dg := h.dg
  dz := h.dz
  dc := h.dc
  dl := h.dl
  gc := h.gc
  gl := h.gl
  zc := h.zc
  zl := h.zl
  cl := h.cl
  od := h.od
  oo := h.oo

/-- A zone's text, stored: from the world in which the drive lay, by way of one that differs in that text's own block alone. -/
theorem RLies.put_c {w w1 : World} {d : Nat} {B : Blk} {D : Dr} (h : RLies w d B D) {i : Nat} (hi : i < D.cs.length) {v : Value} {x : List UInt8} (hg : w.grownBy w1 (B.v i).ownBlock) (hown : w1.ownsRow 0 9 1 v (bks x).length (bks x))
    (hat : v.ownBlock = none ∨ v.ownBlock = (B.v i).ownBlock ∨ ∃ b, v.ownBlock = some b ∧ w.heap.size ≤ b) :
    RLies (w1.setCell ⟨B.c, i, none⟩ v) d (B.put i v) { D with cs := D.cs.set i x } := by
  have hiv : i < B.vs.length := by rw [h.vl]; exact hi
  have hv : ∀ b, v.ownBlock = some b → (∃ b', (B.v i).ownBlock = some b' ∧ b = b') ∨ w.heap.size ≤ b := fun b hb => by
    rcases hat with h' | h' | ⟨b', h', hl⟩
    · rw [h'] at hb; cases hb
    · exact .inl ⟨b, h' ▸ hb, rfl⟩
    · rw [hb] at h'; injection h' with e; exact .inr (e ▸ hl)
  have hblk : ∀ b, b < w.heap.size → (∀ b', (B.v i).ownBlock = some b' → b ≠ b') → b ≠ B.c → (w1.setCell ⟨B.c, i, none⟩ v).heap[b]? = w.heap[b]? := fun b hb hn hc =>
    (set_block w1 _ _ hc (Nat.lt_of_lt_of_le hb hg.size)).trans (hg.block b hb (fun e => hn b e.symm rfl))
  have hod := fun b' e => h.od i hi b' e
  have kd := hblk d h.dlt (fun b' e => (hod b' e).1.symm) h.dc
  have kg := hblk B.g h.m.gl (fun b' e => (hod b' e).2.1.symm) h.gc
  have kz := hblk B.z h.m.zl (fun b' e => (hod b' e).2.2.1.symm) h.zc
  have kl := hblk B.l h.ll (fun b' e => (hod b' e).2.2.2.2.symm) h.cl.symm
  have kc : w1.heap[B.c]? = w.heap[B.c]? := hg.block B.c h.lc (fun e => (hod B.c e.symm).2.2.2.1 rfl)
  have hsz : w.heap.size ≤ (w1.setCell ⟨B.c, i, none⟩ v).heap.size := Nat.le_trans hg.size (heap_set _ _ _)
  have hcell : ∀ j, j < D.cs.length → w1.cell? ⟨B.c, j, none⟩ = some (B.v j) := fun j hj => (same_cell kc).trans (h.row j hj).1
  refine ⟨(same_cell kd).trans h.c0, ?_, (same_cell kd).trans h.c2, (same_cell kd).trans h.c3, (same_frozen kd).trans h.f3, h.m.same hsz kg kz, ?_, ?_, ?_, fun j hj => ⟨(same_cell kl).trans (h.lrow j hj).1, (same_frozen kl).trans (h.lrow j hj).2⟩, Nat.lt_of_lt_of_le h.lc hsz, Nat.lt_of_lt_of_le h.ll hsz,
    h.dg, h.dz, h.dc, h.dl, h.gc, h.gl, h.zc, h.zl, h.cl, ?_, ?_⟩
  · show _ = some (Value.slice _ (D.cs.set i x).length (D.cs.set i x).length)
    rw [List.length_set]
    exact (same_cell kd).trans h.c1
  · show (B.vs.set i v).length = (D.cs.set i x).length
    rw [List.length_set, List.length_set, h.vl]
  · intro j hj
    have hj' : j < D.cs.length := by simpa using hj
    rw [B.put_v hiv, World.frozen?_setCell]
    refine ⟨?_, (same_frozen kc).trans (h.row j hj').2⟩
    by_cases e : i = j
    · subst e
      rw [if_pos rfl]
      exact World.cell?_setCell_same' _ _ _ (by rw [hcell i hi]; rfl)
    · rw [if_neg e]
      exact (World.cell?_setCell_other _ _ _ _ (by intro e'; injection e' with _ e'; omega)).trans (hcell j hj')
  · intro j hj
    have hj' : j < D.cs.length := by simpa using hj
    rw [B.put_v hiv]
    show World.ownsRow _ 0 _ 1 _ (bks (at_ (D.cs.set i x) j [])).length (bks (at_ (D.cs.set i x) j []))
    by_cases e : i = j
    · subst e
      rw [if_pos rfl, at_set hi]
      refine same_own hown fun b hb => set_block w1 _ _ ?_ (hown.lt b hb).2
      rcases hv b hb with ⟨b', e', rfl⟩ | hl
      · exact (hod b e').2.2.2.1
      · have := h.lc
        show b ≠ B.c
        omega
    · rw [if_neg e, at_set_ne e]
      refine same_own (h.own j hj') fun b hb => hblk b (h.olt hj' hb) (fun b' e' => ?_) (h.od j hj' b hb).2.2.2.1
      intro eq
      subst eq
      exact h.oo i j hi hj' e b e' hb
  · intro j hj b hb
    have hj' : j < D.cs.length := by simpa using hj
    rw [B.put_v hiv] at hb
    by_cases e : i = j
    · subst e
      rw [if_pos rfl] at hb
      rcases hv b hb with ⟨b', e', rfl⟩ | hl
      · exact hod b e'
      · have h1 := h.dlt
        have h2 := h.m.gl
        have h3 := h.m.zl
        have h4 := h.lc
        have h5 := h.ll
        show b ≠ d ∧ b ≠ B.g ∧ b ≠ B.z ∧ b ≠ B.c ∧ b ≠ B.l
        omega
    · rw [if_neg e] at hb
      exact h.od j hj' b hb
  · intro j k hj hk hjk b hb hb2
    have hj' : j < D.cs.length := by simpa using hj
    have hk' : k < D.cs.length := by simpa using hk
    rw [B.put_v hiv] at hb hb2
    by_cases e : i = j
    · subst e
      rw [if_pos rfl] at hb
      rw [if_neg hjk] at hb2
      rcases hv b hb with ⟨b', e', rfl⟩ | hl
      · exact h.oo i k hi hk' hjk b e' hb2
      · have := h.olt hk' hb2
        omega
    · rw [if_neg e] at hb
      by_cases e2 : i = k
      · subst e2
        rw [if_pos rfl] at hb2
        rcases hv b hb2 with ⟨b', e', rfl⟩ | hl
        · exact h.oo i j hi hj' e b e' hb
        · have := h.olt hj' hb
          omega
      · rw [if_neg e2] at hb2
        exact h.oo j k hj' hk' hjk b hb hb2

/-- It dies. -/
theorem RLies.die {w : World} {d : Nat} {B : Blk} {D : Dr} (h : RLies w d B D) : RLies (w.setCell ⟨d, 3, none⟩ (.bool true)) d B { D with dead := true } where
  c0 := (World.cell?_setCell_other _ _ _ _ (by intro e'; injection e' with _ e'; omega)).trans h.c0
  c1 := (World.cell?_setCell_other _ _ _ _ (by intro e'; injection e' with _ e'; omega)).trans h.c1
  c2 := (World.cell?_setCell_other _ _ _ _ (by intro e'; injection e' with _ e'; omega)).trans h.c2
  c3 := World.cell?_setCell_same' _ _ _ (by rw [h.c3]; rfl)
  f3 := by rw [World.frozen?_setCell]; exact h.f3
  m := h.m.same (heap_set _ _ _) (set_block w _ _ h.dg.symm h.m.gl) (set_block w _ _ h.dz.symm h.m.zl)
  vl := h.vl
  row := fun j hj => ⟨(same_cell (set_block w _ _ h.dc.symm h.lc)).trans (h.row j hj).1, (same_frozen (set_block w _ _ h.dc.symm h.lc)).trans (h.row j hj).2⟩
  own := fun j hj => same_own (h.own j hj) fun b hb => set_block w _ _ (h.od j hj b hb).1 (h.olt hj hb)
  lrow := fun j hj => ⟨(same_cell (set_block w _ _ h.dl.symm h.ll)).trans (h.lrow j hj).1, (same_frozen (set_block w _ _ h.dl.symm h.ll)).trans (h.lrow j hj).2⟩
  lc := Nat.lt_of_lt_of_le h.lc (heap_set _ _ _)
  ll := Nat.lt_of_lt_of_le h.ll (heap_set _ _ _)
  dg := h.dg
  dz := h.dz
  dc := h.dc
  dl := h.dl
  gc := h.gc
  gl := h.gl
  zc := h.zc
  zl := h.zl
  cl := h.cl
  od := h.od
  oo := h.oo

/-- A drive in block d, of whose blocks F speaks. -/
def RAt (w : World) (F : Nat → Prop) (d : Nat) (D : Dr) : Prop := ∃ B, RLies w d B D ∧ RLies.In F d B D.cs.length
theorem RAt.lt {w : World} {F : Nat → Prop} {d : Nat} {D : Dr} (h : RAt w F d D) : d < w.heap.size := by
  obtain ⟨B, h, _⟩ := h
  exact h.dlt
theorem RAt.in_ {w : World} {F : Nat → Prop} {d : Nat} {D : Dr} (h : RAt w F d D) : F d := by
  obtain ⟨B, _, h⟩ := h
  exact h.d
theorem RAt.below {w w' : World} {F : Nat → Prop} {d : Nat} {D : Dr} (h : RAt w F d D) (hb : Below w.heap.size w w') : RAt w' F d D := by
  obtain ⟨B, h, hF⟩ := h
  exact ⟨B, h.below hb, hF⟩
/-- Another's turn. -/
theorem RAt.turn {w w' : World} {F G : Nat → Prop} {d : Nat} {D : Dr} (h : RAt w F d D) (ht : Turn w w' G) (hd : ∀ b, F b → ¬ G b) : RAt w' F d D := by
  obtain ⟨B, h, hF⟩ := h
  exact ⟨B, h.same ht.size hF fun b hb hf => ht.block b hb (hd b hf), hF⟩
/-- Two footprints apart stay so: what one has more is new. -/
theorem RLies.In.mono {F G : Nat → Prop} {d : Nat} {B : Blk} {n : Nat} (h : RLies.In F d B n) (hG : ∀ b, F b → G b) : RLies.In G d B n := ⟨hG _ h.d, hG _ h.g, hG _ h.z, hG _ h.c, hG _ h.l, fun i hi b hb => hG _ (h.o i hi b hb)⟩
end Go.Proofs.Ytncbkegflkjlfaa
