/- Zones in memory; what the small functions of zone do. -/
import Derived.Test.YtpmhfalhieinjaaGreatDoorMBase
import Derived.Test.YtpmhfalhieinjaaGreatDoorMZm
import Derived.RangeFuncBox
import Derived.Maps.AppendAt
import Derived.Deep.AppendLies
import Derived.Outline
namespace Go.Proofs.YtpmhfalhieinjaaGreatDoor
open Go.RowKit Zon
/-- The cells of a row of zones. -/
def ZAt (w : World) (z : Nat) (zs : List Zn) : Prop := ∀ i (h : i < zs.length), w.cell? ⟨z, i * 2, none⟩ = some (.int .i64 zs[i].s) ∧ w.cell? ⟨z, i * 2 + 1, none⟩ = some (.int .i64 zs[i].l) ∧ w.frozen? ⟨z, i * 2, none⟩ = false ∧ w.frozen? ⟨z, i * 2 + 1, none⟩ = false
/-- A machine lies in block g, its zones in block z. -/
structure MAt (w : World) (g z : Nat) (m : Mc) : Prop where
  c0 : ∃ cap, w.cell? ⟨g, 0, none⟩ = some (.slice (some ⟨z, 0, none⟩) m.zs.length cap)
  c1 : w.cell? ⟨g, 1, none⟩ = some (.int .i64 m.b)
  c2 : w.cell? ⟨g, 2, none⟩ = some (.int .i64 m.o)
  c3 : w.cell? ⟨g, 3, none⟩ = some (.int .i64 m.a)
  ne : g ≠ z
  zl : z < w.heap.size
  za : ZAt w z m.zs
theorem MAt.gl {w : World} {g z : Nat} {m : Mc} (h : MAt w g z m) : g < w.heap.size := lt_of_cell h.c1
theorem ZAt.kept {w w' : World} {z : Nat} {zs : List Zn} {row : Option Nat} (h : ZAt w z zs) (hz : z < w.heap.size) (hg : w.grownBy w' row) (hr : row ≠ some z) : ZAt w' z zs := fun i hi => by
  have hb := hg.block z hz (Ne.symm hr)
  obtain ⟨h1, h2, h3, h4⟩ := h i hi
  exact ⟨(World.cell?_of_block (a := ⟨z, i * 2, none⟩) hb).trans h1, (World.cell?_of_block (a := ⟨z, i * 2 + 1, none⟩) hb).trans h2, (World.frozen?_of_block (a := ⟨z, i * 2, none⟩) hb).trans h3, (World.frozen?_of_block (a := ⟨z, i * 2 + 1, none⟩) hb).trans h4⟩
theorem MAt.kept {w w' : World} {g z : Nat} {m : Mc} {row : Option Nat} (h : MAt w g z m) (hg : w.grownBy w' row) (hz : row ≠ some z) (hg' : row ≠ some g) : MAt w' g z m := by
  have hb := hg.block g h.gl (Ne.symm hg')
  obtain ⟨⟨cap, c0⟩, c1, c2, c3, ne, zl, za⟩ := h
  exact ⟨⟨cap, (World.cell?_of_block (a := ⟨g, 0, none⟩) hb).trans c0⟩, (World.cell?_of_block (a := ⟨g, 1, none⟩) hb).trans c1, (World.cell?_of_block (a := ⟨g, 2, none⟩) hb).trans c2, (World.cell?_of_block (a := ⟨g, 3, none⟩) hb).trans c3, ne,
    Nat.lt_of_lt_of_le zl hg.size, za.kept zl hg hz⟩
theorem grown_of_below {w w' : World} (h : Below w.heap.size w w') (row : Option Nat) : w.grownBy w' row := ⟨h.os, h.tape, h.output, h.size, fun k hk _ => h.block k hk⟩
theorem MAt.below {w w' : World} {g z : Nat} {m : Mc} (h : MAt w g z m) (hb : Below w.heap.size w w') : MAt w' g z m := h.kept (grown_of_below hb none) (by simp) (by simp)
theorem grownBy_set (w : World) (a : Addr) (u : Value) : w.grownBy (w.setCell a u) (some a.block) :=
  ⟨rfl, rfl, rfl, by simp [World.setCell], fun k _ hk => Below.heap_setCell _ _ _ _ (fun e => hk (by rw [e]))⟩
/-- A store into a zone. -/
theorem MAt.set_s {w : World} {g z : Nat} {m : Mc} (h : MAt w g z m) {i : Nat} (hi : i < m.zs.length) (x : Int) : MAt (w.setCell ⟨z, i * 2, none⟩ (.int .i64 x)) g z (m.with (m.zs.set i ⟨x, (zAt m.zs i).l⟩)) := by
  have hb := (grownBy_set w ⟨z, i * 2, none⟩ (.int .i64 x)).block g h.gl (by simpa using h.ne)
  obtain ⟨⟨cap, c0⟩, c1, c2, c3, ne, zl, za⟩ := h
  refine ⟨⟨cap, ?_⟩, (World.cell?_of_block (a := ⟨g, 1, none⟩) hb).trans c1, (World.cell?_of_block (a := ⟨g, 2, none⟩) hb).trans c2, (World.cell?_of_block (a := ⟨g, 3, none⟩) hb).trans c3, ne, by simpa [World.setCell] using zl, ?_⟩
  · show _ = some (Value.slice _ (m.zs.set i _).length cap)
    rw [List.length_set]
    exact (World.cell?_of_block (a := ⟨g, 0, none⟩) hb).trans c0
  · intro j hj
    have hj' : j < m.zs.length := by simpa [Mc.with] using hj
    obtain ⟨h1, h2, h3, h4⟩ := za j hj'
    obtain ⟨k1, k2, k3, k4⟩ := za i hi
    simp only [World.frozen?_setCell]
    refine ⟨?_, ?_, h3, h4⟩
    · by_cases e : i = j
      · subst e
        rw [World.cell?_setCell_same' _ _ _ (by rw [k1]; rfl)]
        simp [Mc.with]
      · rw [World.cell?_setCell_other _ _ _ _ (by intro e'; injection e' with _ e'; omega), h1]
        simp [Mc.with, List.getElem_set_ne e]
    · rw [World.cell?_setCell_other _ _ _ _ (by intro e'; injection e' with _ e'; omega), h2]
      by_cases e : i = j
      · subst e
        simp [Mc.with, zAt_get hi]
      · simp [Mc.with, List.getElem_set_ne e]
theorem MAt.set_l {w : World} {g z : Nat} {m : Mc} (h : MAt w g z m) {i : Nat} (hi : i < m.zs.length) (x : Int) : MAt (w.setCell ⟨z, i * 2 + 1, none⟩ (.int .i64 x)) g z (m.with (m.zs.set i ⟨(zAt m.zs i).s, x⟩)) := by
  have hb := (grownBy_set w ⟨z, i * 2 + 1, none⟩ (.int .i64 x)).block g h.gl (by simpa using h.ne)
  obtain ⟨⟨cap, c0⟩, c1, c2, c3, ne, zl, za⟩ := h
  refine ⟨⟨cap, ?_⟩, (World.cell?_of_block (a := ⟨g, 1, none⟩) hb).trans c1, (World.cell?_of_block (a := ⟨g, 2, none⟩) hb).trans c2, (World.cell?_of_block (a := ⟨g, 3, none⟩) hb).trans c3, ne, by simpa [World.setCell] using zl, ?_⟩
  · show _ = some (Value.slice _ (m.zs.set i _).length cap)
    rw [List.length_set]
    exact (World.cell?_of_block (a := ⟨g, 0, none⟩) hb).trans c0
  · intro j hj
    have hj' : j < m.zs.length := by simpa [Mc.with] using hj
    obtain ⟨h1, h2, h3, h4⟩ := za j hj'
    obtain ⟨k1, k2, k3, k4⟩ := za i hi
    simp only [World.frozen?_setCell]
    refine ⟨?_, ?_, h3, h4⟩
    · rw [World.cell?_setCell_other _ _ _ _ (by intro e'; injection e' with _ e'; omega), h1]
      by_cases e : i = j
      · subst e
        simp [Mc.with, zAt_get hi]
      · simp [Mc.with, List.getElem_set_ne e]
    · by_cases e : i = j
      · subst e
        rw [World.cell?_setCell_same' _ _ _ (by rw [k2]; rfl)]
        simp [Mc.with]
      · rw [World.cell?_setCell_other _ _ _ _ (by intro e'; injection e' with _ e'; omega), h2]
        simp [Mc.with, List.getElem_set_ne e]
theorem bput {B : Nat} {a w : World} (h : Below B a w) {b : Nat} (hb : B ≤ b) {o : Nat} {v : Value} : Below B a (w.setCell ⟨b, o, none⟩ v) := h.setCell (by exact hb) v
/-- What a call of a machine's does to memory: its own zones alone may turn. -/
def Only (w w' : World) (z : Nat) : Prop := w.grownBy w' (some z)
theorem Only.refl (w : World) (z : Nat) : Only w w z := ⟨rfl, rfl, rfl, Nat.le_refl _, fun _ _ _ => rfl⟩
theorem Only.trans {a b c : World} {z : Nat} (h : Only a b z) (k : Only b c z) : Only a c z :=
  ⟨k.os.trans h.os, k.tape.trans h.tape, k.output.trans h.output, Nat.le_trans h.size k.size, fun i hi hn => (k.block i (Nat.lt_of_lt_of_le hi h.size) hn).trans (h.block i hi hn)⟩
theorem Only.of_below {w w' : World} (h : Below w.heap.size w w') (z : Nat) : Only w w' z := grown_of_below h _
theorem Only.alloc {a w : World} {z : Nat} (h : Only a w z) (o : Obj) : Only a (w.alloc o) z := h.trans (World.grownBy_alloc _ _ _)
theorem Only.set {a w : World} {z : Nat} (h : Only a w z) (o : Nat) (u : Value) : Only a (w.setCell ⟨z, o, none⟩ u) z := h.trans (grownBy_set w ⟨z, o, none⟩ u)
theorem Only.drew {a w : World} {z : Nat} (h : Only a w z) : Only a w.drew z := h.trans ⟨rfl, rfl, rfl, Nat.le_refl _, fun _ _ _ => rfl⟩
theorem Only.drewN {a w : World} {z : Nat} (h : Only a w z) (n : Nat) : Only a (w.drewN n) z := h.trans ⟨rfl, rfl, rfl, Nat.le_refl _, fun _ _ _ => rfl⟩
theorem Only.cell {w w' : World} {z : Nat} (h : Only w w' z) {b o : Nat} {v : Value} (hc : w.cell? ⟨b, o, none⟩ = some v) (hb : b ≠ z) : w'.cell? ⟨b, o, none⟩ = some v :=
  (World.cell?_of_block (a := ⟨b, o, none⟩) (h.block b (lt_of_cell hc) (by simpa using hb))).trans hc
theorem Only.below {w w' : World} {z : Nat} (h : Only w w' z) {B : Nat} (hB : B ≤ z) (hw : B ≤ w.heap.size) : Below B w w' := ⟨h.os, h.tape, h.output, h.size, fun k hk => h.block k (by omega) (by simp; omega)⟩
theorem Only.frozen {w w' : World} {z : Nat} (h : Only w w' z) {b o : Nat} (hlt : b < w.heap.size) (hb : b ≠ z) : w'.frozen? ⟨b, o, none⟩ = w.frozen? ⟨b, o, none⟩ :=
  World.frozen?_of_block (a := ⟨b, o, none⟩) (h.block b hlt (by simpa using hb))
theorem MAt.only {w w' : World} {g z z' : Nat} {m : Mc} (h : MAt w g z m) (hg : Only w w' z') (hz : z' ≠ z) (hg' : z' ≠ g) : MAt w' g z m := h.kept hg (by simpa using hz) (by simpa using hg')
end Go.Proofs.YtpmhfalhieinjaaGreatDoor
namespace Go.Proofs.YtpmhfalhieinjaaGreatDoor
open Go.RowKit Zon
theorem isOpen_any (s l : Int) (w : World) :
    Calls Tryz.prog 143 #[.agg #[.int .i64 s, .int .i64 l]] w fun e w' => e = .returned (.bool (openB s)) ∧ Below w.heap.size w w' := by
  by_cases h1 : s = 1
  · subst h1
    go_enter Tryz.func143, Tryz.ntmps143
    go_wp2
    go_ret
    exact ⟨rfl, (Below.refl _ _).alloc (Nat.le_refl _) _⟩
  · have e1 : (s == 1) = false := by simp [h1]
    have e2 : openB s = (s == 2) := by simp [openB, e1]
    rw [e2]
    clear e2
    go_enter Tryz.func143, Tryz.ntmps143
    go_wp2
    go_ret
    exact ⟨rfl, (Below.refl _ _).alloc (Nat.le_refl _) _⟩
theorem isActive_any (s l : Int) (w : World) :
    Calls Tryz.prog 130 #[.agg #[.int .i64 s, .int .i64 l]] w fun e w' => e = .returned (.bool (actB s)) ∧ Below w.heap.size w w' := by
  have ho := Lib.hid (fun W => isOpen_any s l W)
  unfold actB
  generalize openB s = p at ho ⊢
  cases p with
  | true =>
    go_enter Tryz.func130, Tryz.ntmps130
    go_wp2_with (go_at_call 143; refine (ho.out _).mono ?_; rintro e w1 ⟨rfl, hb⟩)
    go_ret
    exact ⟨rfl, ((Below.refl _ _).alloc (Nat.le_refl _) _).trans (hb.mono (by simp))⟩
  | false =>
    go_enter Tryz.func130, Tryz.ntmps130
    go_wp2_with (go_at_call 143; refine (ho.out _).mono ?_; rintro e w1 ⟨rfl, hb⟩; obtain ⟨hc, hf⟩ := bcell hb)
    go_ret
    exact ⟨rfl, ((Below.refl _ _).alloc (Nat.le_refl _) _).trans (hb.mono (by simp))⟩
theorem within_any (a n limit : Int) (w : World) (hl : 0 ≤ limit) (hl2 : limit ≤ 4096) (ha : a ≤ 9223372036854775807) :
    Calls Tryz.prog 144 #[.int .i64 a, .int .i64 n, .int .i64 limit] w fun e w' => e = .returned (.bool (withinB a n limit)) ∧ w = w' := by
  by_cases h1 : 0 ≤ a
  · by_cases h2 : 1 ≤ n
    · have e : withinB a n limit = decide (n ≤ limit - a) := by
        unfold withinB
        rw [decide_eq_decide]
        omega
      rw [e]
      clear e
      go_enter Tryz.func144, Tryz.ntmps144
      go_wp2
      go_ret
      exact ⟨rfl, rfl⟩
    · have e : withinB a n limit = false := decide_eq_false (by omega)
      rw [e]
      clear e
      go_enter Tryz.func144, Tryz.ntmps144
      go_wp2
      go_ret
      exact ⟨rfl, rfl⟩
  · have e : withinB a n limit = false := decide_eq_false (by omega)
    rw [e]
    clear e
    go_enter Tryz.func144, Tryz.ntmps144
    go_wp2
    go_ret
    exact ⟨rfl, rfl⟩
theorem has_any' (g z : Nat) (m : Mc) (x : Int) (w : World) (hM : MAt w g z m) :
    Calls Tryz.prog 120 #[.pointer (some ⟨g, 0, none⟩), .int .i64 x] w fun e w' => e = .returned (.bool (hasB m x)) ∧ w = w' := by
  obtain ⟨⟨cap, c0⟩, _, _, _, _, _, _⟩ := hM
  by_cases h1 : 0 ≤ x
  · have e : hasB m x = decide (x < m.zs.length) := by
      unfold hasB
      rw [decide_eq_decide]
      omega
    rw [e]
    clear e
    go_enter Tryz.func120, Tryz.ntmps120
    go_wp2
    go_ret
    exact ⟨rfl, rfl⟩
  · have e : hasB m x = false := decide_eq_false (by omega)
    rw [e]
    clear e
    go_enter Tryz.func120, Tryz.ntmps120
    go_wp2
    go_ret
    exact ⟨rfl, rfl⟩
theorem shut_any (g z : Nat) (m : Mc) (i : Nat) (w : World) (hM : MAt w g z m) (hi : i < m.zs.length) :
    Calls Tryz.prog 131 #[.pointer (some ⟨z, i * 2, none⟩)] w fun e w' => e = .returned (.tuple #[]) ∧ MAt w' g z (m.with (m.zs.set i (shutZ (zAt m.zs i)))) ∧ Only w w' z := by
  obtain ⟨h1, h2, h3, h4⟩ := hM.za i hi
  have hMH := Lib.hid hM
  rw [← zAt_get hi] at h1 h2
  generalize hz : zAt m.zs i = y at h1 h2 ⊢
  have hzH := Lib.hid hz
  clear hz hM
  by_cases h0 : y.l = 0
  · go_enter Tryz.func131, Tryz.ntmps131
    go_wp2
    go_end0
    refine ⟨rfl, ?_, ((Only.refl _ _).set _ _).set _ _⟩
    have h5 := (hMH.out.set_s hi 3).set_s (i := i) (by simpa [Mc.with] using hi) 0
    have e : ((m.with (m.zs.set i ⟨3, (zAt m.zs i).l⟩)).with ((m.with (m.zs.set i ⟨3, (zAt m.zs i).l⟩)).zs.set i ⟨0, (zAt (m.with (m.zs.set i ⟨3, (zAt m.zs i).l⟩)).zs i).l⟩)) = m.with (m.zs.set i (shutZ y)) := by
      show m.with ((m.zs.set i _).set i ⟨0, (zAt (m.zs.set i _) i).l⟩) = _
      rw [zAt_set_same hi, List.set_set, hzH.out]
      simp [shutZ, h0]
    rw [e] at h5
    exact h5
  · have h0' : (y.l == 0) = false := by simp [h0]
    go_enter Tryz.func131, Tryz.ntmps131
    go_wp2
    go_end0
    refine ⟨rfl, ?_, (Only.refl _ _).set _ _⟩
    have h5 := hMH.out.set_s hi 3
    rw [hzH.out] at h5
    have e : shutZ y = ⟨3, y.l⟩ := by simp [shutZ, h0]
    rw [e]
    exact h5
theorem get_any (g z : Nat) (m : Mc) (x : Int) (w : World) (hM : MAt w g z m) :
    Calls Tryz.prog 106 #[.pointer (some ⟨g, 0, none⟩), .int .i64 x] w fun e w' => e = .returned (.tuple #[.agg #[.int .i64 (getM m x).s, .int .i64 (getM m x).l], .bool (hasB m x)]) ∧ Below w.heap.size w w' := by
  have hh := fun W (hb : Below w.heap.size w W) => has_any' g z m x W (hM.below hb)
  unfold getM
  have hcell : hasB m x = true → ∃ (i : Nat), x = (i : Int) ∧ i < m.zs.length := fun h => ⟨x.toNat, by have := hasB_iff.1 h; omega, by have := hasB_iff.1 h; omega⟩
  have hbx := hasB_iff (m := m) (zz := x)
  generalize hasB m x = p at hh hcell hbx ⊢
  have hhH := Lib.hid hh
  have hMH := Lib.hid hM
  clear hh hM
  cases p with
  | false =>
    clear hcell hbx
    go_enter Tryz.func106, Tryz.ntmps106
    have hBa : Below w.heap.size w (w.alloc (.cells #[.int .i64 0, .int .i64 0] 118)) := (Below.refl _ _).alloc (Nat.le_refl _) _
    go_wp2_with (go_at_call 120; refine (hhH.out _ hBa).mono ?_; rintro e w1 ⟨rfl, rfl⟩)
    refine bodyPost_ret (v := .tuple #[.agg #[.int .i64 0, .int .i64 0], .bool false]) (by simp [results, Tryz.results106, go_sem]) rfl ⟨rfl, ?_⟩
    exact (Below.refl _ _).alloc (Nat.le_refl _) _
  | true =>
    obtain ⟨i, rfl, hi⟩ := hcell rfl
    clear hcell hbx
    obtain ⟨⟨cap, c0⟩, _, _, _, hne, hzl, hza⟩ := hMH.out
    obtain ⟨h1, h2, _, _⟩ := hza i hi
    rw [← zAt_get hi] at h1 h2
    simp only [if_true, Int.toNat_natCast]
    generalize zAt m.zs i = y at h1 h2 ⊢
    have hgl := lt_of_cell c0
    clear hza
    go_enter Tryz.func106, Tryz.ntmps106
    have hBa : Below w.heap.size w (w.alloc (.cells #[.int .i64 0, .int .i64 0] 118)) := (Below.refl _ _).alloc (Nat.le_refl _) _
    go_wp2_with (go_at_call 120; refine (hhH.out _ hBa).mono ?_; rintro e w1 ⟨rfl, rfl⟩)
    refine bodyPost_ret (v := .tuple #[.agg #[.int .i64 y.s, .int .i64 y.l], .bool true]) (by simp [results, Tryz.results106, go_sem]) rfl ⟨rfl, ?_⟩
    exact (Below.refl _ _).alloc (Nat.le_refl _) _
end Go.Proofs.YtpmhfalhieinjaaGreatDoor
namespace Go.Proofs.YtpmhfalhieinjaaGreatDoor
open Go.RowKit Zon
set_option maxHeartbeats 1000000 in
theorem counts_any (g z : Nat) (m : Mc) (w : World) (hM : MAt w g z m) (hl : m.zs.length ≤ 64) :
    Calls Tryz.prog 149 #[.pointer (some ⟨g, 0, none⟩)] w fun e w' => e = .returned (.tuple #[.int .i64 (nOpen m.zs : Int), .int .i64 (nAct m.zs : Int)]) ∧ Below w.heap.size w w' := by
  obtain ⟨⟨cap, c0⟩, _, _, _, hne, hzl, hza⟩ := hM
  have hzH := Lib.hid hza
  clear hza
  go_enter Tryz.func149, Tryz.ntmps149
  go_wp2
  go_loopw [4, 5, 15] (fun o a i wr => ∃ k : Nat, k ≤ m.zs.length ∧ i = .int .i64 (k : Int) ∧ o = .int .i64 (nOpen (m.zs.take k) : Int) ∧ a = .int .i64 (nAct (m.zs.take k) : Int) ∧ Below w.heap.size w wr) (fun _ _ i _ => m.zs.length - (intOf i).toNat)
  case atStart => exact ⟨0, by omega, rfl, rfl, rfl, Below.refl _ _⟩
  case round =>
    obtain ⟨k, hk, rfl, rfl, rfl, hB⟩ := hrel
    have hno := nOpen_le m.zs k
    have hna := nAct_le m.zs k
    by_cases hlt : k < m.zs.length
    · obtain ⟨h1, h2, _, _⟩ := hzH.out k hlt
      rw [← zAt_get hlt] at h1 h2
      have t1 := (hB.cell (p := ⟨z, k * 2, none⟩) hzl).trans h1
      have t2 := (hB.cell (p := ⟨z, k * 2 + 1, none⟩) hzl).trans h2
      have e1 := Lib.hid (nOpen_take hlt)
      have e2 := Lib.hid (nAct_take hlt)
      have ho := Lib.hid (fun W => isOpen_any (zAt m.zs k).s (zAt m.zs k).l W)
      have ha := Lib.hid (fun W => isActive_any (zAt m.zs k).s (zAt m.zs k).l W)
      generalize zAt m.zs k = y at t1 t2 e1 e2 ho ha
      clear h1 h2
      have hzw := lt_of_cell t1
      generalize nOpen (m.zs.take k) = no at hno e1 ⊢
      generalize nAct (m.zs.take k) = na at hna e2 ⊢
      generalize openB y.s = p at e1 ho
      generalize actB y.s = q at e2 ha
      cases p <;> cases q
      all_goals
        go_wp2_with (first | (go_at_call 143; refine (ho.out _).mono ?_; rintro e w1 ⟨rfl, hb1⟩; obtain ⟨hc1, hf1⟩ := bcell hb1; have hs1 : wr.heap.size < w1.heap.size := (by have := hb1.size; simp at this; omega)) | (go_at_call 130; refine (ha.out _).mono ?_; rintro e w2 ⟨rfl, hb2⟩))
        have hbw := (hB.alloc hB.size _).trans ((hb1.mono (by simp; exact Nat.le_trans hB.size (Nat.le_succ _))).trans (hb2.mono (by have := hB.size; omega)))
        go_roundw
        case rel => exact ⟨k + 1, by omega, by go_num, by rw [e1.out]; simp, by rw [e2.out]; simp, hbw⟩
        case measure => simp [intOf]; omega
    · obtain rfl : k = m.zs.length := by omega
      rw [List.take_length] at hno hna ⊢
      go_wp2
      go_ret2
      exact ⟨rfl, hB⟩
set_option maxHeartbeats 1000000 in
theorem shutFirst_any (g z : Nat) (m : Mc) (w : World) (hM : MAt w g z m) (hl : m.zs.length ≤ 64) :
    Calls Tryz.prog 150 #[.pointer (some ⟨g, 0, none⟩)] w fun e w' => e = .returned (.int .i64 (shutFirst m.zs).1) ∧ MAt w' g z (m.with (shutFirst m.zs).2) ∧ Only w w' z := by
  have hMH := Lib.hid hM
  obtain ⟨⟨cap, c0⟩, _, _, _, hne, hzl, hza⟩ := hM
  have hzH := Lib.hid hza
  clear hza
  go_enter Tryz.func150, Tryz.ntmps150
  go_wp2
  go_loop [10] (fun i => ∃ k : Nat, k ≤ m.zs.length ∧ i = .int .i64 (k : Int) ∧ ∀ j, j < k → (zAt m.zs j).s ≠ 1) (fun i => m.zs.length - (intOf i).toNat)
  case atStart => exact ⟨0, by omega, rfl, fun j hj => absurd hj (by omega)⟩
  case round =>
    obtain ⟨k, hk, rfl, hno⟩ := hrel
    have hnoH := Lib.hid hno
    clear hno
    by_cases hlt : k < m.zs.length
    · obtain ⟨h1, h2, _, _⟩ := hzH.out k hlt
      rw [← zAt_get hlt] at h1 h2
      by_cases hs : (zAt m.zs k).s = 1
      · have hsh := Lib.hid (shut_any g z m k w hMH.out hlt)
        have he := Lib.hid (shutFirst_hit m.zs k hnoH.out hlt hs)
        rw [hs] at h1
        clear hs h2
        go_wp2_with (go_at_call 131; refine hsh.out.mono ?_; rintro e w1 ⟨rfl, hM1, ho1⟩)
        go_ret
        exact ⟨by rw [he.out]; rfl, by rw [he.out]; exact hM1, ho1⟩
      · have hd : ((zAt m.zs k).s == 1) = false := by simp [hs]
        have hn2 : ∀ j, j < k + 1 → (zAt m.zs j).s ≠ 1 := fun j hj => by
          by_cases e : j = k
          · subst e; exact hs
          · exact hnoH.out j (by omega)
        have hn2H := Lib.hid hn2
        clear hn2 hs
        go_wp2
        go_round
        case rel => exact ⟨k + 1, by omega, by go_num, hn2H.out⟩
        case measure => simp [intOf]; omega
    · obtain rfl : k = m.zs.length := by omega
      have he := Lib.hid (shutFirst_none m.zs hnoH.out)
      go_wp2
      go_ret
      exact ⟨by rw [he.out]; rfl, by rw [he.out]; exact hMH.out, Only.refl _ _⟩
set_option maxHeartbeats 1000000 in
theorem admit_any (g z : Nat) (m : Mc) (i : Nat) (w : World) (hM : MAt w g z m) (hl : m.zs.length ≤ 64) (hi : i < m.zs.length) :
    Calls Tryz.prog 146 #[.pointer (some ⟨g, 0, none⟩), .pointer (some ⟨z, i * 2, none⟩)] w fun e w' => e = .returned (.int .i64 (admit m i).1) ∧ MAt w' g z (m.with (admit m i).2) ∧ Only w w' z := by
  have hop := Lib.hid (fun W => isOpen_any (zAt m.zs i).s (zAt m.zs i).l W)
  have hct := Lib.hid (fun W (hb : Below w.heap.size w W) => counts_any g z m W (hM.below hb) hl)
  have hsi := Lib.hid (fun W (hb : Below w.heap.size w W) => shutFirst_any g z m W (hM.below hb) hl)
  have hMb := Lib.hid (fun W (hb : Below w.heap.size w W) => hM.below hb)
  obtain ⟨⟨cap, c0⟩, c1, c2, c3, hne, hzl, hza⟩ := hM
  obtain ⟨h1, h2, _, _⟩ := hza i hi
  rw [← zAt_get hi] at h1 h2
  have hno := nOpen_max m.zs
  have hna := nAct_max m.zs
  unfold admit
  clear hza
  generalize nOpen m.zs = no at hno hct ⊢
  generalize nAct m.zs = na at hna hct ⊢
  generalize zAt m.zs i = y at h1 h2 hop ⊢
  have hgl := lt_of_cell c0
  by_cases hp : openB y.s = true
  · rw [hp] at hop
    rw [if_pos hp]
    clear hp
    go_enter Tryz.func146, Tryz.ntmps146
    go_wp2_with (go_at_call 143; refine (hop.out _).mono ?_; rintro e w1 ⟨rfl, hb1⟩)
    go_ret
    exact ⟨rfl, hMb.out _ hb1, Only.of_below hb1 _⟩
  · rw [show openB y.s = false by simpa using hp] at hop
    rw [if_neg hp]
    clear hp
    by_cases h5 : y.s = 0 ∧ m.a ≤ na
    · rw [if_pos h5]
      obtain ⟨h50, h51⟩ := h5
      rw [h50] at h1 hop
      clear h50
      go_enter Tryz.func146, Tryz.ntmps146
      go_wp2_with (first | (go_at_call 143; refine (hop.out _).mono ?_; rintro e w1 ⟨rfl, hb1⟩) | (go_at_call 149; refine (hct.out _ hb1).mono ?_; rintro e w2 ⟨rfl, hb2⟩; have hb3 := bmore hb1 hb2; obtain ⟨hc, hf⟩ := bcell hb3))
      go_ret
      exact ⟨rfl, hMb.out _ hb3, Only.of_below hb3 _⟩
    · rw [if_neg h5]
      have hways : (y.s = 0 ∧ ¬ m.a ≤ na) ∨ (y.s == 0) = false := by
        by_cases h : y.s = 0
        · left; exact ⟨h, fun h' => h5 ⟨h, h'⟩⟩
        · right; simp [h]
      clear h5
      by_cases h6 : (no : Int) < m.o
      · rw [if_pos h6]
        rcases hways with ⟨h50, h51⟩ | h50
        · rw [h50] at h1 hop
          clear h50
          go_enter Tryz.func146, Tryz.ntmps146
          go_wp2_with (first | (go_at_call 143; refine (hop.out _).mono ?_; rintro e w1 ⟨rfl, hb1⟩) | (go_at_call 149; refine (hct.out _ hb1).mono ?_; rintro e w2 ⟨rfl, hb2⟩; have hb3 := bmore hb1 hb2; obtain ⟨hc, hf⟩ := bcell hb3))
          go_ret
          exact ⟨rfl, hMb.out _ hb3, Only.of_below hb3 _⟩
        · go_enter Tryz.func146, Tryz.ntmps146
          go_wp2_with (first | (go_at_call 143; refine (hop.out _).mono ?_; rintro e w1 ⟨rfl, hb1⟩) | (go_at_call 149; refine (hct.out _ hb1).mono ?_; rintro e w2 ⟨rfl, hb2⟩; have hb3 := bmore hb1 hb2; obtain ⟨hc, hf⟩ := bcell hb3))
          go_ret
          exact ⟨rfl, hMb.out _ hb3, Only.of_below hb3 _⟩
      · rw [if_neg h6]
        rcases hways with ⟨h50, h51⟩ | h50
        · rw [h50] at h1 hop
          clear h50
          go_enter Tryz.func146, Tryz.ntmps146
          go_wp2_with (first | (go_at_call 143; refine (hop.out _).mono ?_; rintro e w1 ⟨rfl, hb1⟩) | (go_at_call 149; refine (hct.out _ hb1).mono ?_; rintro e w2 ⟨rfl, hb2⟩; have hb3 := bmore hb1 hb2; obtain ⟨hc, hf⟩ := bcell hb3) | (go_at_call 150; refine (hsi.out _ hb3).mono ?_; rintro e w4 ⟨rfl, hM4, ho4⟩))
          go_ret
          exact ⟨rfl, hM4, (Only.of_below hb3 _).trans ho4⟩
        · go_enter Tryz.func146, Tryz.ntmps146
          go_wp2_with (first | (go_at_call 143; refine (hop.out _).mono ?_; rintro e w1 ⟨rfl, hb1⟩) | (go_at_call 149; refine (hct.out _ hb1).mono ?_; rintro e w2 ⟨rfl, hb2⟩; have hb3 := bmore hb1 hb2; obtain ⟨hc, hf⟩ := bcell hb3) | (go_at_call 150; refine (hsi.out _ hb3).mono ?_; rintro e w4 ⟨rfl, hM4, ho4⟩))
          go_ret
          exact ⟨rfl, hM4, (Only.of_below hb3 _).trans ho4⟩
end Go.Proofs.YtpmhfalhieinjaaGreatDoor
namespace Go.Proofs.YtpmhfalhieinjaaGreatDoor
open Go.RowKit Zon
theorem MAt.drewN {w : World} {g z : Nat} {m : Mc} (h : MAt w g z m) (n : Nat) : MAt (w.drewN n) g z m := h.below (below_drewN (Below.refl _ _) n)
theorem MAt.cells {w : World} {g z : Nat} {m : Mc} (h : MAt w g z m) {i : Nat} (hi : i < m.zs.length) : w.cell? ⟨z, i * 2, none⟩ = some (.int .i64 (zAt m.zs i).s) ∧ w.cell? ⟨z, i * 2 + 1, none⟩ = some (.int .i64 (zAt m.zs i).l) ∧ w.frozen? ⟨z, i * 2, none⟩ = false ∧ w.frozen? ⟨z, i * 2 + 1, none⟩ = false := by
  rw [zAt_get hi]; exact h.za i hi
theorem MAt.cellsW {w : World} {g z : Nat} {m : Mc} {zs : List Zn} (h : MAt w g z (m.with zs)) {i : Nat} (hi : i < zs.length) : w.cell? ⟨z, i * 2, none⟩ = some (.int .i64 (zAt zs i).s) ∧ w.cell? ⟨z, i * 2 + 1, none⟩ = some (.int .i64 (zAt zs i).l) ∧ w.frozen? ⟨z, i * 2, none⟩ = false ∧ w.frozen? ⟨z, i * 2 + 1, none⟩ = false := h.cells hi
theorem MAt.put_s {w : World} {g z : Nat} {m : Mc} (h : MAt w g z m) {i : Nat} (hi : i < m.zs.length) (x : Int) {zs : List Zn} (he : m.zs.set i ⟨x, (zAt m.zs i).l⟩ = zs) : MAt (w.setCell ⟨z, i * 2, none⟩ (.int .i64 x)) g z (m.with zs) := he ▸ h.set_s hi x
theorem MAt.both {w : World} {g z : Nat} {m : Mc} (h : MAt w g z m) {i : Nat} (hi : i < m.zs.length) (x y : Int) : MAt ((w.setCell ⟨z, i * 2, none⟩ (.int .i64 x)).setCell ⟨z, i * 2 + 1, none⟩ (.int .i64 y)) g z (m.with (m.zs.set i ⟨x, y⟩)) := by
  have h1 := (h.set_s hi x).set_l (i := i) (by simpa [Mc.with] using hi) y
  have e : ((m.with (m.zs.set i ⟨x, (zAt m.zs i).l⟩)).with ((m.with (m.zs.set i ⟨x, (zAt m.zs i).l⟩)).zs.set i ⟨(zAt (m.with (m.zs.set i ⟨x, (zAt m.zs i).l⟩)).zs i).s, y⟩)) = m.with (m.zs.set i ⟨x, y⟩) := by
    show m.with ((m.zs.set i _).set i ⟨(zAt (m.zs.set i _) i).s, y⟩) = _
    rw [zAt_set_same hi, List.set_set]
  rw [e] at h1
  exact h1
set_option maxHeartbeats 1000000 in
theorem ext_any (g z : Nat) (m : Mc) (i : Nat) (n : Int) (w : World) (hM : MAt w g z m) (hok : m.Ok) (hi : i < m.zs.length) (hn : 1 ≤ n) (hn2 : n ≤ 4096) :
    Calls Tryz.prog 145 #[.pointer (some ⟨g, 0, none⟩), .pointer (some ⟨z, i * 2, none⟩), .int .i64 n] w fun e w' => e = .returned (.tuple #[.int .i64 (ext m i n).1, .int .i64 (ext m i n).2.1]) ∧ MAt w' g z (m.with (ext m i n).2.2) ∧ Only w w' z := by
  have had := Lib.hid (admit_any g z m i w hM hok.z2 hi)
  have hzo := hok.put (admit_len m i) (admit_ok hok i)
  have hlen := admit_len m i
  unfold ext
  have herr := admit_err m i
  generalize hzs : (admit m i).2 = zs at had hzo hlen herr ⊢
  clear hzs
  rcases herr with he | ⟨he, rfl⟩
  · rw [he] at had
    rw [if_pos he]
    have hi1 : i < zs.length := by omega
    have hz1 : zOk m.b (zAt zs i) := hzo.zz _ (zAt_mem hi1)
    have hb2 := hok.b2
    unfold zOk at hz1
    have hz2 := hz1.1
    have hz3 := hz1.2.1
    clear hz1 he hlen hM hzo
    generalize hy : zAt zs i = y at hz2 hz3 ⊢
    have hyH := Lib.hid hy
    clear hy
    unfold extZ
    by_cases h1 : y.l + n = m.b
    · rw [if_pos h1]
      have h1' : (y.l + n == m.b) = true := by simp [h1]
      clear h1
      go_enter Tryz.func145, Tryz.ntmps145
      go_wp2_with (go_at_call 146; refine had.out.mono ?_; rintro e w1 ⟨rfl, hM1, ho1⟩; obtain ⟨k1, k2, k3, k4⟩ := hM1.cellsW (i := i) hi1; rw [hyH.out] at k1 k2)
      refine fresh_world (fun W => MAt W g z (m.with (zs.set i ⟨y.s, y.l + n⟩)) ∧ Only w W z) ⟨by have h5 := hM1.set_l hi1 (y.l + n); rw [show zAt (m.with zs).zs i = y from hyH.out] at h5; exact h5, ho1.set _ _⟩ ?_
      rintro W2 ⟨hM2, ho2⟩
      clear k1 k2 k3 k4 hM1 ho1 had w1
      have hi2 : i < (zs.set i ⟨y.s, y.l + n⟩).length := by simpa using hi1
      obtain ⟨k1, k2, k3, k4⟩ := hM2.cellsW hi2
      have e3 : zAt (zs.set i ⟨y.s, y.l + n⟩) i = ⟨y.s, y.l + n⟩ := zAt_set_same hi1 _
      rw [e3] at k1 k2
      have hgoal : ∀ x, MAt (W2.setCell ⟨z, i * 2, none⟩ (.int .i64 x)) g z (m.with (zs.set i ⟨x, y.l + n⟩)) := fun x => by
        have h5 := hM2.set_s (i := i) hi2 x
        rw [show zAt (m.with (zs.set i ⟨y.s, y.l + n⟩)).zs i = ⟨y.s, y.l + n⟩ from e3, show (m.with (zs.set i ⟨y.s, y.l + n⟩)).zs = zs.set i ⟨y.s, y.l + n⟩ from rfl, List.set_set] at h5
        exact h5
      have hgoalH := Lib.hid hgoal
      have hM2H := Lib.hid hM2
      have c1 : W2.cell? ⟨g, 1, none⟩ = some (.int .i64 m.b) := hM2.c1
      have hne := hM2.ne
      clear e3 hM2 hgoal hi2
      go_quiet (fail)
      go_wp2
      go_ret2
      exact ⟨rfl, (hgoalH.out 4).drewN _, (ho2.set _ _).drewN _⟩
    · rw [if_neg h1]
      have h1' : (y.l + n == m.b) = false := by simp [h1]
      clear h1
      by_cases h2 : y.s = 2
      · rw [if_pos h2]
        have h2H := Lib.hid h2
        clear h2
        go_enter Tryz.func145, Tryz.ntmps145
        go_wp2_with (go_at_call 146; refine had.out.mono ?_; rintro e w1 ⟨rfl, hM1, ho1⟩; obtain ⟨k1, k2, k3, k4⟩ := hM1.cellsW (i := i) hi1; rw [hyH.out] at k1 k2)
        refine fresh_world (fun W => MAt W g z (m.with (zs.set i ⟨y.s, y.l + n⟩)) ∧ Only w W z) ⟨by have h5 := hM1.set_l hi1 (y.l + n); rw [show zAt (m.with zs).zs i = y from hyH.out] at h5; exact h5, ho1.set _ _⟩ ?_
        rintro W2 ⟨hM2, ho2⟩
        clear k1 k2 k3 k4 hM1 ho1 had w1
        have hi2 : i < (zs.set i ⟨y.s, y.l + n⟩).length := by simpa using hi1
        obtain ⟨k1, k2, k3, k4⟩ := hM2.cellsW hi2
        have e3 : zAt (zs.set i ⟨y.s, y.l + n⟩) i = ⟨y.s, y.l + n⟩ := zAt_set_same hi1 _
        rw [e3] at k1 k2
        have hgoal : ∀ x, MAt (W2.setCell ⟨z, i * 2, none⟩ (.int .i64 x)) g z (m.with (zs.set i ⟨x, y.l + n⟩)) := fun x => by
          have h5 := hM2.set_s (i := i) hi2 x
          rw [show zAt (m.with (zs.set i ⟨y.s, y.l + n⟩)).zs i = ⟨y.s, y.l + n⟩ from e3, show (m.with (zs.set i ⟨y.s, y.l + n⟩)).zs = zs.set i ⟨y.s, y.l + n⟩ from rfl, List.set_set] at h5
          exact h5
        have hgoalH := Lib.hid hgoal
        have hM2H := Lib.hid hM2
        have c1 : W2.cell? ⟨g, 1, none⟩ = some (.int .i64 m.b) := hM2.c1
        have hne := hM2.ne
        clear e3 hM2 hgoal hi2
        rw [h2H.out] at k1
        go_quiet (fail)
        go_wp2
        go_ret2
        refine ⟨rfl, ?_, ho2.drewN _⟩
        have := hM2H.out
        rw [h2H.out] at this
        exact this.drewN _
      · rw [if_neg h2]
        have h2' : (y.s != 2) = true := by simp [h2]
        clear h2
        go_enter Tryz.func145, Tryz.ntmps145
        go_wp2_with (go_at_call 146; refine had.out.mono ?_; rintro e w1 ⟨rfl, hM1, ho1⟩; obtain ⟨k1, k2, k3, k4⟩ := hM1.cellsW (i := i) hi1; rw [hyH.out] at k1 k2)
        refine fresh_world (fun W => MAt W g z (m.with (zs.set i ⟨y.s, y.l + n⟩)) ∧ Only w W z) ⟨by have h5 := hM1.set_l hi1 (y.l + n); rw [show zAt (m.with zs).zs i = y from hyH.out] at h5; exact h5, ho1.set _ _⟩ ?_
        rintro W2 ⟨hM2, ho2⟩
        clear k1 k2 k3 k4 hM1 ho1 had w1
        have hi2 : i < (zs.set i ⟨y.s, y.l + n⟩).length := by simpa using hi1
        obtain ⟨k1, k2, k3, k4⟩ := hM2.cellsW hi2
        have e3 : zAt (zs.set i ⟨y.s, y.l + n⟩) i = ⟨y.s, y.l + n⟩ := zAt_set_same hi1 _
        rw [e3] at k1 k2
        have hgoal : ∀ x, MAt (W2.setCell ⟨z, i * 2, none⟩ (.int .i64 x)) g z (m.with (zs.set i ⟨x, y.l + n⟩)) := fun x => by
          have h5 := hM2.set_s (i := i) hi2 x
          rw [show zAt (m.with (zs.set i ⟨y.s, y.l + n⟩)).zs i = ⟨y.s, y.l + n⟩ from e3, show (m.with (zs.set i ⟨y.s, y.l + n⟩)).zs = zs.set i ⟨y.s, y.l + n⟩ from rfl, List.set_set] at h5
          exact h5
        have hgoalH := Lib.hid hgoal
        have hM2H := Lib.hid hM2
        have c1 : W2.cell? ⟨g, 1, none⟩ = some (.int .i64 m.b) := hM2.c1
        have hne := hM2.ne
        clear e3 hM2 hgoal hi2
        go_quiet (fail)
        go_wp2
        go_ret2
        exact ⟨rfl, (hgoalH.out 1).drewN _, (ho2.set _ _).drewN _⟩
  · rw [he] at had
    rw [if_neg (by omega), he]
    clear he hM hzo hlen
    go_enter Tryz.func145, Tryz.ntmps145
    go_wp2_with (go_at_call 146; refine had.out.mono ?_; rintro e w1 ⟨rfl, hM1, ho1⟩)
    go_ret2
    exact ⟨rfl, hM1, ho1⟩
end Go.Proofs.YtpmhfalhieinjaaGreatDoor
