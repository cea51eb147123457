/- Behind a loss of power: three drives of a rig and three alone. -/
import Derived.Test.YtncbkegflkjlfaaDoorApM
namespace Go.Proofs.YtncbkegflkjlfaaDoor
open Go.RowKit Zon Drv

def ivl (zs : List Int) : List Value := zs.map (Value.int .i64)
theorem ivl_len (zs : List Int) : (ivl zs).length = zs.length := List.length_map ..
theorem rotL_get {ks : List Int} {i j : Nat} (hj : j < ks.length) : (rotL ks i)[j]? = ks[(i + j) % ks.length]? := by
  have hm : i % ks.length < ks.length := Nat.mod_lt _ (by omega)
  have e : (i + j) % ks.length = (i % ks.length + j) % ks.length := (Nat.mod_add_mod _ _ _).symm
  rw [e]
  unfold rotL
  generalize i % ks.length = p at hm
  by_cases h : p + j < ks.length
  · rw [Nat.mod_eq_of_lt h, List.getElem?_append_left (by rw [List.length_drop]; omega), List.getElem?_drop]
  · rw [Nat.mod_eq_sub_mod (by omega), Nat.mod_eq_of_lt (by omega), List.getElem?_append_right (by rw [List.length_drop]; omega), List.length_drop, List.getElem?_take_of_lt (by omega)]
    congr 1
    omega
theorem rotL_step {ks : List Int} {i j : Nat} (hj : j < ks.length) (hp : (i + j) % ks.length < ks.length) : ivl ((rotL ks i).take (j + 1)) = ivl ((rotL ks i).take j) ++ [Value.int .i64 ks[(i + j) % ks.length]] := by
  have h1 := rotL_get (i := i) hj
  rw [List.getElem?_eq_getElem hp] at h1
  have hl : j < (rotL ks i).length := by rw [rotL_len]; exact hj
  rw [List.getElem?_eq_getElem hl] at h1
  have h2 := Option.some.inj h1
  unfold ivl
  rw [List.take_succ_eq_append_getElem hl, List.map_append, h2]
  rfl
theorem lasts_lost {D : Dr} (h : D.Ok) (ks : List Int) (z : Nat) : lastsD (loseD D ks) z = (getM (loseD D ks).m z).l := by
  have hlen : (loseD D ks).m.zs.length = D.m.zs.length := lostL_len _ _ _
  have hls : (loseD D ks).ls.length = D.m.zs.length := ((loseTo_m D ks D.cs.length).2.2.2).trans h.ll
  by_cases hz : z < D.m.zs.length
  · obtain ⟨_, h2, h3, _⟩ := loseD_at h ks hz
    have hb : hasB (loseD D ks).m z = true := Zon.hasB_iff.2 ⟨by omega, by rw [hlen]; omega⟩
    unfold lastsD getM
    rw [if_pos ⟨by omega, by rw [hls]; omega⟩, if_pos hb, Int.toNat_natCast, h2, h3]
  · have hb : hasB (loseD D ks).m z = false := decide_eq_false (by rw [hlen]; omega)
    unfold lastsD getM
    rw [if_neg (by rw [hls]; omega), if_neg (by rw [hb]; simp)]
/-- Behind the loss: each of the rig's has lost; of those alone the first k. -/
def Lo (w W : World) (r qa : Nat) (d : Nat → Nat) (D0 : Nat → Dr) (ks : List Int) (k : Nat) : Prop :=
  ∃ K D cnt, Ap w W K r qa d D cnt ∧ (∀ i, i < 3 → D i = loseD (D0 i) (rotL ks i)) ∧ ∀ i, i < 3 → D (3 + i) = if i < k then loseD (D0 i) (rotL ks i) else D0 i
section
variable {w W : World} {K : Nat → Prop} {r qa : Nat} {d : Nat → Nat} {D D0 : Nat → Dr} {cnt : Int} {ks : List Int}
theorem Lo.start {W' : World} {K' : Nat → Prop} {cnt' : Int} (h : Ap w W' K' r qa d (lostN D ks 3) cnt') (htw : ∀ i, i < 3 → D (3 + i) = D i) : Lo w W' r qa d D ks 0 := by
  refine ⟨K', _, cnt', h, fun i hi => if_pos hi, fun i hi => ?_⟩
  rw [if_neg (Nat.not_lt_zero i)]
  exact (if_neg (by omega)).trans (htw i hi)
theorem Lo.next {W' : World} {K' : Nat → Prop} {k : Nat} (hk : k < 3) (h : Ap w W' K' r qa d (upd D (3 + k) (loseD (D (3 + k)) (rotL ks k))) cnt) (h1 : ∀ i, i < 3 → D i = loseD (D0 i) (rotL ks i)) (h2 : ∀ i, i < 3 → D (3 + i) = if i < k then loseD (D0 i) (rotL ks i) else D0 i) : Lo w W' r qa d D0 ks (k + 1) := by
  refine ⟨K', _, cnt, h, fun i hi => by rw [upd_ne D (by omega)]; exact h1 i hi, fun i hi => ?_⟩
  by_cases e : i = k
  · subst e
    rw [upd_same, h2 i hi, if_neg (Nat.lt_irrefl _), if_pos (Nat.lt_succ_self _)]
  · rw [upd_ne D (by omega), h2 i hi]
    by_cases h3 : i < k
    · rw [if_pos h3, if_pos (by omega)]
    · rw [if_neg h3, if_neg (by omega)]
theorem al_read (i : Nat) (zz a x : Int) (t : ByteArray) (h : Ap w W K r qa d D cnt) (hi : i < 6) (ha : a ≤ 9223372036854775807) (ht : t.size ≤ 9223372036854775807) :
    Calls Tryd.prog 12 #[.pointer (some ⟨d i, 0, none⟩), .agg #[.int .i64 7, .int .i64 zz, .int .i64 a, .int .i64 x], .string t] W fun e w' =>
      e = .returned (.tuple #[.string ⟨(doD (D i) 7 zz a x t.data.toList).1.1.toArray⟩, .int .i64 (doD (D i) 7 zz a x t.data.toList).1.2.1, .int .i64 (doD (D i) 7 zz a x t.data.toList).1.2.2]) ∧ Ap w w' K r qa d D cnt ∧ SameK W w' K := by
  have h1 := al_do i 7 zz a x t h hi ha ht
  have eD : upd D i (doD (D i) 7 zz a x t.data.toList).2 = D := by
    rw [read_same]
    funext j
    unfold upd
    split
    · rename_i e; rw [e]
    · rfl
  rw [eD] at h1
  exact h1
theorem ap_zone (i z : Nat) (h : Ap w W K r qa d D cnt) (hi : i < 3) :
    Calls Tryd.prog 15 #[.pointer (some ⟨r, 0, none⟩), .int .i64 (i : Int), .int .i64 (z : Int)] W fun e w' => e = .returned (.tuple #[.agg #[.int .i64 (getM (D i).m z).s, .int .i64 (getM (D i).m z).l], .bool (hasB (D i).m z)]) ∧ Below W.heap.size W w' := rzone_any i z h.rig hi
theorem al_zone (i z : Nat) (h : Ap w W K r qa d D cnt) (hi : i < 6) :
    Calls Tryd.prog 16 #[.pointer (some ⟨d i, 0, none⟩), .int .i64 (z : Int)] W fun e w' => e = .returned (.tuple #[.agg #[.int .i64 (getM (D i).m z).s, .int .i64 (getM (D i).m z).l], .bool (hasB (D i).m z)]) ∧ Below W.heap.size W w' := fam_zone W i z h.rig.fam hi
theorem al_lasts (i z : Nat) (h : Ap w W K r qa d D cnt) (hi : i < 6) :
    Calls Tryd.prog 17 #[.pointer (some ⟨d i, 0, none⟩), .int .i64 (z : Int)] W fun e w' => e = .returned (.int .i64 (lastsD (D i) z)) ∧ W = w' := fam_lasts W i z h.rig.fam hi
end
end Go.Proofs.YtncbkegflkjlfaaDoor
