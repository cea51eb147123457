/- Good of array, Size and Range of fit; the document's. -/
import Derived.Test.YtbgkmppngnedlaaFtA
import Derived.Test.YtbgkmppngnedlaaFGeo
namespace Go.Proofs.Ytbgkmppngnedlaa
open Go.RowKit Go.Shelf

/-- Can there be an array of a geometry? -/
def agB (D Z B O A : Int) : Bool := goodB D Z B O A && (decide (4 ≤ A) && decide (11 + D + 3 * (Z - 3) ≤ B))
theorem agB_iff {D Z B O A : Int} : agB D Z B O A = true ↔ GoodP D Z B O A ∧ 4 ≤ A ∧ 11 + D + 3 * (Z - 3) ≤ B := by
  unfold agB
  rw [Bool.and_eq_true, Bool.and_eq_true, goodB_iff, decide_eq_true_eq, decide_eq_true_eq]
theorem geo_new (w : World) (D Z B O A : Int) (t : TypeId) : Hid (GeoAt (w.alloc (.cells #[.int .i64 D, .int .i64 Z, .int .i64 B, .int .i64 O, .int .i64 A] t)) w.heap.size D Z B O A ∧ Below w.heap.size w (w.alloc (.cells #[.int .i64 D, .int .i64 Z, .int .i64 B, .int .i64 O, .int .i64 A] t))) :=
  Lib.hid ⟨GeoAt.new w D Z B O A t, (Below.refl _ _).alloc (Nat.le_refl _) _⟩
theorem geo_drew {w V : World} {b : Nat} {D Z B O A : Int} (h : GeoAt V b D Z B O A ∧ Below w.heap.size w V) : GeoAt V.drew b D Z B O A ∧ Below w.heap.size w V.drew := ⟨h.1.below (Below.refl _ _).drew, h.2.drew⟩
set_option maxRecDepth 100000 in
set_option maxHeartbeats 2000000 in
theorem agood_any (D Z B O A : Int) (w : World) : Calls Try.prog 55 #[.agg #[.int .i64 D, .int .i64 Z, .int .i64 B, .int .i64 O, .int .i64 A]] w fun e w' => e = .returned (.bool (agB D Z B O A)) ∧ Below w.heap.size w w' := by
  have hg := Lib.hid (fun W => good_any D Z B O A W)
  have hz := Lib.hid (fun W => zones_any D Z B O A W)
  have hS1 := Lib.hid (geo_drew (geo_new w D Z B O A 48).out)
  unfold zonesV at hz
  unfold agB
  cases hgb : goodB D Z B O A with
  | false =>
    rw [hgb] at hg
    clear hz hgb
    go_enter Try.func55, Try.ntmps55
    go_upto_region 1 with fail
    have hS := hS1.out
    clear hS1
    refine region_anyC (fun _ => true) (fun V => GeoAt V w.heap.size D Z B O A ∧ Below w.heap.size w V) (by kernel_rfl) ?_
    refine anyL_take 0 (v := ?_) rfl (by kernel_rfl) (fun _ _ _ h => h) (Or.inl ⟨by rfl, ?_⟩) hS ?_
    rotate_left
    focus (intro W hW; obtain ⟨⟨y0, y1, y2, y3, y4, -⟩, -⟩ := hW; go_simp; try with_reducible rfl)
    simp only [Act.put, List.setIfInBounds_toArray, List.set_cons_zero, List.set_cons_succ]
    refine anyL_one 1 rfl (by kernel_rfl) (fun K hK => ?_)
    go_simp
    refine (hg.out _).mono ?_
    rintro e' w11 ⟨rfl, hb⟩
    have hS' := And.intro (hS.1.below hb) (hS.2.trans (hb.mono hS.2.size))
    clear hS hb
    have hS := hS'
    clear hS'
    dsimp only
    refine hK.out _ _ (fun _ => hS) ?_
    clear hK K
    try simp only [Act.put, List.setIfInBounds_toArray, List.set_cons_zero, List.set_cons_succ]
    refine anyL_take 2 (v := ?_) rfl (by kernel_rfl) (fun _ _ _ h => h) (Or.inl ⟨by rfl, ?_⟩) hS ?_
    rotate_left
    focus (intro W hW; go_simp; try with_reducible rfl)
    simp only [Act.put, List.setIfInBounds_toArray, List.set_cons_zero, List.set_cons_succ]
    refine anyL_take 3 (v := undef) rfl (by kernel_rfl) (fun _ _ _ h => h) (Or.inr ⟨by rfl, rfl⟩) hS ?_
    simp only [Act.put, List.setIfInBounds_toArray, List.set_cons_zero, List.set_cons_succ]
    refine anyL_take 4 (v := undef) rfl (by kernel_rfl) (fun _ _ _ h => h) (Or.inr ⟨by rfl, rfl⟩) hS ?_
    simp only [Act.put, List.setIfInBounds_toArray, List.set_cons_zero, List.set_cons_succ]
    refine anyL_take 5 (v := undef) rfl (by kernel_rfl) (fun _ _ _ h => h) (Or.inr ⟨by rfl, rfl⟩) hS ?_
    simp only [Act.put, List.setIfInBounds_toArray, List.set_cons_zero, List.set_cons_succ]
    refine anyL_take 6 (v := ?_) rfl (by kernel_rfl) (fun _ _ _ h => h) (Or.inl ⟨by rfl, ?_⟩) hS ?_
    rotate_left
    focus (intro W hW; go_simp; try with_reducible rfl)
    simp only [Act.put, List.setIfInBounds_toArray, List.set_cons_zero, List.set_cons_succ]
    refine anyL_take 7 (v := ?_) rfl (by kernel_rfl) (fun _ _ _ h => h) (Or.inl ⟨by rfl, ?_⟩) hS ?_
    rotate_left
    focus (intro W hW; go_simp; try with_reducible rfl)
    simp only [Act.put, List.setIfInBounds_toArray, List.set_cons_zero, List.set_cons_succ]
    refine anyL_take 8 (v := undef) rfl (by kernel_rfl) (fun _ _ _ h => h) (Or.inr ⟨by rfl, rfl⟩) hS ?_
    simp only [Act.put, List.setIfInBounds_toArray, List.set_cons_zero, List.set_cons_succ]
    refine anyL_take 9 (v := undef) rfl (by kernel_rfl) (fun _ _ _ h => h) (Or.inr ⟨by rfl, rfl⟩) hS ?_
    simp only [Act.put, List.setIfInBounds_toArray, List.set_cons_zero, List.set_cons_succ]
    refine anyL_take 10 (v := undef) rfl (by kernel_rfl) (fun _ _ _ h => h) (Or.inr ⟨by rfl, rfl⟩) hS ?_
    simp only [Act.put, List.setIfInBounds_toArray, List.set_cons_zero, List.set_cons_succ]
    refine anyL_take 11 (v := undef) rfl (by kernel_rfl) (fun _ _ _ h => h) (Or.inr ⟨by rfl, rfl⟩) hS ?_
    simp only [Act.put, List.setIfInBounds_toArray, List.set_cons_zero, List.set_cons_succ]
    refine anyL_take 12 (v := undef) rfl (by kernel_rfl) (fun _ _ _ h => h) (Or.inr ⟨by rfl, rfl⟩) hS ?_
    simp only [Act.put, List.setIfInBounds_toArray, List.set_cons_zero, List.set_cons_succ]
    refine anyL_take 13 (v := undef) rfl (by kernel_rfl) (fun _ _ _ h => h) (Or.inr ⟨by rfl, rfl⟩) hS ?_
    simp only [Act.put, List.setIfInBounds_toArray, List.set_cons_zero, List.set_cons_succ]
    refine anyL_take 14 (v := undef) rfl (by kernel_rfl) (fun _ _ _ h => h) (Or.inr ⟨by rfl, rfl⟩) hS ?_
    simp only [Act.put, List.setIfInBounds_toArray, List.set_cons_zero, List.set_cons_succ]
    refine anyL_take 15 (v := undef) rfl (by kernel_rfl) (fun _ _ _ h => h) (Or.inr ⟨by rfl, rfl⟩) hS ?_
    simp only [Act.put, List.setIfInBounds_toArray, List.set_cons_zero, List.set_cons_succ]
    refine anyL_take 16 (v := undef) rfl (by kernel_rfl) (fun _ _ _ h => h) (Or.inr ⟨by rfl, rfl⟩) hS ?_
    simp only [Act.put, List.setIfInBounds_toArray, List.set_cons_zero, List.set_cons_succ]
    refine anyL_take 17 (v := undef) rfl (by kernel_rfl) (fun _ _ _ h => h) (Or.inr ⟨by rfl, rfl⟩) hS ?_
    simp only [Act.put, List.setIfInBounds_toArray, List.set_cons_zero, List.set_cons_succ]
    refine anyL_take 18 (v := undef) rfl (by kernel_rfl) (fun _ _ _ h => h) (Or.inr ⟨by rfl, rfl⟩) hS ?_
    simp only [Act.put, List.setIfInBounds_toArray, List.set_cons_zero, List.set_cons_succ]
    refine anyL_take 19 (v := ?_) rfl (by kernel_rfl) (fun _ _ _ h => h) (Or.inl ⟨by rfl, ?_⟩) hS ?_
    rotate_left
    focus (intro W hW; go_simp; try with_reducible rfl)
    simp only [Act.put, List.setIfInBounds_toArray, List.set_cons_zero, List.set_cons_succ]
    refine anyL_one 20 rfl (by kernel_rfl) (fun K hK => ?_)
    go_simp
    refine hK.out _ _ (fun _ => hS) ?_
    clear hK K
    try simp only [Act.put, List.setIfInBounds_toArray, List.set_cons_zero, List.set_cons_succ]
    refine anyC_done (by kernel_rfl) ?_ _
    have hBf := Lib.hid hS.2
    clear hS
    go_wp2_with fail
    go_ret
    exact ⟨rfl, hBf.out⟩
  | true =>
    rw [hgb] at hg
    simp only [hgb, if_true] at hz
    have hgp := goodB_iff.1 hgb
    by_cases hA : 4 ≤ A
    case neg =>
      rw [decide_eq_false hA]
      have hAI : decide (A ≥ 4) = false := decide_eq_false hA
      clear hz hgb hgp
      go_enter Try.func55, Try.ntmps55
      go_upto_region 1 with fail
      have hS := hS1.out
      clear hS1
      refine region_anyC (fun _ => true) (fun V => GeoAt V w.heap.size D Z B O A ∧ Below w.heap.size w V) (by kernel_rfl) ?_
      refine anyL_take 0 (v := ?_) rfl (by kernel_rfl) (fun _ _ _ h => h) (Or.inl ⟨by rfl, ?_⟩) hS ?_
      rotate_left
      focus (intro W hW; obtain ⟨⟨y0, y1, y2, y3, y4, -⟩, -⟩ := hW; go_simp; try with_reducible rfl)
      simp only [Act.put, List.setIfInBounds_toArray, List.set_cons_zero, List.set_cons_succ]
      refine anyL_one 1 rfl (by kernel_rfl) (fun K hK => ?_)
      go_simp
      refine (hg.out _).mono ?_
      rintro e' w11 ⟨rfl, hb⟩
      have hS' := And.intro (hS.1.below hb) (hS.2.trans (hb.mono hS.2.size))
      clear hS hb
      have hS := hS'
      clear hS'
      dsimp only
      refine hK.out _ _ (fun _ => hS) ?_
      clear hK K
      try simp only [Act.put, List.setIfInBounds_toArray, List.set_cons_zero, List.set_cons_succ]
      refine anyL_take 2 (v := ?_) rfl (by kernel_rfl) (fun _ _ _ h => h) (Or.inl ⟨by rfl, ?_⟩) hS ?_
      rotate_left
      focus (intro W hW; go_simp; try with_reducible rfl)
      simp only [Act.put, List.setIfInBounds_toArray, List.set_cons_zero, List.set_cons_succ]
      refine anyL_take 3 (v := ?_) rfl (by kernel_rfl) (fun _ _ _ h => h) (Or.inl ⟨by rfl, ?_⟩) hS ?_
      rotate_left
      focus (intro W hW; go_simp; try with_reducible rfl)
      simp only [Act.put, List.setIfInBounds_toArray, List.set_cons_zero, List.set_cons_succ]
      refine anyL_take 4 (v := ?_) rfl (by kernel_rfl) (fun _ _ _ h => h) (Or.inl ⟨by rfl, ?_⟩) hS ?_
      rotate_left
      focus (intro W hW; obtain ⟨⟨y0, y1, y2, y3, y4, -⟩, -⟩ := hW; go_simp; try with_reducible rfl)
      simp only [Act.put, List.setIfInBounds_toArray, List.set_cons_zero, List.set_cons_succ]
      refine anyL_take 5 (v := ?_) rfl (by kernel_rfl) (fun _ _ _ h => h) (Or.inl ⟨by rfl, ?_⟩) hS ?_
      rotate_left
      focus (intro W hW; go_simp; try with_reducible rfl)
      simp only [Act.put, List.setIfInBounds_toArray, List.set_cons_zero, List.set_cons_succ]
      refine anyL_take 6 (v := ?_) rfl (by kernel_rfl) (fun _ _ _ h => h) (Or.inl ⟨by rfl, ?_⟩) hS ?_
      rotate_left
      focus (intro W hW; go_simp; try with_reducible rfl)
      simp only [Act.put, List.setIfInBounds_toArray, List.set_cons_zero, List.set_cons_succ]
      refine anyL_take 7 (v := ?_) rfl (by kernel_rfl) (fun _ _ _ h => h) (Or.inl ⟨by rfl, ?_⟩) hS ?_
      rotate_left
      focus (intro W hW; go_simp; try with_reducible rfl)
      simp only [Act.put, List.setIfInBounds_toArray, List.set_cons_zero, List.set_cons_succ]
      refine anyL_take 8 (v := undef) rfl (by kernel_rfl) (fun _ _ _ h => h) (Or.inr ⟨by rfl, rfl⟩) hS ?_
      simp only [Act.put, List.setIfInBounds_toArray, List.set_cons_zero, List.set_cons_succ]
      refine anyL_take 9 (v := undef) rfl (by kernel_rfl) (fun _ _ _ h => h) (Or.inr ⟨by rfl, rfl⟩) hS ?_
      simp only [Act.put, List.setIfInBounds_toArray, List.set_cons_zero, List.set_cons_succ]
      refine anyL_take 10 (v := undef) rfl (by kernel_rfl) (fun _ _ _ h => h) (Or.inr ⟨by rfl, rfl⟩) hS ?_
      simp only [Act.put, List.setIfInBounds_toArray, List.set_cons_zero, List.set_cons_succ]
      refine anyL_take 11 (v := undef) rfl (by kernel_rfl) (fun _ _ _ h => h) (Or.inr ⟨by rfl, rfl⟩) hS ?_
      simp only [Act.put, List.setIfInBounds_toArray, List.set_cons_zero, List.set_cons_succ]
      refine anyL_take 12 (v := undef) rfl (by kernel_rfl) (fun _ _ _ h => h) (Or.inr ⟨by rfl, rfl⟩) hS ?_
      simp only [Act.put, List.setIfInBounds_toArray, List.set_cons_zero, List.set_cons_succ]
      refine anyL_take 13 (v := undef) rfl (by kernel_rfl) (fun _ _ _ h => h) (Or.inr ⟨by rfl, rfl⟩) hS ?_
      simp only [Act.put, List.setIfInBounds_toArray, List.set_cons_zero, List.set_cons_succ]
      refine anyL_take 14 (v := undef) rfl (by kernel_rfl) (fun _ _ _ h => h) (Or.inr ⟨by rfl, rfl⟩) hS ?_
      simp only [Act.put, List.setIfInBounds_toArray, List.set_cons_zero, List.set_cons_succ]
      refine anyL_take 15 (v := undef) rfl (by kernel_rfl) (fun _ _ _ h => h) (Or.inr ⟨by rfl, rfl⟩) hS ?_
      simp only [Act.put, List.setIfInBounds_toArray, List.set_cons_zero, List.set_cons_succ]
      refine anyL_take 16 (v := undef) rfl (by kernel_rfl) (fun _ _ _ h => h) (Or.inr ⟨by rfl, rfl⟩) hS ?_
      simp only [Act.put, List.setIfInBounds_toArray, List.set_cons_zero, List.set_cons_succ]
      refine anyL_take 17 (v := undef) rfl (by kernel_rfl) (fun _ _ _ h => h) (Or.inr ⟨by rfl, rfl⟩) hS ?_
      simp only [Act.put, List.setIfInBounds_toArray, List.set_cons_zero, List.set_cons_succ]
      refine anyL_take 18 (v := undef) rfl (by kernel_rfl) (fun _ _ _ h => h) (Or.inr ⟨by rfl, rfl⟩) hS ?_
      simp only [Act.put, List.setIfInBounds_toArray, List.set_cons_zero, List.set_cons_succ]
      refine anyL_take 19 (v := ?_) rfl (by kernel_rfl) (fun _ _ _ h => h) (Or.inl ⟨by rfl, ?_⟩) hS ?_
      rotate_left
      focus (intro W hW; go_simp; try with_reducible rfl)
      simp only [Act.put, List.setIfInBounds_toArray, List.set_cons_zero, List.set_cons_succ]
      refine anyL_one 20 rfl (by kernel_rfl) (fun K hK => ?_)
      go_simp
      refine hK.out _ _ (fun _ => hS) ?_
      clear hK K
      try simp only [Act.put, List.setIfInBounds_toArray, List.set_cons_zero, List.set_cons_succ]
      refine anyC_done (by kernel_rfl) ?_ _
      have hBf := Lib.hid hS.2
      clear hS
      go_wp2_with fail
      go_ret
      exact ⟨rfl, hBf.out⟩
    case pos =>
      rw [decide_eq_true hA]
      have hAI : decide (A ≥ 4) = true := decide_eq_true hA
      unfold GoodP at hgp
      obtain ⟨z3, hz3⟩ : ∃ z3, Z - 3 = z3 := ⟨_, rfl⟩
      obtain ⟨t1, ht1⟩ : ∃ t1, 3 + D = t1 := ⟨_, rfl⟩
      obtain ⟨t2, ht2⟩ : ∃ t2, 3 * z3 = t2 := ⟨_, rfl⟩
      obtain ⟨t3, ht3⟩ : ∃ t3, t1 + t2 = t3 := ⟨_, rfl⟩
      obtain ⟨t4, ht4⟩ : ∃ t4, t3 + 8 = t4 := ⟨_, rfl⟩
      have w1 : IntKind.i64.wrap (3 + D) = t1 := by rw [ht1]; exact IntWalk.i64_in _ (by omega)
      have w2 : IntKind.i64.wrap (3 * z3) = t2 := by rw [ht2]; exact IntWalk.i64_in _ (by omega)
      have w3 : IntKind.i64.wrap (t1 + t2) = t3 := by rw [ht3]; exact IntWalk.i64_in _ (by omega)
      have w4 : IntKind.i64.wrap (t3 + 8) = t4 := by rw [ht4]; exact IntWalk.i64_in _ (by omega)
      have e5 : decide (11 + D + 3 * (Z - 3) ≤ B) = decide (B ≥ t4) := by
        show _ = decide (t4 ≤ B)
        congr 1
        rw [eq_iff_iff]
        omega
      rw [e5]
      obtain ⟨v, hv⟩ : ∃ v, decide (B ≥ t4) = v := ⟨_, rfl⟩
      rw [hv]
      rw [hz3] at hz
      clear hgb hgp hz3 ht1 ht2 ht3 ht4 e5
      go_enter Try.func55, Try.ntmps55
      go_upto_region 1 with fail
      have hS := hS1.out
      clear hS1
      refine region_anyC (fun _ => true) (fun V => GeoAt V w.heap.size D Z B O A ∧ Below w.heap.size w V) (by kernel_rfl) ?_
      refine anyL_take 0 (v := ?_) rfl (by kernel_rfl) (fun _ _ _ h => h) (Or.inl ⟨by rfl, ?_⟩) hS ?_
      rotate_left
      focus (intro W hW; obtain ⟨⟨y0, y1, y2, y3, y4, -⟩, -⟩ := hW; go_simp; try with_reducible rfl)
      simp only [Act.put, List.setIfInBounds_toArray, List.set_cons_zero, List.set_cons_succ]
      refine anyL_one 1 rfl (by kernel_rfl) (fun K hK => ?_)
      go_simp
      refine (hg.out _).mono ?_
      rintro e' w11 ⟨rfl, hb⟩
      have hS' := And.intro (hS.1.below hb) (hS.2.trans (hb.mono hS.2.size))
      clear hS hb
      have hS := hS'
      clear hS'
      dsimp only
      refine hK.out _ _ (fun _ => hS) ?_
      clear hK K
      try simp only [Act.put, List.setIfInBounds_toArray, List.set_cons_zero, List.set_cons_succ]
      refine anyL_take 2 (v := ?_) rfl (by kernel_rfl) (fun _ _ _ h => h) (Or.inl ⟨by rfl, ?_⟩) hS ?_
      rotate_left
      focus (intro W hW; go_simp; try with_reducible rfl)
      simp only [Act.put, List.setIfInBounds_toArray, List.set_cons_zero, List.set_cons_succ]
      refine anyL_take 3 (v := ?_) rfl (by kernel_rfl) (fun _ _ _ h => h) (Or.inl ⟨by rfl, ?_⟩) hS ?_
      rotate_left
      focus (intro W hW; go_simp; try with_reducible rfl)
      simp only [Act.put, List.setIfInBounds_toArray, List.set_cons_zero, List.set_cons_succ]
      refine anyL_take 4 (v := ?_) rfl (by kernel_rfl) (fun _ _ _ h => h) (Or.inl ⟨by rfl, ?_⟩) hS ?_
      rotate_left
      focus (intro W hW; obtain ⟨⟨y0, y1, y2, y3, y4, -⟩, -⟩ := hW; go_simp; try with_reducible rfl)
      simp only [Act.put, List.setIfInBounds_toArray, List.set_cons_zero, List.set_cons_succ]
      refine anyL_take 5 (v := ?_) rfl (by kernel_rfl) (fun _ _ _ h => h) (Or.inl ⟨by rfl, ?_⟩) hS ?_
      rotate_left
      focus (intro W hW; go_simp; try with_reducible rfl)
      simp only [Act.put, List.setIfInBounds_toArray, List.set_cons_zero, List.set_cons_succ]
      refine anyL_take 6 (v := ?_) rfl (by kernel_rfl) (fun _ _ _ h => h) (Or.inl ⟨by rfl, ?_⟩) hS ?_
      rotate_left
      focus (intro W hW; go_simp; try with_reducible rfl)
      simp only [Act.put, List.setIfInBounds_toArray, List.set_cons_zero, List.set_cons_succ]
      refine anyL_take 7 (v := ?_) rfl (by kernel_rfl) (fun _ _ _ h => h) (Or.inl ⟨by rfl, ?_⟩) hS ?_
      rotate_left
      focus (intro W hW; go_simp; try with_reducible rfl)
      simp only [Act.put, List.setIfInBounds_toArray, List.set_cons_zero, List.set_cons_succ]
      refine anyL_take 8 (v := ?_) rfl (by kernel_rfl) (fun _ _ _ h => h) (Or.inl ⟨by rfl, ?_⟩) hS ?_
      rotate_left
      focus (intro W hW; go_simp; try with_reducible rfl)
      simp only [Act.put, List.setIfInBounds_toArray, List.set_cons_zero, List.set_cons_succ]
      refine anyL_take 9 (v := ?_) rfl (by kernel_rfl) (fun _ _ _ h => h) (Or.inl ⟨by rfl, ?_⟩) hS ?_
      rotate_left
      focus (intro W hW; obtain ⟨⟨y0, y1, y2, y3, y4, -⟩, -⟩ := hW; go_simp; try with_reducible rfl)
      simp only [Act.put, List.setIfInBounds_toArray, List.set_cons_zero, List.set_cons_succ]
      refine anyL_take 10 (v := ?_) rfl (by kernel_rfl) (fun _ _ _ h => h) (Or.inl ⟨by rfl, ?_⟩) hS ?_
      rotate_left
      focus (intro W hW; go_simp; try with_reducible rfl)
      simp only [Act.put, List.setIfInBounds_toArray, List.set_cons_zero, List.set_cons_succ]
      refine anyL_take 11 (v := ?_) rfl (by kernel_rfl) (fun _ _ _ h => h) (Or.inl ⟨by rfl, ?_⟩) hS ?_
      rotate_left
      focus (intro W hW; obtain ⟨⟨y0, y1, y2, y3, y4, -⟩, -⟩ := hW; go_simp; try with_reducible rfl)
      simp only [Act.put, List.setIfInBounds_toArray, List.set_cons_zero, List.set_cons_succ]
      refine anyL_take 12 (v := ?_) rfl (by kernel_rfl) (fun _ _ _ h => h) (Or.inl ⟨by rfl, ?_⟩) hS ?_
      rotate_left
      focus (intro W hW; go_simp; try with_reducible rfl)
      simp only [Act.put, List.setIfInBounds_toArray, List.set_cons_zero, List.set_cons_succ]
      refine anyL_take 13 (v := ?_) rfl (by kernel_rfl) (fun _ _ _ h => h) (Or.inl ⟨by rfl, ?_⟩) hS ?_
      rotate_left
      focus (intro W hW; obtain ⟨⟨y0, y1, y2, y3, y4, -⟩, -⟩ := hW; go_simp; try with_reducible rfl)
      simp only [Act.put, List.setIfInBounds_toArray, List.set_cons_zero, List.set_cons_succ]
      refine anyL_one 14 rfl (by kernel_rfl) (fun K hK => ?_)
      go_simp
      refine (hz.out _).mono ?_
      rintro e' w24 ⟨rfl, hb⟩
      have hS' := And.intro (hS.1.below hb) (hS.2.trans (hb.mono hS.2.size))
      clear hS hb
      have hS := hS'
      clear hS'
      dsimp only
      refine hK.out _ _ (fun _ => hS) ?_
      clear hK K
      try simp only [Act.put, List.setIfInBounds_toArray, List.set_cons_zero, List.set_cons_succ]
      refine anyL_take 15 (v := ?_) rfl (by kernel_rfl) (fun _ _ _ h => h) (Or.inl ⟨by rfl, ?_⟩) hS ?_
      rotate_left
      focus (intro W hW; go_simp; try with_reducible rfl)
      simp only [Act.put, List.setIfInBounds_toArray, List.set_cons_zero, List.set_cons_succ]
      refine anyL_take 16 (v := ?_) rfl (by kernel_rfl) (fun _ _ _ h => h) (Or.inl ⟨by rfl, ?_⟩) hS ?_
      rotate_left
      focus (intro W hW; go_simp; try with_reducible rfl)
      simp only [Act.put, List.setIfInBounds_toArray, List.set_cons_zero, List.set_cons_succ]
      refine anyL_take 17 (v := ?_) rfl (by kernel_rfl) (fun _ _ _ h => h) (Or.inl ⟨by rfl, ?_⟩) hS ?_
      rotate_left
      focus (intro W hW; go_simp; try with_reducible rfl)
      simp only [Act.put, List.setIfInBounds_toArray, List.set_cons_zero, List.set_cons_succ]
      refine anyL_take 18 (v := ?_) rfl (by kernel_rfl) (fun _ _ _ h => h) (Or.inl ⟨by rfl, ?_⟩) hS ?_
      rotate_left
      focus (intro W hW; go_simp; try with_reducible rfl)
      simp only [Act.put, List.setIfInBounds_toArray, List.set_cons_zero, List.set_cons_succ]
      refine anyL_take 19 (v := ?_) rfl (by kernel_rfl) (fun _ _ _ h => h) (Or.inl ⟨by rfl, ?_⟩) hS ?_
      rotate_left
      focus (intro W hW; go_simp; try with_reducible rfl)
      simp only [Act.put, List.setIfInBounds_toArray, List.set_cons_zero, List.set_cons_succ]
      refine anyL_one 20 rfl (by kernel_rfl) (fun K hK => ?_)
      go_simp
      refine hK.out _ _ (fun _ => hS) ?_
      clear hK K
      try simp only [Act.put, List.setIfInBounds_toArray, List.set_cons_zero, List.set_cons_succ]
      refine anyC_done (by kernel_rfl) ?_ _
      have hBf := Lib.hid hS.2
      clear hS
      go_wp2_with fail
      go_ret
      exact ⟨rfl, hBf.out⟩
set_option maxRecDepth 100000 in
set_option maxHeartbeats 2000000 in
theorem ag17_any (D Z B O A : Int) (w : World) : Calls Try.prog 26 #[.agg #[.int .i64 D, .int .i64 Z, .int .i64 B, .int .i64 O, .int .i64 A]] w fun e w' => e = .returned (.bool (agB D Z B O A)) ∧ Below w.heap.size w w' := by
  have hg := Lib.hid (fun W => gref_any D Z B O A W)
  have hS1 := geo_new w D Z B O A 46
  unfold agB
  cases hgb : goodB D Z B O A with
  | false =>
    rw [hgb] at hg
    clear hgb
    go_enter Try.func26, Try.ntmps26
    go_wp2_with fail
    refine (hg.out _).mono ?_
    rintro e w1 ⟨rfl, hb⟩
    have hB := Lib.hid (hS1.out.2.trans (hb.mono hS1.out.2.size))
    clear hb hS1 hg
    go_wp2_with fail
    go_ret
    exact ⟨rfl, hB.out⟩
  | true =>
    rw [hgb] at hg
    have hgp := goodB_iff.1 hgb
    unfold GoodP at hgp
    by_cases hA : 4 ≤ A
    case neg =>
      rw [decide_eq_false hA]
      have hAI : decide (A < 4) = true := decide_eq_true (by omega)
      clear hgb hgp
      go_enter Try.func26, Try.ntmps26
      go_wp2_with fail
      refine (hg.out _).mono ?_
      rintro e w1 ⟨rfl, hb⟩
      have hB := Lib.hid (hS1.out.2.trans (hb.mono hS1.out.2.size))
      obtain ⟨y0, y1, y2, y3, y4, -⟩ := hS1.out.1.below hb
      clear hb hS1 hg
      go_wp2_with fail
      go_ret
      exact ⟨rfl, hB.out⟩
    case pos =>
      rw [decide_eq_true hA]
      have hAI : decide (A < 4) = false := decide_eq_false (by omega)
      obtain ⟨z3, hz3⟩ : ∃ z3, Z - 3 = z3 := ⟨_, rfl⟩
      obtain ⟨t1, ht1⟩ : ∃ t1, 11 + D = t1 := ⟨_, rfl⟩
      obtain ⟨t2, ht2⟩ : ∃ t2, 3 * z3 = t2 := ⟨_, rfl⟩
      obtain ⟨t3, ht3⟩ : ∃ t3, t1 + t2 = t3 := ⟨_, rfl⟩
      have w0 : IntKind.i64.wrap (Z - 3) = z3 := by rw [hz3]; exact IntWalk.i64_in _ (by omega)
      have w1 : IntKind.i64.wrap (11 + D) = t1 := by rw [ht1]; exact IntWalk.i64_in _ (by omega)
      have w2 : IntKind.i64.wrap (3 * z3) = t2 := by rw [ht2]; exact IntWalk.i64_in _ (by omega)
      have w3 : IntKind.i64.wrap (t1 + t2) = t3 := by rw [ht3]; exact IntWalk.i64_in _ (by omega)
      rw [hz3, ht2, ht1, ht3]
      obtain ⟨v, hv⟩ : ∃ v, decide (B ≥ t3) = v := ⟨_, rfl⟩
      have hv2 : decide (t3 ≤ B) = v := hv
      rw [hv2]
      clear hgb hgp hz3 ht1 ht2 ht3
      go_enter Try.func26, Try.ntmps26
      go_wp2_with fail
      refine (hg.out _).mono ?_
      rintro e w1 ⟨rfl, hb⟩
      have hB := Lib.hid (hS1.out.2.trans (hb.mono hS1.out.2.size))
      obtain ⟨y0, y1, y2, y3, y4, -⟩ := hS1.out.1.below hb
      clear hb hS1 hg
      go_wp2_with fail
      go_ret
      exact ⟨by first | rfl | simp, hB.out⟩
end Go.Proofs.Ytbgkmppngnedlaa
