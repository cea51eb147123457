/- Size and Range of fit; the document's. -/
import Derived.Test.YtbgkmppngnedlaaFtB
namespace Go.Proofs.Ytbgkmppngnedlaa
open Go.RowKit Go.Shelf

/-- The blocks of a volume. -/
def szI (D Z B O A : Int) : Int := if agB D Z B O A = true then entI ((D - 1) * B - 8) * (Z - 4) else 0
theorem entI_bd {b : Int} (h : b ≤ 5000) : 0 ≤ entI b ∧ entI b ≤ 5000 := by
  unfold entI
  rw [if_neg (by omega)]
  have := ent_le b.toNat
  omega
theorem capV_le {D B : Int} (h : 3 ≤ D ∧ D ≤ 16) (h2 : 4 ≤ B ∧ B ≤ 256) : 0 ≤ (D - 1) * B ∧ (D - 1) * B ≤ 3840 := mul_bd (a := D - 1) (b := B) (m := 15) (n := 256) (by omega) (by omega) (by omega) (by omega)
theorem szI_bd (D Z B O A : Int) : 0 ≤ szI D Z B O A ∧ szI D Z B O A ≤ 1000000 := by
  unfold szI
  by_cases h : agB D Z B O A = true
  · rw [if_pos h]
    obtain ⟨hg, _, _⟩ := agB_iff.1 h
    unfold GoodP at hg
    have h1 := capV_le (D := D) (B := B) (by omega) (by omega)
    have h2 := entI_bd (b := (D - 1) * B - 8) (by omega)
    have h3 := mul_bd (a := entI ((D - 1) * B - 8)) (b := Z - 4) (m := 5000) (n := 60) h2.1 h2.2 (by omega) (by omega)
    omega
  · rw [if_neg h]; omega
set_option maxRecDepth 100000 in
set_option maxHeartbeats 2000000 in
theorem size_any (D Z B O A : Int) (w : World) : Calls Try.prog 24 #[.agg #[.int .i64 D, .int .i64 Z, .int .i64 B, .int .i64 O, .int .i64 A]] w fun e w' => e = .returned (.int .i64 (szI D Z B O A)) ∧ Below w.heap.size w w' := by
  have hag := Lib.hid (fun W => agood_any D Z B O A W)
  have hS0 := geo_new w D Z B O A 48
  by_cases h : agB D Z B O A = true
  case neg =>
    have e : szI D Z B O A = 0 := if_neg h
    rw [e]
    rw [Bool.not_eq_true] at h
    rw [h] at hag
    clear e h
    go_enter Try.func24, Try.ntmps24
    go_wp2_with fail
    refine (hag.out _).mono ?_
    rintro e w1 ⟨rfl, hb⟩
    have hB := Lib.hid (hS0.out.2.trans (hb.mono hS0.out.2.size))
    clear hb hS0 hag
    go_wp2_with fail
    go_ret
    exact ⟨rfl, hB.out⟩
  case pos =>
    have e : szI D Z B O A = entI ((D - 1) * B - 8) * (Z - 4) := if_pos h
    rw [e]
    rw [h] at hag
    obtain ⟨hgp, _, _⟩ := agB_iff.1 h
    have hgb := goodB_iff.2 hgp
    have hc := Lib.hid (fun W => cap_any D Z B O A W)
    have hz := Lib.hid (fun W => zones_any D Z B O A W)
    unfold capV at hc
    unfold zonesV at hz
    simp only [hgb, if_true] at hc hz
    have h1 := capV_le (D := D) (B := B) (by unfold GoodP at hgp; omega) (by unfold GoodP at hgp; omega)
    unfold GoodP at hgp
    obtain ⟨c, hcc⟩ : ∃ c, (D - 1) * B = c := ⟨_, rfl⟩
    rw [hcc] at h1 hc ⊢
    have h2 := entI_bd (b := c - 8) (by omega)
    have hen := Lib.hid (fun W => entries_any W (c - 8))
    obtain ⟨E, hE⟩ : ∃ E, entI (c - 8) = E := ⟨_, rfl⟩
    rw [hE] at h2 hen ⊢
    obtain ⟨c8, hc8⟩ : ∃ c8, c - 8 = c8 := ⟨_, rfl⟩
    obtain ⟨z3, hz3⟩ : ∃ z3, Z - 3 = z3 := ⟨_, rfl⟩
    obtain ⟨z4, hz4⟩ : ∃ z4, z3 - 1 = z4 := ⟨_, rfl⟩
    have h3 := mul_bd (a := E) (b := z4) (m := 5000) (n := 60) h2.1 h2.2 (by omega) (by omega)
    have hzz : Z - 4 = z4 := by omega
    rw [hzz]
    rw [hz3] at hz
    have w1 : IntKind.i64.wrap (c - 8) = c8 := by rw [hc8]; exact IntWalk.i64_in _ (by omega)
    have w2 : IntKind.i64.wrap (z3 - 1) = z4 := by rw [hz4]; exact IntWalk.i64_in _ (by omega)
    have w3 : IntKind.i64.wrap (E * z4) = E * z4 := IntWalk.i64_in _ (by omega)
    rw [hc8] at hen
    clear e h hgp hgb h1 hcc h2 hE hc8 hz3 hz4 h3 hzz
    go_enter Try.func24, Try.ntmps24
    go_wp2_with fail
    refine (hag.out _).mono ?_
    rintro e w1 ⟨rfl, hb⟩
    have hS1 := Lib.hid (geo_drew (And.intro (hS0.out.1.below hb) (hS0.out.2.trans (hb.mono hS0.out.2.size))))
    clear hb hS0 hag
    go_upto_region 3 with fail
    have hS := hS1.out
    clear hS1
    refine region_anyC (fun _ => true) (fun V => GeoAt V w.heap.size D Z B O A ∧ Below w.heap.size w V) (by kernel_rfl) ?_
    refine anyL_take 0 (v := ?_) rfl (by kernel_rfl) (fun _ _ _ h => h) (Or.inl ⟨by rfl, ?_⟩) hS ?_
    rotate_left
    focus (intro W hW; obtain ⟨⟨y0, y1, y2, y3, y4, -⟩, -⟩ := hW; go_simp; try with_reducible rfl)
    simp only [Act.put, List.setIfInBounds_toArray, List.set_cons_zero, List.set_cons_succ]
    refine anyL_take 4 (v := ?_) rfl (by kernel_rfl) (fun _ _ _ h => h) (Or.inl ⟨by rfl, ?_⟩) hS ?_
    rotate_left
    focus (intro W hW; obtain ⟨⟨y0, y1, y2, y3, y4, -⟩, -⟩ := hW; go_simp; try with_reducible rfl)
    simp only [Act.put, List.setIfInBounds_toArray, List.set_cons_zero, List.set_cons_succ]
    refine anyL_one 1 rfl (by kernel_rfl) (fun K hK => ?_)
    go_simp
    refine (hc.out _).mono ?_
    rintro e' w11 ⟨rfl, hb⟩
    have hS' := And.intro (hS.1.below hb) (hS.2.trans (hb.mono hS.2.size))
    clear hS hb
    have hS := hS'
    clear hS'
    dsimp only
    refine hK.out _ _ (fun _ => hS) ?_
    clear hK K
    try simp only [Act.put, List.setIfInBounds_toArray, List.set_cons_zero, List.set_cons_succ]
    refine anyL_take 2 (v := ?_) rfl (by kernel_rfl) (fun _ _ _ h => h) (Or.inl ⟨by rfl, ?_⟩) hS ?_
    rotate_left
    focus (intro W hW; go_simp; try with_reducible rfl)
    simp only [Act.put, List.setIfInBounds_toArray, List.set_cons_zero, List.set_cons_succ]
    refine anyL_one 3 rfl (by kernel_rfl) (fun K hK => ?_)
    go_simp
    refine (hen.out _).mono ?_
    rintro e' w13 ⟨rfl, hb⟩
    have hS' := And.intro (hS.1.below hb) (hS.2.trans (hb.mono hS.2.size))
    clear hS hb
    have hS := hS'
    clear hS'
    dsimp only
    refine hK.out _ _ (fun _ => hS) ?_
    clear hK K
    try simp only [Act.put, List.setIfInBounds_toArray, List.set_cons_zero, List.set_cons_succ]
    refine anyL_one 5 rfl (by kernel_rfl) (fun K hK => ?_)
    go_simp
    refine (hz.out _).mono ?_
    rintro e' w15 ⟨rfl, hb⟩
    have hS' := And.intro (hS.1.below hb) (hS.2.trans (hb.mono hS.2.size))
    clear hS hb
    have hS := hS'
    clear hS'
    dsimp only
    refine hK.out _ _ (fun _ => hS) ?_
    clear hK K
    try simp only [Act.put, List.setIfInBounds_toArray, List.set_cons_zero, List.set_cons_succ]
    refine anyL_take 6 (v := ?_) rfl (by kernel_rfl) (fun _ _ _ h => h) (Or.inl ⟨by rfl, ?_⟩) hS ?_
    rotate_left
    focus (intro W hW; go_simp; try with_reducible rfl)
    simp only [Act.put, List.setIfInBounds_toArray, List.set_cons_zero, List.set_cons_succ]
    refine anyL_take 7 (v := ?_) rfl (by kernel_rfl) (fun _ _ _ h => h) (Or.inl ⟨by rfl, ?_⟩) hS ?_
    rotate_left
    focus (intro W hW; go_simp; try with_reducible rfl)
    simp only [Act.put, List.setIfInBounds_toArray, List.set_cons_zero, List.set_cons_succ]
    refine anyL_one 8 rfl (by kernel_rfl) (fun K hK => ?_)
    go_simp
    refine hK.out _ _ (fun _ => hS) ?_
    clear hK K
    try simp only [Act.put, List.setIfInBounds_toArray, List.set_cons_zero, List.set_cons_succ]
    refine anyC_done (by kernel_rfl) ?_ _
    have hBf := Lib.hid hS.2
    clear hS
    go_wp2_with fail
    go_ret
    exact ⟨rfl, hBf.out⟩
set_option maxRecDepth 100000 in
set_option maxHeartbeats 2000000 in
theorem rsize_any (D Z B O A : Int) (w : World) : Calls Try.prog 22 #[.agg #[.int .i64 D, .int .i64 Z, .int .i64 B, .int .i64 O, .int .i64 A]] w fun e w' => e = .returned (.int .i64 (szI D Z B O A)) ∧ Below w.heap.size w w' := by
  have hag := Lib.hid (fun W => ag17_any D Z B O A W)
  have hS0 := geo_new w D Z B O A 46
  by_cases h : agB D Z B O A = true
  case neg =>
    have e : szI D Z B O A = 0 := if_neg h
    rw [e]
    rw [Bool.not_eq_true] at h
    rw [h] at hag
    clear e h
    go_enter Try.func22, Try.ntmps22
    go_wp2_with fail
    refine (hag.out _).mono ?_
    rintro e w1 ⟨rfl, hb⟩
    have hB := Lib.hid (hS0.out.2.trans (hb.mono hS0.out.2.size))
    clear hb hS0 hag
    go_wp2_with fail
    go_ret
    exact ⟨rfl, hB.out⟩
  case pos =>
    have e : szI D Z B O A = entI ((D - 1) * B - 8) * (Z - 4) := if_pos h
    rw [e]
    rw [h] at hag
    obtain ⟨hgp, _, _⟩ := agB_iff.1 h
    have h1 := capV_le (D := D) (B := B) (by unfold GoodP at hgp; omega) (by unfold GoodP at hgp; omega)
    unfold GoodP at hgp
    obtain ⟨d1, hd1⟩ : ∃ d1, D - 1 = d1 := ⟨_, rfl⟩
    rw [hd1] at h1 ⊢
    obtain ⟨c, hcc⟩ : ∃ c, d1 * B = c := ⟨_, rfl⟩
    rw [hcc] at h1 ⊢
    have h2 := entI_bd (b := c - 8) (by omega)
    have hen := Lib.hid (fun W => rentries_any W (c - 8))
    obtain ⟨E, hE⟩ : ∃ E, entI (c - 8) = E := ⟨_, rfl⟩
    rw [hE] at h2 hen ⊢
    obtain ⟨c8, hc8⟩ : ∃ c8, c - 8 = c8 := ⟨_, rfl⟩
    obtain ⟨z4, hz4⟩ : ∃ z4, Z - 4 = z4 := ⟨_, rfl⟩
    have h3 := mul_bd (a := E) (b := z4) (m := 5000) (n := 60) h2.1 h2.2 (by omega) (by omega)
    rw [hz4]
    have w0 : IntKind.i64.wrap (D - 1) = d1 := by rw [hd1]; exact IntWalk.i64_in _ (by omega)
    have w4 : IntKind.i64.wrap (d1 * B) = c := by rw [hcc]; exact IntWalk.i64_in _ (by omega)
    have w1 : IntKind.i64.wrap (c - 8) = c8 := by rw [hc8]; exact IntWalk.i64_in _ (by omega)
    have w2 : IntKind.i64.wrap (Z - 4) = z4 := by rw [hz4]; exact IntWalk.i64_in _ (by omega)
    have w3 : IntKind.i64.wrap (z4 * E) = E * z4 := by rw [Int.mul_comm]; exact IntWalk.i64_in _ (by omega)
    rw [hc8] at hen
    clear e h hgp h1 hcc h2 hE hc8 hd1 hz4 h3
    go_enter Try.func22, Try.ntmps22
    go_wp2_with fail
    refine (hag.out _).mono ?_
    rintro e w1 ⟨rfl, hb⟩
    have hS1 := Lib.hid (geo_drew (And.intro (hS0.out.1.below hb) (hS0.out.2.trans (hb.mono hS0.out.2.size))))
    clear hb hS0 hag
    go_upto_region 3 with fail
    have hS := hS1.out
    clear hS1
    refine region_anyC (fun _ => true) (fun V => GeoAt V w.heap.size D Z B O A ∧ Below w.heap.size w V) (by kernel_rfl) ?_
    refine anyL_take 0 (v := ?_) rfl (by kernel_rfl) (fun _ _ _ h => h) (Or.inl ⟨by rfl, ?_⟩) hS ?_
    rotate_left
    focus (intro W hW; go_simp; try with_reducible rfl)
    simp only [Act.put, List.setIfInBounds_toArray, List.set_cons_zero, List.set_cons_succ]
    refine anyL_take 1 (v := ?_) rfl (by kernel_rfl) (fun _ _ _ h => h) (Or.inl ⟨by rfl, ?_⟩) hS ?_
    rotate_left
    focus (intro W hW; obtain ⟨⟨y0, y1, y2, y3, y4, -⟩, -⟩ := hW; go_simp; try with_reducible rfl)
    simp only [Act.put, List.setIfInBounds_toArray, List.set_cons_zero, List.set_cons_succ]
    refine anyL_take 2 (v := ?_) rfl (by kernel_rfl) (fun _ _ _ h => h) (Or.inl ⟨by rfl, ?_⟩) hS ?_
    rotate_left
    focus (intro W hW; go_simp; try with_reducible rfl)
    simp only [Act.put, List.setIfInBounds_toArray, List.set_cons_zero, List.set_cons_succ]
    refine anyL_take 3 (v := ?_) rfl (by kernel_rfl) (fun _ _ _ h => h) (Or.inl ⟨by rfl, ?_⟩) hS ?_
    rotate_left
    focus (intro W hW; go_simp; try with_reducible rfl)
    simp only [Act.put, List.setIfInBounds_toArray, List.set_cons_zero, List.set_cons_succ]
    refine anyL_take 4 (v := ?_) rfl (by kernel_rfl) (fun _ _ _ h => h) (Or.inl ⟨by rfl, ?_⟩) hS ?_
    rotate_left
    focus (intro W hW; obtain ⟨⟨y0, y1, y2, y3, y4, -⟩, -⟩ := hW; go_simp; try with_reducible rfl)
    simp only [Act.put, List.setIfInBounds_toArray, List.set_cons_zero, List.set_cons_succ]
    refine anyL_take 5 (v := ?_) rfl (by kernel_rfl) (fun _ _ _ h => h) (Or.inl ⟨by rfl, ?_⟩) hS ?_
    rotate_left
    focus (intro W hW; go_simp; try with_reducible rfl)
    simp only [Act.put, List.setIfInBounds_toArray, List.set_cons_zero, List.set_cons_succ]
    refine anyL_take 6 (v := ?_) rfl (by kernel_rfl) (fun _ _ _ h => h) (Or.inl ⟨by rfl, ?_⟩) hS ?_
    rotate_left
    focus (intro W hW; go_simp; try with_reducible rfl)
    simp only [Act.put, List.setIfInBounds_toArray, List.set_cons_zero, List.set_cons_succ]
    refine anyL_take 7 (v := ?_) rfl (by kernel_rfl) (fun _ _ _ h => h) (Or.inl ⟨by rfl, ?_⟩) hS ?_
    rotate_left
    focus (intro W hW; obtain ⟨⟨y0, y1, y2, y3, y4, -⟩, -⟩ := hW; go_simp; try with_reducible rfl)
    simp only [Act.put, List.setIfInBounds_toArray, List.set_cons_zero, List.set_cons_succ]
    refine anyL_take 8 (v := ?_) rfl (by kernel_rfl) (fun _ _ _ h => h) (Or.inl ⟨by rfl, ?_⟩) hS ?_
    rotate_left
    focus (intro W hW; go_simp; try with_reducible rfl)
    simp only [Act.put, List.setIfInBounds_toArray, List.set_cons_zero, List.set_cons_succ]
    refine anyL_take 9 (v := ?_) rfl (by kernel_rfl) (fun _ _ _ h => h) (Or.inl ⟨by rfl, ?_⟩) hS ?_
    rotate_left
    focus (intro W hW; go_simp; try with_reducible rfl)
    simp only [Act.put, List.setIfInBounds_toArray, List.set_cons_zero, List.set_cons_succ]
    refine anyL_one 10 rfl (by kernel_rfl) (fun K hK => ?_)
    go_simp
    refine (hen.out _).mono ?_
    rintro e' w6 ⟨rfl, rfl⟩
    dsimp only
    refine hK.out _ _ (fun _ => hS) ?_
    clear hK K
    try simp only [Act.put, List.setIfInBounds_toArray, List.set_cons_zero, List.set_cons_succ]
    refine anyL_take 11 (v := ?_) rfl (by kernel_rfl) (fun _ _ _ h => h) (Or.inl ⟨by rfl, ?_⟩) hS ?_
    rotate_left
    focus (intro W hW; go_simp; try with_reducible rfl)
    simp only [Act.put, List.setIfInBounds_toArray, List.set_cons_zero, List.set_cons_succ]
    refine anyL_one 12 rfl (by kernel_rfl) (fun K hK => ?_)
    go_simp
    refine hK.out _ _ (fun _ => hS) ?_
    clear hK K
    try simp only [Act.put, List.setIfInBounds_toArray, List.set_cons_zero, List.set_cons_succ]
    refine anyC_done (by kernel_rfl) ?_ _
    have hBf := Lib.hid hS.2
    clear hS
    go_wp2_with fail
    go_ret
    exact ⟨rfl, hBf.out⟩
/-- Has a volume n blocks from there on? -/
def rgB (s b n : Int) : Bool := decide (b ≥ 0) && decide (n ≥ 1) && decide (n ≤ s - b)
set_option maxRecDepth 100000 in
set_option maxHeartbeats 2000000 in
theorem range_any (D Z B O A b n : Int) (hb : -9223372036854775808 ≤ b ∧ b ≤ 9223372036854775807) (w : World) : Calls Try.prog 25 #[.agg #[.int .i64 D, .int .i64 Z, .int .i64 B, .int .i64 O, .int .i64 A], .int .i64 b, .int .i64 n] w fun e w' => e = .returned (.bool (rgB (szI D Z B O A) b n)) ∧ Below w.heap.size w w' := by
  have hsz := Lib.hid (fun W => size_any D Z B O A W)
  have hbd := szI_bd D Z B O A
  generalize szI D Z B O A = s at hsz hbd ⊢
  have hS0 := geo_new w D Z B O A 48
  unfold rgB
  by_cases h1 : b ≥ 0
  case neg =>
    rw [decide_eq_false h1]
    have h1I : decide (b ≥ 0) = false := decide_eq_false h1
    clear hsz hbd
    go_enter Try.func25, Try.ntmps25
    go_wp2_with fail
    go_ret
    exact ⟨rfl, hS0.out.2⟩
  case pos =>
    rw [decide_eq_true h1]
    have h1I : decide (b ≥ 0) = true := decide_eq_true h1
    by_cases h2 : n ≥ 1
    case neg =>
      rw [decide_eq_false h2]
      have h2I : decide (n ≥ 1) = false := decide_eq_false h2
      clear hsz hbd
      go_enter Try.func25, Try.ntmps25
      go_wp2_with fail
      go_ret
      exact ⟨rfl, hS0.out.2⟩
    case pos =>
      rw [decide_eq_true h2]
      have h2I : decide (n ≥ 1) = true := decide_eq_true h2
      obtain ⟨d, hd⟩ : ∃ d, s - b = d := ⟨_, rfl⟩
      have wd : IntKind.i64.wrap (s - b) = d := by rw [hd]; exact IntWalk.i64_in _ (by omega)
      rw [hd]
      obtain ⟨v, hv⟩ : ∃ v, decide (n ≤ d) = v := ⟨_, rfl⟩
      rw [hv]
      clear hd hbd h1 h2
      go_enter Try.func25, Try.ntmps25
      go_wp2_with fail
      refine (hsz.out _).mono ?_
      rintro e w1 ⟨rfl, hb⟩
      have hB := Lib.hid (hS0.out.2.trans (hb.mono hS0.out.2.size))
      clear hb hS0 hsz
      go_wp2_with fail
      go_ret
      exact ⟨by first | rfl | simp, hB.out⟩
set_option maxRecDepth 100000 in
set_option maxHeartbeats 2000000 in
theorem speaks21 (w : World) : Calls Try.prog 20 #[] w fun e w' => e = .returned (.bool true) ∧ Below w.heap.size w w' := by
  have h7 := Lib.hid (fun W => entries_any W 7)
  have h8 := Lib.hid (fun W => entries_any W 8)
  have h9 := Lib.hid (fun W => entries_any W 9)
  rw [show entI 7 = 6 by decide] at h7
  rw [show entI 8 = 6 by decide] at h8
  rw [show entI 9 = 7 by decide] at h9
  go_enter Try.func20, Try.ntmps20
  go_wp2_with fail
  refine (h7.out _).mono ?_
  rintro e w1 ⟨rfl, hb1⟩
  have hB1 := Lib.hid hb1
  clear hb1
  go_wp2_with fail
  refine (h8.out _).mono ?_
  rintro e w2 ⟨rfl, hb2⟩
  have hB2 := Lib.hid (hB1.out.trans (hb2.mono hB1.out.size))
  clear hb2
  go_wp2_with fail
  refine (h9.out _).mono ?_
  rintro e w3 ⟨rfl, hb3⟩
  have hB3 := Lib.hid (hB2.out.trans (hb3.mono hB2.out.size))
  clear hb3
  go_wp2_with fail
  go_ret
  exact ⟨rfl, hB3.out⟩
end Go.Proofs.Ytbgkmppngnedlaa
