/- What Restore of stripe does. -/
import Derived.Test.YtonoanjakfaloaaSpIdx
namespace Go.Proofs.Ytonoanjakfaloaa
open Go.RowKit Sp Xor

def othersOf (ps : List ByteArray) (k : Nat) : List ByteArray := ps.take k ++ ps.drop (k + 1)
/-- May it not be told? -/
def resBad (p : ByteArray) (ps : List ByteArray) (x : Int) : Bool := !elB ps x || (noB p || (othersOf ps x.toNat).any noB)
def resV (p : ByteArray) (ps : List ByteArray) (x : Int) : ByteArray := if resBad p ps x = true then ⟨#[]⟩ else foldS [p, foldS (othersOf ps x.toNat)]
def resE (p : ByteArray) (ps : List ByteArray) (x : Int) : Int := if resBad p ps x = true then 1 else 0
theorem res_bad {p : ByteArray} {ps : List ByteArray} {x : Int} (h : resBad p ps x = true) : resV p ps x = ⟨#[]⟩ ∧ resE p ps x = 1 := by unfold resV resE; rw [if_pos h, if_pos h]; exact ⟨rfl, rfl⟩
theorem res_good {p : ByteArray} {ps : List ByteArray} {x : Int} (h : resBad p ps x = false) : resV p ps x = foldS [p, foldS (othersOf ps x.toNat)] ∧ resE p ps x = 0 := by unfold resV resE; rw [if_neg (by rw [h]; decide), if_neg (by rw [h]; decide)]; exact ⟨rfl, rfl⟩
theorem noB_false {s : ByteArray} (h : noB s = false) : s.size = 64 := by unfold noB at h; simpa using h
/-- Behind the two pieces. -/
def CatP (w : World) (ps : List ByteArray) (W : World) (A : Option Addr) (cap : Nat) : Prop := StrsIn W A ps ∧ Below w.heap.size w W ∧ ps.length ≤ cap


theorem twoP {W : World} {b off k cap : Nat} {ps : List ByteArray} (hS : StrsIn W (some ⟨b, off, none⟩) ps) (hk : k < ps.length) (hl : ps.length ≤ 900000) (A2 : Addr) (hA : cap = k + 1 ∨ A2 = ⟨b, off + (k + 1), none⟩) (hle : ps.length ≤ cap) (n2 c2 : Nat) (hn : n2 = ps.length - (k + 1)) (t : TypeId) :
    TRowsIn (W.alloc (.cells #[.slice (some ⟨b, off, none⟩) k cap, .slice (some A2) n2 c2] t)) (some ⟨W.heap.size, 0, none⟩) [⟨some ⟨b, off, none⟩, cap, ps.take k⟩, ⟨some A2, c2, ps.drop (k + 1)⟩] := by
  have hb : Below W.heap.size W (W.alloc (.cells #[.slice (some ⟨b, off, none⟩) k cap, .slice (some A2) n2 c2] t)) := (Below.refl _ _).alloc (Nat.le_refl _) _
  refine .inr ⟨W.heap.size, 0, rfl, by simp, fun i hi => ?_⟩
  rcases hS with h0 | ⟨b', off', e, hlt, hc⟩
  · rw [h0] at hk; simp at hk
  injection e with e
  injection e with e1 e2
  subst e1
  subst e2
  match i, hi with
  | 0, _ =>
    refine ⟨?_, (StrsIn.below (.inr ⟨b, off, rfl, hlt, fun i hi => ?_⟩) hb), ?_, fun h => by cases h⟩
    · have : (ps.take k).length = k := by simp; omega
      show _ = some (Value.slice _ (ps.take k).length _)
      rw [this]
      go_simp
    · show _ = some (Value.string (ps.take k)[i])
      rw [hc i (by simp at hi; omega), List.getElem_take]
    · simp; omega
  | 1, _ =>
    refine ⟨?_, StrsIn.below ?_ hb, ?_, fun h => by cases h⟩
    · have : (ps.drop (k + 1)).length = n2 := by simp; omega
      show _ = some (Value.slice _ (ps.drop (k + 1)).length _)
      rw [this]
      go_simp
    · rcases hA with hA | rfl
      · exact .inl (List.drop_eq_nil_of_le (by omega))
      · refine .inr ⟨b, off + (k + 1), rfl, hlt, fun i hi => ?_⟩
        show _ = some (Value.string (ps.drop (k + 1))[i])
        rw [Nat.add_assoc, hc (k + 1 + i) (by simp at hi; omega), List.getElem_drop]
    · simp; omega
theorem tflat_two (x y : TRow) : tflat [x, y] = x.ts ++ y.ts := by unfold tflat; simp


set_option maxHeartbeats 2000000 in
theorem restore_any (p : ByteArray) (A : Option Addr) (cap : Nat) (ps : List ByteArray) (x : Int) (w : World) (hS : StrsIn w A ps) (hle : ps.length ≤ cap) (hc : cap ≤ 9223372036854775807) (hl : ps.length ≤ 900000) (hz : ∀ q ∈ ps, q.size ≤ maxLen) (hp : p.size ≤ maxLen) :
    Calls Try.prog 21 #[.string p, .slice A ps.length cap, .int .i64 x] w fun e w' => e = .returned (.tuple #[.string (resV p ps x), .int .i64 (resE p ps x)]) ∧ Below w.heap.size w w' := by
  have ceH := Lib.hid (fun W (h : StrsIn W A ps) => element_any A cap ps x W h)
  have hSH := Lib.hid hS
  by_cases hx : 0 ≤ x ∧ x < (ps.length : Int)
  case neg =>
    have e0 := (elB_out hx).2
    obtain ⟨e1, e2⟩ := res_bad (p := p) (ps := ps) (x := x) (by unfold resBad; rw [e0]; rfl)
    rw [e1, e2]
    rw [e0] at ceH
    clear e0 e1 e2 hx hS
    go_enter Try.func21, Try.ntmps21
    go_wp2_with fail
    (with_reducible refine (ceH.out _ hSH.out).mono ?_)
    rintro e w1 ⟨rfl, rfl⟩
    go_wp2
    go_ret2
    exact ⟨rfl, Below.refl _ _⟩
  case pos =>
    obtain ⟨k, rfl⟩ := Int.eq_ofNat_of_zero_le hx.1
    have hk : k < ps.length := by omega
    have eB := (elB_in hk).2
    rw [eB] at ceH
    obtain ⟨b, off, rfl, -, -⟩ := hS.at_ hk
    have hoz : ∀ q ∈ othersOf ps k, q.size ≤ maxLen := fun q hq => by
      rcases List.mem_append.1 hq with h | h
      · exact hz q (List.mem_of_mem_take h)
      · exact hz q (List.mem_of_mem_drop h)
    have hol : (othersOf ps k).length ≤ 1000000 := by unfold othersOf; simp; omega
    have hb1 := Lib.hid (fun W => res1_any p W hp)
    have hct := Lib.hid (fun W A' cap' (h : StrsIn W A' (othersOf ps k)) => scontains_any W A' cap' (othersOf ps k) h hol hoz)
    have hms : Hid (noB p = false → (othersOf ps k).any noB = false → ∀ W A' cap', StrsIn W A' (othersOf ps k) → Calls Try.prog 47 #[.string p, .slice A' (othersOf ps k).length cap'] W fun e w' => e = .returned (.string (foldS [p, foldS (othersOf ps k)])) ∧ Below W.heap.size W w') := Lib.hid (fun h1 h2 W A' cap' h =>
      missing_any p A' cap' (othersOf ps k) W (by rw [noB_false h1]; omega) hol (longest_le fun q hq => by
        have := noB_false (Bool.eq_false_iff.2 fun e => absurd (List.any_eq_true.2 ⟨q, hq, e⟩) (by rw [h2]; decide))
        omega) h)
    have hrb : resBad p ps (k : Int) = (noB p || (othersOf ps k).any noB) := by unfold resBad; rw [eB, Int.toNat_natCast]; rfl
    have hv : Hid (resV p ps (k : Int) = if (noB p || (othersOf ps k).any noB) = true then ⟨#[]⟩ else foldS [p, foldS (othersOf ps k)]) := Lib.hid (by unfold resV; rw [hrb, Int.toNat_natCast])
    have he : Hid (resE p ps (k : Int) = if (noB p || (othersOf ps k).any noB) = true then 1 else 0) := Lib.hid (by unfold resE; rw [hrb])
    generalize resV p ps (k : Int) = rv at hv ⊢
    generalize resE p ps (k : Int) = re at he ⊢
    have hms' := hms
    clear hms hrb eB hoz hol hz hS hx
    have kw : IntKind.i64.wrap ((k : Int) + 1) = (k : Int) + 1 := IntWalk.i64_in _ (by omega)
    have k1 : k + 1 ≤ ps.length := hk
    have k2 : (k : Int) ≤ (cap : Int) := by omega
    have k3 : (k : Int) + 1 ≤ (ps.length : Int) := by omega
    have k4 : (ps.length : Int) ≤ (cap : Int) := by omega
    have k5 : (k : Int) ≤ (k : Int) + 1 := by omega
    have k6 : (0 : Int) ≤ (k : Int) + 1 := by omega
    have k7 : ((k : Int) + 1).toNat = k + 1 := by omega
    have k8 : (ps.length : Int) ≤ (k : Int) + 1 ↔ ps.length ≤ k + 1 := by omega
    by_cases hcap : cap = k + 1

    · subst hcap
      go_enter Try.func21, Try.ntmps21
      go_wp2_with fail
      (with_reducible refine (ceH.out _ hSH.out).mono ?_)
      rintro e w1 ⟨rfl, rfl⟩
      go_upto_region 4 with fail
      have hW0 : Below w.heap.size w w.drew := (Below.refl _ _).drew
      refine region_anyC (fun _ => true) (fun W => Below w.heap.size w W) (by kernel_rfl) ?_
      refine anyL_take 0 (v := ?_) rfl (by kernel_rfl) (fun _ _ _ h => h) (Or.inl ⟨by rfl, ?_⟩) hW0 ?_
      rotate_left
      focus (intro W hW; go_simp; try with_reducible rfl)
      simp only [Act.put, List.setIfInBounds_toArray, List.set_cons_zero, List.set_cons_succ]
      refine anyL_take 1 (v := ?_) rfl (by kernel_rfl) (fun _ _ _ h => h) (Or.inl ⟨by rfl, ?_⟩) hW0 ?_
      rotate_left
      focus (intro W hW; go_simp; try with_reducible rfl)
      simp only [Act.put, List.setIfInBounds_toArray, List.set_cons_zero, List.set_cons_succ]
      refine anyL_take 2 (v := ?_) rfl (by kernel_rfl) (fun _ _ _ h => h) (Or.inl ⟨by rfl, ?_⟩) hW0 ?_
      rotate_left
      focus (intro W hW; go_simp; try with_reducible rfl)
      simp only [Act.put, List.setIfInBounds_toArray, List.set_cons_zero, List.set_cons_succ]
      refine anyL_take 3 (v := ?_) rfl (by kernel_rfl) (fun _ _ _ h => h) (Or.inl ⟨by rfl, ?_⟩) hW0 ?_
      rotate_left
      focus (intro W hW; go_simp; try with_reducible rfl)
      simp only [Act.put, List.setIfInBounds_toArray, List.set_cons_zero, List.set_cons_succ]
      refine anyL_take 4 (v := ?_) rfl (by kernel_rfl) (fun _ _ _ h => h) (Or.inl ⟨by rfl, ?_⟩) hW0 ?_
      rotate_left
      focus (intro W hW; go_simp; try with_reducible rfl)
      simp only [Act.put, List.setIfInBounds_toArray, List.set_cons_zero, List.set_cons_succ]
      refine anyL_take 5 (v := ?_) rfl (by kernel_rfl) (fun _ _ _ h => h) (Or.inl ⟨by rfl, ?_⟩) hW0 ?_
      rotate_left
      focus (intro W hW; go_simp; try with_reducible rfl)
      simp only [Act.put, List.setIfInBounds_toArray, List.set_cons_zero, List.set_cons_succ]
      refine anyL_take 6 (v := ?_) rfl (by kernel_rfl) (fun _ _ _ h => h) (Or.inl ⟨by rfl, ?_⟩) hW0 ?_
      rotate_left
      focus (intro W hW; go_simp; try with_reducible rfl)
      simp only [Act.put, List.setIfInBounds_toArray, List.set_cons_zero, List.set_cons_succ]
      refine fresh_anyC (fun W => Below w.heap.size w W) hW0 ?_
      clear hW0
      rintro W1 hW1
      refine anyL_one 7 rfl (by kernel_rfl) (fun K hK => ?_)
      go_simp
      refine hK.out _ _ (fun _ => hW1.alloc hW1.size _) ?_
      clear hK K
      try simp only [Act.put, List.setIfInBounds_toArray, List.set_cons_zero, List.set_cons_succ]
      have hT := twoP (hSH.out.below hW1) hk hl ⟨b, off, none⟩ (.inl rfl) hle (0) (0) (by omega) 22
      have hB := hW1.alloc hW1.size (.cells #[.slice (some ⟨b, off, none⟩) k (k + 1), .slice (some ⟨b, off, none⟩) (0) (0)] 22)
      generalize hG : W1.heap.size = G at hT ⊢
      refine fresh_anyC (fun W => TRowsIn W (some ⟨G, 0, none⟩) [⟨some ⟨b, off, none⟩, k + 1, ps.take k⟩, ⟨some ⟨b, off, none⟩, 0, ps.drop (k + 1)⟩] ∧ Below w.heap.size w W) ⟨hT, hB⟩ ?_
      clear hT hB hG hW1
      rintro W2 ⟨hT2, hB2⟩
      have ccH := Lib.hid (sconcat_any W2 G 2 [⟨some ⟨b, off, none⟩, k + 1, ps.take k⟩, ⟨some ⟨b, off, none⟩, 0, ps.drop (k + 1)⟩] hT2 (by intro r hr; rcases List.mem_cons.1 hr with rfl | hr; exact ⟨_, rfl⟩; obtain rfl := List.mem_singleton.1 hr; exact ⟨_, rfl⟩) (by simp) (by rw [tflat_two]; simp; omega))
      rw [tflat_two] at ccH
      refine anyL_one 8 rfl (by kernel_rfl) (fun K hK => ?_)
      go_simp
      refine ccH.out.mono ?_
      rintro e' v2 ⟨A', cap', rfl, hI', hb2, hc2⟩
      have hn : StrsIn v2 A' (othersOf ps k) ∧ Below w.heap.size w v2 := ⟨hI', hB2.trans (hb2.mono hB2.size)⟩
      refine hK.out _ _ (fun _ => hn.2) ?_
      clear hK K ccH hT2
      have e3 : ({ A := some ⟨b, off, none⟩, cap := k + 1, ts := ps.take k } : TRow).ts ++ ({ A := some ⟨b, off, none⟩, cap := 0, ts := ps.drop (k + 1) } : TRow).ts = othersOf ps k := rfl
      rw [e3]
      clear e3
      refine fresh_anyC (fun W => StrsIn W A' (othersOf ps k) ∧ Below w.heap.size w W) hn ?_
      clear hn hI' hb2 hc2 hB2
      rintro W3 hW3
      refine anyL_one 9 rfl (by kernel_rfl) (fun K hK => ?_)
      go_simp
      refine hK.out _ _ (fun _ => hW3.2) ?_
      clear hK K
      try simp only [Act.put, List.setIfInBounds_toArray, List.set_cons_zero, List.set_cons_succ]
      refine anyC_done (by kernel_rfl) ?_ _
      have hW4H := Lib.hid hW3
      clear hW3 hSH
      obtain ⟨n1, hn1⟩ : ∃ v, noB p = v := ⟨_, rfl⟩
      obtain ⟨n2, hn2⟩ : ∃ v, (othersOf ps k).any noB = v := ⟨_, rfl⟩
      rw [hn1] at hb1 hms'
      rw [hn2] at hct hms'
      rw [hn1, hn2] at hv he
      clear hn1 hn2
      generalize hol : (othersOf ps k).length = ol at hct hms'
      cases n1 <;> cases n2
      · go_wp2_with fail
        (with_reducible refine (hb1.out _).mono ?_)
        rintro e w1 ⟨rfl, rfl⟩
        go_wp2_with fail
        (with_reducible refine (hct.out _ _ _ hW4H.out.1).mono ?_)
        rintro e w2 ⟨rfl, rfl⟩
        go_wp2_with fail
        (with_reducible refine (hms'.out trivial trivial _ _ _ hW4H.out.1).mono ?_)
        rintro e w3 ⟨rfl, hb3⟩
        have hF := Lib.hid (hW4H.out.2.trans (hb3.mono hW4H.out.2.size))
        clear hb3
        go_wp2
        go_ret2
        exact ⟨by rw [hv.out, he.out]; rfl, hF.out⟩
      · go_wp2_with fail
        (with_reducible refine (hb1.out _).mono ?_)
        rintro e w1 ⟨rfl, rfl⟩
        go_wp2_with fail
        (with_reducible refine (hct.out _ _ _ hW4H.out.1).mono ?_)
        rintro e w2 ⟨rfl, rfl⟩
        go_wp2
        go_ret2
        exact ⟨by rw [hv.out, he.out]; rfl, hW4H.out.2⟩
      · go_wp2_with fail
        (with_reducible refine (hb1.out _).mono ?_)
        rintro e w1 ⟨rfl, rfl⟩
        go_wp2
        go_ret2
        exact ⟨by rw [hv.out, he.out]; rfl, hW4H.out.2⟩
      · go_wp2_with fail
        (with_reducible refine (hb1.out _).mono ?_)
        rintro e w1 ⟨rfl, rfl⟩
        go_wp2
        go_ret2
        exact ⟨by rw [hv.out, he.out]; rfl, hW4H.out.2⟩

    · go_enter Try.func21, Try.ntmps21
      go_wp2_with fail
      (with_reducible refine (ceH.out _ hSH.out).mono ?_)
      rintro e w1 ⟨rfl, rfl⟩
      go_upto_region 4 with fail
      have hW0 : Below w.heap.size w w.drew := (Below.refl _ _).drew
      refine region_anyC (fun _ => true) (fun W => Below w.heap.size w W) (by kernel_rfl) ?_
      refine anyL_take 0 (v := ?_) rfl (by kernel_rfl) (fun _ _ _ h => h) (Or.inl ⟨by rfl, ?_⟩) hW0 ?_
      rotate_left
      focus (intro W hW; go_simp; try with_reducible rfl)
      simp only [Act.put, List.setIfInBounds_toArray, List.set_cons_zero, List.set_cons_succ]
      refine anyL_take 1 (v := ?_) rfl (by kernel_rfl) (fun _ _ _ h => h) (Or.inl ⟨by rfl, ?_⟩) hW0 ?_
      rotate_left
      focus (intro W hW; go_simp; try with_reducible rfl)
      simp only [Act.put, List.setIfInBounds_toArray, List.set_cons_zero, List.set_cons_succ]
      refine anyL_take 2 (v := ?_) rfl (by kernel_rfl) (fun _ _ _ h => h) (Or.inl ⟨by rfl, ?_⟩) hW0 ?_
      rotate_left
      focus (intro W hW; go_simp; try with_reducible rfl)
      simp only [Act.put, List.setIfInBounds_toArray, List.set_cons_zero, List.set_cons_succ]
      refine anyL_take 3 (v := ?_) rfl (by kernel_rfl) (fun _ _ _ h => h) (Or.inl ⟨by rfl, ?_⟩) hW0 ?_
      rotate_left
      focus (intro W hW; go_simp; try with_reducible rfl)
      simp only [Act.put, List.setIfInBounds_toArray, List.set_cons_zero, List.set_cons_succ]
      refine anyL_take 4 (v := ?_) rfl (by kernel_rfl) (fun _ _ _ h => h) (Or.inl ⟨by rfl, ?_⟩) hW0 ?_
      rotate_left
      focus (intro W hW; go_simp; try with_reducible rfl)
      simp only [Act.put, List.setIfInBounds_toArray, List.set_cons_zero, List.set_cons_succ]
      refine anyL_take 5 (v := ?_) rfl (by kernel_rfl) (fun _ _ _ h => h) (Or.inl ⟨by rfl, ?_⟩) hW0 ?_
      rotate_left
      focus (intro W hW; go_simp; try with_reducible rfl)
      simp only [Act.put, List.setIfInBounds_toArray, List.set_cons_zero, List.set_cons_succ]
      refine anyL_take 6 (v := ?_) rfl (by kernel_rfl) (fun _ _ _ h => h) (Or.inl ⟨by rfl, ?_⟩) hW0 ?_
      rotate_left
      focus (intro W hW; go_simp; try with_reducible rfl)
      simp only [Act.put, List.setIfInBounds_toArray, List.set_cons_zero, List.set_cons_succ]
      refine fresh_anyC (fun W => Below w.heap.size w W) hW0 ?_
      clear hW0
      rintro W1 hW1
      refine anyL_one 7 rfl (by kernel_rfl) (fun K hK => ?_)
      go_simp
      refine hK.out _ _ (fun _ => hW1.alloc hW1.size _) ?_
      clear hK K
      try simp only [Act.put, List.setIfInBounds_toArray, List.set_cons_zero, List.set_cons_succ]
      have hT := twoP (hSH.out.below hW1) hk hl ⟨b, off + (k + 1), none⟩ (.inr rfl) hle (ps.length - (k + 1)) (cap - (k + 1)) (by omega) 22
      have hB := hW1.alloc hW1.size (.cells #[.slice (some ⟨b, off, none⟩) k (cap), .slice (some ⟨b, off + (k + 1), none⟩) (ps.length - (k + 1)) (cap - (k + 1))] 22)
      generalize hG : W1.heap.size = G at hT ⊢
      refine fresh_anyC (fun W => TRowsIn W (some ⟨G, 0, none⟩) [⟨some ⟨b, off, none⟩, cap, ps.take k⟩, ⟨some ⟨b, off + (k + 1), none⟩, cap - (k + 1), ps.drop (k + 1)⟩] ∧ Below w.heap.size w W) ⟨hT, hB⟩ ?_
      clear hT hB hG hW1
      rintro W2 ⟨hT2, hB2⟩
      have ccH := Lib.hid (sconcat_any W2 G 2 [⟨some ⟨b, off, none⟩, cap, ps.take k⟩, ⟨some ⟨b, off + (k + 1), none⟩, cap - (k + 1), ps.drop (k + 1)⟩] hT2 (by intro r hr; rcases List.mem_cons.1 hr with rfl | hr; exact ⟨_, rfl⟩; obtain rfl := List.mem_singleton.1 hr; exact ⟨_, rfl⟩) (by simp) (by rw [tflat_two]; simp; omega))
      rw [tflat_two] at ccH
      refine anyL_one 8 rfl (by kernel_rfl) (fun K hK => ?_)
      go_simp
      refine ccH.out.mono ?_
      rintro e' v2 ⟨A', cap', rfl, hI', hb2, hc2⟩
      have hn : StrsIn v2 A' (othersOf ps k) ∧ Below w.heap.size w v2 := ⟨hI', hB2.trans (hb2.mono hB2.size)⟩
      refine hK.out _ _ (fun _ => hn.2) ?_
      clear hK K ccH hT2
      have e3 : ({ A := some ⟨b, off, none⟩, cap := cap, ts := ps.take k } : TRow).ts ++ ({ A := some ⟨b, off + (k + 1), none⟩, cap := cap - (k + 1), ts := ps.drop (k + 1) } : TRow).ts = othersOf ps k := rfl
      rw [e3]
      clear e3
      refine fresh_anyC (fun W => StrsIn W A' (othersOf ps k) ∧ Below w.heap.size w W) hn ?_
      clear hn hI' hb2 hc2 hB2
      rintro W3 hW3
      refine anyL_one 9 rfl (by kernel_rfl) (fun K hK => ?_)
      go_simp
      refine hK.out _ _ (fun _ => hW3.2) ?_
      clear hK K
      try simp only [Act.put, List.setIfInBounds_toArray, List.set_cons_zero, List.set_cons_succ]
      refine anyC_done (by kernel_rfl) ?_ _
      have hW4H := Lib.hid hW3
      clear hW3 hSH
      obtain ⟨n1, hn1⟩ : ∃ v, noB p = v := ⟨_, rfl⟩
      obtain ⟨n2, hn2⟩ : ∃ v, (othersOf ps k).any noB = v := ⟨_, rfl⟩
      rw [hn1] at hb1 hms'
      rw [hn2] at hct hms'
      rw [hn1, hn2] at hv he
      clear hn1 hn2
      generalize hol : (othersOf ps k).length = ol at hct hms'
      cases n1 <;> cases n2
      · go_wp2_with fail
        (with_reducible refine (hb1.out _).mono ?_)
        rintro e w1 ⟨rfl, rfl⟩
        go_wp2_with fail
        (with_reducible refine (hct.out _ _ _ hW4H.out.1).mono ?_)
        rintro e w2 ⟨rfl, rfl⟩
        go_wp2_with fail
        (with_reducible refine (hms'.out trivial trivial _ _ _ hW4H.out.1).mono ?_)
        rintro e w3 ⟨rfl, hb3⟩
        have hF := Lib.hid (hW4H.out.2.trans (hb3.mono hW4H.out.2.size))
        clear hb3
        go_wp2
        go_ret2
        exact ⟨by rw [hv.out, he.out]; rfl, hF.out⟩
      · go_wp2_with fail
        (with_reducible refine (hb1.out _).mono ?_)
        rintro e w1 ⟨rfl, rfl⟩
        go_wp2_with fail
        (with_reducible refine (hct.out _ _ _ hW4H.out.1).mono ?_)
        rintro e w2 ⟨rfl, rfl⟩
        go_wp2
        go_ret2
        exact ⟨by rw [hv.out, he.out]; rfl, hW4H.out.2⟩
      · go_wp2_with fail
        (with_reducible refine (hb1.out _).mono ?_)
        rintro e w1 ⟨rfl, rfl⟩
        go_wp2
        go_ret2
        exact ⟨by rw [hv.out, he.out]; rfl, hW4H.out.2⟩
      · go_wp2_with fail
        (with_reducible refine (hb1.out _).mono ?_)
        rintro e w1 ⟨rfl, rfl⟩
        go_wp2
        go_ret2
        exact ⟨by rw [hv.out, he.out]; rfl, hW4H.out.2⟩

end Go.Proofs.Ytonoanjakfaloaa
