/- The law of stripe's pieces. -/
import Derived.Test.YtonoanjakfaloaaSpSp
import Derived.BigQuiet
import Derived.Deep.QuietTactic
namespace Go.Proofs.Ytonoanjakfaloaa
open Go.RowKit

/-- A piece in a box. -/
def PcAt (W : World) (g : Nat) (x : Pc) : Prop := W.cell? ⟨g, 0, none⟩ = some (.int .i64 x.r) ∧ W.cell? ⟨g, 1, none⟩ = some (.int .i64 x.f) ∧ W.cell? ⟨g, 2, none⟩ = some (.int .i64 x.c)
/-- What is known of a piece of a range. -/
theorem pcs_drop {b : Nat} {hb : 0 < b} {f n k : Nat} {ps : List Pc} {a m : Nat} (h : pcs b hb a m = ps.drop k) (hk : k < ps.length) (_hfn : pcs b hb f n = ps) :
    0 < m ∧ ps[k] = ⟨((a / b : Nat) : Int), ((a % b : Nat) : Int), ((min m (b - a % b) : Nat) : Int)⟩ ∧ pcs b hb (a + min m (b - a % b)) (m - min m (b - a % b)) = ps.drop (k + 1) ∧ (k + 1 < ps.length → min m (b - a % b) = b - a % b) := by
  have hm : 0 < m := by
    rcases Nat.eq_zero_or_pos m with h0 | h0
    · subst h0
      rw [pcs_zero] at h
      have := congrArg List.length h
      simp at this
      omega
    · exact h0
  rw [pcs_step hm, List.drop_eq_getElem_cons hk] at h
  injection h with h1 h2
  refine ⟨hm, h1.symm, h2, fun hk2 => ?_⟩
  rcases Nat.eq_zero_or_pos (m - min m (b - a % b)) with h0 | h0
  · rw [h0, pcs_zero] at h2
    have := congrArg List.length h2
    simp at this
    omega
  · omega
theorem next_row {b a : Nat} (hb : 0 < b) : (a + (b - a % b)) % b = 0 := by
  have h := Nat.div_add_mod a b
  have h2 := Nat.mod_lt a hb
  have e : a + (b - a % b) = b * (a / b + 1) := by rw [Nat.mul_add, Nat.mul_one]; omega
  rw [e, Nat.mul_mod_right]
theorem and4095 (x : Int) (_h : 0 ≤ x) (_h2 : x ≤ 9223372036854775807) : bits .and .i64 x 4095 = x % 4096 := by
  have := and_mask2 x 12 4095 (by decide) (by decide)
  simpa using this

set_option maxHeartbeats 1000000 in
/-- A range of which there are no pieces. -/
theorem pieces_law_none (b f n n' : Int) (w : World) (_hb : -9223372036854775808 ≤ b ∧ b ≤ 9223372036854775807) (hf : -9223372036854775808 ≤ f ∧ f ≤ 9223372036854775807) (hn : -9223372036854775808 ≤ n ∧ n ≤ 9223372036854775807) (hn' : n' = if 5000 < n then n % 4096 else n) (h : b < 1 ∨ f < 0 ∨ n' < 1 ∨ 1099511627776 < f ∨ 1099511627776 - f < n') :
    Calls Try.prog 6 #[.int .i64 b, .int .i64 f, .int .i64 n] w fun e w' => e = .returned (.bool true) ∧ Below w.heap.size w w' := by
  have cs := Lib.hid speaks11
  have cp := Lib.hid (fun W => pieces_none b f n' W hf.2 h)
  have h6 : 0 ≤ f → f ≤ 1099511627776 → wrap64 (1099511627776 - f) = 1099511627776 - f := fun h h2 => IntWalk.wrap64_in _ (by omega)
  by_cases hn5 : 5000 < n
  · rw [if_pos hn5] at hn'
    have ha := and4095 n (by omega) hn.2
    rw [← hn'] at ha
    have hnb : 0 ≤ n' ∧ n' ≤ 4095 := by omega
    obtain ⟨hnb1, hnb2⟩ := hnb
    clear hn' hf hn
    by_cases h1 : b < 1
    · clear h h6
      go_enter Try.func6, Try.ntmps6
      go_wp2_with fail
      (with_reducible refine (cs.out _).mono ?_)
      rintro e w1 ⟨rfl, hb1⟩
      go_wp2_with fail
      (with_reducible refine (cp.out _).mono ?_)
      rintro e w2 ⟨rfl, rfl⟩
      go_wp2
      go_ret
      exact ⟨rfl, hb1⟩
    by_cases h2 : f < 0
    · clear h h6
      go_enter Try.func6, Try.ntmps6
      go_wp2_with fail
      (with_reducible refine (cs.out _).mono ?_)
      rintro e w1 ⟨rfl, hb1⟩
      go_wp2_with fail
      (with_reducible refine (cp.out _).mono ?_)
      rintro e w2 ⟨rfl, rfl⟩
      go_wp2
      go_ret
      exact ⟨rfl, hb1⟩
    by_cases h3 : n' < 1
    · clear h h6
      go_enter Try.func6, Try.ntmps6
      go_wp2_with fail
      (with_reducible refine (cs.out _).mono ?_)
      rintro e w1 ⟨rfl, hb1⟩
      go_wp2_with fail
      (with_reducible refine (cp.out _).mono ?_)
      rintro e w2 ⟨rfl, rfl⟩
      go_wp2
      go_ret
      exact ⟨rfl, hb1⟩
    by_cases h4 : 1099511627776 < f
    · clear h h6
      go_enter Try.func6, Try.ntmps6
      go_wp2_with fail
      (with_reducible refine (cs.out _).mono ?_)
      rintro e w1 ⟨rfl, hb1⟩
      go_wp2_with fail
      (with_reducible refine (cp.out _).mono ?_)
      rintro e w2 ⟨rfl, rfl⟩
      go_wp2
      go_ret
      exact ⟨rfl, hb1⟩
    have h5 : 1099511627776 - f < n' := by omega
    have h7 := h6 (by omega) (by omega)
    clear h h6
    go_enter Try.func6, Try.ntmps6
    go_wp2_with fail
    (with_reducible refine (cs.out _).mono ?_)
    rintro e w1 ⟨rfl, hb1⟩
    go_wp2_with fail
    (with_reducible refine (cp.out _).mono ?_)
    rintro e w2 ⟨rfl, rfl⟩
    go_wp2
    go_ret
    exact ⟨rfl, hb1⟩
  · rw [if_neg hn5] at hn'
    subst hn'
    clear hf hn
    by_cases h1 : b < 1
    · clear h h6
      go_enter Try.func6, Try.ntmps6
      go_wp2_with fail
      (with_reducible refine (cs.out _).mono ?_)
      rintro e w1 ⟨rfl, hb1⟩
      go_wp2_with fail
      (with_reducible refine (cp.out _).mono ?_)
      rintro e w2 ⟨rfl, rfl⟩
      go_wp2
      go_ret
      exact ⟨rfl, hb1⟩
    by_cases h2 : f < 0
    · clear h h6
      go_enter Try.func6, Try.ntmps6
      go_wp2_with fail
      (with_reducible refine (cs.out _).mono ?_)
      rintro e w1 ⟨rfl, hb1⟩
      go_wp2_with fail
      (with_reducible refine (cp.out _).mono ?_)
      rintro e w2 ⟨rfl, rfl⟩
      go_wp2
      go_ret
      exact ⟨rfl, hb1⟩
    by_cases h3 : n' < 1
    · clear h h6
      go_enter Try.func6, Try.ntmps6
      go_wp2_with fail
      (with_reducible refine (cs.out _).mono ?_)
      rintro e w1 ⟨rfl, hb1⟩
      go_wp2_with fail
      (with_reducible refine (cp.out _).mono ?_)
      rintro e w2 ⟨rfl, rfl⟩
      go_wp2
      go_ret
      exact ⟨rfl, hb1⟩
    by_cases h4 : 1099511627776 < f
    · clear h h6
      go_enter Try.func6, Try.ntmps6
      go_wp2_with fail
      (with_reducible refine (cs.out _).mono ?_)
      rintro e w1 ⟨rfl, hb1⟩
      go_wp2_with fail
      (with_reducible refine (cp.out _).mono ?_)
      rintro e w2 ⟨rfl, rfl⟩
      go_wp2
      go_ret
      exact ⟨rfl, hb1⟩
    have h5 : 1099511627776 - f < n' := by omega
    have h7 := h6 (by omega) (by omega)
    clear h h6
    go_enter Try.func6, Try.ntmps6
    go_wp2_with fail
    (with_reducible refine (cs.out _).mono ?_)
    rintro e w1 ⟨rfl, hb1⟩
    go_wp2_with fail
    (with_reducible refine (cp.out _).mono ?_)
    rintro e w2 ⟨rfl, rfl⟩
    go_wp2
    go_ret
    exact ⟨rfl, hb1⟩

theorem rel_facts {k n a c m' : Nat} (h1 : k < n) (h2 : c ≤ m') (h3 : a + m' ≤ 1099511627776) : k + 1 ≤ n ∧ (a + c) + (m' - c) ≤ 1099511627776 ∧ (a : Int) + (c : Int) = ((a + c : Nat) : Int) ∧ (m' : Int) - (c : Int) = ((m' - c : Nat) : Int) ∧ (k : Int) + 1 = ((k + 1 : Nat) : Int) ∧ n - ((k : Int) + 1).toNat < n - (k : Int).toNat := by omega
theorem reg_facts {b m' k n r c : Nat} (hb2 : b ≤ 9223372036854775807) (h1 : c ≤ m') (h3 : c ≤ b - r) (h4 : r < b) (h6 : m' ≤ 1099511627776) (h7 : k < n) (h8 : n ≤ 5000) :
    IntKind.i64.wrap (b : Int) = (b : Int) ∧ (c : Int) ≤ (b : Int) ∧ decide ((b : Int) < (c : Int)) = false ∧ IntKind.i64.wrap (c : Int) = (c : Int) ∧ IntKind.i64.wrap ((b : Int) - (r : Int)) = (b : Int) - (r : Int) ∧ (c : Int) ≤ (b : Int) - (r : Int) ∧ IntKind.i64.wrap ((r : Int) + (c : Int)) = (r : Int) + (c : Int) ∧ IntKind.i64.wrap ((k : Int) + 1) = (k : Int) + 1 :=
  ⟨IntWalk.i64_in _ (by omega), by omega, decide_eq_false (by omega), IntWalk.i64_in _ (by omega), IntWalk.i64_in _ (by omega), by omega, IntWalk.i64_in _ (by omega), IntWalk.i64_in _ (by omega)⟩
theorem both_end {b r c m' : Nat} (h : (r : Int) = 0) (h2 : (r : Int) + (c : Int) = (b : Int)) (h3 : c ≤ m') : (c : Int) = (b : Int) ∧ b ≤ m' ∧ decide (m' < b) = false := ⟨by omega, by omega, decide_eq_false (by omega)⟩
theorem row_end {b r c : Nat} (h : c = b - r) (h4 : r < b) : (r : Int) + (c : Int) = (b : Int) := by omega
theorem pos_int {k : Nat} (h : 0 < k) : decide ((0 : Int) < (k : Int)) = true := decide_eq_true (by omega)
theorem not_pos_int {k : Nat} (h : ¬ 0 < k) : decide ((0 : Int) < (k : Int)) = false := decide_eq_false (by omega)
theorem not_next {k n : Nat} (h : ¬ k + 1 < n) : decide ((k : Int) + 1 < (n : Int)) = false := decide_eq_false (by omega)
theorem yes_next {k n : Nat} (h : k + 1 < n) : decide ((k : Int) + 1 < (n : Int)) = true := decide_eq_true (by omega)
theorem piece_facts {b a m' k n q r c : Nat} (hb : 0 < b) (hb2 : b ≤ 9223372036854775807) (h1 : c ≤ m') (h2 : 1 ≤ c) (h3 : c ≤ b - r) (h4 : r < b) (h5 : q ≤ a) (h6 : a + m' ≤ 1099511627776) (h7 : k < n) (h8 : n ≤ 5000) :
    IntKind.i64.wrap ((q : Nat) : Int) = (q : Int) ∧ IntKind.i64.wrap ((r : Nat) : Int) = (r : Int) ∧ ¬ b = 0 ∧ ¬ ((b : Int) = 0) ∧ ¬ ((b : Int) = -1) ∧ decide ((c : Int) < 1) = false ∧ decide ((r : Int) < 0) = false ∧ decide ((b : Int) ≤ (r : Int)) = false ∧ decide ((b : Int) - (r : Int) < (c : Int)) = false ∧ decide ((m' : Int) < (c : Int)) = false ∧
      wrap64 ((b : Int) - (r : Int)) = (b : Int) - (r : Int) ∧ wrap64 ((k : Int) + 1) = (k : Int) + 1 ∧ wrap64 ((r : Int) + (c : Int)) = (r : Int) + (c : Int) ∧ (k : Int) < (n : Int) ∧ IntKind.i64.wrap ((a : Int) + (c : Int)) = (a : Int) + (c : Int) ∧ IntKind.i64.wrap ((m' : Int) - (c : Int)) = (m' : Int) - (c : Int) := by
  refine ⟨IntWalk.i64_in _ (by omega), IntWalk.i64_in _ (by omega), by omega, by omega, by omega, decide_eq_false (by omega), decide_eq_false (by omega), decide_eq_false (by omega), decide_eq_false (by omega), decide_eq_false (by omega), IntWalk.wrap64_in _ (by omega), IntWalk.wrap64_in _ (by omega), IntWalk.wrap64_in _ (by omega), by omega, IntWalk.i64_in _ (by omega), IntWalk.i64_in _ (by omega)⟩
set_option maxRecDepth 100000 in
set_option maxHeartbeats 40000000 in
/-- A range of which there are some. -/
theorem pieces_law_some (b f m : Nat) (n : Int) (w : World) (hb : 0 < b) (hb2 : b ≤ 9223372036854775807) (hm : 1 ≤ m) (hm2 : m ≤ 5000) (hf : f + m ≤ 1099511627776) (hn : -9223372036854775808 ≤ n ∧ n ≤ 9223372036854775807) (hn' : (m : Int) = if 5000 < n then n % 4096 else n) :
    Calls Try.prog 6 #[.int .i64 (b : Int), .int .i64 (f : Int), .int .i64 n] w fun e w' => e = .returned (.bool true) ∧ Below w.heap.size w w' := by
  have cs := Lib.hid speaks11
  have cp := Lib.hid (fun W => pieces_any b f m W hb hb2 hm hm2 hf)
  have h1 : decide ((b : Int) < 1) = false := decide_eq_false (by omega)
  have h2 : decide ((f : Int) < 0) = false := decide_eq_false (by omega)
  have h3 : decide ((m : Int) < 1) = false := decide_eq_false (by omega)
  have h4 : decide (1099511627776 < (f : Int)) = false := decide_eq_false (by omega)
  have h5 : decide (1099511627776 - (f : Int) < (m : Int)) = false := decide_eq_false (by omega)
  have h6 : wrap64 (1099511627776 - (f : Int)) = 1099511627776 - (f : Int) := IntWalk.wrap64_in _ (by omega)
  obtain ⟨ps, hps⟩ : ∃ ps, ps = pcs b hb f m := ⟨_, rfl⟩
  rw [← hps] at cp
  have hlen : ps.length ≤ 5000 := by rw [hps]; exact Nat.le_trans (pcs_len _ _) hm2
  have hpsH := Lib.hid hps
  clear hps
  have hnH := Lib.hid hn
  have hn'H := Lib.hid hn'
  clear hn hn'
  go_enter Try.func6, Try.ntmps6
  go_wp2_with fail
  (with_reducible refine (cs.out _).mono ?_)
  rintro e w1 ⟨rfl, hb1⟩
  go_upto_if 15 with fail
  go_cut [2] from 16 to 17 (fun s2 wx => s2 = .int .i64 (m : Int) ∧ wx = w1)
  case first =>
    have hn' := hn'H.out
    by_cases hn5 : 5000 < n
    · rw [if_pos hn5] at hn'
      have ha := and4095 n (by omega) hnH.out.2
      rw [← hn'] at ha
      clear hn'
      go_wp2_with fail
      go_meet
      exact ⟨rfl, rfl⟩
    · rw [if_neg hn5] at hn'
      clear hn'H
      subst hn'
      go_wp2_with fail
      go_meet
      exact ⟨rfl, rfl⟩
  case rest =>
    obtain ⟨rfl, rfl⟩ := hcut
    clear hnH hn'H
    go_wp2_with fail
    (with_reducible refine (cp.out _).mono ?_)
    rintro e w2 ⟨A, cap, rfl, hR, hb2⟩
    have hBH := Lib.hid (hb1.trans (hb2.mono hb1.size))
    clear cs cp hb1 hb2
    have hI : ∀ W, Below w2.heap.size w2 W → ∀ k (hk : k < ps.length), ∃ g, A = some ⟨g, 0, none⟩ ∧ W.cell? ⟨g, k * 3, none⟩ = some (.int .i64 ps[k].r) ∧ W.cell? ⟨g, k * 3 + 1, none⟩ = some (.int .i64 ps[k].f) ∧ W.cell? ⟨g, k * 3 + 2, none⟩ = some (.int .i64 ps[k].c) := fun W hW k hk => by
      obtain ⟨g, e, _, _, _, hc, _⟩ := (hR.below hW).at_ hk
      exact ⟨g, e, hc 0 (by decide), hc 1 (by decide), hc 2 (by decide)⟩
    have hIH := Lib.hid hI
    clear hI hR
    go_wp2_with fail
    go_loopw [8, 9, 10] (fun s8 s9 s10 wr => ∃ k a m' : Nat, k ≤ ps.length ∧ s8 = .int .i64 (a : Int) ∧ s9 = .int .i64 (m' : Int) ∧ s10 = .int .i64 (k : Int) ∧ a + m' ≤ 1099511627776 ∧ Hid (pcs b hb a m' = ps.drop k) ∧ (0 < k → 0 < m' → a % b = 0) ∧ Below w2.heap.size w2 wr) (fun _ _ i _ => ps.length - (intOf i).toNat)
    case atStart => exact ⟨0, f, m, Nat.zero_le _, rfl, rfl, rfl, hf, Lib.hid (by rw [List.drop_zero]; exact hpsH.out.symm), fun h => absurd h (Nat.lt_irrefl _), Below.refl _ _⟩
    case round =>
      obtain ⟨k, a, m', hk, rfl, rfl, rfl, hf2, hD, hz, hB⟩ := hrel
      by_cases hlt : k < ps.length
      case neg =>
        have e : k = ps.length := by omega
        subst e
        have h0 : m' = 0 := by
          have := hD.out
          rw [List.drop_eq_nil_of_le (Nat.le_refl _)] at this
          rcases Nat.eq_zero_or_pos m' with h0 | h0
          · exact h0
          · rw [pcs_step h0] at this; cases this
        subst h0
        have hF := Lib.hid (hBH.out.trans (hB.mono hBH.out.size))
        clear hD hz hB hIH hBH
        go_wp2
        go_ret
        exact ⟨rfl, hF.out⟩
      case pos =>
        obtain ⟨g1, e1, e2, e3⟩ := pcs_drop hD.out hlt hpsH.out.symm
        obtain ⟨g, rfl, y0, y1, y2⟩ := hIH.out _ hB k hlt
        rw [e1] at y0 y1 y2
        have hmod := Nat.mod_lt a hb
        have d1 : (a : Int).tdiv (b : Int) = ((a / b : Nat) : Int) := by rw [Int.tdiv_eq_ediv_of_nonneg (by omega)]; rfl
        have d2 : (a : Int).tmod (b : Int) = ((a % b : Nat) : Int) := by rw [Int.tmod_eq_emod_of_nonneg (by omega)]; rfl
        have hq : a / b ≤ a := Nat.div_le_self _ _
        have hnr : m' - min m' (b - a % b) > 0 → (a + min m' (b - a % b)) % b = 0 := fun h => by
          rw [show min m' (b - a % b) = b - a % b by omega]
          exact next_row hb
        have hzr : 0 < k → a % b = 0 := fun h => hz h g1
        obtain ⟨q, hqe⟩ : ∃ q, a / b = q := ⟨_, rfl⟩
        obtain ⟨r, hre⟩ : ∃ r, a % b = r := ⟨_, rfl⟩
        obtain ⟨c, hce⟩ : ∃ c, min m' (b - r) = c := ⟨_, rfl⟩
        rw [hqe, hre, hce] at y0 y1 y2
        rw [hre, hce] at e2 e3 hnr
        rw [hre] at hzr hmod d2
        rw [hqe] at d1 hq
        have e3H := Lib.hid e3
        have hzrH := Lib.hid hzr
        have hnrH := Lib.hid hnr
        have e2H := Lib.hid e2
        clear e3 hzr hnr e2 hz
        have hcb : c ≤ m' ∧ 1 ≤ c ∧ c ≤ b - r ∧ r < b := by omega
        obtain ⟨hcb1, hcb2, hcb3, hcb4⟩ := hcb
        clear hce hmod
        obtain ⟨q1, q2, b2, b3, b4, t1, t2, t3, t4, t5, w1, w2', w3, hkl, w4, w5⟩ := piece_facts (b := b) (k := k) (n := ps.length) hb hb2 hcb1 hcb2 hcb3 hcb4 hq hf2 hlt hlen
        have hB2 := Lib.hid (hB.alloc hB.size (.cells #[.int .i64 (q : Int), .int .i64 (r : Int), .int .i64 (c : Int)] 49))
        have hgl := lt_of_cell y0
        clear hD e1 hqe hre hB
        by_cases hk0 : 0 < k
        · by_cases hkn : k + 1 < ps.length
          · as_aux_lemma =>
              have hsk := hzrH.out hk0
              have hsk2H : Hid ((r : Int) = 0) := Lib.hid (by rw [hsk]; rfl)
              have hsk3 := pos_int hk0
              clear hsk
              have hsn := row_end (e3H.out hkn) hcb4
              have hsn2 := yes_next hkn
              go_upto_region 13 with fail
              refine fresh_world (fun W => PcAt W wr.heap.size ⟨(q : Int), (r : Int), (c : Int)⟩ ∧ Below w2.heap.size w2 W) ⟨⟨by go_simp, by go_simp, by go_simp⟩, hB2.out⟩ ?_
              clear hB2 y0 y1 y2 hgl
              generalize wr.heap.size = G
              rintro W3 ⟨⟨a0, a1, a2⟩, hB3⟩
              have p0 : W3.cell? ⟨G, 0, none⟩ = some (.int .i64 (q : Int)) := a0
              have p1 : W3.cell? ⟨G, 1, none⟩ = some (.int .i64 (r : Int)) := a1
              have p2 : W3.cell? ⟨G, 2, none⟩ = some (.int .i64 (c : Int)) := a2
              clear a0 a1 a2
              have hB3H := Lib.hid hB3
              clear hB3
              obtain ⟨z1, z2, z3, z4, z5, z6, z7, z8⟩ := reg_facts (b := b) (k := k) (n := ps.length) hb2 hcb1 hcb3 hcb4 (Nat.le_trans (Nat.le_add_left _ _) hf2) hlt hlen
              have zA : decide (m' < c) = false := decide_eq_false (Nat.not_lt.2 hcb1)
              have zD : c ≤ b := Nat.le_trans hcb3 (Nat.sub_le _ _)
              have zE : decide (b < c) = false := decide_eq_false (Nat.not_lt.2 zD)
              have zB : decide (0 < k) = true := decide_eq_true hk0
              have zC : decide (k + 1 < ps.length) = true := decide_eq_true hkn
              have hsk2 := hsk2H.out
              obtain ⟨z9, z10, z11⟩ := both_end hsk2 hsn hcb1
              refine wp_region_quiet_lit (by kernel_rfl) (by kernel_rfl) ?_
              quiet_step (fail)
              quiet_step (fail)
              quiet_step (fail)
              quiet_step (fail)
              quiet_step (fail)
              quiet_step (fail)
              quiet_step (fail)
              quiet_step (fail)
              quiet_step (fail)
              quiet_step (fail)
              quiet_step (fail)
              quiet_step (fail)
              quiet_step (fail)
              quiet_step (fail)
              quiet_step (fail)
              quiet_step (fail)
              quiet_step (fail)
              quiet_step (fail)
              quiet_step (fail)
              quiet_step (fail)
              quiet_step (fail)
              quiet_step (fail)
              quiet_step (fail)
              quiet_step (fail)
              quiet_step (fail)
              quiet_step (fail)
              quiet_step (fail)
              quiet_step (fail)
              quiet_step (fail)
              quiet_step (fail)
              quiet_step (fail)
              quiet_step (fail)
              quiet_step (fail)
              quiet_step (fail)
              quiet_step (fail)
              quiet_step (fail)
              quiet_step (fail)
              quiet_step (fail)
              quiet_step (fail)
              quiet_step (fail)
              quiet_step (fail)
              quiet_step (fail)
              quiet_step (fail)
              quiet_step (fail)
              quiet_step (fail)
              quiet_step (fail)
              quiet_step (fail)
              quiet_step (fail)
              quiet_step (fail)
              quiet_step (fail)
              quiet_step (fail)
              quiet_step (fail)
              quiet_step (fail)
              quiet_step (fail)
              quiet_step (fail)
              quiet_step (fail)
              quiet_step (fail)
              quiet_step (fail)
              quiet_step (fail)
              quiet_step (fail)
              (with_reducible refine wpQuiet_step (fun K hK => ?_))
              go_simp
              (with_reducible refine hK _ ?_)
              clear hK K
              (with_reducible refine wpQuiet_step (fun K hK => ?_))
              go_simp
              (with_reducible refine hK _ ?_)
              clear hK K
              (with_reducible refine wpQuiet_step (fun K hK => ?_))
              go_simp
              (with_reducible refine hK _ ?_)
              clear hK K
              (with_reducible refine wpQuiet_step (fun K hK => ?_))
              go_simp
              (with_reducible refine hK _ ?_)
              clear hK K
              (with_reducible refine wpQuiet_step (fun K hK => ?_))
              go_simp
              (with_reducible refine hK _ ?_)
              clear hK K
              (with_reducible refine wpQuiet_step (fun K hK => ?_))
              go_simp
              (with_reducible refine hK _ ?_)
              clear hK K
              (with_reducible refine wpQuiet_step (fun K hK => ?_))
              go_simp
              (with_reducible refine hK _ ?_)
              clear hK K
              (with_reducible refine wpQuiet_step (fun K hK => ?_))
              go_simp
              (with_reducible refine hK _ ?_)
              clear hK K
              (with_reducible refine wpQuiet_step (fun K hK => ?_))
              go_simp
              (with_reducible refine hK _ ?_)
              clear hK K
              (with_reducible refine wpQuiet_step (fun K hK => ?_))
              go_simp
              (with_reducible refine hK _ ?_)
              clear hK K
              refine wpQuiet_nil ?_
              intro _ hw'
              obtain ⟨nq, hw''⟩ := hw'
              subst hw''
              clear zC
              clear z1 z2 z3 z4 z5 z6 z7 zA zB zD zE z9 z10 z11 hsk2
              go_upto_region 15 with fail
              have hW0 : (fun W => PcAt W G ⟨(q : Int), (r : Int), (c : Int)⟩ ∧ Below w2.heap.size w2 W) (W3.drewN nq).drew := ⟨⟨p0, p1, p2⟩, (below_drewN hB3H.out nq).drew⟩
              clear hB3H p0 p1 p2
              refine region_anyC (fun _ => true) (fun W => PcAt W G ⟨(q : Int), (r : Int), (c : Int)⟩ ∧ Below w2.heap.size w2 W) (by kernel_rfl) ?_
              refine anyL_take 0 (v := ?_) rfl (by kernel_rfl) (fun _ _ _ h => h) (Or.inl ⟨by rfl, ?_⟩) hW0 ?_
              rotate_left
              focus (intro W hW; go_simp; try with_reducible rfl)
              simp only [Act.put, List.setIfInBounds_toArray, List.set_cons_zero, List.set_cons_succ]
              refine anyL_take 1 (v := ?_) rfl (by kernel_rfl) (fun _ _ _ h => h) (Or.inl ⟨by rfl, ?_⟩) hW0 ?_
              rotate_left
              focus (intro W hW; go_simp; try with_reducible rfl)
              simp only [Act.put, List.setIfInBounds_toArray, List.set_cons_zero, List.set_cons_succ]
              refine anyL_take 2 (v := ?_) rfl (by kernel_rfl) (fun _ _ _ h => h) (Or.inl ⟨by rfl, ?_⟩) hW0 ?_
              rotate_left
              focus (intro W hW; have y2 : W.cell? ⟨G, 2, none⟩ = some (.int .i64 (c : Int)) := hW.1.2.2; go_simp; try with_reducible rfl)
              simp only [Act.put, List.setIfInBounds_toArray, List.set_cons_zero, List.set_cons_succ]
              refine anyL_take 3 (v := ?_) rfl (by kernel_rfl) (fun _ _ _ h => h) (Or.inl ⟨by rfl, ?_⟩) hW0 ?_
              rotate_left
              focus (intro W hW; go_simp; try with_reducible rfl)
              simp only [Act.put, List.setIfInBounds_toArray, List.set_cons_zero, List.set_cons_succ]
              refine anyL_take 4 (v := ?_) rfl (by kernel_rfl) (fun _ _ _ h => h) (Or.inl ⟨by rfl, ?_⟩) hW0 ?_
              rotate_left
              focus (intro W hW; go_simp; try with_reducible rfl)
              simp only [Act.put, List.setIfInBounds_toArray, List.set_cons_zero, List.set_cons_succ]
              refine anyL_take 5 (v := ?_) rfl (by kernel_rfl) (fun _ _ _ h => h) (Or.inl ⟨by rfl, ?_⟩) hW0 ?_
              rotate_left
              focus (intro W hW; go_simp; try with_reducible rfl)
              simp only [Act.put, List.setIfInBounds_toArray, List.set_cons_zero, List.set_cons_succ]
              refine anyL_take 6 (v := ?_) rfl (by kernel_rfl) (fun _ _ _ h => h) (Or.inl ⟨by rfl, ?_⟩) hW0 ?_
              rotate_left
              focus (intro W hW; have y2 : W.cell? ⟨G, 2, none⟩ = some (.int .i64 (c : Int)) := hW.1.2.2; go_simp; try with_reducible rfl)
              simp only [Act.put, List.setIfInBounds_toArray, List.set_cons_zero, List.set_cons_succ]
              refine anyL_take 7 (v := ?_) rfl (by kernel_rfl) (fun _ _ _ h => h) (Or.inl ⟨by rfl, ?_⟩) hW0 ?_
              rotate_left
              focus (intro W hW; go_simp; try with_reducible rfl)
              simp only [Act.put, List.setIfInBounds_toArray, List.set_cons_zero, List.set_cons_succ]
              refine fresh_anyC (fun W => PcAt W G ⟨(q : Int), (r : Int), (c : Int)⟩ ∧ Below w2.heap.size w2 W) hW0 ?_
              clear hW0
              rintro W6 hW6
              refine anyL_one 8 rfl (by kernel_rfl) (fun K hK => ?_)
              go_simp
              refine hK.out _ _ (fun _ => hW6) ?_
              clear hK K
              try simp only [Act.put, List.setIfInBounds_toArray, List.set_cons_zero, List.set_cons_succ]
              refine anyL_one 9 rfl (by kernel_rfl) (fun K hK => ?_)
              go_simp
              refine hK.out _ _ (fun _ => hW6) ?_
              clear hK K
              try simp only [Act.put, List.setIfInBounds_toArray, List.set_cons_zero, List.set_cons_succ]
              refine anyC_done (by kernel_rfl) ?_ _
              have hFin := Lib.hid hW6.2
              clear hW6
              obtain ⟨u1, u2, u3, u4, u5, u6⟩ := rel_facts hlt hcb1 hf2
              have u3H := Lib.hid u3
              have u4H := Lib.hid u4
              have u5H := Lib.hid u5
              have u6H := Lib.hid u6
              clear u3 u4 u5 u6 d1 d2 w1 w2' w3
              go_wp2_with fail
              go_roundw
              case rel => exact ⟨k + 1, a + c, m' - c, u1, congrArg _ u3H.out, congrArg _ u4H.out, congrArg _ u5H.out, u2, e2H, fun _ h => hnrH.out h, hFin.out⟩
              case measure => exact u6H.out
          · as_aux_lemma =>
              have hsk := hzrH.out hk0
              have hsk2H : Hid ((r : Int) = 0) := Lib.hid (by rw [hsk]; rfl)
              have hsk3 := pos_int hk0
              clear hsk
              have hsn := not_next hkn
              go_upto_region 13 with fail
              refine fresh_world (fun W => PcAt W wr.heap.size ⟨(q : Int), (r : Int), (c : Int)⟩ ∧ Below w2.heap.size w2 W) ⟨⟨by go_simp, by go_simp, by go_simp⟩, hB2.out⟩ ?_
              clear hB2 y0 y1 y2 hgl
              generalize wr.heap.size = G
              rintro W3 ⟨⟨a0, a1, a2⟩, hB3⟩
              have p0 : W3.cell? ⟨G, 0, none⟩ = some (.int .i64 (q : Int)) := a0
              have p1 : W3.cell? ⟨G, 1, none⟩ = some (.int .i64 (r : Int)) := a1
              have p2 : W3.cell? ⟨G, 2, none⟩ = some (.int .i64 (c : Int)) := a2
              clear a0 a1 a2
              have hB3H := Lib.hid hB3
              clear hB3
              obtain ⟨z1, z2, z3, z4, z5, z6, z7, z8⟩ := reg_facts (b := b) (k := k) (n := ps.length) hb2 hcb1 hcb3 hcb4 (Nat.le_trans (Nat.le_add_left _ _) hf2) hlt hlen
              have zA : decide (m' < c) = false := decide_eq_false (Nat.not_lt.2 hcb1)
              have zD : c ≤ b := Nat.le_trans hcb3 (Nat.sub_le _ _)
              have zE : decide (b < c) = false := decide_eq_false (Nat.not_lt.2 zD)
              have zB : decide (0 < k) = true := decide_eq_true hk0
              have zC : decide (k + 1 < ps.length) = false := decide_eq_false hkn
              have hsk2 := hsk2H.out
              obtain ⟨K1, hK1⟩ : ∃ K1 : Int, (k : Int) + 1 = K1 := ⟨_, rfl⟩
              have z8H := Lib.hid z8
              have zK := z8.trans hK1
              rw [hK1] at hsn
              clear z8 hK1 zC hkn
              refine wp_region_quiet_lit (by kernel_rfl) (by kernel_rfl) ?_
              quiet_step (fail)
              quiet_step (fail)
              quiet_step (fail)
              quiet_step (fail)
              quiet_step (fail)
              quiet_step (fail)
              quiet_step (fail)
              quiet_step (fail)
              quiet_step (fail)
              quiet_step (fail)
              quiet_step (fail)
              quiet_step (fail)
              quiet_step (fail)
              quiet_step (fail)
              quiet_step (fail)
              quiet_step (fail)
              quiet_step (fail)
              quiet_step (fail)
              quiet_step (fail)
              quiet_step (fail)
              quiet_step (fail)
              quiet_step (fail)
              quiet_step (fail)
              quiet_step (fail)
              quiet_step (fail)
              quiet_step (fail)
              quiet_step (fail)
              quiet_step (fail)
              quiet_step (fail)
              quiet_step (fail)
              quiet_step (fail)
              quiet_step (fail)
              quiet_step (fail)
              quiet_step (fail)
              quiet_step (fail)
              quiet_step (fail)
              quiet_step (fail)
              quiet_step (fail)
              quiet_step (fail)
              quiet_step (fail)
              quiet_step (fail)
              quiet_step (fail)
              quiet_step (fail)
              quiet_step (fail)
              quiet_step (fail)
              quiet_step (fail)
              quiet_step (fail)
              quiet_step (fail)
              quiet_step (fail)
              quiet_step (fail)
              quiet_step (fail)
              quiet_step (fail)
              quiet_step (fail)
              quiet_step (fail)
              quiet_step (fail)
              quiet_step (fail)
              quiet_step (fail)
              quiet_step (fail)
              quiet_step (fail)
              quiet_step (fail)
              (with_reducible refine wpQuiet_step (fun K hK => ?_))
              go_simp
              (with_reducible refine hK _ ?_)
              clear hK K
              (with_reducible refine wpQuiet_step (fun K hK => ?_))
              go_simp
              (with_reducible refine hK _ ?_)
              clear hK K
              (with_reducible refine wpQuiet_step (fun K hK => ?_))
              go_simp
              (with_reducible refine hK _ ?_)
              clear hK K
              (with_reducible refine wpQuiet_step (fun K hK => ?_))
              go_simp
              (with_reducible refine hK _ ?_)
              clear hK K
              (with_reducible refine wpQuiet_step (fun K hK => ?_))
              go_simp
              (with_reducible refine hK _ ?_)
              clear hK K
              (with_reducible refine wpQuiet_step (fun K hK => ?_))
              go_simp
              (with_reducible refine hK _ ?_)
              clear hK K
              (with_reducible refine wpQuiet_step (fun K hK => ?_))
              go_simp
              (with_reducible refine hK _ ?_)
              clear hK K
              (with_reducible refine wpQuiet_step (fun K hK => ?_))
              go_simp
              (with_reducible refine hK _ ?_)
              clear hK K
              (with_reducible refine wpQuiet_step (fun K hK => ?_))
              go_simp
              (with_reducible refine hK _ ?_)
              clear hK K
              (with_reducible refine wpQuiet_step (fun K hK => ?_))
              go_simp
              (with_reducible refine hK _ ?_)
              clear hK K
              refine wpQuiet_nil ?_
              intro _ hw'
              obtain ⟨nq, hw''⟩ := hw'
              subst hw''
              have z8 := z8H.out
              clear zK
              clear z1 z2 z3 z4 z5 z6 z7 zA zB zD zE hsk2
              go_upto_region 15 with fail
              have hW0 : (fun W => PcAt W G ⟨(q : Int), (r : Int), (c : Int)⟩ ∧ Below w2.heap.size w2 W) (W3.drewN nq).drew := ⟨⟨p0, p1, p2⟩, (below_drewN hB3H.out nq).drew⟩
              clear hB3H p0 p1 p2
              refine region_anyC (fun _ => true) (fun W => PcAt W G ⟨(q : Int), (r : Int), (c : Int)⟩ ∧ Below w2.heap.size w2 W) (by kernel_rfl) ?_
              refine anyL_take 0 (v := ?_) rfl (by kernel_rfl) (fun _ _ _ h => h) (Or.inl ⟨by rfl, ?_⟩) hW0 ?_
              rotate_left
              focus (intro W hW; go_simp; try with_reducible rfl)
              simp only [Act.put, List.setIfInBounds_toArray, List.set_cons_zero, List.set_cons_succ]
              refine anyL_take 1 (v := ?_) rfl (by kernel_rfl) (fun _ _ _ h => h) (Or.inl ⟨by rfl, ?_⟩) hW0 ?_
              rotate_left
              focus (intro W hW; go_simp; try with_reducible rfl)
              simp only [Act.put, List.setIfInBounds_toArray, List.set_cons_zero, List.set_cons_succ]
              refine anyL_take 2 (v := ?_) rfl (by kernel_rfl) (fun _ _ _ h => h) (Or.inl ⟨by rfl, ?_⟩) hW0 ?_
              rotate_left
              focus (intro W hW; have y2 : W.cell? ⟨G, 2, none⟩ = some (.int .i64 (c : Int)) := hW.1.2.2; go_simp; try with_reducible rfl)
              simp only [Act.put, List.setIfInBounds_toArray, List.set_cons_zero, List.set_cons_succ]
              refine anyL_take 3 (v := ?_) rfl (by kernel_rfl) (fun _ _ _ h => h) (Or.inl ⟨by rfl, ?_⟩) hW0 ?_
              rotate_left
              focus (intro W hW; go_simp; try with_reducible rfl)
              simp only [Act.put, List.setIfInBounds_toArray, List.set_cons_zero, List.set_cons_succ]
              refine anyL_take 4 (v := ?_) rfl (by kernel_rfl) (fun _ _ _ h => h) (Or.inl ⟨by rfl, ?_⟩) hW0 ?_
              rotate_left
              focus (intro W hW; go_simp; try with_reducible rfl)
              simp only [Act.put, List.setIfInBounds_toArray, List.set_cons_zero, List.set_cons_succ]
              refine anyL_take 5 (v := ?_) rfl (by kernel_rfl) (fun _ _ _ h => h) (Or.inl ⟨by rfl, ?_⟩) hW0 ?_
              rotate_left
              focus (intro W hW; go_simp; try with_reducible rfl)
              simp only [Act.put, List.setIfInBounds_toArray, List.set_cons_zero, List.set_cons_succ]
              refine anyL_take 6 (v := ?_) rfl (by kernel_rfl) (fun _ _ _ h => h) (Or.inl ⟨by rfl, ?_⟩) hW0 ?_
              rotate_left
              focus (intro W hW; have y2 : W.cell? ⟨G, 2, none⟩ = some (.int .i64 (c : Int)) := hW.1.2.2; go_simp; try with_reducible rfl)
              simp only [Act.put, List.setIfInBounds_toArray, List.set_cons_zero, List.set_cons_succ]
              refine anyL_take 7 (v := ?_) rfl (by kernel_rfl) (fun _ _ _ h => h) (Or.inl ⟨by rfl, ?_⟩) hW0 ?_
              rotate_left
              focus (intro W hW; go_simp; try with_reducible rfl)
              simp only [Act.put, List.setIfInBounds_toArray, List.set_cons_zero, List.set_cons_succ]
              refine fresh_anyC (fun W => PcAt W G ⟨(q : Int), (r : Int), (c : Int)⟩ ∧ Below w2.heap.size w2 W) hW0 ?_
              clear hW0
              rintro W6 hW6
              refine anyL_one 8 rfl (by kernel_rfl) (fun K hK => ?_)
              go_simp
              refine hK.out _ _ (fun _ => hW6) ?_
              clear hK K
              try simp only [Act.put, List.setIfInBounds_toArray, List.set_cons_zero, List.set_cons_succ]
              refine anyL_one 9 rfl (by kernel_rfl) (fun K hK => ?_)
              go_simp
              refine hK.out _ _ (fun _ => hW6) ?_
              clear hK K
              try simp only [Act.put, List.setIfInBounds_toArray, List.set_cons_zero, List.set_cons_succ]
              refine anyC_done (by kernel_rfl) ?_ _
              have hFin := Lib.hid hW6.2
              clear hW6
              obtain ⟨u1, u2, u3, u4, u5, u6⟩ := rel_facts hlt hcb1 hf2
              have u3H := Lib.hid u3
              have u4H := Lib.hid u4
              have u5H := Lib.hid u5
              have u6H := Lib.hid u6
              clear u3 u4 u5 u6 d1 d2 w1 w2' w3
              go_wp2_with fail
              go_roundw
              case rel => exact ⟨k + 1, a + c, m' - c, u1, congrArg _ u3H.out, congrArg _ u4H.out, congrArg _ u5H.out, u2, e2H, fun _ h => hnrH.out h, hFin.out⟩
              case measure => exact u6H.out
        · by_cases hkn : k + 1 < ps.length
          · as_aux_lemma =>
              have hsk3 := not_pos_int hk0
              have hsn := row_end (e3H.out hkn) hcb4
              have hsn2 := yes_next hkn
              go_upto_region 13 with fail
              refine fresh_world (fun W => PcAt W wr.heap.size ⟨(q : Int), (r : Int), (c : Int)⟩ ∧ Below w2.heap.size w2 W) ⟨⟨by go_simp, by go_simp, by go_simp⟩, hB2.out⟩ ?_
              clear hB2 y0 y1 y2 hgl
              generalize wr.heap.size = G
              rintro W3 ⟨⟨a0, a1, a2⟩, hB3⟩
              have p0 : W3.cell? ⟨G, 0, none⟩ = some (.int .i64 (q : Int)) := a0
              have p1 : W3.cell? ⟨G, 1, none⟩ = some (.int .i64 (r : Int)) := a1
              have p2 : W3.cell? ⟨G, 2, none⟩ = some (.int .i64 (c : Int)) := a2
              clear a0 a1 a2
              have hB3H := Lib.hid hB3
              clear hB3
              obtain ⟨z1, z2, z3, z4, z5, z6, z7, z8⟩ := reg_facts (b := b) (k := k) (n := ps.length) hb2 hcb1 hcb3 hcb4 (Nat.le_trans (Nat.le_add_left _ _) hf2) hlt hlen
              have zA : decide (m' < c) = false := decide_eq_false (Nat.not_lt.2 hcb1)
              have zD : c ≤ b := Nat.le_trans hcb3 (Nat.sub_le _ _)
              have zE : decide (b < c) = false := decide_eq_false (Nat.not_lt.2 zD)
              have zB : decide (0 < k) = false := decide_eq_false hk0
              have zC : decide (k + 1 < ps.length) = true := decide_eq_true hkn
              refine wp_region_quiet_lit (by kernel_rfl) (by kernel_rfl) ?_
              quiet_step (fail)
              quiet_step (fail)
              quiet_step (fail)
              quiet_step (fail)
              quiet_step (fail)
              quiet_step (fail)
              quiet_step (fail)
              quiet_step (fail)
              quiet_step (fail)
              quiet_step (fail)
              quiet_step (fail)
              quiet_step (fail)
              quiet_step (fail)
              quiet_step (fail)
              quiet_step (fail)
              quiet_step (fail)
              quiet_step (fail)
              quiet_step (fail)
              quiet_step (fail)
              quiet_step (fail)
              quiet_step (fail)
              quiet_step (fail)
              quiet_step (fail)
              quiet_step (fail)
              quiet_step (fail)
              quiet_step (fail)
              quiet_step (fail)
              quiet_step (fail)
              quiet_step (fail)
              quiet_step (fail)
              quiet_step (fail)
              quiet_step (fail)
              quiet_step (fail)
              quiet_step (fail)
              quiet_step (fail)
              quiet_step (fail)
              quiet_step (fail)
              quiet_step (fail)
              quiet_step (fail)
              quiet_step (fail)
              quiet_step (fail)
              quiet_step (fail)
              quiet_step (fail)
              quiet_step (fail)
              quiet_step (fail)
              quiet_step (fail)
              quiet_step (fail)
              quiet_step (fail)
              quiet_step (fail)
              quiet_step (fail)
              quiet_step (fail)
              quiet_step (fail)
              quiet_step (fail)
              quiet_step (fail)
              quiet_step (fail)
              quiet_step (fail)
              quiet_step (fail)
              quiet_step (fail)
              quiet_step (fail)
              quiet_step (fail)
              (with_reducible refine wpQuiet_step (fun K hK => ?_))
              go_simp
              (with_reducible refine hK _ ?_)
              clear hK K
              (with_reducible refine wpQuiet_step (fun K hK => ?_))
              go_simp
              (with_reducible refine hK _ ?_)
              clear hK K
              (with_reducible refine wpQuiet_step (fun K hK => ?_))
              go_simp
              (with_reducible refine hK _ ?_)
              clear hK K
              (with_reducible refine wpQuiet_step (fun K hK => ?_))
              go_simp
              (with_reducible refine hK _ ?_)
              clear hK K
              (with_reducible refine wpQuiet_step (fun K hK => ?_))
              go_simp
              (with_reducible refine hK _ ?_)
              clear hK K
              (with_reducible refine wpQuiet_step (fun K hK => ?_))
              go_simp
              (with_reducible refine hK _ ?_)
              clear hK K
              (with_reducible refine wpQuiet_step (fun K hK => ?_))
              go_simp
              (with_reducible refine hK _ ?_)
              clear hK K
              (with_reducible refine wpQuiet_step (fun K hK => ?_))
              go_simp
              (with_reducible refine hK _ ?_)
              clear hK K
              (with_reducible refine wpQuiet_step (fun K hK => ?_))
              go_simp
              (with_reducible refine hK _ ?_)
              clear hK K
              (with_reducible refine wpQuiet_step (fun K hK => ?_))
              go_simp
              (with_reducible refine hK _ ?_)
              clear hK K
              refine wpQuiet_nil ?_
              intro _ hw'
              obtain ⟨nq, hw''⟩ := hw'
              subst hw''
              clear zC
              clear z1 z2 z3 z4 z5 z6 z7 zA zB zD zE
              go_upto_region 15 with fail
              have hW0 : (fun W => PcAt W G ⟨(q : Int), (r : Int), (c : Int)⟩ ∧ Below w2.heap.size w2 W) (W3.drewN nq).drew := ⟨⟨p0, p1, p2⟩, (below_drewN hB3H.out nq).drew⟩
              clear hB3H p0 p1 p2
              refine region_anyC (fun _ => true) (fun W => PcAt W G ⟨(q : Int), (r : Int), (c : Int)⟩ ∧ Below w2.heap.size w2 W) (by kernel_rfl) ?_
              refine anyL_take 0 (v := ?_) rfl (by kernel_rfl) (fun _ _ _ h => h) (Or.inl ⟨by rfl, ?_⟩) hW0 ?_
              rotate_left
              focus (intro W hW; go_simp; try with_reducible rfl)
              simp only [Act.put, List.setIfInBounds_toArray, List.set_cons_zero, List.set_cons_succ]
              refine anyL_take 1 (v := ?_) rfl (by kernel_rfl) (fun _ _ _ h => h) (Or.inl ⟨by rfl, ?_⟩) hW0 ?_
              rotate_left
              focus (intro W hW; go_simp; try with_reducible rfl)
              simp only [Act.put, List.setIfInBounds_toArray, List.set_cons_zero, List.set_cons_succ]
              refine anyL_take 2 (v := ?_) rfl (by kernel_rfl) (fun _ _ _ h => h) (Or.inl ⟨by rfl, ?_⟩) hW0 ?_
              rotate_left
              focus (intro W hW; have y2 : W.cell? ⟨G, 2, none⟩ = some (.int .i64 (c : Int)) := hW.1.2.2; go_simp; try with_reducible rfl)
              simp only [Act.put, List.setIfInBounds_toArray, List.set_cons_zero, List.set_cons_succ]
              refine anyL_take 3 (v := ?_) rfl (by kernel_rfl) (fun _ _ _ h => h) (Or.inl ⟨by rfl, ?_⟩) hW0 ?_
              rotate_left
              focus (intro W hW; go_simp; try with_reducible rfl)
              simp only [Act.put, List.setIfInBounds_toArray, List.set_cons_zero, List.set_cons_succ]
              refine anyL_take 4 (v := ?_) rfl (by kernel_rfl) (fun _ _ _ h => h) (Or.inl ⟨by rfl, ?_⟩) hW0 ?_
              rotate_left
              focus (intro W hW; go_simp; try with_reducible rfl)
              simp only [Act.put, List.setIfInBounds_toArray, List.set_cons_zero, List.set_cons_succ]
              refine anyL_take 5 (v := ?_) rfl (by kernel_rfl) (fun _ _ _ h => h) (Or.inl ⟨by rfl, ?_⟩) hW0 ?_
              rotate_left
              focus (intro W hW; go_simp; try with_reducible rfl)
              simp only [Act.put, List.setIfInBounds_toArray, List.set_cons_zero, List.set_cons_succ]
              refine anyL_take 6 (v := ?_) rfl (by kernel_rfl) (fun _ _ _ h => h) (Or.inl ⟨by rfl, ?_⟩) hW0 ?_
              rotate_left
              focus (intro W hW; have y2 : W.cell? ⟨G, 2, none⟩ = some (.int .i64 (c : Int)) := hW.1.2.2; go_simp; try with_reducible rfl)
              simp only [Act.put, List.setIfInBounds_toArray, List.set_cons_zero, List.set_cons_succ]
              refine anyL_take 7 (v := ?_) rfl (by kernel_rfl) (fun _ _ _ h => h) (Or.inl ⟨by rfl, ?_⟩) hW0 ?_
              rotate_left
              focus (intro W hW; go_simp; try with_reducible rfl)
              simp only [Act.put, List.setIfInBounds_toArray, List.set_cons_zero, List.set_cons_succ]
              refine fresh_anyC (fun W => PcAt W G ⟨(q : Int), (r : Int), (c : Int)⟩ ∧ Below w2.heap.size w2 W) hW0 ?_
              clear hW0
              rintro W6 hW6
              refine anyL_one 8 rfl (by kernel_rfl) (fun K hK => ?_)
              go_simp
              refine hK.out _ _ (fun _ => hW6) ?_
              clear hK K
              try simp only [Act.put, List.setIfInBounds_toArray, List.set_cons_zero, List.set_cons_succ]
              refine anyL_one 9 rfl (by kernel_rfl) (fun K hK => ?_)
              go_simp
              refine hK.out _ _ (fun _ => hW6) ?_
              clear hK K
              try simp only [Act.put, List.setIfInBounds_toArray, List.set_cons_zero, List.set_cons_succ]
              refine anyC_done (by kernel_rfl) ?_ _
              have hFin := Lib.hid hW6.2
              clear hW6
              obtain ⟨u1, u2, u3, u4, u5, u6⟩ := rel_facts hlt hcb1 hf2
              have u3H := Lib.hid u3
              have u4H := Lib.hid u4
              have u5H := Lib.hid u5
              have u6H := Lib.hid u6
              clear u3 u4 u5 u6 d1 d2 w1 w2' w3
              go_wp2_with fail
              go_roundw
              case rel => exact ⟨k + 1, a + c, m' - c, u1, congrArg _ u3H.out, congrArg _ u4H.out, congrArg _ u5H.out, u2, e2H, fun _ h => hnrH.out h, hFin.out⟩
              case measure => exact u6H.out
          · as_aux_lemma =>
              have hsk3 := not_pos_int hk0
              have hsn := not_next hkn
              go_upto_region 13 with fail
              refine fresh_world (fun W => PcAt W wr.heap.size ⟨(q : Int), (r : Int), (c : Int)⟩ ∧ Below w2.heap.size w2 W) ⟨⟨by go_simp, by go_simp, by go_simp⟩, hB2.out⟩ ?_
              clear hB2 y0 y1 y2 hgl
              generalize wr.heap.size = G
              rintro W3 ⟨⟨a0, a1, a2⟩, hB3⟩
              have p0 : W3.cell? ⟨G, 0, none⟩ = some (.int .i64 (q : Int)) := a0
              have p1 : W3.cell? ⟨G, 1, none⟩ = some (.int .i64 (r : Int)) := a1
              have p2 : W3.cell? ⟨G, 2, none⟩ = some (.int .i64 (c : Int)) := a2
              clear a0 a1 a2
              have hB3H := Lib.hid hB3
              clear hB3
              obtain ⟨z1, z2, z3, z4, z5, z6, z7, z8⟩ := reg_facts (b := b) (k := k) (n := ps.length) hb2 hcb1 hcb3 hcb4 (Nat.le_trans (Nat.le_add_left _ _) hf2) hlt hlen
              have zA : decide (m' < c) = false := decide_eq_false (Nat.not_lt.2 hcb1)
              have zD : c ≤ b := Nat.le_trans hcb3 (Nat.sub_le _ _)
              have zE : decide (b < c) = false := decide_eq_false (Nat.not_lt.2 zD)
              have zB : decide (0 < k) = false := decide_eq_false hk0
              have zC : decide (k + 1 < ps.length) = false := decide_eq_false hkn
              obtain ⟨K1, hK1⟩ : ∃ K1 : Int, (k : Int) + 1 = K1 := ⟨_, rfl⟩
              have z8H := Lib.hid z8
              have zK := z8.trans hK1
              rw [hK1] at hsn
              clear z8 hK1 zC hkn
              refine wp_region_quiet_lit (by kernel_rfl) (by kernel_rfl) ?_
              quiet_step (fail)
              quiet_step (fail)
              quiet_step (fail)
              quiet_step (fail)
              quiet_step (fail)
              quiet_step (fail)
              quiet_step (fail)
              quiet_step (fail)
              quiet_step (fail)
              quiet_step (fail)
              quiet_step (fail)
              quiet_step (fail)
              quiet_step (fail)
              quiet_step (fail)
              quiet_step (fail)
              quiet_step (fail)
              quiet_step (fail)
              quiet_step (fail)
              quiet_step (fail)
              quiet_step (fail)
              quiet_step (fail)
              quiet_step (fail)
              quiet_step (fail)
              quiet_step (fail)
              quiet_step (fail)
              quiet_step (fail)
              quiet_step (fail)
              quiet_step (fail)
              quiet_step (fail)
              quiet_step (fail)
              quiet_step (fail)
              quiet_step (fail)
              quiet_step (fail)
              quiet_step (fail)
              quiet_step (fail)
              quiet_step (fail)
              quiet_step (fail)
              quiet_step (fail)
              quiet_step (fail)
              quiet_step (fail)
              quiet_step (fail)
              quiet_step (fail)
              quiet_step (fail)
              quiet_step (fail)
              quiet_step (fail)
              quiet_step (fail)
              quiet_step (fail)
              quiet_step (fail)
              quiet_step (fail)
              quiet_step (fail)
              quiet_step (fail)
              quiet_step (fail)
              quiet_step (fail)
              quiet_step (fail)
              quiet_step (fail)
              quiet_step (fail)
              quiet_step (fail)
              quiet_step (fail)
              quiet_step (fail)
              quiet_step (fail)
              (with_reducible refine wpQuiet_step (fun K hK => ?_))
              go_simp
              (with_reducible refine hK _ ?_)
              clear hK K
              (with_reducible refine wpQuiet_step (fun K hK => ?_))
              go_simp
              (with_reducible refine hK _ ?_)
              clear hK K
              (with_reducible refine wpQuiet_step (fun K hK => ?_))
              go_simp
              (with_reducible refine hK _ ?_)
              clear hK K
              (with_reducible refine wpQuiet_step (fun K hK => ?_))
              go_simp
              (with_reducible refine hK _ ?_)
              clear hK K
              (with_reducible refine wpQuiet_step (fun K hK => ?_))
              go_simp
              (with_reducible refine hK _ ?_)
              clear hK K
              (with_reducible refine wpQuiet_step (fun K hK => ?_))
              go_simp
              (with_reducible refine hK _ ?_)
              clear hK K
              (with_reducible refine wpQuiet_step (fun K hK => ?_))
              go_simp
              (with_reducible refine hK _ ?_)
              clear hK K
              (with_reducible refine wpQuiet_step (fun K hK => ?_))
              go_simp
              (with_reducible refine hK _ ?_)
              clear hK K
              (with_reducible refine wpQuiet_step (fun K hK => ?_))
              go_simp
              (with_reducible refine hK _ ?_)
              clear hK K
              (with_reducible refine wpQuiet_step (fun K hK => ?_))
              go_simp
              (with_reducible refine hK _ ?_)
              clear hK K
              refine wpQuiet_nil ?_
              intro _ hw'
              obtain ⟨nq, hw''⟩ := hw'
              subst hw''
              have z8 := z8H.out
              clear zK
              clear z1 z2 z3 z4 z5 z6 z7 zA zB zD zE
              go_upto_region 15 with fail
              have hW0 : (fun W => PcAt W G ⟨(q : Int), (r : Int), (c : Int)⟩ ∧ Below w2.heap.size w2 W) (W3.drewN nq).drew := ⟨⟨p0, p1, p2⟩, (below_drewN hB3H.out nq).drew⟩
              clear hB3H p0 p1 p2
              refine region_anyC (fun _ => true) (fun W => PcAt W G ⟨(q : Int), (r : Int), (c : Int)⟩ ∧ Below w2.heap.size w2 W) (by kernel_rfl) ?_
              refine anyL_take 0 (v := ?_) rfl (by kernel_rfl) (fun _ _ _ h => h) (Or.inl ⟨by rfl, ?_⟩) hW0 ?_
              rotate_left
              focus (intro W hW; go_simp; try with_reducible rfl)
              simp only [Act.put, List.setIfInBounds_toArray, List.set_cons_zero, List.set_cons_succ]
              refine anyL_take 1 (v := ?_) rfl (by kernel_rfl) (fun _ _ _ h => h) (Or.inl ⟨by rfl, ?_⟩) hW0 ?_
              rotate_left
              focus (intro W hW; go_simp; try with_reducible rfl)
              simp only [Act.put, List.setIfInBounds_toArray, List.set_cons_zero, List.set_cons_succ]
              refine anyL_take 2 (v := ?_) rfl (by kernel_rfl) (fun _ _ _ h => h) (Or.inl ⟨by rfl, ?_⟩) hW0 ?_
              rotate_left
              focus (intro W hW; have y2 : W.cell? ⟨G, 2, none⟩ = some (.int .i64 (c : Int)) := hW.1.2.2; go_simp; try with_reducible rfl)
              simp only [Act.put, List.setIfInBounds_toArray, List.set_cons_zero, List.set_cons_succ]
              refine anyL_take 3 (v := ?_) rfl (by kernel_rfl) (fun _ _ _ h => h) (Or.inl ⟨by rfl, ?_⟩) hW0 ?_
              rotate_left
              focus (intro W hW; go_simp; try with_reducible rfl)
              simp only [Act.put, List.setIfInBounds_toArray, List.set_cons_zero, List.set_cons_succ]
              refine anyL_take 4 (v := ?_) rfl (by kernel_rfl) (fun _ _ _ h => h) (Or.inl ⟨by rfl, ?_⟩) hW0 ?_
              rotate_left
              focus (intro W hW; go_simp; try with_reducible rfl)
              simp only [Act.put, List.setIfInBounds_toArray, List.set_cons_zero, List.set_cons_succ]
              refine anyL_take 5 (v := ?_) rfl (by kernel_rfl) (fun _ _ _ h => h) (Or.inl ⟨by rfl, ?_⟩) hW0 ?_
              rotate_left
              focus (intro W hW; go_simp; try with_reducible rfl)
              simp only [Act.put, List.setIfInBounds_toArray, List.set_cons_zero, List.set_cons_succ]
              refine anyL_take 6 (v := ?_) rfl (by kernel_rfl) (fun _ _ _ h => h) (Or.inl ⟨by rfl, ?_⟩) hW0 ?_
              rotate_left
              focus (intro W hW; have y2 : W.cell? ⟨G, 2, none⟩ = some (.int .i64 (c : Int)) := hW.1.2.2; go_simp; try with_reducible rfl)
              simp only [Act.put, List.setIfInBounds_toArray, List.set_cons_zero, List.set_cons_succ]
              refine anyL_take 7 (v := ?_) rfl (by kernel_rfl) (fun _ _ _ h => h) (Or.inl ⟨by rfl, ?_⟩) hW0 ?_
              rotate_left
              focus (intro W hW; go_simp; try with_reducible rfl)
              simp only [Act.put, List.setIfInBounds_toArray, List.set_cons_zero, List.set_cons_succ]
              refine fresh_anyC (fun W => PcAt W G ⟨(q : Int), (r : Int), (c : Int)⟩ ∧ Below w2.heap.size w2 W) hW0 ?_
              clear hW0
              rintro W6 hW6
              refine anyL_one 8 rfl (by kernel_rfl) (fun K hK => ?_)
              go_simp
              refine hK.out _ _ (fun _ => hW6) ?_
              clear hK K
              try simp only [Act.put, List.setIfInBounds_toArray, List.set_cons_zero, List.set_cons_succ]
              refine anyL_one 9 rfl (by kernel_rfl) (fun K hK => ?_)
              go_simp
              refine hK.out _ _ (fun _ => hW6) ?_
              clear hK K
              try simp only [Act.put, List.setIfInBounds_toArray, List.set_cons_zero, List.set_cons_succ]
              refine anyC_done (by kernel_rfl) ?_ _
              have hFin := Lib.hid hW6.2
              clear hW6
              obtain ⟨u1, u2, u3, u4, u5, u6⟩ := rel_facts hlt hcb1 hf2
              have u3H := Lib.hid u3
              have u4H := Lib.hid u4
              have u5H := Lib.hid u5
              have u6H := Lib.hid u6
              clear u3 u4 u5 u6 d1 d2 w1 w2' w3
              go_wp2_with fail
              go_roundw
              case rel => exact ⟨k + 1, a + c, m' - c, u1, congrArg _ u3H.out, congrArg _ u4H.out, congrArg _ u5H.out, u2, e2H, fun _ h => hnrH.out h, hFin.out⟩
              case measure => exact u6H.out

end Go.Proofs.Ytonoanjakfaloaa
