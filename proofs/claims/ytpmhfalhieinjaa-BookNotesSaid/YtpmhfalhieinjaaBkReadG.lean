/- Read of a good geometry, walked. -/
import Derived.Test.YtpmhfalhieinjaaBkRead
namespace Go.Proofs.Ytpmhfalhieinjaa
open Go.RowKit Rec Bk

theorem subs_bits {n m : Nat} : (subs n m).length = n + 1 + m := by rw [subs_len]; omega
theorem mem_subs_zone {n m z : Nat} (h : z < n) : (3, (z : Int)) ∈ subs n m := by
  unfold subs
  exact List.mem_append_left _ (List.mem_cons_of_mem _ (List.mem_map.2 ⟨z, List.mem_range.2 h, rfl⟩))
theorem mem_subs_mem {n m s : Nat} (h : s < m) : (5, (s : Int)) ∈ subs n m := by
  unfold subs
  exact List.mem_append_right _ (List.mem_map.2 ⟨s, List.mem_range.2 h, rfl⟩)
theorem mem_subs_cur (n m : Nat) : ((6, 0) : Int × Int) ∈ subs n m := by
  unfold subs
  exact List.mem_append_left _ (List.mem_cons_self ..)
theorem full_places {D Z : Int} {n m : Nat} {l : List Rc} (h : ∀ u ∈ subs n m, goodAt D Z l u) : ∀ z ∈ (fullB n m l).zs, 2 ≤ z.p ∧ z.p < Z := fun z hz => by
  obtain ⟨i, hi, rfl⟩ := List.mem_map.1 hz
  obtain ⟨x, hx, hp⟩ := h _ (mem_subs_zone (List.mem_range.1 hi))
  have h3 := about_zone.1 (best_of (P := fun x => about (3, (i : Int)) x = true) (fun _ _ h => h) hx)
  rw [fnd_some hx]
  unfold possP at hp
  rw [if_pos h3.1] at hp
  exact ⟨hp.1, hp.2.1⟩
theorem says_iff {D Z : Int} {n m : Nat} {l : List Rc} (h : ∀ u ∈ subs n m, goodAt D Z l u) : SaysB D Z n m l ↔ ((fullB n m l).zs.map Zo.p).Nodup ∧ (fullB n m l).ms.Nodup := ⟨fun h => ⟨h.ps, h.ms⟩, fun ⟨h1, h2⟩ => ⟨h, h1, h2⟩⟩
/-- The greatest Seq from q on. -/
def mqF (q : Int) (L : List Rc) : Int := L.foldl (fun m x => max m x.s) q
theorem mqF_snoc (q : Int) (L : List Rc) (x : Rc) : mqF q (L ++ [x]) = max (mqF q L) x.s := by unfold mqF; simp
theorem mqF_max : ∀ (L : List Rc) (a b : Int), mqF (max a b) L = max a (mqF b L)
  | [], a, b => rfl
  | x :: L, a, b => by
    show mqF (max (max a b) x.s) L = max a (mqF (max b x.s) L)
    rw [Int.max_assoc, mqF_max L a]
theorem mqF_ge : ∀ (L : List Rc) (q : Int), q ≤ mqF q L
  | [], q => Int.le_refl _
  | x :: L, q => Int.le_trans (by omega) (mqF_ge L (max q x.s))
theorem mqF_mem : ∀ (L : List Rc) (q : Int) (x : Rc), x ∈ L → x.s ≤ mqF q L
  | y :: L, q, x, h => by
    rcases List.mem_cons.1 h with rfl | h
    · exact Int.le_trans (by omega) (mqF_ge L (max q x.s))
    · exact mqF_mem L _ x h
theorem mqF_le : ∀ (L : List Rc) (q M : Int), q ≤ M → (∀ x ∈ L, x.s ≤ M) → mqF q L ≤ M
  | [], q, M, h, _ => h
  | x :: L, q, M, h, hl => mqF_le L (max q x.s) M (by have := hl x (List.mem_cons_self ..); omega) (fun y hy => hl y (List.mem_cons_of_mem _ hy))
theorem mqF_all {L : List Rc} {y : Rc} (h0 : 0 ≤ y.s) (h : y ∈ L) : mqF y.s L = maxQ L := by
  have h1 : mqF (max y.s 0) L = max y.s (mqF 0 L) := mqF_max L y.s 0
  have h2 : y.s ≤ mqF 0 L := mqF_mem L 0 y h
  have h3 : mqF 0 L = maxQ L := rfl
  rw [show max y.s 0 = y.s by omega] at h1
  rw [h1, ← h3]
  omega
set_option maxRecDepth 100000 in
set_option maxHeartbeats 4000000 in
theorem read_good (w : World) (Z B O A : Int) (n m : Nat) (A0 : Option Addr) (cap0 : Nat) (ls : List LRow) (hg : goodB (m : Int) Z B O A = true) (hn : Z - 3 = (n : Int)) (hI : ListsIn w A0 ls) (hok : ListsOk ls) :
    Calls Try.prog 9 #[.agg #[.int .i64 (m : Int), .int .i64 Z, .int .i64 B, .int .i64 O, .int .i64 A], .slice A0 ls.length cap0] w (ReadP w (m : Int) Z n m (flatL ls)) := by
  obtain ⟨g1, g2, g3, g4, _⟩ := goodB_iff.1 hg
  have hn61 : n ≤ 61 := by omega
  have hm16 : m ≤ 16 := by omega
  have hgd := Lib.hid (fun W => good_any (m : Int) Z B O A W)
  rw [hg] at hgd
  have hnw := Lib.hid (fun W (hb : Below w.heap.size w W) => newest_any W A0 cap0 ls (hI.below hb) hok)
  have hne := Lib.hid (fun W => new_anyB W (m : Int) Z B O A)
  have hnof : newOf (m : Int) Z B O A = newBk n m := by unfold newOf; rw [if_pos hg, hn, Int.toNat_natCast, Int.toNat_natCast]
  rw [hnof] at hne
  have hgz : gzV (m : Int) Z B O A = (n : Int) := by unfold gzV; rw [if_pos hg, hn]
  have hsb := Lib.hid (fun W => subjects_any W Z B O A n m (by omega) (by omega) hgz)
  have hpo := Lib.hid (fun x W => possible_any (m : Int) Z B O A x W (by omega))
  have hst := Lib.hid (two_start w (m : Int) Z B O A)
  have hIH := Lib.hid hI
  have hokH := Lib.hid hok
  have hll := hok.1
  have hZ : Z = (n : Int) + 3 := by omega
  have hZH := Lib.hid hZ
  have hgH := Lib.hid (show 5 ≤ Z ∧ Z ≤ 64 from ⟨g3, g4⟩)
  obtain ⟨l, hl⟩ : ∃ l, l = flatL ls := ⟨_, rfl⟩
  rw [← hl]
  have hlH := Lib.hid hl
  clear hg hn hI hok hnof hgz hl hZ g1 g2 g3 g4
  go_enter Try.func9, Try.ntmps9
  go_wp2_with fail
  refine fresh_C (fun W => GzAt W w.heap.size (m : Int) Z B O A ∧ BkAt W (w.heap.size + 1) none 0 none 0 noB ∧ Below w.heap.size w W) hst.out ?_
  clear hst
  rintro W ⟨hG, hX, hb⟩
  have hGH := Lib.hid hG
  have hXH := Lib.hid hX
  have hbH := Lib.hid hb
  clear hG hX hb
  refine (hgd.out _).mono ?_
  rintro e w0 ⟨rfl, hb0⟩
  have hG0 := Lib.hid (hGH.out.below hb0)
  have hX0 := Lib.hid (hXH.out.below hb0)
  have hB0 := Lib.hid (hbH.out.trans (hb0.mono hbH.out.size))
  clear hb0 hGH hXH hbH hgd
  go_wp2_with fail
  refine (hnw.out _ hB0.out).mono ?_
  rintro e w1 ⟨mb, nb, rfl, hmb, hM1, hb1⟩
  have hG1 := hG0.out.below hb1
  obtain ⟨y0, y1, y2, y3, y4, yf⟩ := hG1
  have hM1H := Lib.hid hM1
  have hb1H := Lib.hid hb1
  clear hM1 hb1 hnw
  go_wp2_with fail
  refine (hne.out _).mono ?_
  rintro e w2 ⟨A1, c1, A2, c2, rfl, hO2, hb2⟩
  have hO2H := Lib.hid hO2
  have hb2H := Lib.hid hb2
  have hG2 := (hG0.out.below hb1H.out).below hb2
  have y5l := hG2.2.2.2.2.2
  clear y0 y1 y2 y3 y4 yf hne hO2 hb2
  obtain ⟨y0, y1, y2, y3, y4, yf⟩ := hG2
  go_wp2_with fail
  refine (hsb.out _).mono ?_
  rintro e w4 ⟨S, cs, rfl, hS4, hb4⟩
  have hR := readW_start hG0.out hX0.out hB0.out hmb hM1H.out hb1H.out hO2H.out hb2H.out hS4 hb4
  generalize w2.heap.size = r at hR ⊢
  rw [← hlH.out] at hR
  have hRH := Lib.hid hR
  clear hR hS4 hb4 hsb y0 y1 y2 y3 y4 yf y5l hG0 hX0 hB0 hmb hM1H hb1H hO2H hb2H
  generalize w1.heap.size = Bb at hRH
  go_wp2_with fail
  go_loopw [27] (fun i wr => ∃ k : Nat, k ≤ n + 1 + m ∧ i = .int .i64 (k : Int) ∧ (∀ j (hj : j < (subs n m).length), j < k → goodAt (m : Int) Z l (subs n m)[j]) ∧ ReadW w wr (m : Int) Z B O A mb nb l S cs (subs n m) Bb r A1 c1 A2 c2 (partB n m l k)) (fun i _ => n + 1 + m - (intOf i).toNat)
  case atStart => exact ⟨0, Nat.zero_le _, rfl, fun j _ h => absurd h (Nat.not_lt_zero _), by rw [partB_zero]; exact hRH.out⟩
  case round =>
    clear hRH
    obtain ⟨k, hk, rfl, hall, hR⟩ := hrel
    by_cases hlt : k < n + 1 + m
    case pos =>
      have hks : k < (subs n m).length := by rw [subs_bits]; exact hlt
      obtain ⟨g, rfl, hcs, s0, s1⟩ := su_at hR hks
      have hwf := subs_wf (n := n) (m := m) (by omega) (by omega) (List.getElem_mem hks)
      have hstep := fun x (hx : found l (subs n m)[k] = some x) => partB_step n m l k hks hx
      have hgood : goodAt (m : Int) Z l (subs n m)[k] ↔ (found l (subs n m)[k]).isSome = true ∧ possB (m : Int) Z (fnd l (subs n m)[k]) = true := by
        unfold goodAt possB fnd
        cases hf : found l (subs n m)[k] with
        | none => simp
        | some x => simp
      have hbad : ¬ goodAt (m : Int) Z l (subs n m)[k] → ¬ SaysB (m : Int) Z n m l := fun h hs => h (hs.all _ (List.getElem_mem hks))
      have hl1 : (k : Int) < ((n + 1 + m : Nat) : Int) := by omega
      have hl2 : k < n + 1 + m := hlt
      have hkw : IntKind.i64.wrap ((k : Int) + 1) = (k : Int) + 1 := IntWalk.i64_in _ (by omega)
      have hcs2 : n + 1 + m ≤ cs := by rw [subs_bits] at hcs; exact hcs
      have hallk : ∀ (h : goodAt (m : Int) Z l (subs n m)[k]) j (hj : j < (subs n m).length), j < k + 1 → goodAt (m : Int) Z l (subs n m)[j] := fun h j hj hjk => by
        by_cases e : j = k
        · subst e; exact h
        · exact hall j hj (by omega)
      have hallH := Lib.hid hallk
      have hwfH := Lib.hid hwf
      have hgoodH := Lib.hid hgood
      have hbadH := Lib.hid hbad
      have hstepH := Lib.hid hstep
      have hRH := Lib.hid hR
      clear hall hallk hwf hgood hbad hstep hR hcs
      generalize (subs n m)[k] = u at s0 s1 hallH hwfH hgoodH hbadH hstepH
      obtain ⟨u1, u2⟩ := u
      dsimp only at s0 s1
      obtain ⟨y, hy⟩ : ∃ y, y = fnd l (u1, u2) := ⟨_, rfl⟩
      obtain ⟨t, ht⟩ : ∃ t, t = (found l (u1, u2)).isSome := ⟨_, rfl⟩
      have hyH := Lib.hid hy
      have htH := Lib.hid ht
      have hM9 := Lib.hid (hRH.out.alloc (.cells #[.int .i64 u1, .int .i64 u2] 76)).m
      clear hy ht
      go_upto_region 9 with (at_lookup; refine wpList_look2 rfl (.tmp 32) (.tmp 33) rfl hM9.out rfl hwfH.out.1 hwfH.out.2 rfl hyH.out htH.out ?_)
      have hY : RcAt ((wr.alloc (.cells #[.int .i64 u1, .int .i64 u2] 76)).alloc (.cells #[.int .i64 y.k, .int .i64 y.s, .int .i64 y.a, .int .i64 y.b, .int .i64 y.c, .int .i64 y.d, .string y.body] 53)) (wr.alloc (.cells #[.int .i64 u1, .int .i64 u2] 76)).heap.size y := RcAt.new _ y _
      rw [World.size_alloc] at hY
      refine fresh_world (fun W => ReadW w W (m : Int) Z B O A mb nb l (some ⟨g, 0, none⟩) cs (subs n m) Bb r A1 c1 A2 c2 (partB n m l k) ∧ RcAt W (wr.heap.size + 1) y) ⟨(hRH.out.alloc _).alloc _, hY⟩ ?_
      clear hY hRH s0 s1 hM9
      generalize wr.heap.size + 1 = Y
      rintro W2 ⟨hR2, hY2⟩
      have hR2H := Lib.hid hR2
      have hY2H := Lib.hid hY2
      obtain ⟨x0, x1, x2, x3, x4, x5, x6⟩ := hY2
      obtain ⟨y0, y1, y2, y3, y4, yf⟩ := hR2.g
      clear hR2
      obtain ⟨pb, hpb⟩ : ∃ pb, pb = possB (m : Int) Z y := ⟨_, rfl⟩
      have hpbH := Lib.hid hpb
      have hp1 := Lib.hid (fun W => hpo.out y W)
      rw [← hpb] at hp1
      clear hpb
      cases t with
      | false =>
        have hns := Lib.hid (hbadH.out (fun h => by have := (hgoodH.out.1 h).1; rw [← htH.out] at this; cases this))
        have hpH := Lib.hid (no_put hR2H.out.o hR2H.out.bw)
        obtain ⟨q0, q1, q2, q3, q4, qf⟩ := hR2H.out.o
        go_wp2_with fail
        refine fresh_post (fun W => BkAt W (w.heap.size + 1) none 0 none 0 noB ∧ Below w.heap.size w W) hpH.out ?_
        rintro W10 ⟨⟨z0, z1, z2, z3, z4, _⟩, hb10⟩
        refine bodyPost_ret (v := .tuple #[.agg #[.int .i64 0, .slice none 0 0, .slice none 0 0, .int .i64 0, .int .i64 0], .int .i64 9]) (by
          have z0' : W10.cell? ⟨w.heap.size + 1, 0, none⟩ = some (.int .i64 0) := z0
          have z1' : W10.cell? ⟨w.heap.size + 1, 1, none⟩ = some (.slice none 0 0) := z1
          have z2' : W10.cell? ⟨w.heap.size + 1, 2, none⟩ = some (.slice none 0 0) := z2
          have z3' : W10.cell? ⟨w.heap.size + 1, 3, none⟩ = some (.int .i64 0) := z3
          have z4' : W10.cell? ⟨w.heap.size + 1, 4, none⟩ = some (.int .i64 0) := z4
          simp [results, Try.results9, go_sem, z0', z1', z2', z3', z4']) rfl ⟨fun h => absurd h hns.out, fun _ => ⟨rfl, hb10⟩⟩
      | true =>
        cases pb with
        | false =>
          have hns := Lib.hid (hbadH.out (fun h => by have := (hgoodH.out.1 h).2; rw [← hyH.out, ← hpbH.out] at this; cases this))
          go_wp2_with fail
          refine (hp1.out _).mono ?_
          rintro e w3 ⟨rfl, hb3⟩
          have hR3H := Lib.hid (hR2H.out.below hb3)
          clear x0 x1 x2 x3 x4 x5 x6 y0 y1 y2 y3 y4 yf
          have hpH := Lib.hid (no_put hR3H.out.o hR3H.out.bw)
          obtain ⟨q0, q1, q2, q3, q4, qf⟩ := hR3H.out.o
          go_wp2_with fail
          refine fresh_post (fun W => BkAt W (w.heap.size + 1) none 0 none 0 noB ∧ Below w.heap.size w W) hpH.out ?_
          rintro W10 ⟨⟨z0, z1, z2, z3, z4, _⟩, hb10⟩
          refine bodyPost_ret (v := .tuple #[.agg #[.int .i64 0, .slice none 0 0, .slice none 0 0, .int .i64 0, .int .i64 0], .int .i64 9]) (by
            have z0' : W10.cell? ⟨w.heap.size + 1, 0, none⟩ = some (.int .i64 0) := z0
            have z1' : W10.cell? ⟨w.heap.size + 1, 1, none⟩ = some (.slice none 0 0) := z1
            have z2' : W10.cell? ⟨w.heap.size + 1, 2, none⟩ = some (.slice none 0 0) := z2
            have z3' : W10.cell? ⟨w.heap.size + 1, 3, none⟩ = some (.int .i64 0) := z3
            have z4' : W10.cell? ⟨w.heap.size + 1, 4, none⟩ = some (.int .i64 0) := z4
            simp [results, Try.results9, go_sem, z0', z1', z2', z3', z4']) rfl ⟨fun h => absurd h hns.out, fun _ => ⟨rfl, hb10⟩⟩
        | true =>
          have hgd := Lib.hid (hgoodH.out.2 ⟨by rw [← htH.out], by rw [← hyH.out, ← hpbH.out]⟩)
          go_wp2_with fail
          refine (hp1.out _).mono ?_
          rintro e w3 ⟨rfl, hb3⟩
          have hR3H := Lib.hid (hR2H.out.below hb3)
          have hY3 := hY2H.out.below hb3
          have htk := Lib.hid (take_any y hR3H.out.k)
          have hx : found l (u1, u2) = some y := by
            have h1 := htH.out
            have h2 := hyH.out
            unfold fnd at h2
            cases hf : found l (u1, u2) with
            | none => rw [hf] at h1; cases h1
            | some x => rw [hf] at h2; rw [h2]; rfl
          have hst2 := hstepH.out y hx
          rw [hst2] at htk
          clear x0 x1 x2 x3 x4 x5 x6 y0 y1 y2 y3 y4 yf hx hst2
          obtain ⟨x0, x1, x2, x3, x4, x5, x6⟩ := hY3
          go_wp2_with fail
          refine htk.out.mono ?_
          rintro e w5 ⟨rfl, hk5, hc5⟩
          have hR5H := Lib.hid (hR3H.out.chg hc5 hk5)
          clear x0 x1 x2 x3 x4 x5 x6 hk5 hc5 htk
          go_wp2_with fail
          go_roundw
          case rel => exact ⟨k + 1, by omega, by go_num, hallH.out hgd.out, hR5H.out⟩
          case measure => simp only [intOf]; omega
    case neg =>
      have hke : k = (subs n m).length := by rw [subs_bits]; omega
      rw [hke, partB_full] at hR
      have hall2 : ∀ u ∈ subs n m, goodAt (m : Int) Z l u := fun u hu => by
        obtain ⟨j, hj, rfl⟩ := List.getElem_of_mem hu
        exact hall j hj (by omega)
      have hallH := Lib.hid hall2
      have hzs := Lib.hid (full_places hall2)
      have hsays := Lib.hid (says_iff hall2)
      have hz3 : Z = ((n + 3 : Nat) : Int) := by have := hZH.out; omega
      have hk3 : ¬ (k : Int) < ((n + 1 + m : Nat) : Int) := by omega
      have hRH := Lib.hid hR
      obtain ⟨r0, r1, r2, r3, r4, rf⟩ := hR.k.a
      obtain ⟨y0, y1, y2, y3, y4, yf⟩ := hR.g
      have hap := Lib.hid (fun W (hI : zoE.In W A1 (fullB n m l).zs) => apart_any W (m : Int) B O A (n + 3) A1 c1 (fullB n m l).zs hI hR.k.o.zl (by omega) (by have := hzs.out; rw [hz3] at this; exact this))
      rw [← hz3] at hap
      have hdi := Lib.hid (fun W (hI : IntsIn W A2 (fullB n m l).ms) => distinct_any W A2 c2 (fullB n m l).ms hI hR.k.o.ml)
      have hli := Lib.hid (hR.k.o.in_.z)
      obtain ⟨ta, hta⟩ : ∃ t, t = decide ((fullB n m l).zs.map Zo.p).Nodup := ⟨_, rfl⟩
      obtain ⟨td, htd⟩ : ∃ t, t = decide (fullB n m l).ms.Nodup := ⟨_, rfl⟩
      rw [← hta] at hap
      rw [← htd] at hdi
      have htaH := Lib.hid hta
      have htdH := Lib.hid htd
      clear hall hall2 hR hke hlt hz3 hta htd
      go_wp2_with fail
      refine (hap.out _ hli.out).mono ?_
      rintro e w1 ⟨rfl, hb1⟩
      have hR1H := Lib.hid (hRH.out.below hb1)
      clear hRH hli hb1 r0 r1 r2 r3 r4 rf y0 y1 y2 y3 y4 yf hap
      obtain ⟨r0, r1, r2, r3, r4, rf⟩ := hR1H.out.k.a
      cases ta with
      | false =>
        have hns := Lib.hid (show ¬ SaysB (m : Int) Z n m l from fun h => absurd (hsays.out.1 h).1 (of_decide_eq_false htaH.out.symm))
        have hpH := Lib.hid (no_put hR1H.out.o hR1H.out.bw)
        obtain ⟨q0, q1, q2, q3, q4, qf⟩ := hR1H.out.o
        go_wp2_with fail
        refine fresh_post (fun W => BkAt W (w.heap.size + 1) none 0 none 0 noB ∧ Below w.heap.size w W) hpH.out ?_
        rintro W10 ⟨⟨z0, z1, z2, z3, z4, _⟩, hb10⟩
        refine bodyPost_ret (v := .tuple #[.agg #[.int .i64 0, .slice none 0 0, .slice none 0 0, .int .i64 0, .int .i64 0], .int .i64 9]) (by
          have z0' : W10.cell? ⟨w.heap.size + 1, 0, none⟩ = some (.int .i64 0) := z0
          have z1' : W10.cell? ⟨w.heap.size + 1, 1, none⟩ = some (.slice none 0 0) := z1
          have z2' : W10.cell? ⟨w.heap.size + 1, 2, none⟩ = some (.slice none 0 0) := z2
          have z3' : W10.cell? ⟨w.heap.size + 1, 3, none⟩ = some (.int .i64 0) := z3
          have z4' : W10.cell? ⟨w.heap.size + 1, 4, none⟩ = some (.int .i64 0) := z4
          simp [results, Try.results9, go_sem, z0', z1', z2', z3', z4']) rfl ⟨fun h => absurd h hns.out, fun _ => ⟨rfl, hb10⟩⟩
      | true =>
        go_wp2_with fail
        refine (hdi.out _ hR1H.out.k.o.in_.m).mono ?_
        rintro e w2 ⟨rfl, rfl⟩
        cases td with
        | false =>
          have hns := Lib.hid (show ¬ SaysB (m : Int) Z n m l from fun h => absurd (hsays.out.1 h).2 (of_decide_eq_false htdH.out.symm))
          have hpH := Lib.hid (no_put hR1H.out.o hR1H.out.bw)
          obtain ⟨q0, q1, q2, q3, q4, qf⟩ := hR1H.out.o
          go_wp2_with fail
          refine fresh_post (fun W => BkAt W (w.heap.size + 1) none 0 none 0 noB ∧ Below w.heap.size w W) hpH.out ?_
          rintro W10 ⟨⟨z0, z1, z2, z3, z4, _⟩, hb10⟩
          refine bodyPost_ret (v := .tuple #[.agg #[.int .i64 0, .slice none 0 0, .slice none 0 0, .int .i64 0, .int .i64 0], .int .i64 9]) (by
            have z0' : W10.cell? ⟨w.heap.size + 1, 0, none⟩ = some (.int .i64 0) := z0
            have z1' : W10.cell? ⟨w.heap.size + 1, 1, none⟩ = some (.slice none 0 0) := z1
            have z2' : W10.cell? ⟨w.heap.size + 1, 2, none⟩ = some (.slice none 0 0) := z2
            have z3' : W10.cell? ⟨w.heap.size + 1, 3, none⟩ = some (.int .i64 0) := z3
            have z4' : W10.cell? ⟨w.heap.size + 1, 4, none⟩ = some (.int .i64 0) := z4
            simp [results, Try.results9, go_sem, z0', z1', z2', z3', z4']) rfl ⟨fun h => absurd h hns.out, fun _ => ⟨rfl, hb10⟩⟩
        | true =>
          have hys := Lib.hid (hsays.out.2 ⟨of_decide_eq_true htaH.out.symm, of_decide_eq_true htdH.out.symm⟩)
          obtain ⟨y, hy⟩ : ∃ y, y = fnd l (6, 0) := ⟨_, rfl⟩
          have hyl : y ∈ l := by
            obtain ⟨x, hx, _⟩ := hallH.out _ (mem_subs_cur n m)
            rw [hy, fnd_some hx]
            exact best_of (P := (· ∈ l)) (fun x h _ => h) hx
          have hseq : ∀ x ∈ l, 0 ≤ x.s ∧ x.s ≤ 4398046511104 := fun x hx => by
            rw [hlH.out] at hx
            obtain ⟨q, hq, hxq⟩ := List.mem_flatMap.1 hx
            exact ((hokH.out.2 q hq).2 x hxq).s
          have hy0 := hseq y hyl
          have hqall := Lib.hid (mqF_all hy0.1 hyl)
          have hseqH := Lib.hid hseq
          have hyH := Lib.hid hy
          have hM := Lib.hid hR1H.out.m
          have hwf := Lib.hid (subs_wf (n := n) (m := m) (by omega) (by omega) (mem_subs_cur n m))
          have hRq := Lib.hid (hR1H.out.set_q y.s)
          have hfd : ∀ W, (Instr.field 53 (.agg #[.int .i64 y.k, .int .i64 y.s, .int .i64 y.a, .int .i64 y.b, .int .i64 y.c, .int .i64 y.d, .string y.body]) 1).run Try.prog W = .ok (.int .i64 y.s) W := fun _ => by kernel_rfl
          clear hy hyl hseq hsays htaH htdH hdi hzs hR1H hallH hgH
          go_upto_region 16 with (at_lookup; refine wpList_look1 rfl (.tmp 61) (.tmp 62) rfl hM.out rfl hwf.out.1 hwf.out.2 rfl hyH.out ?_)
          refine fresh_world (fun W => ReadW w W (m : Int) Z B O A mb nb l S cs (subs n m) Bb r A1 c1 A2 c2 { fullB n m l with q := y.s }) hRq.out ?_
          clear hRq hM hwf r0 r1 r2 r3 r4 rf hfd
          rintro W5 hR
          have hRH := Lib.hid hR
          clear hR
          go_wp2_with fail
          go_loopw [68] (fun i wr => ∃ k2 : Nat, k2 ≤ ls.length ∧ i = .int .i64 (k2 : Int) ∧ ReadW w wr (m : Int) Z B O A mb nb l S cs (subs n m) Bb r A1 c1 A2 c2 { fullB n m l with q := mqF y.s (flatL (ls.take k2)) }) (fun i _ => ls.length - (intOf i).toNat)
          case atStart => exact ⟨0, Nat.zero_le _, rfl, hRH.out⟩
          case round =>
            clear hRH
            obtain ⟨k2, hk2, rfl, hR⟩ := hrel
            have hRH := Lib.hid hR
            by_cases hlt : k2 < ls.length
            case pos =>
              obtain ⟨_, _, -, -, -, hI0⟩ := hIH.out.at_ hlt
              obtain ⟨b, off, rfl, -, hc, -⟩ := (hIH.out.below hR.bw).at_ hlt
              obtain ⟨hr1, hr2⟩ := hokH.out.2 _ (List.getElem_mem hlt)
              have hpH := Lib.hid (flatL_take hlt)
              have hI0H := Lib.hid (fun W (hb : Below w.heap.size w W) => hI0.below hb)
              have hr2H := Lib.hid hr2
              have hmb : ∀ j, mqF y.s (flatL (ls.take k2) ++ ls[k2].rs.take j) ≤ 4398046511104 := fun j => mqF_le _ _ _ hy0.2 (fun x hx => by
                refine (hseqH.out x ?_).2
                rw [hlH.out]
                rcases List.mem_append.1 hx with h | h
                · obtain ⟨q, hq, hxq⟩ := List.mem_flatMap.1 h
                  exact List.mem_flatMap.2 ⟨q, List.mem_of_mem_take hq, hxq⟩
                · exact List.mem_flatMap.2 ⟨_, List.getElem_mem hlt, List.mem_of_mem_take h⟩)
              have hmbH := Lib.hid hmb
              clear hR hI0 hr2 hmb
              generalize ls[k2] = rr at hc hr1 hr2H hpH hI0H hmbH
              obtain ⟨Ar, capr, rs⟩ := rr
              dsimp only at hc hr1 hr2H hpH hI0H hmbH
              obtain ⟨L, hL⟩ : ∃ L, L = flatL (ls.take k2) := ⟨_, rfl⟩
              rw [← hL] at hpH hRH hmbH
              clear hL
              obtain ⟨wo, rfl⟩ : ∃ wo, wo = wr := ⟨_, rfl⟩
              go_wp2_with fail
              go_loopw [74] (fun i wr => ∃ j : Nat, j ≤ rs.length ∧ i = .int .i64 (j : Int) ∧ ReadW w wr (m : Int) Z B O A mb nb l S cs (subs n m) Bb r A1 c1 A2 c2 { fullB n m l with q := mqF y.s (L ++ rs.take j) }) (fun i _ => rs.length - (intOf i).toNat)
              case atStart => exact ⟨0, Nat.zero_le _, rfl, by rw [List.take_zero, List.append_nil]; exact hRH.out⟩
              case round =>
                clear hRH
                obtain ⟨j, hj, rfl, hR⟩ := hrel
                by_cases hlt2 : j < rs.length
                case pos =>
                  obtain ⟨b2, off2, rfl, -, x0, x1, x2, x3, x4, x5, x6⟩ := (hI0H.out _ hR.bw).at_ hlt2
                  have hst : max (mqF y.s (L ++ rs.take j)) rs[j].s = mqF y.s (L ++ rs.take (j + 1)) := by
                    rw [← mqF_snoc, List.append_assoc, List.take_succ_eq_append_getElem hlt2]
                  have hRn := (hR.set_q (max (mqF y.s (L ++ rs.take j)) rs[j].s)).alloc (.cells #[.int .i64 rs[j].k, .int .i64 rs[j].s, .int .i64 rs[j].a, .int .i64 rs[j].b, .int .i64 rs[j].c, .int .i64 rs[j].d, .string rs[j].body] 53)
                  have hq0 := hR.k.a.c0
                  have hqf := hR.k.a.fr 0
                  dsimp only at hq0 hRn
                  have hrl := hR.k.a.lt
                  have hrne : ¬ wr.heap.size = r := by omega
                  have hrne2 : ¬ r = wr.heap.size := by omega
                  have hRH := Lib.hid hRn
                  have hstH := Lib.hid hst
                  have hj1 : (j : Int) < (rs.length : Int) := by omega
                  have hkw : IntKind.i64.wrap ((j : Int) + 1) = (j : Int) + 1 := IntWalk.i64_in _ (by omega)
                  clear hR hRn hst
                  generalize hx : rs[j] = x at x0 x1 x2 x3 x4 x5 x6 hRH hstH
                  clear hx
                  generalize mqF y.s (L ++ rs.take j) = q at hq0 hRH hstH
                  go_wp2_with fail
                  go_roundw
                  case rel => exact ⟨j + 1, by omega, by go_num, by rw [← hstH.out]; exact hRH.out⟩
                  case measure => simp only [intOf]; omega
                case neg =>
                  have hje : j = rs.length := by omega
                  rw [hje, List.take_length] at hR
                  have hRH := Lib.hid hR
                  have hj1 : ¬ (j : Int) < (rs.length : Int) := by omega
                  have hkw : IntKind.i64.wrap ((k2 : Int) + 1) = (k2 : Int) + 1 := IntWalk.i64_in _ (by omega)
                  clear hR hje
                  go_wp2_with fail
                  go_roundw
                  case rel => exact ⟨k2 + 1, by omega, by go_num, by rw [hpH.out]; exact hRH.out⟩
                  case measure => simp only [intOf]; omega
            case neg =>
              have hke : k2 = ls.length := by omega
              rw [hke, List.take_length, ← hlH.out, hqall.out] at hR
              have e : ({ fullB n m l with q := maxQ l } : Bo) = readB n m l := rfl
              rw [e] at hR
              have hk1 : ¬ (k2 : Int) < (ls.length : Int) := by omega
              have hol := hR.o.lt
              have hout := Lib.hid (book_out hR.o hR.k.o (show w.heap.size + 1 < Bb from hR.lo) (show w.heap.size ≤ w.heap.size + 1 by omega) hR.bw)
              obtain ⟨r0, r1, r2, r3, r4, rf⟩ := hR.k.a
              obtain ⟨q0, q1, q2, q3, q4, qf⟩ := hR.o
              clear hR e hke hlt hRH
              go_wp2_with fail
              refine fresh_post (fun W => BkAt W (w.heap.size + 1) A1 c1 A2 c2 (readB n m l) ∧ BkO W w.heap.size A1 c1 A2 c2 (readB n m l) ∧ Below w.heap.size w W) hout.out ?_
              rintro W10 ⟨⟨z0, z1, z2, z3, z4, _⟩, hO10, hb10⟩
              refine bodyPost_ret (v := .tuple #[.agg #[.int .i64 (readB n m l).q, .slice A1 (readB n m l).zs.length c1, .slice A2 (readB n m l).ms.length c2, .int .i64 (readB n m l).sl, .int .i64 (readB n m l).cu], .int .i64 0]) (by simp [results, Try.results9, go_sem, z0, z1, z2, z3, z4]) rfl ⟨fun _ => ⟨A1, c1, A2, c2, rfl, hO10, hb10⟩, fun h => absurd hys.out h⟩
end Go.Proofs.Ytpmhfalhieinjaa
