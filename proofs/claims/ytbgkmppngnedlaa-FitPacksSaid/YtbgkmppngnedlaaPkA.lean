/- between, Pack and closed of pick. -/
import Derived.Test.YtbgkmppngnedlaaPkO
import Derived.Lib.Hide
import Derived.Shelf.Abstract
namespace Go.Proofs.Ytbgkmppngnedlaa
open Go.RowKit Go.Shelf

theorem pbetween_any (n a b : Int) (w : World) :
    Calls Try.prog 52 #[.int .i64 n, .int .i64 a, .int .i64 b] w fun e w' => e = .returned (.bool (decide (a ≤ n ∧ n ≤ b))) ∧ w = w' := by
  by_cases h1 : a ≤ n
  · by_cases h2 : n ≤ b
    · rw [decide_eq_true ⟨h1, h2⟩]
      go_enter Try.func52, Try.ntmps52
      go_wp2
      go_ret
      exact ⟨rfl, rfl⟩
    · rw [decide_eq_false (fun h => h2 h.2)]
      go_enter Try.func52, Try.ntmps52
      go_wp2
      go_ret
      exact ⟨rfl, rfl⟩
  · rw [decide_eq_false (fun h => h1 h.1)]
    go_enter Try.func52, Try.ntmps52
    go_wp2
    go_ret
    exact ⟨rfl, rfl⟩
/-- The blocks of writes and trims; 0 for numbers that are none. -/
def pkI (a b : Int) : Int := if (0 ≤ a ∧ a ≤ 1048576) ∧ (0 ≤ b ∧ b ≤ 1048576) then a + (a + b + 5) / 6 else 0
set_option maxHeartbeats 1000000 in
theorem pack_any (a b : Int) (w : World) : Calls Try.prog 18 #[.int .i64 a, .int .i64 b] w fun e w' => e = .returned (.int .i64 (pkI a b)) ∧ w = w' := by
  have c1 := Lib.hid (fun W => pbetween_any a 0 1048576 W)
  have c2 := Lib.hid (fun W => pbetween_any b 0 1048576 W)
  by_cases h1 : 0 ≤ a ∧ a ≤ 1048576
  case neg =>
    have e : pkI a b = 0 := if_neg (fun h => h1 h.1)
    rw [e]
    rw [decide_eq_false h1] at c1
    clear e h1
    go_enter Try.func18, Try.ntmps18
    go_wp2_with fail
    (with_reducible refine (c1.out _).mono ?_)
    rintro e w' ⟨rfl, rfl⟩
    go_wp2_with fail
    go_ret
    exact ⟨rfl, rfl⟩
  case pos =>
    by_cases h2 : 0 ≤ b ∧ b ≤ 1048576
    case neg =>
      have e : pkI a b = 0 := if_neg (fun h => h2 h.2)
      rw [e]
      rw [decide_eq_true h1] at c1
      rw [decide_eq_false h2] at c2
      clear e h1 h2
      go_enter Try.func18, Try.ntmps18
      go_wp2_with fail
      (with_reducible refine (c1.out _).mono ?_)
      rintro e w' ⟨rfl, rfl⟩
      go_wp2_with fail
      (with_reducible refine (c2.out _).mono ?_)
      rintro e w' ⟨rfl, rfl⟩
      go_wp2_with fail
      go_ret
      exact ⟨rfl, rfl⟩
    case pos =>
      have e : pkI a b = a + (a + b + 5) / 6 := if_pos ⟨h1, h2⟩
      rw [e]
      rw [decide_eq_true h1] at c1
      rw [decide_eq_true h2] at c2
      obtain ⟨s, hs⟩ : ∃ s, a + b = s := ⟨_, rfl⟩
      obtain ⟨t, ht⟩ : ∃ t, s + 6 = t := ⟨_, rfl⟩
      obtain ⟨u, hu⟩ : ∃ u, t - 1 = u := ⟨_, rfl⟩
      obtain ⟨q, hq⟩ : ∃ q, Int.tdiv u 6 = q := ⟨_, rfl⟩
      have hq2 : q = (a + b + 5) / 6 := by rw [← hq, Int.tdiv_eq_ediv_of_nonneg (by omega)]; congr 1; omega
      rw [← hq2]
      obtain ⟨r, hr⟩ : ∃ r, a + q = r := ⟨_, rfl⟩
      rw [hr]
      have w1 : IntKind.i64.wrap (a + b) = s := by rw [hs]; exact IntWalk.i64_in _ (by omega)
      have w2 : IntKind.i64.wrap (s + 6) = t := by rw [ht]; exact IntWalk.i64_in _ (by omega)
      have w3 : IntKind.i64.wrap (t - 1) = u := by rw [hu]; exact IntWalk.i64_in _ (by omega)
      have w5 : IntKind.i64.wrap q = q := IntWalk.i64_in _ (by omega)
      have w6 : IntKind.i64.wrap (a + q) = r := by rw [hr]; exact IntWalk.i64_in _ (by omega)
      have w4 : IntKind.i64.wrap (Int.tdiv u 6) = q := by rw [hq]; exact w5
      clear e h1 h2 hs ht hu hr hq2
      go_enter Try.func18, Try.ntmps18
      go_wp2_with fail
      (with_reducible refine (c1.out _).mono ?_)
      rintro e w' ⟨rfl, rfl⟩
      go_wp2_with fail
      (with_reducible refine (c2.out _).mono ?_)
      rintro e w' ⟨rfl, rfl⟩
      go_wp2_with fail
      go_ret
      exact ⟨rfl, rfl⟩
def ixE : Enc Nat := ⟨fun i => [.int .i64 (i : Int)], 1, fun _ => rfl, fun x u hu => by
  simp only [List.mem_cons, List.not_mem_nil, or_false] at hu
  rcases hu with rfl
  rfl⟩
theorem infIx : Enc.Inf Try.prog 3 1 8 := by unfold Enc.Inf; kernel_rfl
theorem ix_at {W : World} {A : Option Addr} {l : List Nat} (h : ixE.In W A l) {i : Nat} (hi : i < l.length) : ∃ b off, A = some ⟨b, off, none⟩ ∧ b < W.heap.size ∧ W.cell? ⟨b, off + i, none⟩ = some (.int .i64 (l[i] : Int)) := by
  obtain ⟨b, off, e, hlt, h⟩ := h.at_ hi
  have h1 := h 0 (by decide)
  rw [show off + i * ixE.k + 0 = off + i by show off + i * 1 + 0 = _; omega] at h1
  exact ⟨b, off, e, hlt, h1⟩
theorem zw_any (z : Pz) (w : World) : Calls Try.prog 46 #[.agg #[.int .i64 z.l, .int .i64 z.v, .bool z.o]] w fun e w' => e = .returned (.bool z.w) ∧ Below w.heap.size w w' := by
  obtain ⟨v, hv⟩ : ∃ v, z.w = v := ⟨_, rfl⟩
  have hd : decide (z.l > 0) = v := by rw [← hv]; rfl
  rw [hv]
  clear hv
  go_enter Try.func46, Try.ntmps46
  go_wp2
  go_ret
  exact ⟨rfl, (Below.refl _ _).alloc (Nat.le_refl _) _⟩
theorem ze_any (z : Pz) (w : World) : Calls Try.prog 45 #[.agg #[.int .i64 z.l, .int .i64 z.v, .bool z.o]] w fun e w' => e = .returned (.bool z.e) ∧ Below w.heap.size w w' := by
  obtain ⟨v, hv⟩ : ∃ v, z.e = v := ⟨_, rfl⟩
  have hd : (z.l == 0) = v := by rw [← hv]; rfl
  rw [hv]
  clear hv
  go_enter Try.func45, Try.ntmps45
  go_wp2
  go_ret
  exact ⟨rfl, (Below.refl _ _).alloc (Nat.le_refl _) _⟩
def ClPost (p : Pz → Bool) (w : World) (l : List Pz) (e : Ending) (w' : World) : Prop := ∃ A cap, e = .returned (.slice A (clK p l l.length).length cap) ∧ ixE.Row w' w.heap.size 3 A cap (clK p l l.length) ∧ Below w.heap.size w w'
set_option maxRecDepth 100000 in
set_option maxHeartbeats 4000000 in
theorem closed_w (w : World) (A : Option Addr) (cap : Nat) (l : List Pz) (hI : pzE.In w A l) (hl : l.length ≤ 1000) : Calls Try.prog 44 #[.slice A l.length cap, .func (.func 46) #[] #[]] w (ClPost Pz.w w l) := by
  have hIH := Lib.hid (fun W (hb : Below w.heap.size w W) => hI.below hb)
  have h1 := Lib.hid zw_any
  have eg : ∀ args w, (callFunc 46 args).run Try.prog w = .ok (.enter 46 args) w := enters_of Try.func46 (by kernel_rfl) rfl
  have hB0 := Lib.hid (Below.refl w.heap.size w)
  have hR0 : Hid (ixE.Row w w.heap.size 3 none 0 (clK Pz.w l 0)) := Lib.hid (Enc.Row.nil _ _ _)
  clear hI
  obtain ⟨p, hp⟩ : ∃ p : Pz → Bool, Pz.w = p := ⟨_, rfl⟩
  rw [hp] at h1 hR0 ⊢
  obtain ⟨n, hn⟩ : ∃ n, l.length = n := ⟨_, rfl⟩
  unfold ClPost
  rw [hn]
  rw [hn] at hl
  have hnH := Lib.hid hn
  clear hn hp
  go_enter Try.func44, Try.ntmps44
  go_wp2_with fail
  go_loopw [5, 10] (fun sv iv wr => ∃ (k : Nat) (A2 : Option Addr) (c2 m : Nat), k ≤ n ∧ iv = .int .i64 (k : Int) ∧ sv = .slice A2 m c2 ∧ Hid ((clK p l k).length = m) ∧ Hid (ixE.Row wr w.heap.size 3 A2 c2 (clK p l k)) ∧ Hid (Below w.heap.size w wr)) (fun _ iv _ => n - (intOf iv).toNat)
  case atStart => exact ⟨0, none, 0, 0, Nat.zero_le _, rfl, rfl, Lib.hid rfl, hR0, hB0⟩
  case round =>
    clear hR0 hB0
    obtain ⟨k, A2, c2, m, hkn, rfl, rfl, hm, hR, hB⟩ := hrel
    by_cases hlt : k < n
    case neg =>
      have hke : k = n := by omega
      subst hke
      have hkI : ¬ (k : Int) < (k : Int) := by omega
      go_wp2_with fail
      go_ret
      exact ⟨A2, c2, by rw [hm.out]; rfl, hR.out, hB.out⟩
    case pos =>
      have hkl : k < l.length := by rw [hnH.out]; exact hlt
      have hkI : (k : Int) < (n : Int) := by omega
      have hkw : IntKind.i64.wrap ((k : Int) + 1) = (k : Int) + 1 := IntWalk.i64_in _ (by omega)
      obtain ⟨eb, eo, rfl, hebl, e0, e1, e2⟩ := pz_at (hIH.out wr hB.out) hkl
      have hsc := Lib.hid (clK_succ p l k)
      rw [zAt_eq hkl] at hsc
      generalize l[k] = x at e0 e1 e2 hsc
      have hal := Lib.hid (hB.out.alloc hB.out.size (.cells #[.int .i64 x.l, .int .i64 x.v, .bool x.o] 35))
      have hRa := Lib.hid (hR.out.alloc (.cells #[.int .i64 x.l, .int .i64 x.v, .bool x.o] 35))
      clear hR hB
      go_upto_region 5 with fail
      clear e0 e1 e2
      refine fresh_world (fun W => W.cell? ⟨wr.heap.size, 0, none⟩ = some (.int .i64 x.l) ∧ W.cell? ⟨wr.heap.size, 1, none⟩ = some (.int .i64 x.v) ∧ W.cell? ⟨wr.heap.size, 2, none⟩ = some (.bool x.o) ∧ ixE.Row W w.heap.size 3 A2 c2 (clK p l k) ∧ Below w.heap.size w W) ⟨by go_simp, by go_simp, by go_simp, hRa.out, hal.out⟩ ?_
      clear hRa hal
      rintro W5 ⟨y0, y1, y2, hR5, hB5⟩
      have hR5H := Lib.hid hR5
      have hB5H := Lib.hid hB5
      clear hR5 hB5
      obtain ⟨xo, hxo⟩ : ∃ o, x.o = o := ⟨_, rfl⟩
      rw [hxo] at y2
      rw [hxo] at hsc
      cases xo with
      | true =>
        have hsc2 : Hid (clK p l (k + 1) = clK p l k) := Lib.hid (by rw [hsc.out]; rfl)
        clear hsc hxo h1
        go_wp2_with fail
        go_roundw
        case rel => exact ⟨k + 1, A2, c2, m, hlt, by go_num, rfl, Lib.hid (by rw [hsc2.out]; exact hm.out), Lib.hid (by rw [hsc2.out]; exact hR5H.out), hB5H⟩
        case measure => simp only [intOf]; omega
      | false =>
        have hx1 := Lib.hid (h1.out x)
        rw [hxo] at hx1
        obtain ⟨v, hv⟩ : ∃ v, p x = v := ⟨_, rfl⟩
        rw [hv] at hx1 hsc
        clear hv h1 hxo
        cases v with
        | false =>
          have hsc2 : Hid (clK p l (k + 1) = clK p l k) := Lib.hid (by rw [hsc.out]; rfl)
          clear hsc
          go_wp2_with fail
          go_at_fn 46
          refine (hx1.out _).mono ?_
          rintro e w6 ⟨rfl, hb6⟩
          have hR6 := Lib.hid (hR5H.out.below hb6)
          have hB6 := Lib.hid (hB5H.out.trans (hb6.mono hB5H.out.size))
          clear hb6 hR5H hB5H y0 y1 y2
          go_wp2_with fail
          go_roundw
          case rel => exact ⟨k + 1, A2, c2, m, hlt, by go_num, rfl, Lib.hid (by rw [hsc2.out]; exact hm.out), Lib.hid (by rw [hsc2.out]; exact hR6.out), hB6⟩
          case measure => simp only [intOf]; omega
        | true =>
          have hsc2 : Hid (clK p l (k + 1) = clK p l k ++ [k]) := Lib.hid (by rw [hsc.out]; rfl)
          clear hsc
          go_wp2_with fail
          go_at_fn 46
          refine (hx1.out _).mono ?_
          rintro e w6 ⟨rfl, hb6⟩
          have hB6 := hB5H.out.trans (hb6.mono hB5H.out.size)
          have hal6 := (Below.refl w6.heap.size w6).alloc (Nat.le_refl _) (.cells #[.int .i64 (k : Int)] 3)
          have hR6 := (hR5H.out.below hb6).below hal6
          obtain ⟨A', cap', W7, hrun, hrow, hgr, hor⟩ := hR6.append (P := Try.prog) Try.underlying37 infIx (by decide) (by decide) (m := w6.heap.size) (x := k) (fun j hj => by
            rw [World.cell?_alloc_new]
            have h1 : j < 1 := hj
            obtain rfl : j = 0 := by omega
            rfl) (by have := clK_len p l k; omega) (by have := hB6.size; simp; omega) 37
          rw [hm.out] at hrun
          have hB7 := Lib.hid (show Below w.heap.size w W7 from (hB6.alloc hB6.size _).trans (hR6.grown hgr (by have := hB6.size; simp; omega)))
          have hrunH := Lib.hid hrun
          rw [← hsc2.out] at hrow
          have hrowH := Lib.hid hrow
          have hm2 : Hid ((clK p l (k + 1)).length = m + 1) := Lib.hid (by rw [hsc2.out, List.length_append, hm.out]; rfl)
          clear hrun hrow hgr hor hR6 hal6 hB6 hb6 y0 y1 y2 hR5H hB5H hsc2 hm
          go_wp2_with (at_builtin; refine append_run_wp rfl _ _ _ rfl rfl rfl hrunH.out ?_; clear hrunH)
          go_roundw
          case rel => exact ⟨k + 1, A', cap', m + 1, hlt, by go_num, by go_num, hm2, hrowH, hB7⟩
          case measure => simp only [intOf]; omega
set_option maxRecDepth 100000 in
set_option maxHeartbeats 4000000 in
theorem closed_e (w : World) (A : Option Addr) (cap : Nat) (l : List Pz) (hI : pzE.In w A l) (hl : l.length ≤ 1000) : Calls Try.prog 44 #[.slice A l.length cap, .func (.func 45) #[] #[]] w (ClPost Pz.e w l) := by
  have hIH := Lib.hid (fun W (hb : Below w.heap.size w W) => hI.below hb)
  have h1 := Lib.hid ze_any
  have eg : ∀ args w, (callFunc 45 args).run Try.prog w = .ok (.enter 45 args) w := enters_of Try.func45 (by kernel_rfl) rfl
  have hB0 := Lib.hid (Below.refl w.heap.size w)
  have hR0 : Hid (ixE.Row w w.heap.size 3 none 0 (clK Pz.e l 0)) := Lib.hid (Enc.Row.nil _ _ _)
  clear hI
  obtain ⟨p, hp⟩ : ∃ p : Pz → Bool, Pz.e = p := ⟨_, rfl⟩
  rw [hp] at h1 hR0 ⊢
  obtain ⟨n, hn⟩ : ∃ n, l.length = n := ⟨_, rfl⟩
  unfold ClPost
  rw [hn]
  rw [hn] at hl
  have hnH := Lib.hid hn
  clear hn hp
  go_enter Try.func44, Try.ntmps44
  go_wp2_with fail
  go_loopw [5, 10] (fun sv iv wr => ∃ (k : Nat) (A2 : Option Addr) (c2 m : Nat), k ≤ n ∧ iv = .int .i64 (k : Int) ∧ sv = .slice A2 m c2 ∧ Hid ((clK p l k).length = m) ∧ Hid (ixE.Row wr w.heap.size 3 A2 c2 (clK p l k)) ∧ Hid (Below w.heap.size w wr)) (fun _ iv _ => n - (intOf iv).toNat)
  case atStart => exact ⟨0, none, 0, 0, Nat.zero_le _, rfl, rfl, Lib.hid rfl, hR0, hB0⟩
  case round =>
    clear hR0 hB0
    obtain ⟨k, A2, c2, m, hkn, rfl, rfl, hm, hR, hB⟩ := hrel
    by_cases hlt : k < n
    case neg =>
      have hke : k = n := by omega
      subst hke
      have hkI : ¬ (k : Int) < (k : Int) := by omega
      go_wp2_with fail
      go_ret
      exact ⟨A2, c2, by rw [hm.out]; rfl, hR.out, hB.out⟩
    case pos =>
      have hkl : k < l.length := by rw [hnH.out]; exact hlt
      have hkI : (k : Int) < (n : Int) := by omega
      have hkw : IntKind.i64.wrap ((k : Int) + 1) = (k : Int) + 1 := IntWalk.i64_in _ (by omega)
      obtain ⟨eb, eo, rfl, hebl, e0, e1, e2⟩ := pz_at (hIH.out wr hB.out) hkl
      have hsc := Lib.hid (clK_succ p l k)
      rw [zAt_eq hkl] at hsc
      generalize l[k] = x at e0 e1 e2 hsc
      have hal := Lib.hid (hB.out.alloc hB.out.size (.cells #[.int .i64 x.l, .int .i64 x.v, .bool x.o] 35))
      have hRa := Lib.hid (hR.out.alloc (.cells #[.int .i64 x.l, .int .i64 x.v, .bool x.o] 35))
      clear hR hB
      go_upto_region 5 with fail
      clear e0 e1 e2
      refine fresh_world (fun W => W.cell? ⟨wr.heap.size, 0, none⟩ = some (.int .i64 x.l) ∧ W.cell? ⟨wr.heap.size, 1, none⟩ = some (.int .i64 x.v) ∧ W.cell? ⟨wr.heap.size, 2, none⟩ = some (.bool x.o) ∧ ixE.Row W w.heap.size 3 A2 c2 (clK p l k) ∧ Below w.heap.size w W) ⟨by go_simp, by go_simp, by go_simp, hRa.out, hal.out⟩ ?_
      clear hRa hal
      rintro W5 ⟨y0, y1, y2, hR5, hB5⟩
      have hR5H := Lib.hid hR5
      have hB5H := Lib.hid hB5
      clear hR5 hB5
      obtain ⟨xo, hxo⟩ : ∃ o, x.o = o := ⟨_, rfl⟩
      rw [hxo] at y2
      rw [hxo] at hsc
      cases xo with
      | true =>
        have hsc2 : Hid (clK p l (k + 1) = clK p l k) := Lib.hid (by rw [hsc.out]; rfl)
        clear hsc hxo h1
        go_wp2_with fail
        go_roundw
        case rel => exact ⟨k + 1, A2, c2, m, hlt, by go_num, rfl, Lib.hid (by rw [hsc2.out]; exact hm.out), Lib.hid (by rw [hsc2.out]; exact hR5H.out), hB5H⟩
        case measure => simp only [intOf]; omega
      | false =>
        have hx1 := Lib.hid (h1.out x)
        rw [hxo] at hx1
        obtain ⟨v, hv⟩ : ∃ v, p x = v := ⟨_, rfl⟩
        rw [hv] at hx1 hsc
        clear hv h1 hxo
        cases v with
        | false =>
          have hsc2 : Hid (clK p l (k + 1) = clK p l k) := Lib.hid (by rw [hsc.out]; rfl)
          clear hsc
          go_wp2_with fail
          go_at_fn 45
          refine (hx1.out _).mono ?_
          rintro e w6 ⟨rfl, hb6⟩
          have hR6 := Lib.hid (hR5H.out.below hb6)
          have hB6 := Lib.hid (hB5H.out.trans (hb6.mono hB5H.out.size))
          clear hb6 hR5H hB5H y0 y1 y2
          go_wp2_with fail
          go_roundw
          case rel => exact ⟨k + 1, A2, c2, m, hlt, by go_num, rfl, Lib.hid (by rw [hsc2.out]; exact hm.out), Lib.hid (by rw [hsc2.out]; exact hR6.out), hB6⟩
          case measure => simp only [intOf]; omega
        | true =>
          have hsc2 : Hid (clK p l (k + 1) = clK p l k ++ [k]) := Lib.hid (by rw [hsc.out]; rfl)
          clear hsc
          go_wp2_with fail
          go_at_fn 45
          refine (hx1.out _).mono ?_
          rintro e w6 ⟨rfl, hb6⟩
          have hB6 := hB5H.out.trans (hb6.mono hB5H.out.size)
          have hal6 := (Below.refl w6.heap.size w6).alloc (Nat.le_refl _) (.cells #[.int .i64 (k : Int)] 3)
          have hR6 := (hR5H.out.below hb6).below hal6
          obtain ⟨A', cap', W7, hrun, hrow, hgr, hor⟩ := hR6.append (P := Try.prog) Try.underlying37 infIx (by decide) (by decide) (m := w6.heap.size) (x := k) (fun j hj => by
            rw [World.cell?_alloc_new]
            have h1 : j < 1 := hj
            obtain rfl : j = 0 := by omega
            rfl) (by have := clK_len p l k; omega) (by have := hB6.size; simp; omega) 37
          rw [hm.out] at hrun
          have hB7 := Lib.hid (show Below w.heap.size w W7 from (hB6.alloc hB6.size _).trans (hR6.grown hgr (by have := hB6.size; simp; omega)))
          have hrunH := Lib.hid hrun
          rw [← hsc2.out] at hrow
          have hrowH := Lib.hid hrow
          have hm2 : Hid ((clK p l (k + 1)).length = m + 1) := Lib.hid (by rw [hsc2.out, List.length_append, hm.out]; rfl)
          clear hrun hrow hgr hor hR6 hal6 hB6 hb6 y0 y1 y2 hR5H hB5H hsc2 hm
          go_wp2_with (at_builtin; refine append_run_wp rfl _ _ _ rfl rfl rfl hrunH.out ?_; clear hrunH)
          go_roundw
          case rel => exact ⟨k + 1, A', cap', m + 1, hlt, by go_num, by go_num, hm2, hrowH, hB7⟩
          case measure => simp only [intOf]; omega
end Go.Proofs.Ytbgkmppngnedlaa
