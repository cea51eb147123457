/- LmapSums: the walk. -/
import Derived.Test.YtchipfpnikkbeaaLmU
import Derived.Test.YtchipfpnikkbeaaLmW
namespace Go.Proofs.Ytchipfpnikkbeaa
open Go.RowKit

/-- The world within the law: what was made, the counts. -/
structure SuW (w W : World) (base g m n : Nat) (x : Lm) (A : Option Addr) (ca : Nat) (ads : List Ad) (R : Nat) (K : List Int) : Prop where
  o : MoW w W base g m n x A ca ads
  rl : R < W.heap.size
  c : ∀ z, z < 8 → W.cell? ⟨R, z, none⟩ = some (.int .i64 (cntZ x.f K (z : Int) : Int)) ∧ cntZ x.f K (z : Int) ≤ 1000000
theorem SuW.below {w W W' : World} {base g m n : Nat} {x : Lm} {A : Option Addr} {ca : Nat} {ads : List Ad} {R : Nat} {K : List Int} (h : SuW w W base g m n x A ca ads R K) (hb : Below W.heap.size W W') : SuW w W' base g m n x A ca ads R K :=
  ⟨h.o.below hb, Nat.lt_of_lt_of_le h.rl hb.size, fun z hz => ⟨(hb.cell (p := ⟨R, z, none⟩) h.rl).trans (h.c z hz).1, (h.c z hz).2⟩⟩
theorem lv_at {W : World} {base cap : Nat} {A : Option Addr} {L : List Lv} (h : lvE.Row W base 41 A cap L) {i : Nat} (hi : i < L.length) : ∃ g, A = some ⟨g, 0, none⟩ ∧ g < W.heap.size ∧ W.cell? ⟨g, i * 5, none⟩ = some (.int .i64 L[i].b) ∧ W.cell? ⟨g, i * 5 + 1, none⟩ = some (.bool L[i].t) ∧ W.cell? ⟨g, i * 5 + 2, none⟩ = some (.int .i64 L[i].z) ∧ W.cell? ⟨g, i * 5 + 3, none⟩ = some (.int .i64 L[i].a) ∧ W.cell? ⟨g, i * 5 + 4, none⟩ = some (.int .i64 L[i].e) := by
  obtain ⟨g, e, _, hl, _, hc, _⟩ := h.at_ hi
  exact ⟨g, e, hl, hc 0 (by decide), hc 1 (by decide), hc 2 (by decide), hc 3 (by decide), hc 4 (by decide)⟩
theorem ad_at {W : World} {base cap : Nat} {A : Option Addr} {L : List Ad} (h : adE.Row W base 30 A cap L) {i : Nat} (hi : i < L.length) : ∃ g, A = some ⟨g, 0, none⟩ ∧ g < W.heap.size ∧ W.cell? ⟨g, i * 6, none⟩ = some (.int .i64 L[i].z) ∧ W.cell? ⟨g, i * 6 + 1, none⟩ = some (.int .i64 L[i].a) ∧ W.cell? ⟨g, i * 6 + 2, none⟩ = some (.int .i64 L[i].e) ∧ W.cell? ⟨g, i * 6 + 3, none⟩ = some (.int .i64 L[i].s) ∧ W.cell? ⟨g, i * 6 + 4, none⟩ = some (.int .i64 L[i].b) ∧ W.cell? ⟨g, i * 6 + 5, none⟩ = some (.bool L[i].t) := by
  obtain ⟨g, e, _, hl, _, hc, _⟩ := h.at_ hi
  exact ⟨g, e, hl, hc 0 (by decide), hc 1 (by decide), hc 2 (by decide), hc 3 (by decide), hc 4 (by decide), hc 5 (by decide)⟩
theorem getD_at {l : List Int} {i : Nat} (h : i < l.length) : l.getD i 0 = l[i] := by simp [List.getD, h]
theorem keys_uniq (ads : List Ad) : KeysOf (newF ads) (uniqL (ads.map (·.b)) ads.length) := by
  refine ⟨uniqL_nodup _ _, fun k => ?_⟩
  rw [uniqL_mem, newF_dom]
  constructor
  · rintro ⟨i, hi, e⟩
    refine ⟨ads[i], List.getElem_mem hi, ?_⟩
    rw [← e, getD_at (by simpa using hi), List.getElem_map]
  · rintro ⟨x, hx, e⟩
    obtain ⟨i, hi, rfl⟩ := List.getElem_of_mem hx
    exact ⟨i, hi, by rw [← e, getD_at (by simpa using hi), List.getElem_map]⟩
theorem sum_all {ads : List Ad} {K : List Int} (hz : ∀ x ∈ ads, 0 ≤ x.z ∧ x.z < 8) (hK : KeysOf (newF ads) K) : sumZ (newF ads) K 8 = firstsL (ads.map (·.b)) ads.length := by
  rw [sumZ_all (n := 8) (fun k x h => by
    obtain ⟨y, hy, rfl⟩ := newF_src h
    exact hz y hy) K (fun k h => (hK.2 k).1 h), hK.len (keys_uniq ads), uniqL_len]
theorem sumZ_le {f : Mp} {K : List Int} : ∀ n, sumZ f K n ≤ n * K.length
  | 0 => by simp [sumZ]
  | n + 1 => by
    have := sumZ_le (f := f) (K := K) n
    have h2 : cntZ f K (n : Int) ≤ K.length := List.length_filter_le _ _
    show sumZ f K n + cntZ f K (n : Int) ≤ _
    rw [Nat.add_mul, Nat.one_mul]
    omega
set_option maxRecDepth 100000 in
set_option maxHeartbeats 8000000 in
theorem sums_law (w : World) (Ain : Option Addr) (cap : Nat) (l : List GA) (hI : GActsIn w Ain l) (hok : ∀ c ∈ l, c.Ok) (hlen : l.length ≤ 9223372036854775807) : Calls Try.prog 6 #[.slice Ain l.length cap] w fun e w' => e = .returned (.bool true) ∧ Below w.heap.size w w' := by
  have hsp := Lib.hid (speaks19 w)
  have hmd := Lib.hid (fun W (hb : Below w.heap.size w W) => made_any W Ain cap l (hI.below hb) hok hlen)
  clear hI hok
  obtain ⟨nl, hnl⟩ : ∃ nl, l.length = nl := ⟨_, rfl⟩
  have hadl := Lib.hid (adM_len l (min l.length 60))
  have hadz := Lib.hid (adM_zone l (min l.length 60))
  have hadf := Lib.hid (mdM_f l (min l.length 60))
  unfold MadePost at hmd
  generalize hads : adM l (min l.length 60) = ads at hmd hadl hadz hadf
  generalize hx : mdM l (min l.length 60) = x at hmd hadf
  have hal6 : Hid (ads.length ≤ 600) := Lib.hid (by have := hadl.out; omega)
  clear hads hx hadl
  generalize mdQ l (min l.length 60) = q at hmd
  rw [hnl] at hmd hlen ⊢
  clear hnl
  go_enter Try.func6, Try.ntmps6
  go_wp2_with fail
  (with_reducible refine hsp.out.mono ?_)
  rintro e w1 ⟨rfl, hb1⟩
  have hm1 := Lib.hid (hmd.out w1 hb1)
  have hb1H := Lib.hid hb1
  clear hb1 hsp hmd
  go_wp2_with fail
  (with_reducible refine hm1.out.mono ?_)
  rintro e w2 ⟨base, g, m, n, A, ca, rfl, hn, hM⟩
  have hct := Lib.hid (show Calls Try.prog 14 #[.pointer (some ⟨g, 0, none⟩), .int .i64 8] w2 (CountsPost w2 x.f 8) from counts_any w2 g m n x 8 hM.lm (by omega) (by omega))
  have hMH := Lib.hid hM
  have hnH := Lib.hid hn
  clear hm1 hM hn
  go_wp2_with fail
  (with_reducible refine hct.out.mono ?_)
  rintro e w3 ⟨R, K, rfl, hK, hRl, _, hC, hb3⟩
  have hS : Hid (SuW w1 w3 base g m n x A ca ads R K) := Lib.hid ⟨hMH.out.below hb3, hRl, hC⟩
  have hKH := Lib.hid hK
  have hKl : Hid (K.length ≤ 600) := Lib.hid (by
    have h1 := hK.len (K' := uniqL (ads.map (·.b)) ads.length) (by rw [hadf.out]; exact keys_uniq ads)
    rw [h1]
    have h2 := len_le_of_sub (l' := ads.map (·.b)) (uniqL_nodup (ads.map (·.b)) ads.length) (fun y hy => by
      obtain ⟨i, hi, e⟩ := (uniqL_mem _ _ _).1 hy
      rw [getD_at (by simpa using hi)] at e
      rw [← e]
      exact List.getElem_mem _)
    rw [List.length_map] at h2
    have := hal6.out
    omega)
  clear hct hK hRl hC hb3 hMH
  go_wp2_with fail
  go_loopw [7, 8] (fun sv zv wr => ∃ z : Nat, z ≤ 8 ∧ zv = .int .i64 (z : Int) ∧ sv = .int .i64 (sumZ x.f K z : Int) ∧ Hid (SuW w1 wr base g m n x A ca ads R K)) (fun _ zv _ => 8 - (Go.RowKit.intOf zv).toNat)
  case atStart => exact ⟨0, Nat.zero_le _, rfl, rfl, hS⟩
  case round =>
    clear hS
    obtain ⟨z, hz8, rfl, rfl, hS⟩ := hrel
    by_cases hlt : z < 8
    case pos =>
      have hzI : (z : Int) < 8 := by omega
      have hzw : IntKind.i64.wrap ((z : Int) + 1) = (z : Int) + 1 := IntWalk.i64_in _ (by omega)
      have hlv := Lib.hid (live_any sorts wr g m n x (z : Int) hS.out.o.lm (by have := hnH.out; omega))
      go_wp2_with fail
      (with_reducible refine hlv.out.mono ?_)
      rintro e w5 ⟨L, AL, capL, hL, rfl, hL6, hrow, hb5⟩
      have hS5 := Lib.hid (hS.out.below hb5)
      have hLH := Lib.hid hL
      have hLl := Lib.hid (hL.len hKH.out)
      obtain ⟨ln, hln⟩ : ∃ ln, L.length = ln := ⟨_, rfl⟩
      rw [hln] at hLl hL6 ⊢
      have hlnH := Lib.hid hln
      have hc5 := (hS5.out.c z hlt).1
      rw [← hLl.out] at hc5
      have hrowH := Lib.hid (show ∃ b5, lvE.Row w5 b5 41 AL capL L from ⟨_, hrow⟩)
      have hneq : ((ln : Int) != (ln : Int)) = false := by simp
      clear hlv hS hL hln hrow hb5
      go_wp2_with fail
      clear hc5 hneq
      go_loopw [10] (fun iv wr => ∃ i : Nat, i ≤ ln ∧ iv = .int .i64 (i : Int) ∧ Hid (SuW w1 wr base g m n x A ca ads R K ∧ ∃ b5, lvE.Row wr b5 41 AL capL L)) (fun iv _ => ln - (Go.RowKit.intOf iv).toNat)
      case atStart => exact ⟨0, Nat.zero_le _, rfl, Lib.hid ⟨hS5.out, hrowH.out⟩⟩
      case round =>
        clear hS5 hrowH
        obtain ⟨i, hil, rfl, hP⟩ := hrel
        by_cases hlt2 : i < ln
        case neg =>
          have hiI : ¬ (i : Int) < (ln : Int) := by omega
          have hc6 := (hP.out.1.c z hlt).1
          have hsz : IntKind.i64.wrap ((sumZ x.f K z : Int) + (cntZ x.f K (z : Int) : Int)) = (sumZ x.f K (z + 1) : Int) := by
            have h1 := sumZ_le (f := x.f) (K := K) z
            have h2 : cntZ x.f K (z : Int) ≤ K.length := List.length_filter_le _ _
            have h3 : z * K.length ≤ 8 * K.length := Nat.mul_le_mul_right _ (by omega)
            have h4 := hKl.out
            rw [IntWalk.i64_in _ (by omega)]
            show _ = ((sumZ x.f K z + cntZ x.f K (z : Int) : Nat) : Int)
            omega
          have hSH := Lib.hid hP.out.1
          clear hP
          obtain ⟨s4, hs4⟩ : ∃ s4 : Int, (sumZ x.f K (z + 1) : Int) = s4 := ⟨_, rfl⟩
          rw [hs4] at hsz
          have hs4H := Lib.hid hs4
          clear hs4
          generalize sumZ x.f K z = s1 at hsz ⊢
          generalize cntZ x.f K (z : Int) = s3 at hsz hc6
          go_wp2_with fail
          go_roundw
          case rel => exact ⟨z + 1, hlt, by go_num, by rw [hs4H.out], hSH⟩
          case measure => simp only [Go.RowKit.intOf]; omega
        case pos =>
          have hiI : (i : Int) < (ln : Int) := by omega
          have hiw : IntKind.i64.wrap ((i : Int) + 1) = (i : Int) + 1 := IntWalk.i64_in _ (by omega)
          have hil : i < L.length := by rw [hlnH.out]; exact hlt2
          obtain ⟨y, hy⟩ : ∃ y, L[i] = y := ⟨_, rfl⟩
          obtain ⟨s, hys, hyz, hyw⟩ := hLH.out.at_ (L[i]'hil |> fun _ => List.getElem_mem hil)
          obtain ⟨b5, hr5⟩ := hP.out.2
          obtain ⟨gl, rfl, hgl, d0, d1, d2, d3, d4⟩ := lv_at hr5 hil
          rw [hy] at hys hyz hyw d0 d1 d2 d3 d4
          have hget := get_any wr g m n x y.b hP.out.1.o.lm hyw
          rw [hys] at hget
          have hgetH := Lib.hid hget
          have hdH := Lib.hid (And.intro hgl (And.intro d0 (And.intro d1 (And.intro d2 (And.intro d3 d4)))))
          clear hget hys hyw d1 d2 d3 d4 hr5 hy
          unfold GetPost at hgetH
          dsimp only [Option.getD_some, Option.isSome_some] at hgetH
          go_wp2_with fail
          (with_reducible refine hgetH.out.mono ?_)
          rintro e w7 ⟨rfl, hb7⟩
          have hal := (Below.refl w7.heap.size w7).alloc (Nat.le_refl _) (.cells #[.int .i64 y.z, .int .i64 y.a, .int .i64 y.e] 32)
          have hb8 := hb7.trans (hal.mono hb7.size)
          have hP8 : Hid ((SuW w1 (w7.alloc (.cells #[.int .i64 y.z, .int .i64 y.a, .int .i64 y.e] 32)) base g m n x A ca ads R K ∧ ∃ b5, lvE.Row (w7.alloc (.cells #[.int .i64 y.z, .int .i64 y.a, .int .i64 y.e] 32)) b5 41 (some ⟨gl, 0, none⟩) capL L) ∧
              ((w7.alloc (.cells #[.int .i64 y.z, .int .i64 y.a, .int .i64 y.e] 32)).cell? ⟨w7.heap.size, 0, none⟩ = some (.int .i64 y.z) ∧ (w7.alloc (.cells #[.int .i64 y.z, .int .i64 y.a, .int .i64 y.e] 32)).cell? ⟨w7.heap.size, 1, none⟩ = some (.int .i64 y.a) ∧ (w7.alloc (.cells #[.int .i64 y.z, .int .i64 y.a, .int .i64 y.e] 32)).cell? ⟨w7.heap.size, 2, none⟩ = some (.int .i64 y.e)) ∧
              ((w7.alloc (.cells #[.int .i64 y.z, .int .i64 y.a, .int .i64 y.e] 32)).cell? ⟨gl, i * 5, none⟩ = some (.int .i64 y.b) ∧ (w7.alloc (.cells #[.int .i64 y.z, .int .i64 y.a, .int .i64 y.e] 32)).cell? ⟨gl, i * 5 + 1, none⟩ = some (.bool y.t) ∧ (w7.alloc (.cells #[.int .i64 y.z, .int .i64 y.a, .int .i64 y.e] 32)).cell? ⟨gl, i * 5 + 2, none⟩ = some (.int .i64 y.z) ∧ (w7.alloc (.cells #[.int .i64 y.z, .int .i64 y.a, .int .i64 y.e] 32)).cell? ⟨gl, i * 5 + 3, none⟩ = some (.int .i64 y.a) ∧ (w7.alloc (.cells #[.int .i64 y.z, .int .i64 y.a, .int .i64 y.e] 32)).cell? ⟨gl, i * 5 + 4, none⟩ = some (.int .i64 y.e))) :=
            Lib.hid ⟨⟨hP.out.1.below hb8, by obtain ⟨b5, h⟩ := hP.out.2; exact ⟨b5, h.below hb8⟩⟩, ⟨by go_simp, by go_simp, by go_simp⟩, (hb8.cell hdH.out.1).trans hdH.out.2.1, (hb8.cell hdH.out.1).trans hdH.out.2.2.1, (hb8.cell hdH.out.1).trans hdH.out.2.2.2.1, (hb8.cell hdH.out.1).trans hdH.out.2.2.2.2.1, (hb8.cell hdH.out.1).trans hdH.out.2.2.2.2.2⟩
          have heq : ∀ W, (binOp .neq 32 (.agg #[.int .i64 y.z, .int .i64 y.a, .int .i64 y.e]) (.agg #[.int .i64 y.z, .int .i64 y.a, .int .i64 y.e])).run Try.prog W = .ok (.bool false) W := fun W => by
            have h1 := (where_eql W y.z y.a y.e y.z y.a y.e).2
            rw [eqW_self] at h1
            exact h1
          have hnt : (y.t != y.t) = false := by simp
          have hnz : (y.z != (z : Int)) = false := by rw [hyz]; simp
          have hyzH := Lib.hid hyz
          clear hgetH hdH hb7 hal hb8 hP d0 hyz hgl
          go_upto_region 16 with fail
          generalize w7.heap.size = xb at hP8 ⊢
          refine fresh_world (fun W => (SuW w1 W base g m n x A ca ads R K ∧ ∃ b5, lvE.Row W b5 41 (some ⟨gl, 0, none⟩) capL L) ∧ (W.cell? ⟨xb, 0, none⟩ = some (.int .i64 y.z) ∧ W.cell? ⟨xb, 1, none⟩ = some (.int .i64 y.a) ∧ W.cell? ⟨xb, 2, none⟩ = some (.int .i64 y.e)) ∧ (W.cell? ⟨gl, i * 5, none⟩ = some (.int .i64 y.b) ∧ W.cell? ⟨gl, i * 5 + 1, none⟩ = some (.bool y.t) ∧ W.cell? ⟨gl, i * 5 + 2, none⟩ = some (.int .i64 y.z) ∧ W.cell? ⟨gl, i * 5 + 3, none⟩ = some (.int .i64 y.a) ∧ W.cell? ⟨gl, i * 5 + 4, none⟩ = some (.int .i64 y.e))) hP8.out ?_
          clear hP8
          rintro W8 ⟨⟨hS8, b8, hr8⟩, ⟨p0, p1, p2⟩, d0, d1, d2, d3, d4⟩
          have hfin : Hid (SuW w1 W8.drew base g m n x A ca ads R K ∧ ∃ b5, lvE.Row W8.drew b5 41 (some ⟨gl, 0, none⟩) capL L) := Lib.hid ⟨hS8.below (Below.refl _ _).drew, b8, hr8.below (Below.refl _ _).drew⟩
          have hS0 : (fun W : World => W.cell? ⟨xb, 0, none⟩ = some (.int .i64 y.z) ∧ W.cell? ⟨xb, 1, none⟩ = some (.int .i64 y.a) ∧ W.cell? ⟨xb, 2, none⟩ = some (.int .i64 y.e) ∧ W.cell? ⟨gl, i * 5, none⟩ = some (.int .i64 y.b) ∧ W.cell? ⟨gl, i * 5 + 1, none⟩ = some (.bool y.t) ∧ W.cell? ⟨gl, i * 5 + 2, none⟩ = some (.int .i64 y.z) ∧ W.cell? ⟨gl, i * 5 + 3, none⟩ = some (.int .i64 y.a) ∧ W.cell? ⟨gl, i * 5 + 4, none⟩ = some (.int .i64 y.e)) W8.drew := ⟨p0, p1, p2, d0, d1, d2, d3, d4⟩
          clear hS8 hr8 p0 p1 p2 d0 d1 d2 d3 d4
          generalize hWd : W8.drew = Wd at hfin hS0
          refine region_anyC (fun _ => true) (fun W : World => W.cell? ⟨xb, 0, none⟩ = some (.int .i64 y.z) ∧ W.cell? ⟨xb, 1, none⟩ = some (.int .i64 y.a) ∧ W.cell? ⟨xb, 2, none⟩ = some (.int .i64 y.e) ∧ W.cell? ⟨gl, i * 5, none⟩ = some (.int .i64 y.b) ∧ W.cell? ⟨gl, i * 5 + 1, none⟩ = some (.bool y.t) ∧ W.cell? ⟨gl, i * 5 + 2, none⟩ = some (.int .i64 y.z) ∧ W.cell? ⟨gl, i * 5 + 3, none⟩ = some (.int .i64 y.a) ∧ W.cell? ⟨gl, i * 5 + 4, none⟩ = some (.int .i64 y.e)) (by kernel_rfl) ?_
          rw [hWd]
          refine anyL_take 0 (v := ?_) rfl (by kernel_rfl) (fun _ _ _ h => h) (Or.inl ⟨by rfl, ?_⟩) hS0 ?_
          rotate_left
          focus (intro W hW; go_simp; try with_reducible rfl)
          simp only [Act.put, List.setIfInBounds_toArray, List.set_cons_zero, List.set_cons_succ]
          refine anyL_take 1 (v := ?_) rfl (by kernel_rfl) (fun _ _ _ h => h) (Or.inl ⟨by rfl, ?_⟩) hS0 ?_
          rotate_left
          focus (intro W hW; go_simp; try with_reducible rfl)
          simp only [Act.put, List.setIfInBounds_toArray, List.set_cons_zero, List.set_cons_succ]
          refine anyL_take 2 (v := ?_) rfl (by kernel_rfl) (fun _ _ _ h => h) (Or.inl ⟨by rfl, ?_⟩) hS0 ?_
          rotate_left
          focus (intro W hW; go_simp; try with_reducible rfl)
          simp only [Act.put, List.setIfInBounds_toArray, List.set_cons_zero, List.set_cons_succ]
          refine anyL_take 3 (v := ?_) rfl (by kernel_rfl) (fun _ _ _ h => h) (Or.inl ⟨by rfl, ?_⟩) hS0 ?_
          rotate_left
          focus (intro W hW; obtain ⟨p0, p1, p2, _⟩ := hW; go_simp; try with_reducible rfl)
          simp only [Act.put, List.setIfInBounds_toArray, List.set_cons_zero, List.set_cons_succ]
          refine anyL_take 4 (v := ?_) rfl (by kernel_rfl) (fun _ _ _ h => h) (Or.inl ⟨by rfl, ?_⟩) hS0 ?_
          rotate_left
          focus (intro W hW; go_simp; try with_reducible rfl)
          simp only [Act.put, List.setIfInBounds_toArray, List.set_cons_zero, List.set_cons_succ]
          refine anyL_take 5 (v := ?_) rfl (by kernel_rfl) (fun _ _ _ h => h) (Or.inl ⟨by rfl, ?_⟩) hS0 ?_
          rotate_left
          focus (intro W hW; go_simp; try with_reducible rfl)
          simp only [Act.put, List.setIfInBounds_toArray, List.set_cons_zero, List.set_cons_succ]
          refine anyL_take 6 (v := ?_) rfl (by kernel_rfl) (fun _ _ _ h => h) (Or.inl ⟨by rfl, ?_⟩) hS0 ?_
          rotate_left
          focus (intro W hW; go_simp; try with_reducible rfl)
          simp only [Act.put, List.setIfInBounds_toArray, List.set_cons_zero, List.set_cons_succ]
          refine anyL_take 7 (v := ?_) rfl (by kernel_rfl) (fun _ _ _ h => h) (Or.inl ⟨by rfl, ?_⟩) hS0 ?_
          rotate_left
          focus (intro W hW; go_simp; try with_reducible rfl)
          simp only [Act.put, List.setIfInBounds_toArray, List.set_cons_zero, List.set_cons_succ]
          refine anyL_take 8 (v := ?_) rfl (by kernel_rfl) (fun _ _ _ h => h) (Or.inl ⟨by rfl, ?_⟩) hS0 ?_
          rotate_left
          focus (intro W hW; obtain ⟨_, _, _, d0, d1, d2, d3, d4⟩ := hW; go_simp; try with_reducible rfl)
          simp only [Act.put, List.setIfInBounds_toArray, List.set_cons_zero, List.set_cons_succ]
          refine anyL_take 9 (v := ?_) rfl (by kernel_rfl) (fun _ _ _ h => h) (Or.inl ⟨by rfl, ?_⟩) hS0 ?_
          rotate_left
          focus (intro W hW; go_simp; try with_reducible rfl)
          simp only [Act.put, List.setIfInBounds_toArray, List.set_cons_zero, List.set_cons_succ]
          refine anyL_take 10 (v := ?_) rfl (by kernel_rfl) (fun _ _ _ h => h) (Or.inl ⟨by rfl, ?_⟩) hS0 ?_
          rotate_left
          focus (intro W hW; go_simp; try with_reducible rfl)
          simp only [Act.put, List.setIfInBounds_toArray, List.set_cons_zero, List.set_cons_succ]
          refine anyL_take 11 (v := ?_) rfl (by kernel_rfl) (fun _ _ _ h => h) (Or.inl ⟨by rfl, ?_⟩) hS0 ?_
          rotate_left
          focus (intro W hW; go_simp; try with_reducible rfl)
          simp only [Act.put, List.setIfInBounds_toArray, List.set_cons_zero, List.set_cons_succ]
          refine anyL_take 12 (v := ?_) rfl (by kernel_rfl) (fun _ _ _ h => h) (Or.inl ⟨by rfl, ?_⟩) hS0 ?_
          rotate_left
          focus (intro W hW; go_simp; try with_reducible rfl)
          simp only [Act.put, List.setIfInBounds_toArray, List.set_cons_zero, List.set_cons_succ]
          refine anyL_take 13 (v := ?_) rfl (by kernel_rfl) (fun _ _ _ h => h) (Or.inl ⟨by rfl, ?_⟩) hS0 ?_
          rotate_left
          focus (intro W hW; go_simp; try with_reducible rfl)
          simp only [Act.put, List.setIfInBounds_toArray, List.set_cons_zero, List.set_cons_succ]
          refine anyL_take 14 (v := ?_) rfl (by kernel_rfl) (fun _ _ _ h => h) (Or.inl ⟨by rfl, ?_⟩) hS0 ?_
          rotate_left
          focus (intro W hW; go_simp; try with_reducible rfl)
          simp only [Act.put, List.setIfInBounds_toArray, List.set_cons_zero, List.set_cons_succ]
          refine anyL_take 15 (v := ?_) rfl (by kernel_rfl) (fun _ _ _ h => h) (Or.inl ⟨by rfl, ?_⟩) hS0 ?_
          rotate_left
          focus (intro W hW; go_simp; try with_reducible rfl)
          simp only [Act.put, List.setIfInBounds_toArray, List.set_cons_zero, List.set_cons_succ]
          refine anyL_take 16 (v := ?_) rfl (by kernel_rfl) (fun _ _ _ h => h) (Or.inl ⟨by rfl, ?_⟩) hS0 ?_
          rotate_left
          focus (intro W hW; go_simp; try with_reducible rfl)
          simp only [Act.put, List.setIfInBounds_toArray, List.set_cons_zero, List.set_cons_succ]
          refine anyL_take 17 (v := ?_) rfl (by kernel_rfl) (fun _ _ _ h => h) (Or.inl ⟨by rfl, ?_⟩) hS0 ?_
          rotate_left
          focus (intro W hW; obtain ⟨_, _, _, d0, d1, d2, d3, d4⟩ := hW; go_simp; try with_reducible rfl)
          simp only [Act.put, List.setIfInBounds_toArray, List.set_cons_zero, List.set_cons_succ]
          refine anyL_take 18 (v := ?_) rfl (by kernel_rfl) (fun _ _ _ h => h) (Or.inl ⟨by rfl, ?_⟩) hS0 ?_
          rotate_left
          focus (intro W hW; go_simp; try with_reducible rfl)
          simp only [Act.put, List.setIfInBounds_toArray, List.set_cons_zero, List.set_cons_succ]
          refine anyL_take 19 (v := ?_) rfl (by kernel_rfl) (fun _ _ _ h => h) (Or.inl ⟨by rfl, ?_⟩) hS0 ?_
          rotate_left
          focus (intro W hW; go_simp; try with_reducible rfl)
          simp only [Act.put, List.setIfInBounds_toArray, List.set_cons_zero, List.set_cons_succ]
          refine anyL_take 20 (v := ?_) rfl (by kernel_rfl) (fun _ _ _ h => h) (Or.inl ⟨by rfl, ?_⟩) hS0 ?_
          rotate_left
          focus (intro W hW; go_simp; try with_reducible rfl)
          simp only [Act.put, List.setIfInBounds_toArray, List.set_cons_zero, List.set_cons_succ]
          refine anyL_take 21 (v := ?_) rfl (by kernel_rfl) (fun _ _ _ h => h) (Or.inl ⟨by rfl, ?_⟩) hS0 ?_
          rotate_left
          focus (intro W hW; go_simp; try with_reducible rfl)
          simp only [Act.put, List.setIfInBounds_toArray, List.set_cons_zero, List.set_cons_succ]
          refine anyL_take 22 (v := ?_) rfl (by kernel_rfl) (fun _ _ _ h => h) (Or.inl ⟨by rfl, ?_⟩) hS0 ?_
          rotate_left
          focus (intro W hW; obtain ⟨p0, p1, p2, _⟩ := hW; go_simp; try with_reducible rfl)
          simp only [Act.put, List.setIfInBounds_toArray, List.set_cons_zero, List.set_cons_succ]
          refine anyL_take 23 (v := ?_) rfl (by kernel_rfl) (fun _ _ _ h => h) (Or.inl ⟨by rfl, ?_⟩) hS0 ?_
          rotate_left
          focus (intro W hW; go_simp; try with_reducible rfl)
          simp only [Act.put, List.setIfInBounds_toArray, List.set_cons_zero, List.set_cons_succ]
          refine anyL_take 24 (v := ?_) rfl (by kernel_rfl) (fun _ _ _ h => h) (Or.inl ⟨by rfl, ?_⟩) hS0 ?_
          rotate_left
          focus (intro W hW; go_simp; try with_reducible rfl)
          simp only [Act.put, List.setIfInBounds_toArray, List.set_cons_zero, List.set_cons_succ]
          refine anyL_take 25 (v := ?_) rfl (by kernel_rfl) (fun _ _ _ h => h) (Or.inl ⟨by rfl, ?_⟩) hS0 ?_
          rotate_left
          focus (intro W hW; go_simp; try with_reducible rfl)
          simp only [Act.put, List.setIfInBounds_toArray, List.set_cons_zero, List.set_cons_succ]
          refine anyC_done (by kernel_rfl) ?_ _
          go_wp2_with fail
          go_roundw
          case rel => exact ⟨i + 1, hlt2, by go_num, hfin⟩
          case measure => simp only [Go.RowKit.intOf]; omega
    case neg =>
      have hze : z = 8 := by omega
      have hsum : Hid (sumZ x.f K z = firstsL (ads.map (·.b)) ads.length) := Lib.hid (by
        have h1 := hKH.out
        rw [hze, hadf.out]
        rw [hadf.out] at h1
        exact sum_all hadz.out h1)
      rw [hsum.out]
      have hzI : ¬ (z : Int) < 8 := by omega
      obtain ⟨bs, hbs⟩ : ∃ bs, ads.map (·.b) = bs := ⟨_, rfl⟩
      rw [hbs]
      obtain ⟨na, hna⟩ : ∃ na, ads.length = na := ⟨_, rfl⟩
      rw [hna]
      have hnaH := Lib.hid hna
      have hbsH := Lib.hid hbs
      clear hze hna hbs hsum hlt
      go_wp2_with fail
      go_loopw [14, 15] (fun bv iv wr => ∃ i : Nat, i ≤ na ∧ iv = .int .i64 (i : Int) ∧ bv = .int .i64 (firstsL bs i : Int) ∧ Hid (SuW w1 wr base g m n x A ca ads R K)) (fun _ iv _ => na - (Go.RowKit.intOf iv).toNat)
      case atStart => exact ⟨0, Nat.zero_le _, rfl, rfl, hS⟩
      case round =>
        clear hS
        obtain ⟨i, hin, rfl, rfl, hS⟩ := hrel
        by_cases hlt : i < na
        case neg =>
          have hie : i = na := by omega
          subst hie
          have hiI : ¬ (i : Int) < (i : Int) := by omega
          have hbb := Lib.hid (hb1H.out.trans (hS.out.o.bw.mono hb1H.out.size))
          generalize firstsL bs i = fb
          have hfe : ((fb : Int) == (fb : Int)) = true := by simp
          go_wp2_with fail
          go_ret
          exact ⟨by simp, hbb.out⟩
        case pos =>
          have hiI : (i : Int) < (na : Int) := by omega
          have hna6 : na ≤ 600 := by rw [← hnaH.out]; exact hal6.out
          have hiw : IntKind.i64.wrap ((i : Int) + 1) = (i : Int) + 1 := IntWalk.i64_in _ (by omega)
          have hil : i < ads.length := by rw [hnaH.out]; exact hlt
          obtain ⟨ga, hA, hgal, _, _, _, _, _, _⟩ := ad_at hS.out.o.ra hil
          subst hA
          have hcells : Hid (∀ j, j < ads.length → ∀ W base ca, adE.Row W base 30 (some ⟨ga, 0, none⟩) ca ads → W.cell? ⟨ga, j * 6 + 4, none⟩ = some (.int .i64 (bs.getD j 0))) := Lib.hid (fun j hj W base ca hr => by
            obtain ⟨g', e, _, _, _, _, _, h5, _⟩ := ad_at hr hj
            injection e with e
            injection e with e _ _
            subst e
            rw [h5, ← hbsH.out, getD_at (by simpa using hj), List.getElem_map])
          clear hgal
          go_wp2_with fail
          go_loopw [16, 17] (fun fv kv wr => ∃ (k : Nat) (fb : Bool), k ≤ i ∧ kv = .int .i64 (k : Int) ∧ fv = .bool fb ∧ Hid (fb = true ↔ ∀ j, j < k → bs.getD j 0 ≠ bs.getD i 0) ∧ Hid (SuW w1 wr base g m n x (some ⟨ga, 0, none⟩) ca ads R K)) (fun _ kv _ => i - (Go.RowKit.intOf kv).toNat)
          case atStart => exact ⟨0, true, Nat.zero_le _, rfl, rfl, Lib.hid ⟨fun _ j hj => absurd hj (Nat.not_lt_zero _), fun _ => rfl⟩, hS⟩
          case round =>
            clear hS
            obtain ⟨k, fb, hki, rfl, rfl, hfb, hS⟩ := hrel
            by_cases hlt2 : k < i
            case neg =>
              have hke : k = i := by omega
              have hkI : ¬ (k : Int) < (i : Int) := by omega
              have hfb2 : fb = true ↔ ∀ j, j < i → bs.getD j 0 ≠ bs.getD i 0 := by rw [← hke]; rw [← hke] at hfb; exact hfb.out
              have hstep : firstsL bs (i + 1) = firstsL bs i + (if fb = true then 1 else 0) := by
                show firstsL bs i + (if ∀ k, k < i → bs.getD k 0 ≠ bs.getD i 0 then 1 else 0) = _
                congr 1
                by_cases h : fb = true
                · rw [if_pos h, if_pos (hfb2.1 h)]
                · rw [if_neg h, if_neg (fun h2 => h (hfb2.2 h2))]
              have hle : firstsL bs i ≤ i := by
                rw [← uniqL_len]
                have h2 := len_le_of_sub (l' := (List.range i).map (fun j => bs.getD j 0)) (uniqL_nodup bs i) (fun y hy => by
                  obtain ⟨j, hj, e⟩ := (uniqL_mem _ _ _).1 hy
                  exact List.mem_map.2 ⟨j, List.mem_range.2 hj, e⟩)
                simpa using h2
              have hstepH := Lib.hid hstep
              clear hke hfb2 hstep hfb
              cases fb with
              | false =>
                go_wp2_with fail
                go_roundw
                case rel => exact ⟨i + 1, hlt, by go_num, by rw [hstepH.out]; rfl, hS⟩
                case measure => simp only [Go.RowKit.intOf]; omega
              | true =>
                have hfw : IntKind.i64.wrap ((firstsL bs i : Int) + 1) = (firstsL bs i : Int) + 1 := IntWalk.i64_in _ (by omega)
                have hst2 := Lib.hid (show (firstsL bs (i + 1) : Int) = (firstsL bs i : Int) + 1 by rw [hstepH.out]; rfl)
                clear hstepH
                go_wp2_with fail
                go_roundw
                case rel => exact ⟨i + 1, hlt, by go_num, by rw [hst2.out], hS⟩
                case measure => simp only [Go.RowKit.intOf]; omega
            case pos =>
              have hkI : (k : Int) < (i : Int) := by omega
              have hkI2 : (k : Int) < (na : Int) := by omega
              have hkw : IntKind.i64.wrap ((k : Int) + 1) = (k : Int) + 1 := IntWalk.i64_in _ (by omega)
              have p0 := hcells.out k (by rw [hnaH.out]; omega) _ _ _ hS.out.o.ra
              have p1 := hcells.out i (by rw [hnaH.out]; omega) _ _ _ hS.out.o.ra
              have hS0 : (fun W : World => W.cell? ⟨ga, k * 6 + 4, none⟩ = some (.int .i64 (bs.getD k 0)) ∧ W.cell? ⟨ga, i * 6 + 4, none⟩ = some (.int .i64 (bs.getD i 0))) wr.drew := ⟨p0, p1⟩
              have hSd := Lib.hid (hS.out.below (Below.refl _ _).drew)
              clear p0 p1 hS
              have hnew : ∀ v : Bool, v = (fb && decide (bs.getD k 0 ≠ bs.getD i 0)) → Hid (v = true ↔ ∀ j, j < k + 1 → bs.getD j 0 ≠ bs.getD i 0) := fun v hv => Lib.hid (by
                rw [hv, Bool.and_eq_true, decide_eq_true_eq, hfb.out]
                constructor
                · rintro ⟨h1, h2⟩ j hj
                  by_cases e : j = k
                  · rw [e]; exact h2
                  · exact h1 j (by omega)
                · exact fun h => ⟨fun j hj => h j (by omega), h k (by omega)⟩)
              have hnewH := Lib.hid hnew
              clear hnew
              generalize bs.getD k 0 = bk at hS0 hnewH
              generalize bs.getD i 0 = bi at hS0 hnewH hfb hcells ⊢
              go_upto_region 27 with fail
              generalize hWd : wr.drew = Wd at hSd hS0
              refine region_anyC (fun _ => true) (fun W : World => W.cell? ⟨ga, k * 6 + 4, none⟩ = some (.int .i64 bk) ∧ W.cell? ⟨ga, i * 6 + 4, none⟩ = some (.int .i64 bi)) (by kernel_rfl) ?_
              rw [hWd]
              cases fb with
              | false =>
                refine anyL_take 0 (v := ?_) rfl (by kernel_rfl) (fun _ _ _ h => h) (Or.inl ⟨by rfl, ?_⟩) hS0 ?_
                rotate_left
                focus (intro W hW; go_simp; try with_reducible rfl)
                simp only [Act.put, List.setIfInBounds_toArray, List.set_cons_zero, List.set_cons_succ]
                refine anyL_take 1 (v := ?_) rfl (by kernel_rfl) (fun _ _ _ h => h) (Or.inl ⟨by rfl, ?_⟩) hS0 ?_
                rotate_left
                focus (intro W hW; go_simp; try with_reducible rfl)
                simp only [Act.put, List.setIfInBounds_toArray, List.set_cons_zero, List.set_cons_succ]
                refine anyL_take 2 (v := undef) rfl (by kernel_rfl) (fun _ _ _ h => h) (Or.inr ⟨by rfl, rfl⟩) hS0 ?_
                simp only [Act.put, List.setIfInBounds_toArray, List.set_cons_zero, List.set_cons_succ]
                refine anyL_take 3 (v := undef) rfl (by kernel_rfl) (fun _ _ _ h => h) (Or.inr ⟨by rfl, rfl⟩) hS0 ?_
                simp only [Act.put, List.setIfInBounds_toArray, List.set_cons_zero, List.set_cons_succ]
                refine anyL_take 4 (v := undef) rfl (by kernel_rfl) (fun _ _ _ h => h) (Or.inr ⟨by rfl, rfl⟩) hS0 ?_
                simp only [Act.put, List.setIfInBounds_toArray, List.set_cons_zero, List.set_cons_succ]
                refine anyL_take 5 (v := undef) rfl (by kernel_rfl) (fun _ _ _ h => h) (Or.inr ⟨by rfl, rfl⟩) hS0 ?_
                simp only [Act.put, List.setIfInBounds_toArray, List.set_cons_zero, List.set_cons_succ]
                refine anyL_take 6 (v := undef) rfl (by kernel_rfl) (fun _ _ _ h => h) (Or.inr ⟨by rfl, rfl⟩) hS0 ?_
                simp only [Act.put, List.setIfInBounds_toArray, List.set_cons_zero, List.set_cons_succ]
                refine anyL_take 7 (v := undef) rfl (by kernel_rfl) (fun _ _ _ h => h) (Or.inr ⟨by rfl, rfl⟩) hS0 ?_
                simp only [Act.put, List.setIfInBounds_toArray, List.set_cons_zero, List.set_cons_succ]
                refine anyL_take 8 (v := undef) rfl (by kernel_rfl) (fun _ _ _ h => h) (Or.inr ⟨by rfl, rfl⟩) hS0 ?_
                simp only [Act.put, List.setIfInBounds_toArray, List.set_cons_zero, List.set_cons_succ]
                refine anyL_take 9 (v := undef) rfl (by kernel_rfl) (fun _ _ _ h => h) (Or.inr ⟨by rfl, rfl⟩) hS0 ?_
                simp only [Act.put, List.setIfInBounds_toArray, List.set_cons_zero, List.set_cons_succ]
                refine anyL_take 10 (v := undef) rfl (by kernel_rfl) (fun _ _ _ h => h) (Or.inr ⟨by rfl, rfl⟩) hS0 ?_
                simp only [Act.put, List.setIfInBounds_toArray, List.set_cons_zero, List.set_cons_succ]
                refine anyL_take 11 (v := undef) rfl (by kernel_rfl) (fun _ _ _ h => h) (Or.inr ⟨by rfl, rfl⟩) hS0 ?_
                simp only [Act.put, List.setIfInBounds_toArray, List.set_cons_zero, List.set_cons_succ]
                refine anyL_take 12 (v := undef) rfl (by kernel_rfl) (fun _ _ _ h => h) (Or.inr ⟨by rfl, rfl⟩) hS0 ?_
                simp only [Act.put, List.setIfInBounds_toArray, List.set_cons_zero, List.set_cons_succ]
                refine anyL_take 13 (v := ?_) rfl (by kernel_rfl) (fun _ _ _ h => h) (Or.inl ⟨by rfl, ?_⟩) hS0 ?_
                rotate_left
                focus (intro W hW; go_simp; try with_reducible rfl)
                simp only [Act.put, List.setIfInBounds_toArray, List.set_cons_zero, List.set_cons_succ]
                refine anyL_take 14 (v := ?_) rfl (by kernel_rfl) (fun _ _ _ h => h) (Or.inl ⟨by rfl, ?_⟩) hS0 ?_
                rotate_left
                focus (intro W hW; go_simp; try with_reducible rfl)
                simp only [Act.put, List.setIfInBounds_toArray, List.set_cons_zero, List.set_cons_succ]
                refine anyC_done (by kernel_rfl) ?_ _
                go_wp2_with fail
                go_roundw
                case rel => exact ⟨k + 1, false, hlt2, by go_num, rfl, hnewH.out false (by simp), hSd⟩
                case measure => simp only [Go.RowKit.intOf]; omega
              | true =>
                refine anyL_take 0 (v := ?_) rfl (by kernel_rfl) (fun _ _ _ h => h) (Or.inl ⟨by rfl, ?_⟩) hS0 ?_
                rotate_left
                focus (intro W hW; go_simp; try with_reducible rfl)
                simp only [Act.put, List.setIfInBounds_toArray, List.set_cons_zero, List.set_cons_succ]
                refine anyL_take 1 (v := ?_) rfl (by kernel_rfl) (fun _ _ _ h => h) (Or.inl ⟨by rfl, ?_⟩) hS0 ?_
                rotate_left
                focus (intro W hW; go_simp; try with_reducible rfl)
                simp only [Act.put, List.setIfInBounds_toArray, List.set_cons_zero, List.set_cons_succ]
                refine anyL_take 2 (v := ?_) rfl (by kernel_rfl) (fun _ _ _ h => h) (Or.inl ⟨by rfl, ?_⟩) hS0 ?_
                rotate_left
                focus (intro W hW; go_simp; try with_reducible rfl)
                simp only [Act.put, List.setIfInBounds_toArray, List.set_cons_zero, List.set_cons_succ]
                refine anyL_take 3 (v := ?_) rfl (by kernel_rfl) (fun _ _ _ h => h) (Or.inl ⟨by rfl, ?_⟩) hS0 ?_
                rotate_left
                focus (intro W hW; go_simp; try with_reducible rfl)
                simp only [Act.put, List.setIfInBounds_toArray, List.set_cons_zero, List.set_cons_succ]
                refine anyL_take 4 (v := ?_) rfl (by kernel_rfl) (fun _ _ _ h => h) (Or.inl ⟨by rfl, ?_⟩) hS0 ?_
                rotate_left
                focus (intro W hW; go_simp; try with_reducible rfl)
                simp only [Act.put, List.setIfInBounds_toArray, List.set_cons_zero, List.set_cons_succ]
                refine anyL_take 5 (v := ?_) rfl (by kernel_rfl) (fun _ _ _ h => h) (Or.inl ⟨by rfl, ?_⟩) hS0 ?_
                rotate_left
                focus (intro W hW; go_simp; try with_reducible rfl)
                simp only [Act.put, List.setIfInBounds_toArray, List.set_cons_zero, List.set_cons_succ]
                refine anyL_take 6 (v := ?_) rfl (by kernel_rfl) (fun _ _ _ h => h) (Or.inl ⟨by rfl, ?_⟩) hS0 ?_
                rotate_left
                focus (intro W hW; obtain ⟨p0, p1⟩ := hW; go_simp; try with_reducible rfl)
                simp only [Act.put, List.setIfInBounds_toArray, List.set_cons_zero, List.set_cons_succ]
                refine anyL_take 7 (v := ?_) rfl (by kernel_rfl) (fun _ _ _ h => h) (Or.inl ⟨by rfl, ?_⟩) hS0 ?_
                rotate_left
                focus (intro W hW; go_simp; try with_reducible rfl)
                simp only [Act.put, List.setIfInBounds_toArray, List.set_cons_zero, List.set_cons_succ]
                refine anyL_take 8 (v := ?_) rfl (by kernel_rfl) (fun _ _ _ h => h) (Or.inl ⟨by rfl, ?_⟩) hS0 ?_
                rotate_left
                focus (intro W hW; go_simp; try with_reducible rfl)
                simp only [Act.put, List.setIfInBounds_toArray, List.set_cons_zero, List.set_cons_succ]
                refine anyL_take 9 (v := ?_) rfl (by kernel_rfl) (fun _ _ _ h => h) (Or.inl ⟨by rfl, ?_⟩) hS0 ?_
                rotate_left
                focus (intro W hW; go_simp; try with_reducible rfl)
                simp only [Act.put, List.setIfInBounds_toArray, List.set_cons_zero, List.set_cons_succ]
                refine anyL_take 10 (v := ?_) rfl (by kernel_rfl) (fun _ _ _ h => h) (Or.inl ⟨by rfl, ?_⟩) hS0 ?_
                rotate_left
                focus (intro W hW; go_simp; try with_reducible rfl)
                simp only [Act.put, List.setIfInBounds_toArray, List.set_cons_zero, List.set_cons_succ]
                refine anyL_take 11 (v := ?_) rfl (by kernel_rfl) (fun _ _ _ h => h) (Or.inl ⟨by rfl, ?_⟩) hS0 ?_
                rotate_left
                focus (intro W hW; obtain ⟨p0, p1⟩ := hW; go_simp; try with_reducible rfl)
                simp only [Act.put, List.setIfInBounds_toArray, List.set_cons_zero, List.set_cons_succ]
                refine anyL_take 12 (v := ?_) rfl (by kernel_rfl) (fun _ _ _ h => h) (Or.inl ⟨by rfl, ?_⟩) hS0 ?_
                rotate_left
                focus (intro W hW; go_simp; try with_reducible rfl)
                simp only [Act.put, List.setIfInBounds_toArray, List.set_cons_zero, List.set_cons_succ]
                refine anyL_take 13 (v := ?_) rfl (by kernel_rfl) (fun _ _ _ h => h) (Or.inl ⟨by rfl, ?_⟩) hS0 ?_
                rotate_left
                focus (intro W hW; go_simp; try with_reducible rfl)
                simp only [Act.put, List.setIfInBounds_toArray, List.set_cons_zero, List.set_cons_succ]
                refine anyL_take 14 (v := ?_) rfl (by kernel_rfl) (fun _ _ _ h => h) (Or.inl ⟨by rfl, ?_⟩) hS0 ?_
                rotate_left
                focus (intro W hW; go_simp; try with_reducible rfl)
                simp only [Act.put, List.setIfInBounds_toArray, List.set_cons_zero, List.set_cons_succ]
                refine anyC_done (by kernel_rfl) ?_ _
                go_wp2_with fail
                go_roundw
                case rel => exact ⟨k + 1, bk != bi, hlt2, by go_num, rfl, hnewH.out _ (by rw [Bool.true_and, Bool.eq_iff_iff, bne_iff_ne, decide_eq_true_eq]), hSd⟩
                case measure => simp only [Go.RowKit.intOf]; omega
end Go.Proofs.Ytchipfpnikkbeaa
