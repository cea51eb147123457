/- What Open of mlog's does. -/
import Derived.Test.YtpmhfalhieinjaaGreatDoorMlgO
namespace Go.Proofs.YtpmhfalhieinjaaGreatDoor
open Go.RowKit Zon Drv Rec Crc

section
variable {w W : World} {K : Nat → Prop} {r n N : Nat} {d : Nat → Nat} {G : Rg} {c : Int}
/-- What Open leaves. -/
def OpPost (w W : World) (K : Nat → Prop) (r n N : Nat) (d : Nat → Nat) (G : Rg) (i : Nat) (e : Ending) (w' : World) : Prop :=
  ∃ (o : Option (Lg × List Rc)) (K' : Nat → Prop) (lv rv : Value), SelR G i 2 o ∧ (∀ x, K x → K' x) ∧ Rig w w' K' r n N d G.D G.s ∧ SameK W w' (KR K r) ∧ OSt w w' K' r o lv rv ∧ e = .returned (.tuple #[lv, rv, .int .i64 (if o.isSome = true then 0 else 13)])
theorem mopen_nil (i : Int) (w : World) : Calls Tryz.prog 9 #[.pointer none, .int .i64 i] w fun e w' => e = .returned (.tuple #[.pointer none, .slice none 0 0, .int .i64 1]) ∧ w = w' := by
  have hd := Lib.hid (rdrives_nil w)
  by_cases h0 : i < 0
  · have h0b : decide (i < 0) = true := decide_eq_true h0
    go_enter Tryz.func9, Tryz.ntmps9
    go_wp2
    go_ret3
    exact ⟨rfl, rfl⟩
  · have h0b : decide (i < 0) = false := decide_eq_false h0
    have h1 : decide ((0 : Int) ≤ i) = true := decide_eq_true (by omega)
    have h2 : (0 : Int) ≤ i := by omega
    go_enter Tryz.func9, Tryz.ntmps9
    go_wp2_with (go_at_call 33; refine hd.out.mono ?_; rintro e w1 ⟨rfl, rfl⟩)
    go_ret3
    exact ⟨rfl, rfl⟩
theorem mopen_none (i : Int) (h : Rig w W K r n N d G.D G.s) (hi : ¬ (0 ≤ i ∧ i < n)) : Calls Tryz.prog 9 #[.pointer (some ⟨r, 0, none⟩), .int .i64 i] W fun e w' => e = .returned (.tuple #[.pointer none, .slice none 0 0, .int .i64 1]) ∧ W = w' := by
  have hd := Lib.hid (rdrives_any h)
  by_cases h0 : i < 0
  · have h0b : decide (i < 0) = true := decide_eq_true h0
    clear h
    go_enter Tryz.func9, Tryz.ntmps9
    go_wp2
    go_ret3
    exact ⟨rfl, rfl⟩
  · have h0b : decide (i < 0) = false := decide_eq_false h0
    have h1 : decide ((n : Int) ≤ i) = true := decide_eq_true (by omega)
    have h2 : (n : Int) ≤ i := by omega
    clear h
    go_enter Tryz.func9, Tryz.ntmps9
    go_wp2_with (go_at_call 33; refine hd.out.mono ?_; rintro e w1 ⟨rfl, rfl⟩)
    go_ret3
    exact ⟨rfl, rfl⟩
set_option maxRecDepth 100000 in
set_option maxHeartbeats 8000000 in
theorem mopen_any (i : Nat) (h : Rig w W K r n N d G.D G.s) (hok : RgOk n G c) (hc : c ≤ 4611686018427370000) (hi : i < n) (ho : G.s.off = false) (hz : 2 ≤ (G.D i).m.zs.length) (hT : Tab w) :
    Calls Tryz.prog 9 #[.pointer (some ⟨r, 0, none⟩), .int .i64 (i : Int)] W (OpPost w W K r n N d G i) := by
  have hd := Lib.hid (rdrives_any h)
  have hrd := Lib.hid (fun (k : Nat) (hk : k < 2) W' K' (hR : Rig w W' K' r n N d G.D G.s) => (show Calls Tryz.prog 34 #[.agg #[.pointer (some ⟨r, 0, none⟩), .int .i64 (i : Int)], .int .i64 (k : Int)] W' (fun e w' => e = .returned (.tuple #[.string (txtZ G i k), .int .i64 0]) ∧ MPost w W' K' r n N d G w') from by
    have h1 := mread_any i (k : Int) hR hok (by omega) hi
    rw [rdP_all (hok.ok i hi) (hok.live i hi) ho (by omega)] at h1
    exact h1))
  have hsm := Lib.hid (fun k => (show (txtZ G i k).size ≤ 1000000 by rw [txtZ_size]; have := (hok.ok i hi).small k; omega))
  have hpa := Lib.hid (fun k W' (hR : Below w.heap.size w W') => mparse_any (txtZ G i k) W' (hsm.out k) (hT.below hR))
  have hbok := Lib.hid (fun k W => blocks_m (txtZ G i k) (by have := hsm.out k; omega) W)
  have hRX := h.keep (.cells #[.pointer (some ⟨r, 0, none⟩), .int .i64 (i : Int)] 74)
  have hbX : Below W.heap.size W (W.alloc (.cells #[.pointer (some ⟨r, 0, none⟩), .int .i64 (i : Int)] 74)) := (Below.refl _ _).alloc (Nat.le_refl _) _
  have hX0 : (W.alloc (.cells #[.pointer (some ⟨r, 0, none⟩), .int .i64 (i : Int)] 74)).cell? ⟨W.heap.size, 0, none⟩ = some (.pointer (some ⟨r, 0, none⟩)) := by simp [World.cell?_alloc_new]
  have hX1 : (W.alloc (.cells #[.pointer (some ⟨r, 0, none⟩), .int .i64 (i : Int)] 74)).cell? ⟨W.heap.size, 1, none⟩ = some (.int .i64 (i : Int)) := by simp [World.cell?_alloc_new]
  have hXK : KR (boxK W K) r W.heap.size := boxK_at W K r h.lt
  obtain ⟨KX, hKX⟩ : ∃ KX, KX = boxK W K := ⟨_, rfl⟩
  have hKK : ∀ x, K x → KX x := by rw [hKX]; exact fun _ hx => .inl hx
  have hXS : ∀ w', SameK (W.alloc (.cells #[.pointer (some ⟨r, 0, none⟩), .int .i64 (i : Int)] 74)) w' (KR KX r) → SameK W w' (KR K r) := fun w' h => by
    rw [hKX] at h
    exact keep_same hbX h
  rw [← hKX] at hRX hXK
  have hall := Lib.hid (And.intro hRX (And.intro hX0 (And.intro hX1 hXS)))
  have hg1 : decide ((i : Int) < 0) = false := decide_eq_false (by omega)
  have hg2 : decide ((n : Int) ≤ (i : Int)) = false := decide_eq_false (by omega)
  have hg3 : ¬ (n : Int) ≤ (i : Int) := by omega
  have hg4 : ¬ (i : Int) < 0 := by omega
  clear hRX hbX hX0 hX1 hXS hKX h hok hc ho hz hT hi
  obtain ⟨ii, hii⟩ : ∃ ii : Int, ii = (i : Int) := ⟨_, rfl⟩
  have hiiH := Lib.hid hii
  rw [← hii] at hrd hall hg1 hg2 hg3 hg4 ⊢
  clear hii
  go_enter Tryz.func9, Tryz.ntmps9
  go_upto_region 4 with (go_at_call 33; refine hd.out.mono ?_; rintro e w1 ⟨rfl, rfl⟩)
  refine fresh_world (fun W2 => Rig w W2 KX r n N d G.D G.s ∧ W2.cell? ⟨W.heap.size, 0, none⟩ = some (.pointer (some ⟨r, 0, none⟩)) ∧ W2.cell? ⟨W.heap.size, 1, none⟩ = some (.int .i64 ii) ∧ ∀ w', SameK W2 w' (KR KX r) → SameK W w' (KR K r)) hall.out ?_
  clear hall hg1 hg2 hg3 hg4
  generalize W.heap.size = X at hXK
  rintro W2 ⟨hR2, x0, x1, hXS⟩
  have hXSH := Lib.hid hXS
  have hx2 := Lib.hid (And.intro x0 x1)
  clear hXS x0 x1
  go_wp2_with fail
  go_loopw [8, 9, 26] (fun lv rv zv wr => ∃ (k : Nat) (o : Option (Lg × List Rc)) (K' : Nat → Prop), k ≤ 2 ∧ zv = .int .i64 (k : Int) ∧ SelR G i k o ∧ (∀ x, KX x → K' x) ∧ Rig w wr K' r n N d G.D G.s ∧ SameK W2 wr (KR KX r) ∧ OSt w wr K' r o lv rv) (fun _ _ z _ => 2 - (intOf z).toNat)
  case atStart => exact ⟨0, none, KX, by omega, rfl, rfl, fun _ hx => hx, hR2, SameK.refl _ _, rfl, rfl⟩
  case round =>
    clear hR2
    obtain ⟨k, o, K', hk, rfl, hsel, kk', hR, hs, hO⟩ := hrel
    have hselH := Lib.hid hsel
    have hOH := Lib.hid hO
    have hsX := Lib.hid hs
    have x0 := hs.cell hx2.out.1 hXK
    have x1 := hs.cell hx2.out.2 hXK
    have hX := lt_of_cell x0
    clear hsel hs hO
    by_cases hlt : k < 2
    case pos =>
      have g1 : (k : Int) < 2 := by omega
      have hr1 := Lib.hid (hrd.out k hlt _ _ hR)
      have hx1 := Lib.hid (And.intro x0 x1)
      have hpa1 := Lib.hid (hpa.out k)
      have hbo1 := Lib.hid (hbok.out k)
      have hkw : IntKind.i64.wrap ((k : Int) + 1) = (k : Int) + 1 := IntWalk.i64_in _ (by omega)
      obtain ⟨T, hTT⟩ : ∃ T, T = txtZ G i k := ⟨_, rfl⟩
      have hTH := Lib.hid hTT
      rw [← hTT] at hr1 hpa1 hbo1
      clear hTT hrd hpa hbok hR
      go_wp2_with fail
      clear x0 x1
      refine hr1.out.mono ?_
      rintro e W3 ⟨rfl, hP⟩
      obtain ⟨K2, k2, hR3, hs3⟩ := hP
      have x0 := hs3.cell hx1.out.1 ⟨kk' _ hXK.1, hXK.2⟩
      have x1 := hs3.cell hx1.out.2 ⟨kk' _ hXK.1, hXK.2⟩
      have hX3 := lt_of_cell x0
      have hO3 := Lib.hid (hOH.out.next hs3 k2)
      have hp3 := Lib.hid (hpa1.out W3 hR3.fam.b)
      clear hr1 hpa1 hOH hx1 hX
      go_wp2_with fail
      refine hp3.out.mono ?_
      rintro e W4 ⟨l, nn, hsc, hb4, hcase⟩
      have hscH := Lib.hid (show Scans (txtZ G i k) l nn by rw [← hTH.out]; exact hsc)
      clear hsc hp3
      rcases hcase with ⟨hpn, rfl⟩ | ⟨g, A, cap, hpn, rfl, hrec, hAf⟩
      · have hpH := Lib.hid hpn
        clear hpn
        have hY0 : (W4.alloc (.cells #[.int .i64 0, .slice none 0 0, .bool false] 81)).cell? ⟨W4.heap.size, 0, none⟩ = some (.int .i64 0) := by simp [World.cell?_alloc_new]
        have hY1 : (W4.alloc (.cells #[.int .i64 0, .slice none 0 0, .bool false] 81)).cell? ⟨W4.heap.size, 1, none⟩ = some (.slice none 0 0) := by simp [World.cell?_alloc_new]
        have hY2 : (W4.alloc (.cells #[.int .i64 0, .slice none 0 0, .bool false] 81)).cell? ⟨W4.heap.size, 2, none⟩ = some (.bool false) := by simp [World.cell?_alloc_new]
        have hbY : Below W3.heap.size W3 (W4.alloc (.cells #[.int .i64 0, .slice none 0 0, .bool false] 81)) := hb4.alloc hb4.size _
        have hall := Lib.hid (And.intro hbY (And.intro hY0 (And.intro hY1 (And.intro hY2 trivial))))
        have hYX : X < W4.heap.size := Nat.lt_of_lt_of_le hX3 hb4.size
        have hY3 : W3.heap.size ≤ W4.heap.size := hb4.size
        clear hbY hY0 hY1 hY2 hb4
        go_upto_region 13 with fail
        refine fresh_world (fun V => Below W3.heap.size W3 V ∧ V.cell? ⟨W4.heap.size, 0, none⟩ = some (.int .i64 0) ∧ V.cell? ⟨W4.heap.size, 1, none⟩ = some (.slice none 0 0) ∧ V.cell? ⟨W4.heap.size, 2, none⟩ = some (.bool false) ∧ True) hall.out ?_
        clear hall
        generalize W4.heap.size = Y at hYX hY3
        rintro W5 ⟨hb5, y0, y1, y2, hex⟩
        have hb5H := Lib.hid hb5
        clear hb5
        clear x0 x1 y0 y1 y2 hex
        go_quiet (fail)
        go_wp2_with fail
        go_roundw
        case rel => exact ⟨k + 1, o, newK W3 _ K2, by omega, by go_num, ⟨o, l, nn, hselH.out, hscH.out, by rw [better_no hpH.out]⟩, fun x hx => .inl (k2 x (kk' x hx)), hR3.keepAll (hb5H.out.trans (below_drewN (Below.refl _ _) _)), hsX.out.trans ⟨hs3.1, fun x hx hk => hs3.2 x hx ⟨kk' x hk.1, hk.2⟩⟩ |>.trans ⟨(hb5H.out.trans (below_drewN (Below.refl _ _) _)).size, fun x hx _ => (hb5H.out.trans (below_drewN (Below.refl _ _) _)).block x hx⟩, (hO3.out.next (K' := newK W3 _ K2) (r := r) ⟨(hb5H.out.trans (below_drewN (Below.refl _ _) _)).size, fun x hx _ => (hb5H.out.trans (below_drewN (Below.refl _ _) _)).block x hx⟩ (fun x hx => .inl hx))⟩
        case measure => simp only [intOf]; omega
      · have hbr := Lib.hid (hb4)
        obtain ⟨tv, htv⟩ : ∃ tv, tv = decide (nn < T.size / 64) := ⟨_, rfl⟩
        rw [← htv]
        obtain ⟨nb, hnb⟩ : ∃ nb : Int, nb = ((T.size / 64 : Nat) : Int) := ⟨_, rfl⟩
        have hbo := hbo1
        rw [← hnb] at hbo
        match o, hselH, hO3 with
        | none, hselH, hO3 =>
          obtain ⟨rfl, rfl⟩ := hO3.out
          have hbet := Lib.hid (show better none i k l nn (txtZ G i k).size = some (⟨i, k, g, nb, tv⟩, nomk l) by rw [better_first hpn, ← hTH.out, ← hnb, ← htv])
          clear hpn hnb htv hbo1
          have hY0 : (W4.alloc (.cells #[.int .i64 g, .slice A (nomk l).length cap, .bool tv] 81)).cell? ⟨W4.heap.size, 0, none⟩ = some (.int .i64 g) := by simp [World.cell?_alloc_new]
          have hY1 : (W4.alloc (.cells #[.int .i64 g, .slice A (nomk l).length cap, .bool tv] 81)).cell? ⟨W4.heap.size, 1, none⟩ = some (.slice A (nomk l).length cap) := by simp [World.cell?_alloc_new]
          have hY2 : (W4.alloc (.cells #[.int .i64 g, .slice A (nomk l).length cap, .bool tv] 81)).cell? ⟨W4.heap.size, 2, none⟩ = some (.bool tv) := by simp [World.cell?_alloc_new]
          have hbY : Below W3.heap.size W3 (W4.alloc (.cells #[.int .i64 g, .slice A (nomk l).length cap, .bool tv] 81)) := hb4.alloc hb4.size _
          have hall := Lib.hid (And.intro hbY (And.intro hY0 (And.intro hY1 (And.intro hY2 (hrec.below ((Below.refl W4.heap.size W4).alloc (Nat.le_refl _) (.cells #[.int .i64 g, .slice A (nomk l).length cap, .bool tv] 81)))))))
          have hYX : X < W4.heap.size := Nat.lt_of_lt_of_le hX3 hb4.size
          have hY3 : W3.heap.size ≤ W4.heap.size := hb4.size
          clear hbY hY0 hY1 hY2 hb4
          go_upto_region 13 with fail
          refine fresh_world (fun V => Below W3.heap.size W3 V ∧ V.cell? ⟨W4.heap.size, 0, none⟩ = some (.int .i64 g) ∧ V.cell? ⟨W4.heap.size, 1, none⟩ = some (.slice A (nomk l).length cap) ∧ V.cell? ⟨W4.heap.size, 2, none⟩ = some (.bool tv) ∧ RecsIn V A (nomk l)) hall.out ?_
          clear hall
          generalize W4.heap.size = Y at hYX hY3 hAf
          rintro W5 ⟨hb5, y0, y1, y2, hex⟩
          have hb5H := Lib.hid hb5
          clear hb5
          clear hrec
          go_quiet (fail)
          go_upto_region 14 with fail
          refine fresh_world (fun V => Below W5.heap.size W5 V) (below_drewN (Below.refl _ _) _) ?_
          intro W6 hb56
          have hb36' := hb5H.out.trans (hb56.mono hb5H.out.size)
          have x0' := (hb36'.cell (p := ⟨X, 0, none⟩) (lt_of_cell x0)).trans x0
          have x1' := (hb36'.cell (p := ⟨X, 1, none⟩) (lt_of_cell x0)).trans x1
          have y0' := (hb56.cell (p := ⟨Y, 0, none⟩) (lt_of_cell y0)).trans y0
          have y1' := (hb56.cell (p := ⟨Y, 1, none⟩) (lt_of_cell y0)).trans y1
          have y2' := (hb56.cell (p := ⟨Y, 2, none⟩) (lt_of_cell y0)).trans y2
          have hex6 := Lib.hid (hex.below hb56)
          have hb36 := Lib.hid (hb5H.out.trans (hb56.mono hb5H.out.size))
          clear x0 x1 y0 y1 y2 hb56 hb36' hex
          have x0 := x0'
          have x1 := x1'
          have y0 := y0'
          have y1 := y1'
          have y2 := y2'
          clear x0' x1' y0' y1' y2'
          have hX6 := lt_of_cell x0
          have hY6 := lt_of_cell y0
          have hb67 : Below W6.heap.size W6 (W6.drew.alloc (.cells #[.pointer (some ⟨r, 0, none⟩), .int .i64 ii, .int .i64 (k : Int), .int .i64 g, .int .i64 nb, .bool tv] 78)) := ((Below.refl W6.heap.size W6).drew).alloc (Nat.le_refl _) _
          have hb37 := hb36.out.trans (hb67.mono hb36.out.size)
          have hS9 := Lib.hid (show (fun V => V.cell? ⟨X, 0, none⟩ = some (.pointer (some ⟨r, 0, none⟩)) ∧ V.cell? ⟨X, 1, none⟩ = some (.int .i64 ii) ∧ V.cell? ⟨Y, 0, none⟩ = some (.int .i64 g) ∧ V.cell? ⟨Y, 2, none⟩ = some (.bool tv)) (W6.drew.alloc (.cells #[.pointer (some ⟨r, 0, none⟩), .int .i64 ii, .int .i64 (k : Int), .int .i64 g, .int .i64 nb, .bool tv] 78)) from ⟨(hb67.cell (p := ⟨X, 0, none⟩) hX6).trans x0, (hb67.cell (p := ⟨X, 1, none⟩) hX6).trans x1, (hb67.cell (p := ⟨Y, 0, none⟩) hY6).trans y0, (hb67.cell (p := ⟨Y, 2, none⟩) hY6).trans y2⟩)
          have hne : W6.heap.size ≠ r := by have := hR3.lt; have := hb36.out.size; omega
          have hge : w.heap.size ≤ W6.heap.size := Nat.le_trans hR3.fam.b.size hb36.out.size
          have hlg : LogAt (W6.drew.alloc (.cells #[.pointer (some ⟨r, 0, none⟩), .int .i64 ii, .int .i64 (k : Int), .int .i64 g, .int .i64 nb, .bool tv] 78)) W6.heap.size r ⟨i, k, g, nb, tv⟩ := by
            have h := LogAt.new W6.drew r ⟨i, k, g, nb, tv⟩
            rw [hiiH.out]
            exact h
          have hrl : r < W3.heap.size := hR3.lt
          have hend := Lib.hid (show OSt w (W6.drew.alloc (.cells #[.pointer (some ⟨r, 0, none⟩), .int .i64 ii, .int .i64 (k : Int), .int .i64 g, .int .i64 nb, .bool tv] 78)) (newK W3 (W6.drew.alloc (.cells #[.pointer (some ⟨r, 0, none⟩), .int .i64 ii, .int .i64 (k : Int), .int .i64 g, .int .i64 nb, .bool tv] 78)) K2) r (some (⟨i, k, g, nb, tv⟩, nomk l)) (.pointer (some ⟨W6.heap.size, 0, none⟩)) (.slice A (nomk l).length cap) from
            ⟨W6.heap.size, A, cap, rfl, rfl, hlg, .inr ⟨hb36.out.size, by simp⟩, hne, hge, ((hex6.out).below hb67), fun b off e => by
              have h9 := hAf b off e
              have hs := hb36.out.size
              refine ⟨.inr ⟨by omega, by simp; omega⟩, by omega, by omega⟩⟩)
          have hRend := Lib.hid (hR3.keepAll hb37)
          have hsend := Lib.hid (hsX.out.trans (⟨hs3.1, fun x hx hk => hs3.2 x hx ⟨kk' x hk.1, hk.2⟩⟩ : SameK wr W3 (KR KX r)) |>.trans (⟨hb37.size, fun x hx _ => hb37.block x hx⟩ : SameK W3 _ (KR KX r)))
          clear hb67 hb37 hne hge hlg hrl hX6 hY6 hb36 hex6
          refine region_anyC (fun _ => true) (fun V => V.cell? ⟨X, 0, none⟩ = some (.pointer (some ⟨r, 0, none⟩)) ∧ V.cell? ⟨X, 1, none⟩ = some (.int .i64 ii) ∧ V.cell? ⟨Y, 0, none⟩ = some (.int .i64 g) ∧ V.cell? ⟨Y, 2, none⟩ = some (.bool tv)) (by kernel_rfl) ?_
          have hS : (fun V => V.cell? ⟨X, 0, none⟩ = some (.pointer (some ⟨r, 0, none⟩)) ∧ V.cell? ⟨X, 1, none⟩ = some (.int .i64 ii) ∧ V.cell? ⟨Y, 0, none⟩ = some (.int .i64 g) ∧ V.cell? ⟨Y, 2, none⟩ = some (.bool tv)) W6.drew := ⟨x0, x1, y0, y2⟩
          refine anyL_take 0 (v := ?_) rfl (by kernel_rfl) (fun _ _ _ h => h) (Or.inl ⟨by rfl, ?_⟩) hS ?_
          rotate_left
          focus (intro W hW; obtain ⟨b0, b1, b2, b3⟩ := hW; go_simp; try with_reducible rfl)
          simp only [Act.put, List.setIfInBounds_toArray, List.set_cons_zero, List.set_cons_succ]
          refine anyL_take 1 (v := ?_) rfl (by kernel_rfl) (fun _ _ _ h => h) (Or.inl ⟨by rfl, ?_⟩) hS ?_
          rotate_left
          focus (intro W hW; go_simp; try with_reducible rfl)
          simp only [Act.put, List.setIfInBounds_toArray, List.set_cons_zero, List.set_cons_succ]
          refine anyL_take 2 (v := ?_) rfl (by kernel_rfl) (fun _ _ _ h => h) (Or.inl ⟨by rfl, ?_⟩) hS ?_
          rotate_left
          focus (intro W hW; go_simp; try with_reducible rfl)
          simp only [Act.put, List.setIfInBounds_toArray, List.set_cons_zero, List.set_cons_succ]
          refine anyL_take 3 (v := ?_) rfl (by kernel_rfl) (fun _ _ _ h => h) (Or.inl ⟨by rfl, ?_⟩) hS ?_
          rotate_left
          focus (intro W hW; obtain ⟨b0, b1, b2, b3⟩ := hW; go_simp; try with_reducible rfl)
          simp only [Act.put, List.setIfInBounds_toArray, List.set_cons_zero, List.set_cons_succ]
          refine anyL_take 4 (v := ?_) rfl (by kernel_rfl) (fun _ _ _ h => h) (Or.inl ⟨by rfl, ?_⟩) hS ?_
          rotate_left
          focus (intro W hW; go_simp; try with_reducible rfl)
          simp only [Act.put, List.setIfInBounds_toArray, List.set_cons_zero, List.set_cons_succ]
          refine anyL_take 6 (v := ?_) rfl (by kernel_rfl) (fun _ _ _ h => h) (Or.inl ⟨by rfl, ?_⟩) hS ?_
          rotate_left
          focus (intro W hW; go_simp; try with_reducible rfl)
          simp only [Act.put, List.setIfInBounds_toArray, List.set_cons_zero, List.set_cons_succ]
          refine anyL_take 7 (v := ?_) rfl (by kernel_rfl) (fun _ _ _ h => h) (Or.inl ⟨by rfl, ?_⟩) hS ?_
          rotate_left
          focus (intro W hW; obtain ⟨b0, b1, b2, b3⟩ := hW; go_simp; try with_reducible rfl)
          simp only [Act.put, List.setIfInBounds_toArray, List.set_cons_zero, List.set_cons_succ]
          refine anyL_one 5 rfl (by kernel_rfl) (fun K hK => ?_)
          go_simp
          refine (hbo.out _).mono ?_
          rintro e' wt ⟨rfl, rfl⟩
          refine hK.out _ _ (fun _ => hS) ?_
          clear hK K
          try simp only [Act.put, List.setIfInBounds_toArray, List.set_cons_zero, List.set_cons_succ]
          refine anyL_take 8 (v := ?_) rfl (by kernel_rfl) (fun _ _ _ h => h) (Or.inl ⟨by rfl, ?_⟩) hS ?_
          rotate_left
          focus (intro W hW; go_simp; try with_reducible rfl)
          simp only [Act.put, List.setIfInBounds_toArray, List.set_cons_zero, List.set_cons_succ]
          refine anyL_one 9 rfl (by kernel_rfl) (fun K hK => ?_)
          go_simp
          refine hK.out _ _ (fun _ => hS9.out) ?_
          clear hK K
          try simp only [Act.put, List.setIfInBounds_toArray, List.set_cons_zero, List.set_cons_succ]
          refine anyL_take 10 (v := ?_) rfl (by kernel_rfl) (fun _ _ _ h => h) (Or.inl ⟨by rfl, ?_⟩) hS9.out ?_
          rotate_left
          focus (intro W hW; go_simp; try with_reducible rfl)
          simp only [Act.put, List.setIfInBounds_toArray, List.set_cons_zero, List.set_cons_succ]
          refine anyC_done (by kernel_rfl) ?_ _
          clear hS hS9 x0 x1 y0 y2
          have hYl := lt_of_cell y1
          have hYn : ¬ Y = W6.heap.size := by omega
          go_wp2_with fail
          go_roundw
          case rel => exact ⟨k + 1, some (⟨i, k, g, nb, tv⟩, nomk l), newK W3 _ K2, by omega, by go_num, ⟨none, l, nn, hselH.out, hscH.out, (hbet.out).symm⟩, fun x hx => .inl (k2 x (kk' x hx)), hRend.out, hsend.out, hend.out⟩
          case measure => simp only [intOf]; omega
        | some q, hselH, hO3 =>
          obtain ⟨p, A2, cap2, rfl, rfl, hl2, hp1, hp2, hp3, hr2, hA2⟩ := hO3.out
          have hc3 := hl2.c3
          by_cases hgt : q.1.g < g
          · have hbet := Lib.hid (show better (some q) i k l nn (txtZ G i k).size = some (⟨i, k, g, nb, tv⟩, nomk l) by rw [better_yes hpn hgt, ← hTH.out, ← hnb, ← htv])
            have hgt1 : decide (q.1.g < g) = true := decide_eq_true hgt
            clear hpn hnb htv hbo1 hl2 hr2 hA2 hp1 hp2 hp3
            generalize q.1.g = qg at hc3 hgt hgt1
            have hY0 : (W4.alloc (.cells #[.int .i64 g, .slice A (nomk l).length cap, .bool tv] 81)).cell? ⟨W4.heap.size, 0, none⟩ = some (.int .i64 g) := by simp [World.cell?_alloc_new]
            have hY1 : (W4.alloc (.cells #[.int .i64 g, .slice A (nomk l).length cap, .bool tv] 81)).cell? ⟨W4.heap.size, 1, none⟩ = some (.slice A (nomk l).length cap) := by simp [World.cell?_alloc_new]
            have hY2 : (W4.alloc (.cells #[.int .i64 g, .slice A (nomk l).length cap, .bool tv] 81)).cell? ⟨W4.heap.size, 2, none⟩ = some (.bool tv) := by simp [World.cell?_alloc_new]
            have hbY : Below W3.heap.size W3 (W4.alloc (.cells #[.int .i64 g, .slice A (nomk l).length cap, .bool tv] 81)) := hb4.alloc hb4.size _
            have hall := Lib.hid (And.intro hbY (And.intro hY0 (And.intro hY1 (And.intro hY2 (hrec.below ((Below.refl W4.heap.size W4).alloc (Nat.le_refl _) (.cells #[.int .i64 g, .slice A (nomk l).length cap, .bool tv] 81)))))))
            have hYX : X < W4.heap.size := Nat.lt_of_lt_of_le hX3 hb4.size
            have hY3 : W3.heap.size ≤ W4.heap.size := hb4.size
            clear hbY hY0 hY1 hY2 hb4
            go_upto_region 13 with fail
            refine fresh_world (fun V => Below W3.heap.size W3 V ∧ V.cell? ⟨W4.heap.size, 0, none⟩ = some (.int .i64 g) ∧ V.cell? ⟨W4.heap.size, 1, none⟩ = some (.slice A (nomk l).length cap) ∧ V.cell? ⟨W4.heap.size, 2, none⟩ = some (.bool tv) ∧ RecsIn V A (nomk l)) hall.out ?_
            clear hall
            generalize W4.heap.size = Y at hYX hY3 hAf
            rintro W5 ⟨hb5, y0, y1, y2, hex⟩
            have hb5H := Lib.hid hb5
            clear hb5
            have hc5 := (hb5H.out.cell (p := ⟨p, 3, none⟩) (lt_of_cell hc3)).trans hc3
            clear hc3
            clear hrec
            go_quiet (fail)
            go_upto_region 14 with fail
            refine fresh_world (fun V => Below W5.heap.size W5 V) (below_drewN (Below.refl _ _) _) ?_
            intro W6 hb56
            have hb36' := hb5H.out.trans (hb56.mono hb5H.out.size)
            have x0' := (hb36'.cell (p := ⟨X, 0, none⟩) (lt_of_cell x0)).trans x0
            have x1' := (hb36'.cell (p := ⟨X, 1, none⟩) (lt_of_cell x0)).trans x1
            have y0' := (hb56.cell (p := ⟨Y, 0, none⟩) (lt_of_cell y0)).trans y0
            have y1' := (hb56.cell (p := ⟨Y, 1, none⟩) (lt_of_cell y0)).trans y1
            have y2' := (hb56.cell (p := ⟨Y, 2, none⟩) (lt_of_cell y0)).trans y2
            have hex6 := Lib.hid (hex.below hb56)
            have hb36 := Lib.hid (hb5H.out.trans (hb56.mono hb5H.out.size))
            clear x0 x1 y0 y1 y2 hb56 hb36' hex hc5
            have x0 := x0'
            have x1 := x1'
            have y0 := y0'
            have y1 := y1'
            have y2 := y2'
            clear x0' x1' y0' y1' y2'
            have hX6 := lt_of_cell x0
            have hY6 := lt_of_cell y0
            have hb67 : Below W6.heap.size W6 (W6.drew.alloc (.cells #[.pointer (some ⟨r, 0, none⟩), .int .i64 ii, .int .i64 (k : Int), .int .i64 g, .int .i64 nb, .bool tv] 78)) := ((Below.refl W6.heap.size W6).drew).alloc (Nat.le_refl _) _
            have hb37 := hb36.out.trans (hb67.mono hb36.out.size)
            have hS9 := Lib.hid (show (fun V => V.cell? ⟨X, 0, none⟩ = some (.pointer (some ⟨r, 0, none⟩)) ∧ V.cell? ⟨X, 1, none⟩ = some (.int .i64 ii) ∧ V.cell? ⟨Y, 0, none⟩ = some (.int .i64 g) ∧ V.cell? ⟨Y, 2, none⟩ = some (.bool tv)) (W6.drew.alloc (.cells #[.pointer (some ⟨r, 0, none⟩), .int .i64 ii, .int .i64 (k : Int), .int .i64 g, .int .i64 nb, .bool tv] 78)) from ⟨(hb67.cell (p := ⟨X, 0, none⟩) hX6).trans x0, (hb67.cell (p := ⟨X, 1, none⟩) hX6).trans x1, (hb67.cell (p := ⟨Y, 0, none⟩) hY6).trans y0, (hb67.cell (p := ⟨Y, 2, none⟩) hY6).trans y2⟩)
            have hne : W6.heap.size ≠ r := by have := hR3.lt; have := hb36.out.size; omega
            have hge : w.heap.size ≤ W6.heap.size := Nat.le_trans hR3.fam.b.size hb36.out.size
            have hlg : LogAt (W6.drew.alloc (.cells #[.pointer (some ⟨r, 0, none⟩), .int .i64 ii, .int .i64 (k : Int), .int .i64 g, .int .i64 nb, .bool tv] 78)) W6.heap.size r ⟨i, k, g, nb, tv⟩ := by
              have h := LogAt.new W6.drew r ⟨i, k, g, nb, tv⟩
              rw [hiiH.out]
              exact h
            have hrl : r < W3.heap.size := hR3.lt
            have hend := Lib.hid (show OSt w (W6.drew.alloc (.cells #[.pointer (some ⟨r, 0, none⟩), .int .i64 ii, .int .i64 (k : Int), .int .i64 g, .int .i64 nb, .bool tv] 78)) (newK W3 (W6.drew.alloc (.cells #[.pointer (some ⟨r, 0, none⟩), .int .i64 ii, .int .i64 (k : Int), .int .i64 g, .int .i64 nb, .bool tv] 78)) K2) r (some (⟨i, k, g, nb, tv⟩, nomk l)) (.pointer (some ⟨W6.heap.size, 0, none⟩)) (.slice A (nomk l).length cap) from
              ⟨W6.heap.size, A, cap, rfl, rfl, hlg, .inr ⟨hb36.out.size, by simp⟩, hne, hge, ((hex6.out).below hb67), fun b off e => by
                have h9 := hAf b off e
                have hs := hb36.out.size
                refine ⟨.inr ⟨by omega, by simp; omega⟩, by omega, by omega⟩⟩)
            have hRend := Lib.hid (hR3.keepAll hb37)
            have hsend := Lib.hid (hsX.out.trans (⟨hs3.1, fun x hx hk => hs3.2 x hx ⟨kk' x hk.1, hk.2⟩⟩ : SameK wr W3 (KR KX r)) |>.trans (⟨hb37.size, fun x hx _ => hb37.block x hx⟩ : SameK W3 _ (KR KX r)))
            clear hb67 hb37 hne hge hlg hrl hX6 hY6 hb36 hex6
            refine region_anyC (fun _ => true) (fun V => V.cell? ⟨X, 0, none⟩ = some (.pointer (some ⟨r, 0, none⟩)) ∧ V.cell? ⟨X, 1, none⟩ = some (.int .i64 ii) ∧ V.cell? ⟨Y, 0, none⟩ = some (.int .i64 g) ∧ V.cell? ⟨Y, 2, none⟩ = some (.bool tv)) (by kernel_rfl) ?_
            have hS : (fun V => V.cell? ⟨X, 0, none⟩ = some (.pointer (some ⟨r, 0, none⟩)) ∧ V.cell? ⟨X, 1, none⟩ = some (.int .i64 ii) ∧ V.cell? ⟨Y, 0, none⟩ = some (.int .i64 g) ∧ V.cell? ⟨Y, 2, none⟩ = some (.bool tv)) W6.drew := ⟨x0, x1, y0, y2⟩
            refine anyL_take 0 (v := ?_) rfl (by kernel_rfl) (fun _ _ _ h => h) (Or.inl ⟨by rfl, ?_⟩) hS ?_
            rotate_left
            focus (intro W hW; obtain ⟨b0, b1, b2, b3⟩ := hW; go_simp; try with_reducible rfl)
            simp only [Act.put, List.setIfInBounds_toArray, List.set_cons_zero, List.set_cons_succ]
            refine anyL_take 1 (v := ?_) rfl (by kernel_rfl) (fun _ _ _ h => h) (Or.inl ⟨by rfl, ?_⟩) hS ?_
            rotate_left
            focus (intro W hW; go_simp; try with_reducible rfl)
            simp only [Act.put, List.setIfInBounds_toArray, List.set_cons_zero, List.set_cons_succ]
            refine anyL_take 2 (v := ?_) rfl (by kernel_rfl) (fun _ _ _ h => h) (Or.inl ⟨by rfl, ?_⟩) hS ?_
            rotate_left
            focus (intro W hW; go_simp; try with_reducible rfl)
            simp only [Act.put, List.setIfInBounds_toArray, List.set_cons_zero, List.set_cons_succ]
            refine anyL_take 3 (v := ?_) rfl (by kernel_rfl) (fun _ _ _ h => h) (Or.inl ⟨by rfl, ?_⟩) hS ?_
            rotate_left
            focus (intro W hW; obtain ⟨b0, b1, b2, b3⟩ := hW; go_simp; try with_reducible rfl)
            simp only [Act.put, List.setIfInBounds_toArray, List.set_cons_zero, List.set_cons_succ]
            refine anyL_take 4 (v := ?_) rfl (by kernel_rfl) (fun _ _ _ h => h) (Or.inl ⟨by rfl, ?_⟩) hS ?_
            rotate_left
            focus (intro W hW; go_simp; try with_reducible rfl)
            simp only [Act.put, List.setIfInBounds_toArray, List.set_cons_zero, List.set_cons_succ]
            refine anyL_take 6 (v := ?_) rfl (by kernel_rfl) (fun _ _ _ h => h) (Or.inl ⟨by rfl, ?_⟩) hS ?_
            rotate_left
            focus (intro W hW; go_simp; try with_reducible rfl)
            simp only [Act.put, List.setIfInBounds_toArray, List.set_cons_zero, List.set_cons_succ]
            refine anyL_take 7 (v := ?_) rfl (by kernel_rfl) (fun _ _ _ h => h) (Or.inl ⟨by rfl, ?_⟩) hS ?_
            rotate_left
            focus (intro W hW; obtain ⟨b0, b1, b2, b3⟩ := hW; go_simp; try with_reducible rfl)
            simp only [Act.put, List.setIfInBounds_toArray, List.set_cons_zero, List.set_cons_succ]
            refine anyL_one 5 rfl (by kernel_rfl) (fun K hK => ?_)
            go_simp
            refine (hbo.out _).mono ?_
            rintro e' wt ⟨rfl, rfl⟩
            refine hK.out _ _ (fun _ => hS) ?_
            clear hK K
            try simp only [Act.put, List.setIfInBounds_toArray, List.set_cons_zero, List.set_cons_succ]
            refine anyL_take 8 (v := ?_) rfl (by kernel_rfl) (fun _ _ _ h => h) (Or.inl ⟨by rfl, ?_⟩) hS ?_
            rotate_left
            focus (intro W hW; go_simp; try with_reducible rfl)
            simp only [Act.put, List.setIfInBounds_toArray, List.set_cons_zero, List.set_cons_succ]
            refine anyL_one 9 rfl (by kernel_rfl) (fun K hK => ?_)
            go_simp
            refine hK.out _ _ (fun _ => hS9.out) ?_
            clear hK K
            try simp only [Act.put, List.setIfInBounds_toArray, List.set_cons_zero, List.set_cons_succ]
            refine anyL_take 10 (v := ?_) rfl (by kernel_rfl) (fun _ _ _ h => h) (Or.inl ⟨by rfl, ?_⟩) hS9.out ?_
            rotate_left
            focus (intro W hW; go_simp; try with_reducible rfl)
            simp only [Act.put, List.setIfInBounds_toArray, List.set_cons_zero, List.set_cons_succ]
            refine anyC_done (by kernel_rfl) ?_ _
            clear hS hS9 x0 x1 y0 y2
            have hYl := lt_of_cell y1
            have hYn : ¬ Y = W6.heap.size := by omega
            go_wp2_with fail
            go_roundw
            case rel => exact ⟨k + 1, some (⟨i, k, g, nb, tv⟩, nomk l), newK W3 _ K2, by omega, by go_num, ⟨(some q), l, nn, hselH.out, hscH.out, (hbet.out).symm⟩, fun x hx => .inl (k2 x (kk' x hx)), hRend.out, hsend.out, hend.out⟩
            case measure => simp only [intOf]; omega
          · have hbet := Lib.hid (show better (some q) i k l nn (txtZ G i k).size = some q from better_old hpn hgt)
            have hgt1 : decide (q.1.g < g) = false := decide_eq_false hgt
            clear hpn hnb htv hbo1 hl2 hr2 hA2 hp1 hp2 hp3 hrec hAf
            generalize q.1.g = qg at hc3 hgt hgt1
            have hY0 : (W4.alloc (.cells #[.int .i64 g, .slice A (nomk l).length cap, .bool tv] 81)).cell? ⟨W4.heap.size, 0, none⟩ = some (.int .i64 g) := by simp [World.cell?_alloc_new]
            have hY1 : (W4.alloc (.cells #[.int .i64 g, .slice A (nomk l).length cap, .bool tv] 81)).cell? ⟨W4.heap.size, 1, none⟩ = some (.slice A (nomk l).length cap) := by simp [World.cell?_alloc_new]
            have hY2 : (W4.alloc (.cells #[.int .i64 g, .slice A (nomk l).length cap, .bool tv] 81)).cell? ⟨W4.heap.size, 2, none⟩ = some (.bool tv) := by simp [World.cell?_alloc_new]
            have hbY : Below W3.heap.size W3 (W4.alloc (.cells #[.int .i64 g, .slice A (nomk l).length cap, .bool tv] 81)) := hb4.alloc hb4.size _
            have hall := Lib.hid (And.intro hbY (And.intro hY0 (And.intro hY1 (And.intro hY2 trivial))))
            have hYX : X < W4.heap.size := Nat.lt_of_lt_of_le hX3 hb4.size
            have hY3 : W3.heap.size ≤ W4.heap.size := hb4.size
            clear hbY hY0 hY1 hY2 hb4
            go_upto_region 13 with fail
            refine fresh_world (fun V => Below W3.heap.size W3 V ∧ V.cell? ⟨W4.heap.size, 0, none⟩ = some (.int .i64 g) ∧ V.cell? ⟨W4.heap.size, 1, none⟩ = some (.slice A (nomk l).length cap) ∧ V.cell? ⟨W4.heap.size, 2, none⟩ = some (.bool tv) ∧ True) hall.out ?_
            clear hall
            generalize W4.heap.size = Y at hYX hY3
            rintro W5 ⟨hb5, y0, y1, y2, hex⟩
            have hb5H := Lib.hid hb5
            clear hb5
            have hc5 := (hb5H.out.cell (p := ⟨p, 3, none⟩) (lt_of_cell hc3)).trans hc3
            clear hc3
            clear x0 x1 y1 y2 hex
            go_quiet (fail)
            clear y0 hc5
            go_wp2_with fail
            go_roundw
            case rel => exact ⟨k + 1, (some q), newK W3 _ K2, by omega, by go_num, ⟨(some q), l, nn, hselH.out, hscH.out, (hbet.out).symm⟩, fun x hx => .inl (k2 x (kk' x hx)), hR3.keepAll (hb5H.out.trans (below_drewN (Below.refl _ _) _)), hsX.out.trans ⟨hs3.1, fun x hx hk => hs3.2 x hx ⟨kk' x hk.1, hk.2⟩⟩ |>.trans ⟨(hb5H.out.trans (below_drewN (Below.refl _ _) _)).size, fun x hx _ => (hb5H.out.trans (below_drewN (Below.refl _ _) _)).block x hx⟩, (hO3.out.next (K' := newK W3 _ K2) (r := r) ⟨(hb5H.out.trans (below_drewN (Below.refl _ _) _)).size, fun x hx _ => (hb5H.out.trans (below_drewN (Below.refl _ _) _)).block x hx⟩ (fun x hx => .inl hx))⟩
            case measure => simp only [intOf]; omega
    case neg =>
      obtain rfl : k = 2 := by omega
      have hRH := Lib.hid hR
      have hkH := Lib.hid (fun x (hx : K x) => kk' x (hKK x hx))
      have hsW := Lib.hid (hXSH.out _ hsX.out)
      clear hR kk' hlt hrd hpa hbok hsX hXSH x0 x1 hX
      match o, hselH, hOH with
      | none, hselH, hOH =>
        obtain ⟨rfl, rfl⟩ := hOH.out
        go_wp2_with fail
        go_ret3
        exact ⟨none, K', _, _, hselH.out, hkH.out, hRH.out, hsW.out, ⟨rfl, rfl⟩, rfl⟩
      | some q, hselH, hOH =>
        obtain ⟨p, A2, cap2, rfl, rfl, hall2⟩ := hOH.out
        have hallH := Lib.hid hall2
        clear hall2
        go_wp2_with fail
        go_ret3
        exact ⟨some q, K', _, _, hselH.out, hkH.out, hRH.out, hsW.out, ⟨p, A2, cap2, rfl, rfl, hallH.out⟩, rfl⟩
end
end Go.Proofs.YtpmhfalhieinjaaGreatDoor
