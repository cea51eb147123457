/- What Format of mlog's does. -/
import Derived.Test.YtpmhfalhieinjaaGreatDoorMlgA3
namespace Go.Proofs.YtpmhfalhieinjaaGreatDoor
open Go.RowKit Zon Drv Rec Crc

section
variable {w W : World} {K : Nat → Prop} {r n N : Nat} {d : Nat → Nat} {G : Rg} {c : Int} {p : Nat} {L : Lg}
/-- What Format does, of a log that fits. -/
structure FmOk (n : Nat) (rs : List Rc) (b : Int) : Prop where
  ok : rs.all okM = true
  fit : (blk (begL 1 rs) : Int) ≤ b
/-- A log that was just made. -/
def FPost (w W : World) (K : Nat → Prop) (r n N : Nat) (d : Nat → Nat) (G : Rg) (L : Lg) (e : Ending) (w' : World) : Prop :=
  ∃ p K', e = .returned (.tuple #[.pointer (some ⟨p, 0, none⟩), .int .i64 0]) ∧ (∀ x, K x → K' x) ∧ LS w w' K' r n N d G p L ∧ SameK W w' (KR K r) ∧ W.heap.size ≤ p
theorem format_nil (i : Int) (v : Value) (w : World) : Calls Tryz.prog 8 #[.pointer none, .int .i64 i, v] w fun e w' => e = .returned (.tuple #[.pointer none, .int .i64 1]) ∧ w = w' := by
  go_enter Tryz.func8, Tryz.ntmps8
  go_wp2
  go_ret2
  exact ⟨rfl, rfl⟩
theorem LogAt.new (W : World) (r : Nat) (L : Lg) : LogAt (W.alloc (.cells #[.pointer (some ⟨r, 0, none⟩), .int .i64 (L.i : Int), .int .i64 (L.z : Int), .int .i64 L.g, .int .i64 L.u, .bool L.t] 78)) W.heap.size r L :=
  ⟨by simp [World.cell?_alloc_new], by simp [World.cell?_alloc_new], by simp [World.cell?_alloc_new], by simp [World.cell?_alloc_new], by simp [World.cell?_alloc_new], by simp [World.cell?_alloc_new], fun j => (World.frozen?_alloc_mark W _ _ 0 0 j).trans (by simp), ⟨_, heap_alloc_new W _⟩⟩
theorem MPost.at_ {w W W' w' : World} {K : Nat → Prop} {r n N : Nat} {d : Nat → Nat} {G : Rg} {X : Nat} {u v : Value} (h : MPost w W' K r n N d G w') (hK : KR K r X) (h0 : W'.cell? ⟨X, 0, none⟩ = some u) (h1 : W'.cell? ⟨X, 1, none⟩ = some v) (_ : W = W') : w'.cell? ⟨X, 0, none⟩ = some u ∧ w'.cell? ⟨X, 1, none⟩ = some v := by
  obtain ⟨K', _, _, h3⟩ := h
  exact ⟨h3.cell h0 hK, h3.cell h1 hK⟩
set_option maxRecDepth 100000 in
set_option maxHeartbeats 4000000 in
theorem format_none (i : Int) (A : Option Addr) (cap : Nat) (rs : List Rc) (h : Rig w W K r n N d G.D G.s) (hi : ¬ (0 ≤ i ∧ i < n)) (hfit : FmOk n rs G.s.bl) (hT : Tab w) (hI : RecsIn W A rs) (hl : rs.length ≤ 100000) :
    Calls Tryz.prog 8 #[.pointer (some ⟨r, 0, none⟩), .int .i64 i, .slice A rs.length cap] W (fun e w' => e = .returned (.tuple #[.pointer none, .int .i64 1]) ∧ MPost w W K r n N d G w') := by
  have hTW : Tab W := hT.below h.fam.b
  have hbe := Lib.hid (beginning_any 1 A cap rs G.s.bl W hTW hI hl (by omega))
  have hbl := Lib.hid (rblocks_any h)
  rw [if_pos hfit.ok, if_pos hfit.fit] at hbe
  have hsz := begT_size (rs := rs) (g := 1) (by omega) hfit.ok
  have hbb := begL_blk (g := 1) rs
  have hble := blk_le rs
  have hs9 : (begT 1 rs).size ≤ 9223372036854775807 := by omega
  have hbo := Lib.hid (fun W => blocks_m (begT 1 rs) hs9 W)
  rw [hsz, show 64 * blk (begL 1 rs) / 64 = blk (begL 1 rs) by omega] at hbo
  have hmk := Lib.hid (fun W1 (hb : Below W.heap.size W W1) => (h.grown hb).keep (.cells #[.pointer (some ⟨r, 0, none⟩), .int .i64 i] 74))
  have hrl := h.lt
  have hrs := Lib.hid (fun W' K' (hR : Rig w W' K' r n N d G.D G.s) => mreset_none i 1 hR hi)
  clear hTW hT hI h hsz hbb hble hs9 hfit hi hbo
  go_enter Tryz.func8, Tryz.ntmps8
  go_wp2_with fail
  refine hbl.out.mono ?_
  rintro e W1 ⟨rfl, rfl⟩
  go_wp2_with fail
  refine hbe.out.mono ?_
  rintro e W1 ⟨rfl, hb1⟩
  have hRX := hmk.out _ hb1
  have hbX : Below W.heap.size W (W1.alloc (.cells #[.pointer (some ⟨r, 0, none⟩), .int .i64 i] 74)) := hb1.alloc hb1.size _
  have hX0 : (W1.alloc (.cells #[.pointer (some ⟨r, 0, none⟩), .int .i64 i] 74)).cell? ⟨W1.heap.size, 0, none⟩ = some (.pointer (some ⟨r, 0, none⟩)) := by simp [World.cell?_alloc_new]
  have hX1 : (W1.alloc (.cells #[.pointer (some ⟨r, 0, none⟩), .int .i64 i] 74)).cell? ⟨W1.heap.size, 1, none⟩ = some (.int .i64 i) := by simp [World.cell?_alloc_new]
  have hXK : KR (boxK W1 K) r W1.heap.size := boxK_at W1 K r (Nat.lt_of_lt_of_le hrl hb1.size)
  have hXL : W.heap.size ≤ W1.heap.size := hb1.size
  obtain ⟨KX, hKX⟩ : ∃ KX, KX = boxK W1 K := ⟨_, rfl⟩
  have hKK : ∀ x, K x → KX x := by rw [hKX]; exact fun _ hx => .inl hx
  have hXS : ∀ w', SameK (W1.alloc (.cells #[.pointer (some ⟨r, 0, none⟩), .int .i64 i] 74)) w' (KR KX r) → SameK W w' (KR K r) := fun w' h => by
    rw [hKX] at h
    exact ⟨Nat.le_trans hbX.size h.1, fun b hl hk => (h.2 b (Nat.lt_of_lt_of_le hl hbX.size) ⟨.inl hk.1, hk.2⟩).trans (hbX.block b hl)⟩
  rw [← hKX] at hRX hXK
  have hall := Lib.hid (show Rig w (W1.alloc (.cells #[.pointer (some ⟨r, 0, none⟩), .int .i64 i] 74)) KX r n N d G.D G.s ∧ (W1.alloc (.cells #[.pointer (some ⟨r, 0, none⟩), .int .i64 i] 74)).cell? ⟨W1.heap.size, 0, none⟩ = some (.pointer (some ⟨r, 0, none⟩)) ∧ (W1.alloc (.cells #[.pointer (some ⟨r, 0, none⟩), .int .i64 i] 74)).cell? ⟨W1.heap.size, 1, none⟩ = some (.int .i64 i) ∧ ∀ w', SameK (W1.alloc (.cells #[.pointer (some ⟨r, 0, none⟩), .int .i64 i] 74)) w' (KR KX r) → SameK W w' (KR K r) from ⟨hRX, hX0, hX1, hXS⟩)
  clear hRX hbX hX0 hX1 hXS hKX hb1 hmk hbe hbl
  go_upto_region 7 with fail
  refine fresh_world (fun W2 => Rig w W2 KX r n N d G.D G.s ∧ W2.cell? ⟨W1.heap.size, 0, none⟩ = some (.pointer (some ⟨r, 0, none⟩)) ∧ W2.cell? ⟨W1.heap.size, 1, none⟩ = some (.int .i64 i) ∧ ∀ w', SameK W2 w' (KR KX r) → SameK W w' (KR K r)) hall.out ?_
  clear hall
  generalize W1.heap.size = X at hXK hXL
  clear W1
  rintro W2 ⟨hR2, x0, x1, hXS⟩
  have hXSH := Lib.hid hXS
  clear hXS
  have hr2 := Lib.hid (hrs.out _ _ hR2)
  clear hR2 hrs
  go_wp2_with fail
  refine hr2.out.mono ?_
  rintro e W3 ⟨rfl, hP⟩
  obtain ⟨K3, k3, hR3, hs3⟩ := hP
  have hfin := Lib.hid (⟨K3, fun x hx => k3 x (hKK x hx), hR3, hXSH.out _ hs3⟩ : MPost w W K r n N d G W3)
  clear k3 hR3 hs3 hXSH hr2 x0 x1 hKK hXK
  go_wp2_with fail
  go_ret2
  exact ⟨rfl, hfin.out⟩
set_option maxRecDepth 100000 in
set_option maxHeartbeats 4000000 in
theorem format_ok (i : Nat) (A : Option Addr) (cap : Nat) (rs : List Rc) (h : Rig w W K r n N d G.D G.s) (hok : RgOk n G c) (hc : c ≤ 4611686018427370000) (hi : i < n) (hn0 : 0 < n) (hfit : FmOk n rs G.s.bl) (he1 : (rsP n G i 1).1 = 0) (he2 : (bgP n (rsP n G i 1).2 i 0 (begT 1 rs)).1 = 0) (hT : Tab w) (hI : RecsIn W A rs) (hl : rs.length ≤ 100000) :
    Calls Tryz.prog 8 #[.pointer (some ⟨r, 0, none⟩), .int .i64 (i : Int), .slice A rs.length cap] W (FPost w W K r n N d (bgP n (rsP n G i 1).2 i 0 (begT 1 rs)).2 ⟨i, 0, 1, blk (begL 1 rs), false⟩) := by
  have hTW : Tab W := hT.below h.fam.b
  have hbe := Lib.hid (beginning_any 1 A cap rs G.s.bl W hTW hI hl (by omega))
  have hbl := Lib.hid (rblocks_any h)
  rw [if_pos hfit.ok, if_pos hfit.fit] at hbe
  have hsz := begT_size (rs := rs) (g := 1) (by omega) hfit.ok
  have hbb := begL_blk (g := 1) rs
  have hble := blk_le rs
  have hs9 : (begT 1 rs).size ≤ 9223372036854775807 := by omega
  have hbo := Lib.hid (fun W => blocks_m (begT 1 rs) hs9 W)
  rw [hsz, show 64 * blk (begL 1 rs) / 64 = blk (begL 1 rs) by omega] at hbo
  have hmk := Lib.hid (fun W1 (hb : Below W.heap.size W W1) => (h.grown hb).keep (.cells #[.pointer (some ⟨r, 0, none⟩), .int .i64 (i : Int)] 74))
  have hrl := h.lt
  have hrs := Lib.hid (fun W' K' (hR : Rig w W' K' r n N d G.D G.s) => mreset_any i 1 hR hok (by omega) hi)
  have hok1 : RgOk n (rsP n G i 1).2 (c + 1) := hok.do_ hi ..
  have hbg := Lib.hid (fun W' K' (hR : Rig w W' K' r n N d (rsP n G i 1).2.D (rsP n G i 1).2.s) => mbegin_any i 0 (begT 1 rs) hR hok1 (by omega) hi hs9)
  rw [he1] at hrs
  rw [he2] at hbg
  clear hTW hT hI h hsz hbb hble hs9 hfit hok hok1 hc he1 he2
  generalize blk (begL 1 rs) = nb at hbo ⊢
  generalize begT 1 rs = T at hbe hbg hbo ⊢
  generalize (rsP n G i 1).2 = G1 at hrs hbg ⊢
  generalize (bgP n G1 i 0 T).2 = G2 at hbg ⊢
  obtain ⟨ii, hii⟩ : ∃ ii : Int, ii = (i : Int) := ⟨_, rfl⟩
  have hiiH := Lib.hid hii
  rw [← hii] at hrs hbg hmk ⊢
  clear hii
  go_enter Tryz.func8, Tryz.ntmps8
  go_wp2_with fail
  refine hbl.out.mono ?_
  rintro e W1 ⟨rfl, rfl⟩
  go_wp2_with fail
  refine hbe.out.mono ?_
  rintro e W1 ⟨rfl, hb1⟩
  have hRX := hmk.out _ hb1
  have hbX : Below W.heap.size W (W1.alloc (.cells #[.pointer (some ⟨r, 0, none⟩), .int .i64 ii] 74)) := hb1.alloc hb1.size _
  have hX0 : (W1.alloc (.cells #[.pointer (some ⟨r, 0, none⟩), .int .i64 ii] 74)).cell? ⟨W1.heap.size, 0, none⟩ = some (.pointer (some ⟨r, 0, none⟩)) := by simp [World.cell?_alloc_new]
  have hX1 : (W1.alloc (.cells #[.pointer (some ⟨r, 0, none⟩), .int .i64 ii] 74)).cell? ⟨W1.heap.size, 1, none⟩ = some (.int .i64 ii) := by simp [World.cell?_alloc_new]
  have hXK : KR (boxK W1 K) r W1.heap.size := boxK_at W1 K r (Nat.lt_of_lt_of_le hrl hb1.size)
  have hXL : W.heap.size ≤ W1.heap.size := hb1.size
  obtain ⟨KX, hKX⟩ : ∃ KX, KX = boxK W1 K := ⟨_, rfl⟩
  have hKK : ∀ x, K x → KX x := by rw [hKX]; exact fun _ hx => .inl hx
  have hXS : ∀ w', SameK (W1.alloc (.cells #[.pointer (some ⟨r, 0, none⟩), .int .i64 ii] 74)) w' (KR KX r) → SameK W w' (KR K r) := fun w' h => by
    rw [hKX] at h
    exact ⟨Nat.le_trans hbX.size h.1, fun b hl hk => (h.2 b (Nat.lt_of_lt_of_le hl hbX.size) ⟨.inl hk.1, hk.2⟩).trans (hbX.block b hl)⟩
  rw [← hKX] at hRX hXK
  have hall := Lib.hid (show Rig w (W1.alloc (.cells #[.pointer (some ⟨r, 0, none⟩), .int .i64 ii] 74)) KX r n N d G.D G.s ∧ (W1.alloc (.cells #[.pointer (some ⟨r, 0, none⟩), .int .i64 ii] 74)).cell? ⟨W1.heap.size, 0, none⟩ = some (.pointer (some ⟨r, 0, none⟩)) ∧ (W1.alloc (.cells #[.pointer (some ⟨r, 0, none⟩), .int .i64 ii] 74)).cell? ⟨W1.heap.size, 1, none⟩ = some (.int .i64 ii) ∧ ∀ w', SameK (W1.alloc (.cells #[.pointer (some ⟨r, 0, none⟩), .int .i64 ii] 74)) w' (KR KX r) → SameK W w' (KR K r) from ⟨hRX, hX0, hX1, hXS⟩)
  clear hRX hbX hX0 hX1 hXS hKX hb1 hmk hbe hbl
  go_upto_region 7 with fail
  refine fresh_world (fun W2 => Rig w W2 KX r n N d G.D G.s ∧ W2.cell? ⟨W1.heap.size, 0, none⟩ = some (.pointer (some ⟨r, 0, none⟩)) ∧ W2.cell? ⟨W1.heap.size, 1, none⟩ = some (.int .i64 ii) ∧ ∀ w', SameK W2 w' (KR KX r) → SameK W w' (KR K r)) hall.out ?_
  clear hall
  generalize W1.heap.size = X at hXK hXL
  clear W1
  rintro W2 ⟨hR2, x0, x1, hXS⟩
  have hXSH := Lib.hid hXS
  clear hXS
  have hr2 := Lib.hid (hrs.out _ _ hR2)
  have hx2 := Lib.hid (And.intro x0 x1)
  clear hR2 hrs
  go_wp2_with fail
  clear x0 x1
  refine hr2.out.mono ?_
  rintro e W4 ⟨rfl, hP⟩
  obtain ⟨K4, k4, hR4, hs4⟩ := hP
  have x0 := hs4.cell hx2.out.1 hXK
  have x1 := hs4.cell hx2.out.2 hXK
  have hs4H := Lib.hid hs4
  have hr4 := Lib.hid (hbg.out _ _ hR4)
  have hx4 := Lib.hid (And.intro x0 x1)
  clear hR4 hbg hr2 hs4 hx2
  go_wp2_with fail
  clear x0 x1
  refine hr4.out.mono ?_
  rintro e W3 ⟨rfl, hP⟩
  obtain ⟨K3, k3, hR3, hs3⟩ := hP
  have hXK4 : KR K4 r X := ⟨k4 _ hXK.1, hXK.2⟩
  have x0 := hs3.cell hx4.out.1 hXK4
  have x1 := hs3.cell hx4.out.2 hXK4
  have hx3 := And.intro x0 x1
  have hsW : SameK W W3 (KR K r) := hXSH.out _ (hs4H.out.trans ⟨hs3.1, fun x hx hk => hs3.2 x hx ⟨k4 x hk.1, hk.2⟩⟩)
  have hkk : ∀ x, K x → K3 x := fun x hx => k3 x (k4 x (hKK x hx))
  have hnew := (hR3.grown ((Below.refl W3.heap.size W3).drew)).keep (.cells #[.pointer (some ⟨r, 0, none⟩), .int .i64 ii, .int .i64 0, .int .i64 1, .int .i64 (nb : Int), .bool false] 78)
  have hlog : LogAt (W3.drew.alloc (.cells #[.pointer (some ⟨r, 0, none⟩), .int .i64 ii, .int .i64 0, .int .i64 1, .int .i64 (nb : Int), .bool false] 78)) W3.heap.size r ⟨i, 0, 1, (nb : Int), false⟩ := by
    have h := LogAt.new W3.drew r ⟨i, 0, 1, (nb : Int), false⟩
    rw [hiiH.out]
    exact h
  have hne : W3.heap.size ≠ r := by have := hR3.lt; omega
  have hge : w.heap.size ≤ W3.heap.size := hR3.fam.b.size
  have hfin := Lib.hid (⟨W3.heap.size, _, rfl, fun x hx => .inl (hkk x hx), ⟨hnew, hlog, .inr rfl, hne, hge, hn0⟩, ⟨Nat.le_trans hsW.1 (by simp), fun b hb hk => ((((Below.refl W3.heap.size W3).drew).alloc (Nat.le_refl _) _).block b (Nat.lt_of_lt_of_le hb hsW.1)).trans (hsW.2 b hb hk)⟩, hsW.1⟩ : FPost w W K r n N d G2 ⟨i, 0, 1, (nb : Int), false⟩ (.returned (.tuple #[.pointer (some ⟨W3.heap.size, 0, none⟩), .int .i64 0])) _)
  have hS9 := Lib.hid (show (fun V => V.cell? ⟨X, 0, none⟩ = some (.pointer (some ⟨r, 0, none⟩)) ∧ V.cell? ⟨X, 1, none⟩ = some (.int .i64 ii)) (W3.drew.alloc (.cells #[.pointer (some ⟨r, 0, none⟩), .int .i64 ii, .int .i64 0, .int .i64 1, .int .i64 (nb : Int), .bool false] 78)) from ⟨(((Below.refl W3.heap.size W3.drew).alloc (Nat.le_refl _) _).cell (p := ⟨X, 0, none⟩) (lt_of_cell x0)).trans x0, (((Below.refl W3.heap.size W3.drew).alloc (Nat.le_refl _) _).cell (p := ⟨X, 1, none⟩) (lt_of_cell x0)).trans x1⟩)
  clear hnew hlog hkk hsW hs3 hR3 k3 k4 hs4H hXSH hr4 hx4 hXK hXK4 hKK
  go_upto_region 13 with fail
  refine region_anyC (fun _ => true) (fun V => V.cell? ⟨X, 0, none⟩ = some (.pointer (some ⟨r, 0, none⟩)) ∧ V.cell? ⟨X, 1, none⟩ = some (.int .i64 ii)) (by kernel_rfl) ?_
  have hS : (fun V => V.cell? ⟨X, 0, none⟩ = some (.pointer (some ⟨r, 0, none⟩)) ∧ V.cell? ⟨X, 1, none⟩ = some (.int .i64 ii)) W3.drew := hx3
  refine anyL_take 0 (v := ?_) rfl (by kernel_rfl) (fun _ _ _ h => h) (Or.inl ⟨by rfl, ?_⟩) hS ?_
  rotate_left
  focus (intro W hW; obtain ⟨b0, b1⟩ := hW; go_simp; try with_reducible rfl)
  simp only [Act.put, List.setIfInBounds_toArray, List.set_cons_zero, List.set_cons_succ]
  refine anyL_take 1 (v := ?_) rfl (by kernel_rfl) (fun _ _ _ h => h) (Or.inl ⟨by rfl, ?_⟩) hS ?_
  rotate_left
  focus (intro W hW; go_simp; try with_reducible rfl)
  simp only [Act.put, List.setIfInBounds_toArray, List.set_cons_zero, List.set_cons_succ]
  refine anyL_one 2 rfl (by kernel_rfl) (fun K hK => ?_)
  go_simp
  refine (hbo.out _).mono ?_
  rintro e' wt ⟨rfl, rfl⟩
  refine hK.out _ _ (fun _ => hS) ?_
  clear hK K
  try simp only [Act.put, List.setIfInBounds_toArray, List.set_cons_zero, List.set_cons_succ]
  refine anyL_take 3 (v := ?_) rfl (by kernel_rfl) (fun _ _ _ h => h) (Or.inl ⟨by rfl, ?_⟩) hS ?_
  rotate_left
  focus (intro W hW; go_simp; try with_reducible rfl)
  simp only [Act.put, List.setIfInBounds_toArray, List.set_cons_zero, List.set_cons_succ]
  refine anyL_one 4 rfl (by kernel_rfl) (fun K hK => ?_)
  go_simp
  refine hK.out _ _ (fun _ => hS9.out) ?_
  clear hK K
  try simp only [Act.put, List.setIfInBounds_toArray, List.set_cons_zero, List.set_cons_succ]
  refine anyL_take 5 (v := ?_) rfl (by kernel_rfl) (fun _ _ _ h => h) (Or.inl ⟨by rfl, ?_⟩) hS9.out ?_
  rotate_left
  focus (intro W hW; go_simp; try with_reducible rfl)
  simp only [Act.put, List.setIfInBounds_toArray, List.set_cons_zero, List.set_cons_succ]
  refine anyL_take 6 (v := ?_) rfl (by kernel_rfl) (fun _ _ _ h => h) (Or.inl ⟨by rfl, ?_⟩) hS9.out ?_
  rotate_left
  focus (intro W hW; go_simp; try with_reducible rfl)
  simp only [Act.put, List.setIfInBounds_toArray, List.set_cons_zero, List.set_cons_succ]
  refine anyC_done (by kernel_rfl) ?_ _
  clear hS hS9 x0 x1 hx3
  go_wp2_with fail
  go_ret2
  exact hfin.out
end
end Go.Proofs.YtpmhfalhieinjaaGreatDoor
