/- What the small functions of mlog do: blocks, marks, and a log's medium. -/
import Derived.Test.YtpmhfalhieinjaaGreatDoorMlgM
import Derived.Test.YtpmhfalhieinjaaGreatDoorMEmp
namespace Go.Proofs.YtpmhfalhieinjaaGreatDoor
open Go.RowKit Zon Drv Rec

theorem blocks_m (s : ByteArray) (hs : s.size ≤ 9223372036854775807) (w : World) : Calls Tryz.prog 32 #[.string s] w fun e w' => e = .returned (.int .i64 ((s.size / 64 : Nat) : Int)) ∧ w = w' := by
  have hd : Int.tdiv (s.size : Int) 64 = ((s.size / 64 : Nat) : Int) := by rw [Int.tdiv_eq_ediv_of_nonneg (by omega)]; omega
  have hw : IntKind.i64.wrap ((s.size / 64 : Nat) : Int) = ((s.size / 64 : Nat) : Int) := IntWalk.i64_in _ (by omega)
  go_enter Tryz.func32, Tryz.ntmps32
  go_wp2
  go_ret
  exact ⟨rfl, rfl⟩
def isMk (r : Rc) : Bool := decide (r.k = 1 ∨ r.k = 2)
theorem mark_is (r : Rc) (w : World) : Calls Tryz.prog 65 #[.agg #[.int .i64 r.k, .int .i64 r.s, .int .i64 r.a, .int .i64 r.b, .int .i64 r.c, .int .i64 r.d, .string r.body]] w fun e w' => e = .returned (.bool (isMk r)) ∧ Below w.heap.size w w' := by
  unfold isMk
  by_cases h1 : r.k = 1
  · have h1b : (r.k == 1) = true := by simp [h1]
    rw [decide_eq_true (.inl h1)]
    clear h1
    go_enter Tryz.func65, Tryz.ntmps65
    go_wp2
    go_ret
    exact ⟨rfl, (Below.refl _ _).alloc (Nat.le_refl _) _⟩
  · have h1b : (r.k == 1) = false := by simp [h1]
    by_cases h2 : r.k = 2
    · have h2b : (r.k == 2) = true := by simp [h2]
      rw [decide_eq_true (.inr h2)]
      clear h1 h2
      go_enter Tryz.func65, Tryz.ntmps65
      go_wp2
      go_ret
      exact ⟨rfl, (Below.refl _ _).alloc (Nat.le_refl _) _⟩
    · have h2b : (r.k == 2) = false := by simp [h2]
      rw [decide_eq_false (fun h => h.elim h1 h2)]
      clear h1 h2
      go_enter Tryz.func65, Tryz.ntmps65
      go_wp2
      go_ret
      exact ⟨rfl, (Below.refl _ _).alloc (Nat.le_refl _) _⟩
def markR (k g : Int) : Rc := ⟨k, 0, 0, 0, g, 0, ⟨#[]⟩⟩
theorem mark_any (k g : Int) (w : World) (hT : Tab w) : Calls Tryz.prog 58 #[.int .i64 k, .int .i64 g] w fun e w' => e = .returned (.string (encS (markR k g))) ∧ Below w.heap.size w w' := by
  have he := Lib.hid (encode_any (markR k g) w hT)
  unfold markR at he ⊢
  dsimp only at he
  clear hT
  generalize encS _ = t at he ⊢
  generalize (if good _ = true then (0 : Int) else 1) = v at he
  go_enter Tryz.func58, Tryz.ntmps58
  go_wp2_with fail
  refine he.out.mono ?_
  rintro e w1 ⟨rfl, hb⟩
  go_wp2_with fail
  go_ret
  exact ⟨rfl, hb⟩

section
variable {w W : World} {K : Nat → Prop} {r n N : Nat} {d : Nat → Nat} {G : Rg} {c : Int}
theorem Rig.grown {W' : World} {D : Nat → Dr} {s : Rs} (h : Rig w W K r n N d D s) (hb : Below W.heap.size W W') : Rig w W' K r n N d D s :=
  h.below hb (fun _ hx => .inl hx) (fun x hx => Nat.lt_of_lt_of_le (h.fam.kb x hx) hb.size) (fun _ _ hx => hx)
/-- What a medium's Reset, and its write, does. -/
def rsP (n : Nat) (G : Rg) (i : Nat) (z : Int) : Int × Rg := ((rgDo n G i 3 z 0 0 []).1.2.2, (rgDo n G i 3 z 0 0 []).2)
def wrP (n : Nat) (G : Rg) (i : Nat) (z : Int) (t : ByteArray) : Int × Rg := ((rgDo n G i 2 z 0 ((t.size / 64 : Nat) : Int) t.data.toList).1.2.2, (rgDo n G i 2 z 0 ((t.size / 64 : Nat) : Int) t.data.toList).2)
def bgP (n : Nat) (G : Rg) (i : Nat) (z : Int) (t : ByteArray) : Int × Rg :=
  if (rsP n G i z).1 ≠ 0 then rsP n G i z
  else if (wrP n (rsP n G i z).2 i z t).1 ≠ 0 then wrP n (rsP n G i z).2 i z t
  else rgFlush n (wrP n (rsP n G i z).2 i z t).2 i
theorem boxK_at (W : World) (K : Nat → Prop) (r : Nat) (hr : r < W.heap.size) : KR (boxK W K) r W.heap.size := ⟨.inr rfl, by omega⟩
theorem mreset_any (i : Nat) (z : Int) (h : Rig w W K r n N d G.D G.s) (hok : RgOk n G c) (hc : c ≤ 4611686018427387904) (hi : i < n) :
    Calls Tryz.prog 30 #[.agg #[.pointer (some ⟨r, 0, none⟩), .int .i64 (i : Int)], .int .i64 z] W fun e w' => e = .returned (.int .i64 (rsP n G i z).1) ∧ MPost w W K r n N d (rsP n G i z).2 w' := by
  have hR := h.keep (.cells #[.pointer (some ⟨r, 0, none⟩), .int .i64 (i : Int)] 74)
  have hdo := Lib.hid (mdo_any i 3 z 0 0 ⟨#[]⟩ hR hok hc hi (by omega) (by decide))
  have hb : Below W.heap.size W (W.alloc (.cells #[.pointer (some ⟨r, 0, none⟩), .int .i64 (i : Int)] 74)) := (Below.refl _ _).alloc (Nat.le_refl _) _
  have hbH := Lib.hid hb
  unfold rsP
  rw [show (⟨#[]⟩ : ByteArray).data.toList = [] from rfl] at hdo
  clear h hok hR hb
  generalize rgDo n G i 3 z 0 0 [] = R at hdo ⊢
  obtain ⟨⟨t, at', er⟩, G'⟩ := R
  dsimp only at hdo ⊢
  go_enter Tryz.func30, Tryz.ntmps30
  go_wp2_with fail
  refine hdo.out.mono ?_
  rintro e w1 ⟨rfl, hP⟩
  go_wp2_with fail
  go_ret
  refine ⟨rfl, ?_⟩
  obtain ⟨K', h1, h2, h3⟩ := hP
  exact ⟨K', fun x hx => h1 x (.inl hx), h2, keep_same hbH.out h3⟩
/-- There is no such drive. -/
theorem mreset_none (i z : Int) (h : Rig w W K r n N d G.D G.s) (hi : ¬ (0 ≤ i ∧ i < n)) :
    Calls Tryz.prog 30 #[.agg #[.pointer (some ⟨r, 0, none⟩), .int .i64 i], .int .i64 z] W fun e w' => e = .returned (.int .i64 1) ∧ MPost w W K r n N d G w' := by
  have hR := h.keep (.cells #[.pointer (some ⟨r, 0, none⟩), .int .i64 i] 74)
  have hb : Below W.heap.size W (W.alloc (.cells #[.pointer (some ⟨r, 0, none⟩), .int .i64 i] 74)) := (Below.refl _ _).alloc (Nat.le_refl _) _
  have hbH := Lib.hid hb
  obtain ⟨W1, hW1⟩ : ∃ W1, W1 = W.alloc (.cells #[.pointer (some ⟨r, 0, none⟩), .int .i64 i] 74) := ⟨_, rfl⟩
  have hx0 : W1.cell? ⟨W.heap.size, 0, none⟩ = some (.pointer (some ⟨r, 0, none⟩)) := by rw [hW1]; simp [World.cell?_alloc_new]
  have hx1 : W1.cell? ⟨W.heap.size, 1, none⟩ = some (.int .i64 i) := by rw [hW1]; simp [World.cell?_alloc_new]
  rw [← hW1] at hR hbH
  have hdo := Lib.hid (rdo_no i 3 z 0 0 ⟨#[]⟩ 1 (fun w' => Rig w w' (boxK W1 (boxK W K)) r n N d G.D G.s ∧ SameK (boxW W1 3 z 0 0) w' (KR (boxK W1 (boxK W K)) r)) (by decide) ((adm_none i (3 != 7) (hR.boxed 3 z 0 0) hi).mono fun e w' ⟨h1, h2⟩ => by subst h2; exact ⟨h1, hR.boxed 3 z 0 0, SameK.refl _ _⟩))
  clear h hR hb
  go_enter Tryz.func30, Tryz.ntmps30
  go_upto_region 1 with fail
  rw [← hW1]
  clear hW1
  go_wp2_with fail
  refine hdo.out.mono ?_
  rintro e w1 ⟨rfl, h2, h3⟩
  have hfin := Lib.hid (⟨boxK W1 (boxK W K), fun x hx => .inl (.inl hx), h2, keep_same hbH.out (boxed_same h3)⟩ : MPost w W K r n N d G w1)
  clear h2 h3 hdo hx0 hx1
  go_wp2_with fail
  go_ret
  exact ⟨rfl, hfin.out⟩
theorem mwrite_any (i : Nat) (z : Int) (t : ByteArray) (h : Rig w W K r n N d G.D G.s) (hok : RgOk n G c) (hc : c ≤ 4611686018427387904) (hi : i < n) (hs : t.size ≤ 9223372036854775807) :
    Calls Tryz.prog 38 #[.agg #[.pointer (some ⟨r, 0, none⟩), .int .i64 (i : Int)], .int .i64 z, .string t] W fun e w' => e = .returned (.int .i64 (wrP n G i z t).1) ∧ MPost w W K r n N d (wrP n G i z t).2 w' := by
  have hR := h.keep (.cells #[.pointer (some ⟨r, 0, none⟩), .int .i64 (i : Int)] 74)
  have hb : Below W.heap.size W (W.alloc (.cells #[.pointer (some ⟨r, 0, none⟩), .int .i64 (i : Int)] 74)) := (Below.refl _ _).alloc (Nat.le_refl _) _
  have hx0 : (W.alloc (.cells #[.pointer (some ⟨r, 0, none⟩), .int .i64 (i : Int)] 74)).cell? ⟨W.heap.size, 0, none⟩ = some (.pointer (some ⟨r, 0, none⟩)) := by simp [World.cell?_alloc_new]
  have hx1 : (W.alloc (.cells #[.pointer (some ⟨r, 0, none⟩), .int .i64 (i : Int)] 74)).cell? ⟨W.heap.size, 1, none⟩ = some (.int .i64 (i : Int)) := by simp [World.cell?_alloc_new]
  have hrl := h.lt
  have hnb := h.nb
  obtain ⟨W1, hW1⟩ : ∃ W1, W1 = W.alloc (.cells #[.pointer (some ⟨r, 0, none⟩), .int .i64 (i : Int)] 74) := ⟨_, rfl⟩
  rw [← hW1] at hR hb hx0 hx1
  have hdo := Lib.hid (fun V (hV : Below W1.heap.size W1 V) => mdo_any i 2 z 0 ((t.size / 64 : Nat) : Int) t (hR.grown hV) hok hc hi (by omega) hs)
  have hbl := Lib.hid (fun W => blocks_m t hs W)
  have hbH := Lib.hid hb
  have hc0 := Lib.hid hx0
  have hc1 := Lib.hid hx1
  have hlt : W.heap.size < W1.heap.size := lt_of_cell hx0
  have hkp : Hid (∀ {G' : Rg} {V : World}, MPost w W1 (boxK W K) r n N d G' V → V.cell? ⟨W.heap.size, 0, none⟩ = some (.pointer (some ⟨r, 0, none⟩)) ∧ V.cell? ⟨W.heap.size, 1, none⟩ = some (.int .i64 (i : Int))) := Lib.hid fun hP => by
    obtain ⟨K', _, _, h3⟩ := hP
    exact ⟨h3.cell hc0.out (boxK_at W K r hrl), h3.cell hc1.out (boxK_at W K r hrl)⟩
  unfold wrP
  clear h hok hR hb hs hx0 hx1
  generalize ((t.size / 64 : Nat) : Int) = nb at hdo hbl ⊢
  generalize rgDo n G i 2 z 0 nb t.data.toList = R at hdo ⊢
  obtain ⟨⟨t', at', er⟩, G'⟩ := R
  dsimp only at hdo ⊢
  go_enter Tryz.func38, Tryz.ntmps38
  go_upto_region 1 with fail
  rw [← hW1]
  clear hW1
  refine region_anyC (fun _ => true) (fun V => V.cell? ⟨W.heap.size, 0, none⟩ = some (.pointer (some ⟨r, 0, none⟩)) ∧ V.cell? ⟨W.heap.size, 1, none⟩ = some (.int .i64 (i : Int))) (by kernel_rfl) ?_
  have hS : (fun V => V.cell? ⟨W.heap.size, 0, none⟩ = some (.pointer (some ⟨r, 0, none⟩)) ∧ V.cell? ⟨W.heap.size, 1, none⟩ = some (.int .i64 (i : Int))) (W1.drew) := ⟨hc0.out, hc1.out⟩
  refine anyL_take 0 (v := ?_) rfl (by kernel_rfl) (fun _ _ _ h => h) (Or.inl ⟨by rfl, ?_⟩) hS ?_
  rotate_left
  focus (intro W hW; go_simp; try with_reducible rfl)
  simp only [Act.put, List.setIfInBounds_toArray, List.set_cons_zero, List.set_cons_succ]
  refine anyL_take 1 (v := ?_) rfl (by kernel_rfl) (fun _ _ _ h => h) (Or.inl ⟨by rfl, ?_⟩) hS ?_
  rotate_left
  focus (intro W hW; obtain ⟨b0, b1⟩ := hW; go_simp; try with_reducible rfl)
  simp only [Act.put, List.setIfInBounds_toArray, List.set_cons_zero, List.set_cons_succ]
  refine anyL_take 2 (v := ?_) rfl (by kernel_rfl) (fun _ _ _ h => h) (Or.inl ⟨by rfl, ?_⟩) hS ?_
  rotate_left
  focus (intro W hW; go_simp; try with_reducible rfl)
  simp only [Act.put, List.setIfInBounds_toArray, List.set_cons_zero, List.set_cons_succ]
  refine anyL_take 3 (v := ?_) rfl (by kernel_rfl) (fun _ _ _ h => h) (Or.inl ⟨by rfl, ?_⟩) hS ?_
  rotate_left
  focus (intro W hW; obtain ⟨b0, b1⟩ := hW; go_simp; try with_reducible rfl)
  simp only [Act.put, List.setIfInBounds_toArray, List.set_cons_zero, List.set_cons_succ]
  refine anyL_take 4 (v := ?_) rfl (by kernel_rfl) (fun _ _ _ h => h) (Or.inl ⟨by rfl, ?_⟩) hS ?_
  rotate_left
  focus (intro W hW; go_simp; try with_reducible rfl)
  simp only [Act.put, List.setIfInBounds_toArray, List.set_cons_zero, List.set_cons_succ]
  refine anyL_take 5 (v := ?_) rfl (by kernel_rfl) (fun _ _ _ h => h) (Or.inl ⟨by rfl, ?_⟩) hS ?_
  rotate_left
  focus (intro W hW; go_simp; try with_reducible rfl)
  simp only [Act.put, List.setIfInBounds_toArray, List.set_cons_zero, List.set_cons_succ]
  refine anyL_take 8 (v := ?_) rfl (by kernel_rfl) (fun _ _ _ h => h) (Or.inl ⟨by rfl, ?_⟩) hS ?_
  rotate_left
  focus (intro W hW; go_simp; try with_reducible rfl)
  simp only [Act.put, List.setIfInBounds_toArray, List.set_cons_zero, List.set_cons_succ]
  refine anyL_one 6 rfl (by kernel_rfl) (fun K hK => ?_)
  go_simp
  refine (hbl.out _).mono ?_
  rintro e' wt ⟨rfl, rfl⟩
  refine hK.out _ _ (fun _ => hS) ?_
  clear hK K
  try simp only [Act.put, List.setIfInBounds_toArray, List.set_cons_zero, List.set_cons_succ]
  refine anyL_take 7 (v := ?_) rfl (by kernel_rfl) (fun _ _ _ h => h) (Or.inl ⟨by rfl, ?_⟩) hS ?_
  rotate_left
  focus (intro W hW; go_simp; try with_reducible rfl)
  simp only [Act.put, List.setIfInBounds_toArray, List.set_cons_zero, List.set_cons_succ]
  refine anyL_one 9 rfl (by kernel_rfl) (fun K hK => ?_)
  go_simp
  refine (hdo.out _ (Below.refl _ _).drew).mono ?_
  rintro e' wd ⟨rfl, hP⟩
  have hS2 : (fun V => V.cell? ⟨W.heap.size, 0, none⟩ = some (.pointer (some ⟨r, 0, none⟩)) ∧ V.cell? ⟨W.heap.size, 1, none⟩ = some (.int .i64 (i : Int))) wd := hkp.out hP
  refine hK.out _ _ (fun _ => hS2) ?_
  clear hK K
  try simp only [Act.put, List.setIfInBounds_toArray, List.set_cons_zero, List.set_cons_succ]
  refine anyL_take 10 (v := ?_) rfl (by kernel_rfl) (fun _ _ _ h => h) (Or.inl ⟨by rfl, ?_⟩) hS2 ?_
  rotate_left
  focus (intro W hW; go_simp; try with_reducible rfl)
  simp only [Act.put, List.setIfInBounds_toArray, List.set_cons_zero, List.set_cons_succ]
  refine anyL_take 11 (v := ?_) rfl (by kernel_rfl) (fun _ _ _ h => h) (Or.inl ⟨by rfl, ?_⟩) hS2 ?_
  rotate_left
  focus (intro W hW; go_simp; try with_reducible rfl)
  simp only [Act.put, List.setIfInBounds_toArray, List.set_cons_zero, List.set_cons_succ]
  refine anyL_take 12 (v := ?_) rfl (by kernel_rfl) (fun _ _ _ h => h) (Or.inl ⟨by rfl, ?_⟩) hS2 ?_
  rotate_left
  focus (intro W hW; go_simp; try with_reducible rfl)
  simp only [Act.put, List.setIfInBounds_toArray, List.set_cons_zero, List.set_cons_succ]
  refine anyL_take 13 (v := ?_) rfl (by kernel_rfl) (fun _ _ _ h => h) (Or.inl ⟨by rfl, ?_⟩) hS2 ?_
  rotate_left
  focus (intro W hW; go_simp; try with_reducible rfl)
  simp only [Act.put, List.setIfInBounds_toArray, List.set_cons_zero, List.set_cons_succ]
  refine anyL_take 14 (v := ?_) rfl (by kernel_rfl) (fun _ _ _ h => h) (Or.inl ⟨by rfl, ?_⟩) hS2 ?_
  rotate_left
  focus (intro W hW; go_simp; try with_reducible rfl)
  simp only [Act.put, List.setIfInBounds_toArray, List.set_cons_zero, List.set_cons_succ]
  refine anyL_take 15 (v := ?_) rfl (by kernel_rfl) (fun _ _ _ h => h) (Or.inl ⟨by rfl, ?_⟩) hS2 ?_
  rotate_left
  focus (intro W hW; go_simp; try with_reducible rfl)
  simp only [Act.put, List.setIfInBounds_toArray, List.set_cons_zero, List.set_cons_succ]
  refine anyL_take 16 (v := ?_) rfl (by kernel_rfl) (fun _ _ _ h => h) (Or.inl ⟨by rfl, ?_⟩) hS2 ?_
  rotate_left
  focus (intro W hW; go_simp; try with_reducible rfl)
  simp only [Act.put, List.setIfInBounds_toArray, List.set_cons_zero, List.set_cons_succ]
  refine anyC_done (by kernel_rfl) ?_ _
  obtain ⟨K', k1, k2, k3⟩ := hP
  have hfin := Lib.hid (⟨K', fun x hx => k1 x (.inl hx), k2, keep_same hbH.out k3⟩ : MPost w W K r n N d G' wd)
  clear hS hS2 hdo hbl hkp hc0 hc1 k1 k2 k3 hbH
  go_wp2_with fail
  go_ret
  exact ⟨rfl, hfin.out⟩
theorem mbegin_any (i : Nat) (z : Int) (t : ByteArray) (h : Rig w W K r n N d G.D G.s) (hok : RgOk n G c) (hc : c ≤ 4611686018427380000) (hi : i < n) (hs : t.size ≤ 9223372036854775807) :
    Calls Tryz.prog 31 #[.agg #[.pointer (some ⟨r, 0, none⟩), .int .i64 (i : Int)], .int .i64 z, .string t] W fun e w' => e = .returned (.int .i64 (bgP n G i z t).1) ∧ MPost w W K r n N d (bgP n G i z t).2 w' := by
  have hR := h.keep (.cells #[.pointer (some ⟨r, 0, none⟩), .int .i64 (i : Int)] 74)
  have hb : Below W.heap.size W (W.alloc (.cells #[.pointer (some ⟨r, 0, none⟩), .int .i64 (i : Int)] 74)) := (Below.refl _ _).alloc (Nat.le_refl _) _
  have hx0 : (W.alloc (.cells #[.pointer (some ⟨r, 0, none⟩), .int .i64 (i : Int)] 74)).cell? ⟨W.heap.size, 0, none⟩ = some (.pointer (some ⟨r, 0, none⟩)) := by simp [World.cell?_alloc_new]
  have hx1 : (W.alloc (.cells #[.pointer (some ⟨r, 0, none⟩), .int .i64 (i : Int)] 74)).cell? ⟨W.heap.size, 1, none⟩ = some (.int .i64 (i : Int)) := by simp [World.cell?_alloc_new]
  have hrl := h.lt
  have hnb := h.nb
  have hBK := boxK_at W K r hrl
  have hrs := Lib.hid (mreset_any i z hR hok (by omega) hi)
  have hok1 : RgOk n (rsP n G i z).2 (c + 1) := hok.do_ hi ..
  have hok2 : RgOk n (wrP n (rsP n G i z).2 i z t).2 (c + 1 + 1) := hok1.do_ hi ..
  have hwr := Lib.hid (fun W' K' (hR : Rig w W' K' r n N d (rsP n G i z).2.D (rsP n G i z).2.s) => mwrite_any i z t hR hok1 (by omega) hi hs)
  have hfl := Lib.hid (fun W' K' (hR : Rig w W' K' r n N d (wrP n (rsP n G i z).2 i z t).2.D (wrP n (rsP n G i z).2 i z t).2.s) => mflush_any i hR hok2 (by omega) hi)
  have hbH := Lib.hid hb
  have hBH := Lib.hid hBK
  have hlt : W.heap.size < (W.alloc (.cells #[.pointer (some ⟨r, 0, none⟩), .int .i64 (i : Int)] 74)).heap.size := lt_of_cell hx0
  have hkp : Hid (∀ {K1 : Nat → Prop} {G' : Rg} {V V' : World}, (∀ x, boxK W K x → K1 x) → V.cell? ⟨W.heap.size, 0, none⟩ = some (.pointer (some ⟨r, 0, none⟩)) ∧ V.cell? ⟨W.heap.size, 1, none⟩ = some (.int .i64 (i : Int)) → MPost w V K1 r n N d G' V' → V'.cell? ⟨W.heap.size, 0, none⟩ = some (.pointer (some ⟨r, 0, none⟩)) ∧ V'.cell? ⟨W.heap.size, 1, none⟩ = some (.int .i64 (i : Int))) := Lib.hid fun hk hc hP => by
    obtain ⟨K', _, _, h3⟩ := hP
    exact ⟨h3.cell hc.1 ⟨hk _ hBH.out.1, hBH.out.2⟩, h3.cell hc.2 ⟨hk _ hBH.out.1, hBH.out.2⟩⟩
  have hxx := Lib.hid (And.intro hx0 hx1)
  unfold bgP
  clear h hok hR hb hs hok1 hok2 hc hBK
  generalize rsP n G i z = R1 at hrs hwr hfl ⊢
  obtain ⟨e1, G1⟩ := R1
  dsimp only at hrs hwr hfl ⊢
  by_cases h1 : e1 = 0
  · subst h1
    simp only [ne_eq, not_true_eq_false, if_false]
    generalize wrP n G1 i z t = R2 at hwr hfl ⊢
    obtain ⟨e2, G2⟩ := R2
    dsimp only at hwr hfl ⊢
    by_cases h2 : e2 = 0
    · subst h2
      simp only [not_true_eq_false, if_false]
      generalize rgFlush n G2 i = R3 at hfl ⊢
      obtain ⟨e3, G3⟩ := R3
      dsimp only at hfl ⊢
      go_enter Tryz.func31, Tryz.ntmps31
      go_wp2_with fail
      clear hx0 hx1
      refine hrs.out.mono ?_
      rintro e w1 ⟨rfl, hP1⟩
      have hy1 := hkp.out (fun _ hx => hx) hxx.out hP1
      obtain ⟨K1, k1, hR1, hs1⟩ := hP1
      obtain ⟨y0, y1⟩ := hy1
      have hy1H := Lib.hid (And.intro y0 y1)
      have hw1 := Lib.hid (hwr.out _ _ hR1)
      clear hR1 hrs hwr
      go_wp2_with fail
      clear y0 y1
      refine hw1.out.mono ?_
      rintro e w2 ⟨rfl, hP2⟩
      have hy2 := hkp.out k1 hy1H.out hP2
      obtain ⟨K2, k2, hR2, hs2⟩ := hP2
      obtain ⟨y0, y1⟩ := hy2
      have hw2 := Lib.hid (hfl.out _ _ hR2)
      clear hR2 hfl hw1 hy1H
      go_wp2_with fail
      clear y0 y1
      refine hw2.out.mono ?_
      rintro e w3 ⟨rfl, hP3⟩
      have hfin : MPost w W K r n N d G3 w3 := by
        have q2 : MPost w w1 K1 r n N d G3 w3 := hP3.trans k2 hs2
        obtain ⟨K', q1, q3, q4⟩ := q2.trans k1 hs1
        exact ⟨K', fun x hx => q1 x (.inl hx), q3, keep_same hbH.out q4⟩
      have hfH := Lib.hid hfin
      clear hP3 hfin hs1 hs2 k1 k2 hw2
      go_wp2_with fail
      go_ret
      exact ⟨rfl, hfH.out⟩
    · have h2b : (e2 != 0) = true := by simp [h2]
      simp only [h2, not_false_eq_true, if_true]
      clear h2 hfl
      go_enter Tryz.func31, Tryz.ntmps31
      go_wp2_with fail
      clear hx0 hx1
      refine hrs.out.mono ?_
      rintro e w1 ⟨rfl, hP1⟩
      have hy1 := hkp.out (fun _ hx => hx) hxx.out hP1
      obtain ⟨K1, k1, hR1, hs1⟩ := hP1
      obtain ⟨y0, y1⟩ := hy1
      have hw1 := Lib.hid (hwr.out _ _ hR1)
      clear hR1 hrs hwr
      go_wp2_with fail
      clear y0 y1
      refine hw1.out.mono ?_
      rintro e w2 ⟨rfl, hP2⟩
      have hfin : MPost w W K r n N d G2 w2 := by
        obtain ⟨K', q1, q3, q4⟩ := hP2.trans k1 hs1
        exact ⟨K', fun x hx => q1 x (.inl hx), q3, keep_same hbH.out q4⟩
      have hfH := Lib.hid hfin
      clear hP2 hfin hs1 k1 hw1
      go_wp2_with fail
      go_ret
      exact ⟨rfl, hfH.out⟩
  · have h1b : (e1 != 0) = true := by simp [h1]
    simp only [ne_eq, h1, not_false_eq_true, if_true]
    clear h1 hfl hwr
    go_enter Tryz.func31, Tryz.ntmps31
    go_wp2_with fail
    clear hx0 hx1
    refine hrs.out.mono ?_
    rintro e w1 ⟨rfl, hP1⟩
    have hfin : MPost w W K r n N d G1 w1 := by
      obtain ⟨K', q1, q3, q4⟩ := hP1
      exact ⟨K', fun x hx => q1 x (.inl hx), q3, keep_same hbH.out q4⟩
    have hfH := Lib.hid hfin
    clear hP1 hfin hrs
    go_wp2_with fail
    go_ret
    exact ⟨rfl, hfH.out⟩
end
end Go.Proofs.YtpmhfalhieinjaaGreatDoor
