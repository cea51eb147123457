/- In which order zones are cleaned; MinFunc. -/
import Derived.Test.YtbgkmppngnedlaaPkA
import Derived.Lib.Small
namespace Go.Proofs.Ytbgkmppngnedlaa
open Go.RowKit Go.Shelf

theorem nan_any (a : Int) (W : World) : Calls Try.prog 84 #[.int .i64 a] W fun e w' => e = .returned (.bool false) ∧ w' = W := by
  have h : (a != a) = false := by simp
  go_enter Try.func84, Try.ntmps84
  go_wp2_with fail
  go_ret
  first | exact ⟨rfl, rfl⟩ | exact ⟨by simp, rfl⟩
theorem cmp_any (a b : Int) (W : World) : Calls Try.prog 50 #[.int .i64 a, .int .i64 b] W fun e w' => e = .returned (.int .i64 (Go.Lib.compareInt a b)) ∧ w' = W := by
  have h1 := Lib.hid (nan_any a)
  have h2 := Lib.hid (nan_any b)
  by_cases h : a < b
  · have e : Go.Lib.compareInt a b = -1 := by unfold Go.Lib.compareInt; rw [if_pos h]
    rw [e]
    clear e
    go_enter Try.func50, Try.ntmps50
    go_wp2_with fail
    (with_reducible refine (h1.out _).mono ?_)
    rintro e w1 ⟨rfl, rfl⟩
    go_wp2_with fail
    (with_reducible refine (h2.out _).mono ?_)
    rintro e w1 ⟨rfl, rfl⟩
    go_wp2_with fail
    go_ret
    exact ⟨rfl, rfl⟩
  · by_cases h' : b < a
    · have e : Go.Lib.compareInt a b = 1 := by unfold Go.Lib.compareInt; rw [if_neg h, if_pos h']
      rw [e]
      clear e
      go_enter Try.func50, Try.ntmps50
      go_wp2_with fail
      (with_reducible refine (h1.out _).mono ?_)
      rintro e w1 ⟨rfl, rfl⟩
      go_wp2_with fail
      (with_reducible refine (h2.out _).mono ?_)
      rintro e w1 ⟨rfl, rfl⟩
      go_wp2_with fail
      go_ret
      exact ⟨rfl, rfl⟩
    · have e : Go.Lib.compareInt a b = 0 := by unfold Go.Lib.compareInt; rw [if_neg h, if_neg h']
      rw [e]
      clear e
      go_enter Try.func50, Try.ntmps50
      go_wp2_with fail
      (with_reducible refine (h1.out _).mono ?_)
      rintro e w1 ⟨rfl, rfl⟩
      go_wp2_with fail
      (with_reducible refine (h2.out _).mono ?_)
      rintro e w1 ⟨rfl, rfl⟩
      go_wp2_with fail
      go_ret
      exact ⟨rfl, rfl⟩
theorem cmpI_eq (a b : Int) : Go.Lib.compareInt a b = cmpIZ a b := by unfold Go.Lib.compareInt cmpIZ; rfl
def or2 (a b : Int) : Int := if a ≠ 0 then a else b
set_option maxRecDepth 100000 in
theorem or2_any (W : World) (R : Nat) (a b : Int) (h0 : W.cell? ⟨R, 0, none⟩ = some (.int .i64 a)) (h1 : W.cell? ⟨R, 1, none⟩ = some (.int .i64 b)) :
    Calls Try.prog 49 #[.slice (some ⟨R, 0, none⟩) 2 2] W fun e w' => e = .returned (.int .i64 (or2 a b)) ∧ w' = W := by
  by_cases ha : a = 0
  case neg =>
    have e : or2 a b = a := if_pos ha
    have hab : (a != 0) = true := by simp [ha]
    rw [e]
    clear e
    go_enter Try.func49, Try.ntmps49
    go_wp2
    refine wp_loop_rounds 1 ?_
    rw [rounds_succ]
    go_wp2
    go_ret
    exact ⟨rfl, rfl⟩
  case pos =>
    subst ha
    have e : or2 0 b = b := if_neg (by simp)
    rw [e]
    clear e
    by_cases hb : b = 0
    case neg =>
      have hbb : (b != 0) = true := by simp [hb]
      go_enter Try.func49, Try.ntmps49
      go_wp2
      refine wp_loop_rounds 2 ?_
      rw [rounds_succ]
      go_wp2
      rw [rounds_succ]
      go_wp2
      go_ret
      exact ⟨rfl, rfl⟩
    case pos =>
      subst hb
      go_enter Try.func49, Try.ntmps49
      go_wp2
      refine wp_loop_rounds 3 ?_
      rw [rounds_succ]
      go_wp2
      rw [rounds_succ]
      go_wp2
      rw [rounds_succ]
      go_wp2
      go_ret
      exact ⟨rfl, rfl⟩
theorem cmpZ_or (a b : Pz) : cmpZ a b = or2 (Go.Lib.compareInt a.v b.v) (Go.Lib.compareInt b.l a.l) := by rw [cmpI_eq, cmpI_eq]; rfl
set_option maxRecDepth 100000 in
set_option maxHeartbeats 2000000 in
theorem vic2_any (W : World) (R : Nat) (A : Option Addr) (cap : Nat) (l : List Pz) (a b : Nat) (hR : W.cell? ⟨R, 0, none⟩ = some (.slice A l.length cap)) (hI : pzE.In W A l) (ha : a < l.length) (hb : b < l.length) :
    Calls Try.prog 48 #[.int .i64 (a : Int), .int .i64 (b : Int), .pointer (some ⟨R, 0, none⟩)] W fun e w' => e = .returned (.int .i64 (cmpZ (zAt l a) (zAt l b))) ∧ Below W.heap.size W w' := by
  rw [zAt_eq ha, zAt_eq hb, cmpZ_or]
  obtain ⟨eb, eo, rfl, hebl, a0, a1, a2⟩ := pz_at hI ha
  obtain ⟨eb', eo', e', hebl', b0, b1, b2⟩ := pz_at hI hb
  simp only [Option.some.injEq, Addr.mk.injEq, and_true] at e'
  obtain ⟨rfl, rfl⟩ := e'
  clear hI hebl hebl' a2 b2
  generalize l[a] = x at a0 a1 ⊢
  generalize l[b] = y at b0 b1 ⊢
  obtain ⟨n, hn⟩ : ∃ n, l.length = n := ⟨_, rfl⟩
  rw [hn] at hR ha hb
  have haI : (a : Int) < (n : Int) := by omega
  have hbI : (b : Int) < (n : Int) := by omega
  clear hn
  have hc1 := Lib.hid (cmp_any x.v y.v)
  have hc2 := Lib.hid (cmp_any y.l x.l)
  have hor := Lib.hid (fun W R h0 h1 => or2_any W R (Go.Lib.compareInt x.v y.v) (Go.Lib.compareInt y.l x.l) h0 h1)
  generalize Go.Lib.compareInt x.v y.v = r1 at hc1 hor ⊢
  generalize Go.Lib.compareInt y.l x.l = r2 at hc2 hor ⊢
  obtain ⟨Wd, hWd, c0, c1, c2, c3, c4⟩ : ∃ Wd, Wd = W.drew ∧ Wd.cell? ⟨R, 0, none⟩ = some (.slice (some ⟨eb, eo, none⟩) n cap) ∧ Wd.cell? ⟨eb, eo + a * 3, none⟩ = some (.int .i64 x.l) ∧ Wd.cell? ⟨eb, eo + a * 3 + 1, none⟩ = some (.int .i64 x.v) ∧ Wd.cell? ⟨eb, eo + b * 3, none⟩ = some (.int .i64 y.l) ∧ Wd.cell? ⟨eb, eo + b * 3 + 1, none⟩ = some (.int .i64 y.v) := ⟨_, rfl, hR, a0, a1, b0, b1⟩
  have hWdH := Lib.hid hWd
  have hfin : Hid (∀ o, Below W.heap.size W (Wd.alloc o)) := Lib.hid (fun o => by rw [hWd]; exact (Below.refl _ _).drew.alloc (Nat.le_refl _) o)
  clear hWd hR a0 a1 b0 b1
  go_enter Try.func48, Try.ntmps48
  go_upto_region 1 with fail
  have hS0 : (fun V => V = Wd) Wd := rfl
  refine region_anyC (fun i => decide (i < 22)) (fun V => V = Wd) (by kernel_rfl) ?_
  rw [← hWdH.out]
  refine anyL_take 0 (v := ?_) rfl (by kernel_rfl) (fun _ _ _ h => h) (Or.inl ⟨by rfl, ?_⟩) hS0 ?_
  rotate_left
  focus (intro W hW; obtain rfl := hW; go_simp; try with_reducible rfl)
  simp only [Act.put, List.setIfInBounds_toArray, List.set_cons_zero, List.set_cons_succ]
  refine anyL_take 1 (v := ?_) rfl (by kernel_rfl) (fun _ _ _ h => h) (Or.inl ⟨by rfl, ?_⟩) hS0 ?_
  rotate_left
  focus (intro W hW; go_simp; try with_reducible rfl)
  simp only [Act.put, List.setIfInBounds_toArray, List.set_cons_zero, List.set_cons_succ]
  refine anyL_take 2 (v := ?_) rfl (by kernel_rfl) (fun _ _ _ h => h) (Or.inl ⟨by rfl, ?_⟩) hS0 ?_
  rotate_left
  focus (intro W hW; go_simp; try with_reducible rfl)
  simp only [Act.put, List.setIfInBounds_toArray, List.set_cons_zero, List.set_cons_succ]
  refine anyL_take 3 (v := ?_) rfl (by kernel_rfl) (fun _ _ _ h => h) (Or.inl ⟨by rfl, ?_⟩) hS0 ?_
  rotate_left
  focus (intro W hW; go_simp; try with_reducible rfl)
  simp only [Act.put, List.setIfInBounds_toArray, List.set_cons_zero, List.set_cons_succ]
  refine anyL_take 4 (v := ?_) rfl (by kernel_rfl) (fun _ _ _ h => h) (Or.inl ⟨by rfl, ?_⟩) hS0 ?_
  rotate_left
  focus (intro W hW; obtain rfl := hW; go_simp; try with_reducible rfl)
  simp only [Act.put, List.setIfInBounds_toArray, List.set_cons_zero, List.set_cons_succ]
  refine anyL_take 5 (v := ?_) rfl (by kernel_rfl) (fun _ _ _ h => h) (Or.inl ⟨by rfl, ?_⟩) hS0 ?_
  rotate_left
  focus (intro W hW; obtain rfl := hW; go_simp; try with_reducible rfl)
  simp only [Act.put, List.setIfInBounds_toArray, List.set_cons_zero, List.set_cons_succ]
  refine anyL_take 6 (v := ?_) rfl (by kernel_rfl) (fun _ _ _ h => h) (Or.inl ⟨by rfl, ?_⟩) hS0 ?_
  rotate_left
  focus (intro W hW; go_simp; try with_reducible rfl)
  simp only [Act.put, List.setIfInBounds_toArray, List.set_cons_zero, List.set_cons_succ]
  refine anyL_take 7 (v := ?_) rfl (by kernel_rfl) (fun _ _ _ h => h) (Or.inl ⟨by rfl, ?_⟩) hS0 ?_
  rotate_left
  focus (intro W hW; go_simp; try with_reducible rfl)
  simp only [Act.put, List.setIfInBounds_toArray, List.set_cons_zero, List.set_cons_succ]
  refine anyL_take 8 (v := ?_) rfl (by kernel_rfl) (fun _ _ _ h => h) (Or.inl ⟨by rfl, ?_⟩) hS0 ?_
  rotate_left
  focus (intro W hW; go_simp; try with_reducible rfl)
  simp only [Act.put, List.setIfInBounds_toArray, List.set_cons_zero, List.set_cons_succ]
  refine anyL_take 9 (v := ?_) rfl (by kernel_rfl) (fun _ _ _ h => h) (Or.inl ⟨by rfl, ?_⟩) hS0 ?_
  rotate_left
  focus (intro W hW; obtain rfl := hW; go_simp; try with_reducible rfl)
  simp only [Act.put, List.setIfInBounds_toArray, List.set_cons_zero, List.set_cons_succ]
  refine anyL_take 11 (v := ?_) rfl (by kernel_rfl) (fun _ _ _ h => h) (Or.inl ⟨by rfl, ?_⟩) hS0 ?_
  rotate_left
  focus (intro W hW; obtain rfl := hW; go_simp; try with_reducible rfl)
  simp only [Act.put, List.setIfInBounds_toArray, List.set_cons_zero, List.set_cons_succ]
  refine anyL_take 12 (v := ?_) rfl (by kernel_rfl) (fun _ _ _ h => h) (Or.inl ⟨by rfl, ?_⟩) hS0 ?_
  rotate_left
  focus (intro W hW; go_simp; try with_reducible rfl)
  simp only [Act.put, List.setIfInBounds_toArray, List.set_cons_zero, List.set_cons_succ]
  refine anyL_take 13 (v := ?_) rfl (by kernel_rfl) (fun _ _ _ h => h) (Or.inl ⟨by rfl, ?_⟩) hS0 ?_
  rotate_left
  focus (intro W hW; go_simp; try with_reducible rfl)
  simp only [Act.put, List.setIfInBounds_toArray, List.set_cons_zero, List.set_cons_succ]
  refine anyL_take 14 (v := ?_) rfl (by kernel_rfl) (fun _ _ _ h => h) (Or.inl ⟨by rfl, ?_⟩) hS0 ?_
  rotate_left
  focus (intro W hW; go_simp; try with_reducible rfl)
  simp only [Act.put, List.setIfInBounds_toArray, List.set_cons_zero, List.set_cons_succ]
  refine anyL_take 15 (v := ?_) rfl (by kernel_rfl) (fun _ _ _ h => h) (Or.inl ⟨by rfl, ?_⟩) hS0 ?_
  rotate_left
  focus (intro W hW; obtain rfl := hW; go_simp; try with_reducible rfl)
  simp only [Act.put, List.setIfInBounds_toArray, List.set_cons_zero, List.set_cons_succ]
  refine anyL_take 16 (v := ?_) rfl (by kernel_rfl) (fun _ _ _ h => h) (Or.inl ⟨by rfl, ?_⟩) hS0 ?_
  rotate_left
  focus (intro W hW; obtain rfl := hW; go_simp; try with_reducible rfl)
  simp only [Act.put, List.setIfInBounds_toArray, List.set_cons_zero, List.set_cons_succ]
  refine anyL_take 17 (v := ?_) rfl (by kernel_rfl) (fun _ _ _ h => h) (Or.inl ⟨by rfl, ?_⟩) hS0 ?_
  rotate_left
  focus (intro W hW; go_simp; try with_reducible rfl)
  simp only [Act.put, List.setIfInBounds_toArray, List.set_cons_zero, List.set_cons_succ]
  refine anyL_take 18 (v := ?_) rfl (by kernel_rfl) (fun _ _ _ h => h) (Or.inl ⟨by rfl, ?_⟩) hS0 ?_
  rotate_left
  focus (intro W hW; go_simp; try with_reducible rfl)
  simp only [Act.put, List.setIfInBounds_toArray, List.set_cons_zero, List.set_cons_succ]
  refine anyL_take 19 (v := ?_) rfl (by kernel_rfl) (fun _ _ _ h => h) (Or.inl ⟨by rfl, ?_⟩) hS0 ?_
  rotate_left
  focus (intro W hW; go_simp; try with_reducible rfl)
  simp only [Act.put, List.setIfInBounds_toArray, List.set_cons_zero, List.set_cons_succ]
  refine anyL_take 20 (v := ?_) rfl (by kernel_rfl) (fun _ _ _ h => h) (Or.inl ⟨by rfl, ?_⟩) hS0 ?_
  rotate_left
  focus (intro W hW; obtain rfl := hW; go_simp; try with_reducible rfl)
  simp only [Act.put, List.setIfInBounds_toArray, List.set_cons_zero, List.set_cons_succ]
  refine anyL_one 10 rfl (by kernel_rfl) (fun K hK => ?_)
  go_simp
  refine (hc1.out _).mono ?_
  rintro e' w6 ⟨rfl, rfl⟩
  dsimp only
  refine hK.out _ _ (fun _ => hS0) ?_
  clear hK K
  try simp only [Act.put, List.setIfInBounds_toArray, List.set_cons_zero, List.set_cons_succ]
  refine anyL_one 21 rfl (by kernel_rfl) (fun K hK => ?_)
  go_simp
  refine (hc2.out _).mono ?_
  rintro e' w6 ⟨rfl, rfl⟩
  dsimp only
  refine hK.out _ _ (fun _ => hS0) ?_
  clear hK K
  try simp only [Act.put, List.setIfInBounds_toArray, List.set_cons_zero, List.set_cons_succ]
  refine anyL_one 22 rfl (by kernel_rfl) (fun K hK => ?_)
  go_simp
  refine hK.out _ _ (fun h => absurd h (by decide)) ?_
  clear hK K
  try simp only [Act.put, List.setIfInBounds_toArray, List.set_cons_zero, List.set_cons_succ]
  refine anyL_one 23 rfl (by kernel_rfl) (fun K hK => ?_)
  go_simp
  refine (hor.out _ _ (by go_simp) (by go_simp)).mono ?_
  rintro e' w6 ⟨rfl, rfl⟩
  dsimp only
  refine hK.out _ _ (fun h => absurd h (by decide)) ?_
  clear hK K
  try simp only [Act.put, List.setIfInBounds_toArray, List.set_cons_zero, List.set_cons_succ]
  refine anyL_one 24 rfl (by kernel_rfl) (fun K hK => ?_)
  go_simp
  refine hK.out _ _ (fun h => absurd h (by decide)) ?_
  clear hK K
  try simp only [Act.put, List.setIfInBounds_toArray, List.set_cons_zero, List.set_cons_succ]
  refine anyC_done (by kernel_rfl) ?_ _
  go_wp2_with fail
  go_ret
  exact ⟨rfl, hfin.out _⟩
/-- The least of the first k of a row, behind its first. -/
def minK (l : List Pz) (c : List Nat) (k : Nat) : Nat := minZ l (c.headD 0) ((c.take k).drop 1)
theorem minK_succ {l : List Pz} {c : List Nat} {k : Nat} (h1 : 1 ≤ k) (h : k < c.length) : minK l c (k + 1) = if betterZ (zAt l c[k]) (zAt l (minK l c k)) = true then c[k] else minK l c k := by
  unfold minK
  rw [List.take_succ_eq_append_getElem h, List.drop_append_of_le_length (by rw [List.length_take]; omega), minZ_snoc]
theorem minK_mem {l : List Pz} {c : List Nat} : ∀ k, 1 ≤ k → k ≤ c.length → minK l c k ∈ c
  | 0, h, _ => absurd h (by decide)
  | 1, _, h => by
    cases c with
    | nil => simp at h
    | cons x t => show minZ l x [] ∈ _; exact List.mem_cons_self
  | k + 2, _, h => by
    rw [minK_succ (by omega) (by omega)]
    split
    · exact List.getElem_mem _
    · exact minK_mem (k + 1) (by omega) (by omega)
theorem minK_all (l : List Pz) (x : Nat) (t : List Nat) : minK l (x :: t) (x :: t).length = minZ l x t := by unfold minK; rw [List.take_length]; rfl
set_option maxRecDepth 100000 in
set_option maxHeartbeats 4000000 in
theorem minfunc_any (w : World) (C : Option Addr) (ccap : Nat) (c : List Nat) (R : Nat) (A : Option Addr) (cap : Nat) (l : List Pz) (hR : w.cell? ⟨R, 0, none⟩ = some (.slice A l.length cap)) (hI : pzE.In w A l) (hC : ixE.In w C c) (h0 : 1 ≤ c.length) (hlen : c.length ≤ 1000) (hm : ∀ i ∈ c, i < l.length) :
    Calls Try.prog 47 #[.slice C c.length ccap, .func (.func 48) #[] #[.pointer (some ⟨R, 0, none⟩)]] w fun e w' => e = .returned (.int .i64 (minK l c c.length : Nat)) ∧ Below w.heap.size w w' := by
  have hRl := lt_of_cell hR
  have h1 := Lib.hid (fun W (hb : Below w.heap.size w W) a b ha hb' => vic2_any W R A cap l a b ((hb.cell (p := ⟨R, 0, none⟩) hRl).trans hR) (hI.below hb) ha hb')
  have hCH := Lib.hid (fun W (hb : Below w.heap.size w W) => hC.below hb)
  have eg : ∀ args w, (callFunc 48 args).run Try.prog w = .ok (.enter 48 args) w := enters_of Try.func48 (by kernel_rfl) rfl
  have hB0 := Lib.hid (Below.refl w.heap.size w)
  have hmH := Lib.hid hm
  clear hR hRl hI hC hm
  obtain ⟨n, hn⟩ : ∃ n, c.length = n := ⟨_, rfl⟩
  rw [hn] at h0 hlen ⊢
  have hnH := Lib.hid hn
  have hn1 : ¬ (n : Int) < 1 := by omega
  have hnp : (0 : Int) < (n : Int) := by omega
  obtain ⟨cb, co, rfl, hcbl, e0⟩ := ix_at (hCH.out w hB0.out) (show 0 < c.length by omega)
  have hm1 : minK l c 1 = c[0] := by cases c with | nil => simp at hn; omega | cons x t => rfl
  rw [← hm1, Nat.add_zero] at e0
  obtain ⟨m0, hx0⟩ : ∃ m0, m0 = minK l c 1 := ⟨_, rfl⟩
  rw [← hx0] at e0
  have hx1 := Lib.hid hx0
  clear hn hm1 hx0
  go_enter Try.func47, Try.ntmps47
  go_wp2_with fail
  go_loopw [5, 6] (fun mv iv wr => ∃ (k m : Nat), 1 ≤ k ∧ k ≤ n ∧ iv = .int .i64 (k : Int) ∧ mv = .int .i64 (m : Int) ∧ Hid (m = minK l c k) ∧ Hid (Below w.heap.size w wr)) (fun _ iv _ => n - (intOf iv).toNat)
  case atStart => exact ⟨1, m0, Nat.le_refl _, h0, rfl, rfl, hx1, hB0⟩
  case round =>
    clear hB0 e0 hx1 hcbl
    obtain ⟨k, m, hk1, hkn, rfl, rfl, hm, hB⟩ := hrel
    by_cases hlt : k < n
    case neg =>
      have hke : k = n := by omega
      subst hke
      have hkI : ¬ (k : Int) < (k : Int) := by omega
      go_wp2_with fail
      go_ret
      exact ⟨by rw [hm.out]; rfl, hB.out⟩
    case pos =>
      have hkl : k < c.length := by rw [hnH.out]; exact hlt
      have hkI : (k : Int) < (n : Int) := by omega
      have hkw : IntKind.i64.wrap ((k : Int) + 1) = (k : Int) + 1 := IntWalk.i64_in _ (by omega)
      obtain ⟨cb', co', e', -, e1⟩ := ix_at (hCH.out wr hB.out) hkl
      simp only [Option.some.injEq, Addr.mk.injEq, and_true] at e'
      obtain ⟨rfl, rfl⟩ := e'
      have hs := Lib.hid (minK_succ (l := l) hk1 hkl)
      have hcall := Lib.hid (h1.out wr hB.out c[k] m (hmH.out _ (List.getElem_mem hkl)) (by rw [hm.out]; exact hmH.out _ (minK_mem k hk1 (by omega))))
      rw [← hm.out] at hs
      generalize c[k] = x at e1 hs hcall
      rw [← cmpZ_lt] at hs
      obtain ⟨r, hr⟩ : ∃ r, cmpZ (zAt l x) (zAt l m) = r := ⟨_, rfl⟩
      rw [hr] at hs hcall
      clear hr h1
      by_cases hrl : r < 0
      case pos =>
        have hs2 : Hid (minK l c (k + 1) = x) := Lib.hid (by rw [hs.out]; simp [hrl])
        clear hs
        go_wp2_with fail
        go_at_fn 48
        refine hcall.out.mono ?_
        rintro e w6 ⟨rfl, hb6⟩
        have hB6 := Lib.hid (hB.out.trans (hb6.mono hB.out.size))
        have e6 := (hb6.cell (p := ⟨cb, co + k, none⟩) (lt_of_cell e1)).trans e1
        clear hb6 hB e1 hcall
        go_wp2_with fail
        go_roundw
        case rel => exact ⟨k + 1, x, by omega, hlt, by go_num, rfl, Lib.hid hs2.out.symm, hB6⟩
        case measure => simp only [intOf]; omega
      case neg =>
        have hs2 : Hid (minK l c (k + 1) = m) := Lib.hid (by rw [hs.out]; simp [hrl])
        clear hs
        go_wp2_with fail
        go_at_fn 48
        refine hcall.out.mono ?_
        rintro e w6 ⟨rfl, hb6⟩
        have hB6 := Lib.hid (hB.out.trans (hb6.mono hB.out.size))
        clear hb6 hB e1 hcall
        go_wp2_with fail
        go_roundw
        case rel => exact ⟨k + 1, m, by omega, hlt, by go_num, rfl, Lib.hid hs2.out.symm, hB6⟩
        case measure => simp only [intOf]; omega
end Go.Proofs.Ytbgkmppngnedlaa
