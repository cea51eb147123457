/- What Pieces of stripe does. -/
import Derived.Test.YtpgnajcbahklgaaMKRow
import Derived.Test.YtpgnajcbahklgaaMGeo
import Derived.Lib.MinMax
import Derived.Test.YtpgnajcbahklgaaMBase
import Derived.Test.YtpgnajcbahklgaaFreshC
namespace Go.Proofs.Ytpgnajcbahklgaa
open Go.RowKit

/-- A piece: the row, the first, how many. -/
structure Pc where
  r : Int
  f : Int
  c : Int
def pcE : Enc Pc := ⟨fun p => [.int .i64 p.r, .int .i64 p.f, .int .i64 p.c], 3, fun _ => rfl, fun x u hu => by
  simp only [List.mem_cons, List.not_mem_nil, or_false] at hu
  rcases hu with rfl | rfl | rfl <;> rfl⟩
/-- The pieces of a range. -/
def pcs (b : Nat) (hb : 0 < b) (at_ n : Nat) : List Pc :=
  if _h : n = 0 then [] else
    ⟨((at_ / b : Nat) : Int), ((at_ % b : Nat) : Int), ((min n (b - at_ % b) : Nat) : Int)⟩ :: pcs b hb (at_ + min n (b - at_ % b)) (n - min n (b - at_ % b))
termination_by n
decreasing_by have := Nat.mod_lt at_ hb; omega
theorem pcs_zero {b : Nat} {hb : 0 < b} (at_ : Nat) : pcs b hb at_ 0 = [] := by unfold pcs; rw [dif_pos rfl]
theorem pcs_step {b : Nat} {hb : 0 < b} {at_ n : Nat} (h : 0 < n) : pcs b hb at_ n = ⟨((at_ / b : Nat) : Int), ((at_ % b : Nat) : Int), ((min n (b - at_ % b) : Nat) : Int)⟩ :: pcs b hb (at_ + min n (b - at_ % b)) (n - min n (b - at_ % b)) := by
  rw [pcs, dif_neg (by omega)]
theorem pcs_len {b : Nat} {hb : 0 < b} : ∀ (n at_ : Nat), (pcs b hb at_ n).length ≤ n := by
  intro n
  induction n using Nat.strongRecOn with
  | ind n ih =>
    intro at_
    by_cases h : n = 0
    · subst h; rw [pcs_zero]; exact Nat.le_refl _
    · rw [pcs_step (by omega), List.length_cons]
      have hm := Nat.mod_lt at_ hb
      have := ih (n - min n (b - at_ % b)) (by omega) (at_ + min n (b - at_ % b))
      omega
theorem infoPc : Enc.Inf Try.prog 117 3 24 := by unfold Enc.Inf; kernel_rfl
theorem pieces_none (b f n : Int) (w : World) (hf : f ≤ 9223372036854775807) (h : b < 1 ∨ f < 0 ∨ n < 1 ∨ 1099511627776 < f ∨ 1099511627776 - f < n) :
    Calls Try.prog 57 #[.int .i64 b, .int .i64 f, .int .i64 n] w fun e w' => e = .returned (.slice none 0 0) ∧ w = w' := by
  by_cases h1 : b < 1
  · go_enter Try.func57, Try.ntmps57
    go_wp2
    go_ret
    exact ⟨rfl, rfl⟩
  by_cases h2 : f < 0
  · go_enter Try.func57, Try.ntmps57
    go_wp2
    go_ret
    exact ⟨rfl, rfl⟩
  by_cases h3 : n < 1
  · go_enter Try.func57, Try.ntmps57
    go_wp2
    go_ret
    exact ⟨rfl, rfl⟩
  have h4 : 1099511627776 - f < n := by omega
  have h5 : wrap64 (1099511627776 - f) = 1099511627776 - f := IntWalk.wrap64_in _ (by omega)
  clear h
  go_enter Try.func57, Try.ntmps57
  go_wp2
  go_ret
  exact ⟨rfl, rfl⟩
/-- Pieces of a range that there is. -/
def PcPost (w : World) (ps : List Pc) (e : Ending) (w' : World) : Prop := ∃ A cap, e = .returned (.slice A ps.length cap) ∧ pcE.Row w' w.heap.size 117 A cap ps ∧ Below w.heap.size w w'
/-- A piece in a box, beside the row. -/
structure PcW (w : World) (A : Option Addr) (cap : Nat) (l : List Pc) (G : Nat) (x : Pc) (W : World) : Prop where
  row : pcE.Row W w.heap.size 117 A cap l
  bw : Below w.heap.size w W
  p0 : W.cell? ⟨G, 0, none⟩ = some (.int .i64 x.r)
  p1 : W.cell? ⟨G, 1, none⟩ = some (.int .i64 x.f)
  p2 : W.cell? ⟨G, 2, none⟩ = some (.int .i64 x.c)
  fr : ∀ j, W.frozen? ⟨G, j, none⟩ = false
  ge : w.heap.size ≤ G
  ne : ∀ g, A = some ⟨g, 0, none⟩ → G ≠ g
theorem grown1 (W : World) (g o : Nat) (v : Value) : W.grownBy (W.setCell ⟨g, o, none⟩ v) (some g) := ⟨rfl, rfl, rfl, by simp [World.setCell], fun k _ hk => Below.heap_setCell _ _ _ _ (fun e => hk (by rw [e]))⟩
theorem PcW.lt {w : World} {A : Option Addr} {cap : Nat} {l : List Pc} {G : Nat} {x : Pc} {W : World} (h : PcW w A cap l G x W) : G < W.heap.size := lt_of_cell h.p0
theorem newPc {w : World} {A : Option Addr} {cap : Nat} {l : List Pc} {W : World} (h : pcE.Row W w.heap.size 117 A cap l) (hb : Below w.heap.size w W) :
    PcW w A cap l W.heap.size ⟨0, 0, 0⟩ (W.alloc (.cells #[.int .i64 0, .int .i64 0, .int .i64 0] 117)) := by
  refine ⟨h.alloc _, hb.alloc hb.size _, by go_simp, by go_simp, by go_simp, fun j => by simp, hb.size, fun g e => ?_⟩
  rcases h.form with ⟨rfl, _⟩ | ⟨g', rfl, _, hlt, _⟩
  · cases e
  · injection e with e; injection e with e; omega
theorem PcW.put {w : World} {A : Option Addr} {cap : Nat} {l : List Pc} {G : Nat} {x : Pc} {W : World} (h : PcW w A cap l G x W) (o : Nat) (v : Int) :
    PcW w A cap l G ⟨if o = 0 then v else x.r, if o = 1 then v else x.f, if o = 2 then v else x.c⟩ (W.setCell ⟨G, o, none⟩ (.int .i64 v)) := by
  have hc : ∀ j u, W.cell? ⟨G, j, none⟩ = some (.int .i64 u) → (W.setCell ⟨G, o, none⟩ (.int .i64 v)).cell? ⟨G, j, none⟩ = some (.int .i64 (if o = j then v else u)) := fun j u hu => by
    by_cases e : o = j
    · subst e
      rw [if_pos rfl]
      exact World.cell?_setCell_same' _ _ _ (by rw [hu]; rfl)
    · rw [if_neg e]
      exact (World.cell?_setCell_other _ _ _ _ (by intro e'; injection e' with _ e'; exact e e')).trans hu
  refine ⟨h.row.far (grown1 W G o _) (fun g e e' => h.ne g e (Option.some.inj e')), h.bw.setCell h.ge _, hc 0 _ h.p0, hc 1 _ h.p1, hc 2 _ h.p2, fun j => ?_, h.ge, h.ne⟩
  have := h.fr j
  simpa using this
theorem PcW.below {w : World} {A : Option Addr} {cap : Nat} {l : List Pc} {G : Nat} {x : Pc} {W W' : World} (h : PcW w A cap l G x W) (hb : Below W.heap.size W W') : PcW w A cap l G x W' :=
  ⟨h.row.below hb, h.bw.trans (hb.mono h.bw.size), (hb.cell (p := ⟨G, 0, none⟩) h.lt).trans h.p0, (hb.cell (p := ⟨G, 1, none⟩) h.lt).trans h.p1, (hb.cell (p := ⟨G, 2, none⟩) h.lt).trans h.p2, fun j => (hb.frozen (p := ⟨G, j, none⟩) h.lt).trans (h.fr j), h.ge, h.ne⟩
theorem PcW.app {w : World} {A A' : Option Addr} {cap cap' : Nat} {l : List Pc} {G : Nat} {x y : Pc} {W W' : World} (h : PcW w A cap l G x W) (hR : pcE.Row W' w.heap.size 117 A' cap' (l ++ [y]))
    (hg : W.grownBy W' (Value.slice A l.length cap).ownBlock) (hA : A' = A ∨ A' = some ⟨W.heap.size, 0, none⟩) : PcW w A' cap' (l ++ [y]) G x W' := by
  have hne : (Value.slice A l.length cap).ownBlock ≠ some G := by
    rcases h.row.form with ⟨rfl, _⟩ | ⟨g, rfl, _⟩
    · simp [Value.ownBlock]
    · simp only [Value.ownBlock]
      intro e
      exact h.ne g rfl (Option.some.inj e).symm
  have hk := hg.block G h.lt (fun e => hne e.symm)
  have hlt := h.lt
  refine ⟨hR, h.bw.trans (h.row.grown hg h.bw.size), (World.cell?_of_block (a := ⟨G, 0, none⟩) hk).trans h.p0, (World.cell?_of_block (a := ⟨G, 1, none⟩) hk).trans h.p1, (World.cell?_of_block (a := ⟨G, 2, none⟩) hk).trans h.p2, fun j => (World.frozen?_of_block (a := ⟨G, j, none⟩) hk).trans (h.fr j), h.ge, fun g e => ?_⟩
  rcases hA with rfl | rfl
  · exact h.ne g e
  · injection e with e; injection e with e; omega
set_option maxHeartbeats 2000000 in
theorem pieces_any (b f n : Nat) (w : World) (hb : 0 < b) (hb2 : b ≤ 9223372036854775807) (hn : 1 ≤ n) (hn2 : n ≤ 5000) (hf : f + n ≤ 1099511627776) :
    Calls Try.prog 57 #[.int .i64 (b : Int), .int .i64 (f : Int), .int .i64 (n : Int)] w (PcPost w (pcs b hb f n)) := by
  have k1 : ¬ ((b : Int) < 1) := by omega
  have k2 : ¬ ((f : Int) < 0) := by omega
  have k3 : ¬ ((n : Int) < 1) := by omega
  have k4 : ¬ (1099511627776 - (f : Int) < (n : Int)) := by omega
  have happ := Lib.hid (fun W A cap (l : List Pc) (x : Pc) (h : pcE.Row W w.heap.size 117 A cap l) m hm hl hb => Enc.Row.append (E := pcE) (P := Try.prog) Try.underlying114 infoPc (by decide) (by decide) h (m := m) (x := x) hm hl hb 114)
  have hall : ∃ ps, ps = pcs b hb f n := ⟨_, rfl⟩
  obtain ⟨ps, hps⟩ := hall
  rw [← hps]
  have hpsH := Lib.hid hps
  clear hps
  go_enter Try.func57, Try.ntmps57
  go_wp2_with fail
  go_loopw [1, 2, 7] (fun i1 i2 s wr => ∃ (a m : Nat) (l : List Pc) (A : Option Addr) (cap : Nat), i1 = .int .i64 (a : Int) ∧ i2 = .int .i64 (m : Int) ∧ s = .slice A l.length cap ∧ m ≤ 5000 ∧ a + m ≤ 1099511627776 ∧ l.length + m ≤ 5000 ∧ Hid (l ++ pcs b hb a m = ps) ∧ pcE.Row wr w.heap.size 117 A cap l ∧ Below w.heap.size w wr) (fun _ i2 _ _ => (intOf i2).toNat)
  case atStart => exact ⟨f, n, [], none, 0, rfl, rfl, rfl, hn2, hf, by simp; omega, Lib.hid (by rw [hpsH.out]; rfl), Enc.Row.nil _ _ _, Below.refl _ _⟩
  case round =>
    obtain ⟨a, m, l, A, cap, rfl, rfl, rfl, hm, hf2, hlm, hE, hR, hB⟩ := hrel
    by_cases h0 : m = 0
    case pos =>
      subst h0
      have e : l = ps := by rw [← hE.out, pcs_zero, List.append_nil]
      subst e
      have hFin : PcPost w l (.returned (.slice A l.length cap)) wr := ⟨A, cap, rfl, hR, hB⟩
      have hFinH := Lib.hid hFin
      clear hFin hR hB hE happ
      go_wp2
      go_ret
      exact hFinH.out
    case neg =>
      have hs := pcs_step (b := b) (hb := hb) (at_ := a) (n := m) (by omega)
      have hmod := Nat.mod_lt a hb
      have e1 : (a : Int).tdiv (b : Int) = ((a / b : Nat) : Int) := by rw [Int.tdiv_eq_ediv_of_nonneg (by omega)]; rfl
      have e2 : (a : Int).tmod (b : Int) = ((a % b : Nat) : Int) := by rw [Int.tmod_eq_emod_of_nonneg (by omega)]; rfl
      have hq : a / b ≤ a := Nat.div_le_self _ _
      obtain ⟨q, hqe⟩ : ∃ q, a / b = q := ⟨_, rfl⟩
      obtain ⟨r, hre⟩ : ∃ r, a % b = r := ⟨_, rfl⟩
      obtain ⟨c, hce⟩ : ∃ c, min m (b - r) = c := ⟨_, rfl⟩
      rw [hqe, hre, hce] at hs
      rw [hqe] at e1 hq
      rw [hre] at e2 hmod
      have hc1 : c ≤ m := by omega
      have hc0 : 0 < c := by omega
      have hE2 : Hid ((l ++ [⟨(q : Int), (r : Int), (c : Int)⟩]) ++ pcs b hb (a + c) (m - c) = ps) := Lib.hid (by rw [← hE.out, hs, List.append_assoc]; rfl)
      have e3 : min (m : Int) ((b : Int) - (r : Int)) = (c : Int) := by omega
      have hEH := hE2
      have hlen : l.length ≤ 1000000 := by omega
      clear hE hs hE2 hqe hre hce
      have b0 : ¬ ((b : Int) = 0) := by omega
      have b1 : ¬ ((b : Int) = -1) := by omega
      have m0 : (0 : Int) < (m : Int) := by omega
      have b2 : ¬ b = 0 := by omega
      have q1 : IntKind.i64.wrap ((q : Nat) : Int) = (q : Int) := IntWalk.i64_in _ (by omega)
      have q2 : IntKind.i64.wrap ((r : Nat) : Int) = (r : Int) := IntWalk.i64_in _ (by omega)
      go_upto_region 5 with fail
      have hW0 : pcE.Row wr.drew w.heap.size 117 A cap l ∧ Below w.heap.size w wr.drew := ⟨hR.below (Below.refl _ _).drew, hB.drew⟩
      clear hR hB
      refine region_anyC (fun _ => true) (fun W => pcE.Row W w.heap.size 117 A cap l ∧ Below w.heap.size w W) (by kernel_rfl) ?_
      refine anyL_take 0 (v := ?_) rfl (by kernel_rfl) (fun _ _ _ h => h) (Or.inl ⟨by rfl, ?_⟩) hW0 ?_
      rotate_left
      focus (intro W hW; go_simp; try with_reducible rfl)
      simp only [Act.put, List.setIfInBounds_toArray, List.set_cons_zero, List.set_cons_succ]
      refine anyL_take 1 (v := ?_) rfl (by kernel_rfl) (fun _ _ _ h => h) (Or.inl ⟨by rfl, ?_⟩) hW0 ?_
      rotate_left
      focus (intro W hW; go_simp; try with_reducible rfl)
      simp only [Act.put, List.setIfInBounds_toArray, List.set_cons_zero, List.set_cons_succ]
      refine anyL_take 2 (v := ?_) rfl (by kernel_rfl) (fun _ _ _ h => h) (Or.inl ⟨by rfl, ?_⟩) hW0 ?_
      rotate_left
      focus (intro W hW; go_simp; try with_reducible rfl)
      simp only [Act.put, List.setIfInBounds_toArray, List.set_cons_zero, List.set_cons_succ]
      refine anyL_take 3 (v := ?_) rfl (by kernel_rfl) (fun _ _ _ h => h) (Or.inl ⟨by rfl, ?_⟩) hW0 ?_
      rotate_left
      focus (intro W hW; go_simp; try with_reducible rfl)
      simp only [Act.put, List.setIfInBounds_toArray, List.set_cons_zero, List.set_cons_succ]
      refine anyL_take 4 (v := ?_) rfl (by kernel_rfl) (fun _ _ _ h => h) (Or.inl ⟨by rfl, ?_⟩) hW0 ?_
      rotate_left
      focus (intro W hW; go_simp; try with_reducible rfl)
      simp only [Act.put, List.setIfInBounds_toArray, List.set_cons_zero, List.set_cons_succ]
      refine anyL_take 5 (v := ?_) rfl (by kernel_rfl) (fun _ _ _ h => h) (Or.inl ⟨by rfl, ?_⟩) hW0 ?_
      rotate_left
      focus (intro W hW; go_simp; try with_reducible rfl)
      simp only [Act.put, List.setIfInBounds_toArray, List.set_cons_zero, List.set_cons_succ]
      refine anyL_take 6 (v := ?_) rfl (by kernel_rfl) (fun _ _ _ h => h) (Or.inl ⟨by rfl, ?_⟩) hW0 ?_
      rotate_left
      focus (intro W hW; go_simp; try with_reducible rfl)
      simp only [Act.put, List.setIfInBounds_toArray, List.set_cons_zero, List.set_cons_succ]
      refine fresh_anyC (fun W => pcE.Row W w.heap.size 117 A cap l ∧ Below w.heap.size w W) hW0 ?_
      clear hW0
      rintro W1 hW1
      refine anyL_one 7 rfl (by kernel_rfl) (fun K hK => ?_)
      go_simp
      refine hK.out _ _ (fun _ => ⟨hW1.1.alloc _, hW1.2.alloc hW1.2.size _⟩) ?_
      clear hK K
      try simp only [Act.put, List.setIfInBounds_toArray, List.set_cons_zero, List.set_cons_succ]
      have hn1 := newPc hW1.1 hW1.2
      have hgs := hW1.2.size
      generalize W1.heap.size = G at hn1 hgs ⊢
      refine fresh_anyC (PcW w A cap l G ⟨0, 0, 0⟩) hn1 ?_
      clear hn1 hW1 hgs
      rintro W2 hW2
      refine anyL_one 8 rfl (by kernel_rfl) (fun K hK => ?_)
      have y0 := hW2.p0
      have y1 := hW2.p1
      have y2 := hW2.p2
      have yf := hW2.fr
      go_simp
      have hn2 := ((hW2.put 0 (q : Int)).put 1 (r : Int)).put 2 0
      refine hK.out _ _ (fun _ => ⟨hn2.row, hn2.bw⟩) ?_
      clear hK K y0 y1 y2 yf hW2
      try simp only [Act.put, List.setIfInBounds_toArray, List.set_cons_zero, List.set_cons_succ]
      refine fresh_anyC (PcW w A cap l G ⟨(q : Int), (r : Int), 0⟩) hn2 ?_
      clear hn2
      rintro W3 hW3
      refine anyC_done (by kernel_rfl) ?_ _
      have y0 := hW3.p0
      have y1 := hW3.p1
      have y2 := hW3.p2
      have yf := hW3.fr
      have yl := hW3.lt
      have hn3 := Lib.hid (hW3.put 2 (c : Int))
      clear hW3
      go_upto_region 7 with fail
      refine fresh_world (PcW w A cap l G ⟨(q : Int), (r : Int), (c : Int)⟩) hn3.out ?_
      clear hn3 y0 y1 y2 yf yl
      rintro W4 hW4
      have y0 := hW4.p0
      have y1 := hW4.p1
      have y2 := hW4.p2
      have yl := hW4.lt
      have hW5 := hW4.below ((Below.refl _ _).alloc (Nat.le_refl _) (.cells #[.int .i64 (q : Int), .int .i64 (r : Int), .int .i64 (c : Int)] 117))
      obtain ⟨A', cap', W', hrun, hR', hG', hA'⟩ := happ.out _ A cap l ⟨(q : Int), (r : Int), (c : Int)⟩ hW5.row W4.heap.size (fun j hj => by
        match j, hj with
        | 0, _ => show _ = some (Value.int .i64 (q : Int)); go_simp
        | 1, _ => show _ = some (Value.int .i64 (r : Int)); go_simp
        | 2, _ => show _ = some (Value.int .i64 (c : Int)); go_simp) hlen hW5.bw.size
      have hrunH := Lib.hid hrun
      have hF : PcW w A' cap' (l ++ [⟨(q : Int), (r : Int), (c : Int)⟩]) G ⟨(q : Int), (r : Int), (c : Int)⟩ W' := hW5.app hR' hG' hA'
      have hFH := Lib.hid hF
      clear hrun hF hR' hG' hA' hW5 hW4 happ
      go_wp2_with (at_builtin; refine append_run_wp rfl _ _ _ rfl rfl rfl hrunH.out ?_)
      have w8a : IntKind.i64.wrap ((a : Int) + (c : Int)) = (a : Int) + (c : Int) := IntWalk.i64_in _ (by omega)
      have w8b : IntKind.i64.wrap ((m : Int) - (c : Int)) = (m : Int) - (c : Int) := IntWalk.i64_in _ (by omega)
      have hW0 := hFH.out.below (Below.refl _ _).drew
      clear hFH hrunH
      refine region_anyC (fun _ => true) (PcW w A' cap' (l ++ [⟨(q : Int), (r : Int), (c : Int)⟩]) G ⟨(q : Int), (r : Int), (c : Int)⟩) (by kernel_rfl) ?_
      refine anyL_take 0 (v := ?_) rfl (by kernel_rfl) (fun _ _ _ h => h) (Or.inl ⟨by rfl, ?_⟩) hW0 ?_
      rotate_left
      focus (intro W hW; go_simp; try with_reducible rfl)
      simp only [Act.put, List.setIfInBounds_toArray, List.set_cons_zero, List.set_cons_succ]
      refine anyL_take 1 (v := ?_) rfl (by kernel_rfl) (fun _ _ _ h => h) (Or.inl ⟨by rfl, ?_⟩) hW0 ?_
      rotate_left
      focus (intro W hW; go_simp; try with_reducible rfl)
      simp only [Act.put, List.setIfInBounds_toArray, List.set_cons_zero, List.set_cons_succ]
      refine anyL_take 2 (v := ?_) rfl (by kernel_rfl) (fun _ _ _ h => h) (Or.inl ⟨by rfl, ?_⟩) hW0 ?_
      rotate_left
      focus (intro W hW; have y2 := hW.p2; go_simp; try with_reducible rfl)
      simp only [Act.put, List.setIfInBounds_toArray, List.set_cons_zero, List.set_cons_succ]
      refine anyL_take 3 (v := ?_) rfl (by kernel_rfl) (fun _ _ _ h => h) (Or.inl ⟨by rfl, ?_⟩) hW0 ?_
      rotate_left
      focus (intro W hW; go_simp; try with_reducible rfl)
      simp only [Act.put, List.setIfInBounds_toArray, List.set_cons_zero, List.set_cons_succ]
      refine anyL_take 4 (v := ?_) rfl (by kernel_rfl) (fun _ _ _ h => h) (Or.inl ⟨by rfl, ?_⟩) hW0 ?_
      rotate_left
      focus (intro W hW; go_simp; try with_reducible rfl)
      simp only [Act.put, List.setIfInBounds_toArray, List.set_cons_zero, List.set_cons_succ]
      refine anyL_take 5 (v := ?_) rfl (by kernel_rfl) (fun _ _ _ h => h) (Or.inl ⟨by rfl, ?_⟩) hW0 ?_
      rotate_left
      focus (intro W hW; go_simp; try with_reducible rfl)
      simp only [Act.put, List.setIfInBounds_toArray, List.set_cons_zero, List.set_cons_succ]
      refine anyL_take 6 (v := ?_) rfl (by kernel_rfl) (fun _ _ _ h => h) (Or.inl ⟨by rfl, ?_⟩) hW0 ?_
      rotate_left
      focus (intro W hW; have y2 := hW.p2; go_simp; try with_reducible rfl)
      simp only [Act.put, List.setIfInBounds_toArray, List.set_cons_zero, List.set_cons_succ]
      refine anyL_take 7 (v := ?_) rfl (by kernel_rfl) (fun _ _ _ h => h) (Or.inl ⟨by rfl, ?_⟩) hW0 ?_
      rotate_left
      focus (intro W hW; go_simp; try with_reducible rfl)
      simp only [Act.put, List.setIfInBounds_toArray, List.set_cons_zero, List.set_cons_succ]
      refine fresh_anyC (PcW w A' cap' (l ++ [⟨(q : Int), (r : Int), (c : Int)⟩]) G ⟨(q : Int), (r : Int), (c : Int)⟩) hW0 ?_
      clear hW0
      rintro W6 hW6
      refine anyL_one 8 rfl (by kernel_rfl) (fun K hK => ?_)
      go_simp
      refine hK.out _ _ (fun _ => hW6) ?_
      clear hK K
      try simp only [Act.put, List.setIfInBounds_toArray, List.set_cons_zero, List.set_cons_succ]
      refine anyL_one 9 rfl (by kernel_rfl) (fun K hK => ?_)
      go_simp
      refine hK.out _ _ (fun _ => hW6) ?_
      clear hK K
      try simp only [Act.put, List.setIfInBounds_toArray, List.set_cons_zero, List.set_cons_succ]
      refine anyC_done (by kernel_rfl) ?_ _
      have hFin := Lib.hid hW6
      clear hW6
      go_wp2_with fail
      go_roundw
      case rel => exact ⟨a + c, m - c, _, A', cap', by go_num, by go_num, by simp, by omega, by omega, by simp; omega, hEH, hFin.out.row, hFin.out.bw⟩
      case measure => simp [intOf]; omega
end Go.Proofs.Ytpgnajcbahklgaa
