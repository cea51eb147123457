/- PickTurned: the walk. -/
import Derived.Test.YtbgkmppngnedlaaPkZ
import Derived.Test.YtbgkmppngnedlaaPkE
namespace Go.Proofs.Ytbgkmppngnedlaa
open Go.RowKit Go.Shelf

theorem struct_threeP {P : Program} {t : TypeId} {k0 k1 k2 : TypeId × Nat × Bool} (h : (P.fieldsOf t).toList.map fKey = [k0, k1, k2]) : ∃ f0 f1 f2, (P.fieldsOf t).toList = [f0, f1, f2] ∧ fKey f0 = k0 ∧ fKey f1 = k1 ∧ fKey f2 = k2 := by
  match hl : (P.fieldsOf t).toList, h with
  | [f0, f1, f2], h => simp only [List.map_cons, List.map_nil, List.cons.injEq, and_true] at h; exact ⟨f0, f1, f2, rfl, h.1, h.2.1, h.2.2⟩
theorem pz_eql (w : World) (x : Pz) : (binOp .eql 35 (.agg #[.int .i64 x.l, .int .i64 x.v, .bool x.o]) (.agg #[.int .i64 x.l, .int .i64 x.v, .bool x.o])).run Try.prog w = .ok (.bool true) w ∧ (binOp .neq 35 (.agg #[.int .i64 x.l, .int .i64 x.v, .bool x.o]) (.agg #[.int .i64 x.l, .int .i64 x.v, .bool x.o])).run Try.prog w = .ok (.bool !true) w := by
  obtain ⟨f0, f1, f2, hl, h0, h1, h2⟩ := struct_threeP (P := Try.prog) (t := 35) (k0 := (3, 0, true)) (k1 := (3, 1, true)) (k2 := (4, 2, true)) (by kernel_rfl)
  refine eql_of (by kernel_rfl) (by kernel_rfl) ?_
  rw [hl,
    eqF_cons h0 (a := .int .i64 x.l) (b := .int .i64 x.l) (by kernel_rfl) (by kernel_rfl) (run_equalIn_int _ 9998 _ _ .i64 _ _ Try.underlying3),
    eqF_cons h1 (a := .int .i64 x.v) (b := .int .i64 x.v) (by kernel_rfl) (by kernel_rfl) (run_equalIn_int _ 9998 _ _ .i64 _ _ Try.underlying3),
    eqF_cons h2 (a := .bool x.o) (b := .bool x.o) (by kernel_rfl) (by kernel_rfl) (run_equalIn_bool _ 9998 _ _ _ Try.underlying4), eqF_nil]
  simp
theorem empty_pz (W : World) {base : Nat} (hb : base ≤ W.heap.size) : pzE.Row (W.alloc (.cells #[] 35)) base 35 (some ⟨W.heap.size, 0, none⟩) 0 [] :=
  World.ownsRow_lit (base := base) (size := 3) (e := 35) W #[] 0 hb (by unfold maxLen; omega) rfl
/-- What two rows of zones that are alike are told: the victims and how many are empty. -/
structure TwoZ (w W : World) (XA BA : Option Addr) (Xc Bc : Nat) (xs ys : List Pz) : Prop where
  a : pzE.In W XA xs
  b : pzE.In W BA ys
  bw : Below w.heap.size w W
theorem TwoZ.below {w W W' : World} {XA BA : Option Addr} {Xc Bc : Nat} {xs ys : List Pz} (h : TwoZ w W XA BA Xc Bc xs ys) (hb : Below W.heap.size W W') : TwoZ w W' XA BA Xc Bc xs ys := ⟨h.a.below hb, h.b.below hb, h.bw.trans (hb.mono h.bw.size)⟩
theorem pz_drop {W : World} {g : Nat} {xs : List Pz} (h : pzE.In W (some ⟨g, 0, none⟩) xs) (r : Nat) : pzE.In W (some ⟨g, r * 3, none⟩) (xs.drop r) := by
  by_cases h0 : xs.drop r = []
  · exact .inl h0
  · have hr : r < xs.length := by
      have : 0 < (xs.drop r).length := List.length_pos_iff.2 h0
      rw [List.length_drop] at this
      omega
    obtain ⟨b, off, e, hlt, _⟩ := h.at_ hr
    simp only [Option.some.injEq, Addr.mk.injEq, and_true] at e
    obtain ⟨rfl, rfl⟩ := e
    refine .inr ⟨g, r * 3, rfl, hlt, fun i hi j hj => ?_⟩
    have hi2 : r + i < xs.length := by rw [List.length_drop] at hi; omega
    obtain ⟨b, off, e, _, hc⟩ := h.at_ hi2
    simp only [Option.some.injEq, Addr.mk.injEq, and_true] at e
    obtain ⟨rfl, rfl⟩ := e
    have h1 := hc j hj
    rw [List.getElem_drop, ← h1]
    congr 2
    show r * 3 + i * 3 + j = 0 + (r + i) * 3 + j
    omega
theorem pz_take {W : World} {A : Option Addr} {xs : List Pz} (h : pzE.In W A xs) (r : Nat) : pzE.In W A (xs.take r) := by
  rcases h with rfl | ⟨b, off, rfl, hlt, hc⟩
  · exact .inl List.take_nil
  · exact .inr ⟨b, off, rfl, hlt, fun i hi j hj => by
      have hi2 : i < xs.length := by rw [List.length_take] at hi; omega
      rw [List.getElem_take]
      exact hc i hi2 j hj⟩
theorem headNil : clK Pz.e [] 0 = [] := rfl
set_option maxRecDepth 100000 in
set_option maxHeartbeats 8000000 in
theorem turned_law (w : World) (A : Option Addr) (cap : Nat) (l : List Pz) (by_ : Int) (hI : pzE.In w A l) (hlen : l.length ≤ 9223372036854775807) :
    Calls Try.prog 6 #[.slice A l.length cap, .int .i64 by_] w fun e w' => e = .returned (.bool true) ∧ Below w.heap.size w w' := by
  have hsp := Lib.hid (speaks20 w)
  have hz := Lib.hid (fun W (hb : Below w.heap.size w W) => zones_any W A cap l (hI.below hb) hlen)
  unfold ZoPost at hz
  clear hI
  go_enter Try.func6, Try.ntmps6
  go_wp2_with fail
  (with_reducible refine hsp.out.mono ?_)
  rintro e w1 ⟨rfl, hb1⟩
  have hz1 := Lib.hid (hz.out w1 hb1)
  have hB1 := Lib.hid hb1
  clear hsp hz hb1
  go_wp2_with fail
  (with_reducible refine hz1.out.mono ?_)
  rintro e w2 ⟨X, Y, rfl, hX, hY, hR, hb2⟩
  have hB2 := Lib.hid (hB1.out.trans (hb2.mono hB1.out.size))
  have hXl : X.xs.length ≤ 200 := by rw [hX, List.length_take]; omega
  have hrow := Lib.hid hR.rX
  have hYv : ∃ yv : Value, .slice Y.A Y.xs.length Y.c = yv := ⟨_, rfl⟩
  obtain ⟨yv, hyv⟩ := hYv
  rw [hyv]
  clear hz1 hb2 hX hY hR hyv Y
  obtain ⟨XA, Xc, xs⟩ := X
  dsimp only at hXl hrow ⊢
  obtain ⟨n, hn⟩ : ∃ n, xs.length = n := ⟨_, rfl⟩
  rw [hn] at hXl ⊢
  by_cases h0 : n = 0
  case pos =>
    subst h0
    obtain rfl := List.eq_nil_of_length_eq_zero hn
    have hem := Lib.hid (empty_any20 w2 XA Xc [] (.inl rfl) (by decide))
    have hvi : Hid (∀ W : World, Calls Try.prog 16 #[.slice XA ([] : List Pz).length Xc] W fun e w' => e = .returned (.int .i64 (vicI (vicK [] ([] : List Pz).length))) ∧ Below W.heap.size W w') := Lib.hid (fun W => victim_any W XA Xc [] (.inl rfl) (by decide))
    have e1 : headI (clK Pz.e [] ([] : List Pz).length) = -1 := rfl
    have e2 : ((clK Pz.e [] ([] : List Pz).length).length : Int) = 0 := rfl
    have e3 : vicI (vicK [] ([] : List Pz).length) = -1 := rfl
    rw [e1, e2] at hem
    rw [e3] at hvi
    rw [List.length_nil] at hem
    simp only [List.length_nil] at hvi
    clear hrow hn e1 e2 e3 hB1
    go_wp2_with fail
    (with_reducible refine hem.out.mono ?_)
    rintro e w3 ⟨rfl, hb3⟩
    have hB3 := Lib.hid (hB2.out.trans (hb3.mono hB2.out.size))
    clear hb3 hem hB2
    go_wp2_with fail
    (with_reducible refine (hvi.out _).mono ?_)
    rintro e w4 ⟨rfl, hb4⟩
    have hB4 := Lib.hid (hB3.out.trans (hb4.mono hB3.out.size))
    clear hb4 hvi hB3
    go_wp2_with fail
    go_ret
    exact ⟨rfl, hB4.out⟩
  case neg =>
    have h0b : ((n : Int) == 0) = false := by simp [h0]
    have h0I : ¬ (n : Int) = 0 := by omega
    obtain ⟨t, y, ht, hy, y0, y1, t0, t1, wt, wtn, wy⟩ := mod_in by_ (n : Int) (by omega) (by omega)
    obtain ⟨r, hr⟩ : ∃ r : Nat, y = (r : Int) := ⟨y.toNat, by omega⟩
    subst hr
    have hrn : r < n := by omega
    have hrnI : (r : Int) < (n : Int) := by omega
    obtain ⟨g, rfl, hg1, hg2, hnc, -, -⟩ := hrow.out.at_ (i := 0) (by omega)
    rw [hn] at hnc
    have hrc : r ≤ Xc := by omega
    have hrcI : (r : Int) ≤ (Xc : Int) := by omega
    have hncI : (n : Int) ≤ (Xc : Int) := by omega
    have hrnI' : (r : Int) ≤ (n : Int) := by omega
    have hxc : ¬ Xc = r := by omega
    clear y0 y1
    have hX0 := hrow.out.in_
    have hXd := Lib.hid hX0
    clear hX0
    go_upto_region 8 with fail
    refine region_anyC (fun _ => true) (fun _ => True) (by kernel_rfl) ?_
    have hS0 : (fun _ : World => True) w2.drew := trivial
    refine anyL_take 1 (v := ?_) rfl (by kernel_rfl) (fun _ _ _ h => h) (Or.inl ⟨by rfl, ?_⟩) hS0 ?_
    rotate_left
    focus (intro W hW; go_simp; try with_reducible rfl)
    simp only [Act.put, List.setIfInBounds_toArray, List.set_cons_zero, List.set_cons_succ]
    refine anyL_take 2 (v := ?_) rfl (by kernel_rfl) (fun _ _ _ h => h) (Or.inl ⟨by rfl, ?_⟩) hS0 ?_
    rotate_left
    focus (intro W hW; go_simp; try with_reducible rfl)
    simp only [Act.put, List.setIfInBounds_toArray, List.set_cons_zero, List.set_cons_succ]
    refine anyL_take 3 (v := ?_) rfl (by kernel_rfl) (fun _ _ _ h => h) (Or.inl ⟨by rfl, ?_⟩) hS0 ?_
    rotate_left
    focus (intro W hW; go_simp; try with_reducible rfl)
    simp only [Act.put, List.setIfInBounds_toArray, List.set_cons_zero, List.set_cons_succ]
    refine anyL_take 5 (v := ?_) rfl (by kernel_rfl) (fun _ _ _ h => h) (Or.inl ⟨by rfl, ?_⟩) hS0 ?_
    rotate_left
    focus (intro W hW; go_simp; try with_reducible rfl)
    simp only [Act.put, List.setIfInBounds_toArray, List.set_cons_zero, List.set_cons_succ]
    refine anyL_take 6 (v := ?_) rfl (by kernel_rfl) (fun _ _ _ h => h) (Or.inl ⟨by rfl, ?_⟩) hS0 ?_
    rotate_left
    focus (intro W hW; go_simp; try with_reducible rfl)
    simp only [Act.put, List.setIfInBounds_toArray, List.set_cons_zero, List.set_cons_succ]
    refine anyL_take 7 (v := ?_) rfl (by kernel_rfl) (fun _ _ _ h => h) (Or.inl ⟨by rfl, ?_⟩) hS0 ?_
    rotate_left
    focus (intro W hW; go_simp; try with_reducible rfl)
    simp only [Act.put, List.setIfInBounds_toArray, List.set_cons_zero, List.set_cons_succ]
    refine anyL_one 0 rfl (by kernel_rfl) (fun K hK => ?_)
    go_simp
    refine hK.out _ _ (fun _ => trivial) ?_
    clear hK K
    try simp only [Act.put, List.setIfInBounds_toArray, List.set_cons_zero, List.set_cons_succ]
    have hal := ((Below.refl w2.heap.size w2).drew).alloc (Nat.le_refl _) (.cells #[] 35)
    have hE := empty_pz w2.drew (base := w2.heap.size) (Nat.le_refl _)
    have hXa := hXd.out.below hal
    obtain ⟨B1, c1, W1, hrun1, hrow1, hgr1, -⟩ := hE.concat (P := Try.prog) Try.underlying24 infPz (by decide) (by decide) (ad := ⟨g, r * 3, none⟩) (c2 := Xc - r) (ys := xs.drop r) (pz_drop hXa r) (by simp) (by rw [List.length_drop]; omega) (by simp) 24
    have hb1' := hE.grown hgr1 (by simp)
    have hB1x := hal.trans hb1'
    have hX1 := hXd.out.below hB1x
    rw [List.nil_append] at hrow1
    obtain ⟨B2, c2, W2, hrun2, hrow2, hgr2, -⟩ := hrow1.concat (P := Try.prog) Try.underlying24 infPz (by decide) (by decide) (ad := ⟨g, 0, none⟩) (c2 := Xc) (ys := xs.take r) (pz_take hX1 r) (by rw [List.length_drop]; omega) (by rw [List.length_take]; omega) hB1x.size 24
    have hb2' := hrow1.grown hgr2 hB1x.size
    have hB2x := hB1x.trans hb2'
    have hX2 := hXd.out.below hB2x
    rw [List.length_nil, Nat.zero_add, List.length_drop, hn] at hrun1
    rw [List.length_drop, List.length_take, hn, Nat.min_eq_left (by omega), show n - r + r = n by omega] at hrun2
    have hTw := Lib.hid (TwoZ.mk (Xc := Xc) (Bc := c2) hX2 hrow2.in_ (hB2.out.trans (hB2x.mono hB2.out.size)))
    have hyl : (xs.drop r ++ xs.take r).length = n := by rw [List.length_append, List.length_drop, List.length_take, hn]; omega
    have hmem : ∀ z, z ∈ xs ↔ z ∈ xs.drop r ++ xs.take r := fun z => by
      rw [List.mem_append]
      constructor
      · intro h
        rw [← List.take_append_drop r xs, List.mem_append] at h
        exact h.symm
      · intro h
        rcases h with h | h
        · exact List.mem_of_mem_drop h
        · exact List.mem_of_mem_take h
    have halike := vic_alike hmem
    have hcnt : (clK Pz.e (xs.drop r ++ xs.take r) n).length = (clK Pz.e xs n).length := by
      have e1 := clK_cnt Pz.e (xs.drop r ++ xs.take r) n (by omega)
      have e2 := clK_cnt Pz.e xs n (by omega)
      rw [List.take_of_length_le (l := xs.drop r ++ xs.take r) (by omega)] at e1
      rw [List.take_of_length_le (l := xs) (by omega)] at e2
      rw [e1, e2, cntP_app, List.take_append_drop]
    rw [hyl, hn] at halike
    have hisx := (vicK_is xs n).2
    have hisy := (vicK_is (xs.drop r ++ xs.take r) n).2
    clear hB1x hX1 hX2 hb1' hb2' hB2x hrow1 hrow2 hgr1 hgr2 hE hXa hal hmem hB2 hB1 hrow hXd
    generalize xs.drop r ++ xs.take r = ys at *
    have hrun1H := Lib.hid hrun1
    have hrun2H := Lib.hid hrun2
    have hevx := Lib.hid (fun W BA Xc Bc (h : TwoZ w W (some ⟨g, 0, none⟩) BA Xc Bc xs ys) => victim_any W _ Xc xs h.a (by omega))
    have hevy := Lib.hid (fun W BA Xc Bc (h : TwoZ w W (some ⟨g, 0, none⟩) BA Xc Bc xs ys) => victim_any W _ Bc ys h.b (by omega))
    have heex := Lib.hid (fun W BA Xc Bc (h : TwoZ w W (some ⟨g, 0, none⟩) BA Xc Bc xs ys) => empty_any20 W _ Xc xs h.a (by omega))
    have heey := Lib.hid (fun W BA Xc Bc (h : TwoZ w W (some ⟨g, 0, none⟩) BA Xc Bc xs ys) => empty_any20 W _ Bc ys h.b (by omega))
    rw [hn] at hevx heex
    rw [hyl] at hevy heey
    rw [hcnt] at heey
    have hnH := Lib.hid (And.intro hn hyl)
    have halH := Lib.hid halike
    have hixH := Lib.hid hisx
    have hiyH := Lib.hid hisy
    clear hrun1 hrun2 hn hyl halike hisx hisy hcnt hnc hxc ht hy t0 t1 wt wtn wy
    generalize headI (clK Pz.e xs n) = f1 at heex
    generalize headI (clK Pz.e ys n) = f2 at heey
    generalize ((clK Pz.e xs n).length : Int) = m at heex heey
    refine anyL_one 4 rfl (by kernel_rfl) (fun K hK => ?_)
    refine append_run_step rfl (.tmp 52) (.tmp 55) 24 rfl rfl rfl hrun1H.out ?_
    refine hK.out _ _ (fun _ => trivial) ?_
    clear hK K hrun1H
    try simp only [Act.put, List.setIfInBounds_toArray, List.set_cons_zero, List.set_cons_succ]
    refine anyL_one 8 rfl (by kernel_rfl) (fun K hK => ?_)
    refine append_run_step rfl (.tmp 56) (.tmp 59) 24 rfl rfl rfl hrun2H.out ?_
    refine hK.out _ _ (fun _ => trivial) ?_
    clear hK K hrun2H
    try simp only [Act.put, List.setIfInBounds_toArray, List.set_cons_zero, List.set_cons_succ]
    refine anyL_one 9 rfl (by kernel_rfl) (fun K hK => ?_)
    go_simp
    refine hK.out _ _ (fun _ => trivial) ?_
    clear hK K
    try simp only [Act.put, List.setIfInBounds_toArray, List.set_cons_zero, List.set_cons_succ]
    refine anyC_done (by kernel_rfl) ?_ _
    go_wp2_with fail
    (with_reducible refine (hevx.out _ _ _ _ hTw.out).mono ?_)
    rintro e w3 ⟨rfl, hb3⟩
    have hT3 := Lib.hid (hTw.out.below hb3)
    clear hb3 hTw
    go_wp2_with fail
    (with_reducible refine (hevy.out _ _ _ _ hT3.out).mono ?_)
    rintro e w4 ⟨rfl, hb4⟩
    have hT4 := Lib.hid (hT3.out.below hb4)
    clear hb4 hT3
    go_wp2_with fail
    (with_reducible refine (heex.out _ _ _ _ hT4.out).mono ?_)
    rintro e w5 ⟨rfl, hb5⟩
    have hT5 := Lib.hid (hT4.out.below hb5)
    clear hb5 hT4
    go_wp2_with fail
    (with_reducible refine (heey.out _ _ _ _ hT5.out).mono ?_)
    rintro e w6 ⟨rfl, hb6⟩
    have hT6 := Lib.hid (hT5.out.below hb6)
    clear hb6 hT5 hevx hevy heex heey
    go_upto_region 12 with fail
    have qm : (m == m) = true := by simp
    obtain ⟨Wd, hWd, hB9⟩ : ∃ Wd, Wd = w6.drew ∧ Hid (Below w.heap.size w Wd) := ⟨_, rfl, Lib.hid hT6.out.bw.drew⟩
    have hWdH := Lib.hid hWd
    have hS0 : (fun V => V = Wd) Wd := rfl
    have q0 : ∀ b : Nat, decide ((b : Int) < 0) = false := fun b => by simp
    have q1 : decide ((-1 : Int) < 0) = true := by simp
    cases hv1 : vicK xs n with
    | none =>
      have hv2 := halH.out.1.1 hv1
      rw [hv2]
      unfold vicI
      dsimp only
      clear hWd
      refine region_anyC (fun _ => true) (fun V => V = Wd) (by kernel_rfl) ?_
      rw [← hWdH.out]
      refine anyL_take 0 (v := ?_) rfl (by kernel_rfl) (fun _ _ _ h => h) (Or.inl ⟨by rfl, ?_⟩) hS0 ?_
      rotate_left
      focus (intro W hW; go_simp; try with_reducible rfl)
      simp only [Act.put, List.setIfInBounds_toArray, List.set_cons_zero, List.set_cons_succ]
      refine anyL_take 1 (v := ?_) rfl (by kernel_rfl) (fun _ _ _ h => h) (Or.inl ⟨by rfl, ?_⟩) hS0 ?_
      rotate_left
      focus (intro W hW; go_simp; try with_reducible rfl)
      simp only [Act.put, List.setIfInBounds_toArray, List.set_cons_zero, List.set_cons_succ]
      refine anyL_take 2 (v := ?_) rfl (by kernel_rfl) (fun _ _ _ h => h) (Or.inl ⟨by rfl, ?_⟩) hS0 ?_
      rotate_left
      focus (intro W hW; go_simp; try with_reducible rfl)
      simp only [Act.put, List.setIfInBounds_toArray, List.set_cons_zero, List.set_cons_succ]
      refine anyL_take 3 (v := ?_) rfl (by kernel_rfl) (fun _ _ _ h => h) (Or.inl ⟨by rfl, ?_⟩) hS0 ?_
      rotate_left
      focus (intro W hW; go_simp; try with_reducible rfl)
      simp only [Act.put, List.setIfInBounds_toArray, List.set_cons_zero, List.set_cons_succ]
      refine anyL_take 4 (v := ?_) rfl (by kernel_rfl) (fun _ _ _ h => h) (Or.inl ⟨by rfl, ?_⟩) hS0 ?_
      rotate_left
      focus (intro W hW; go_simp; try with_reducible rfl)
      simp only [Act.put, List.setIfInBounds_toArray, List.set_cons_zero, List.set_cons_succ]
      refine anyL_take 5 (v := ?_) rfl (by kernel_rfl) (fun _ _ _ h => h) (Or.inl ⟨by rfl, ?_⟩) hS0 ?_
      rotate_left
      focus (intro W hW; go_simp; try with_reducible rfl)
      simp only [Act.put, List.setIfInBounds_toArray, List.set_cons_zero, List.set_cons_succ]
      refine anyL_take 6 (v := ?_) rfl (by kernel_rfl) (fun _ _ _ h => h) (Or.inl ⟨by rfl, ?_⟩) hS0 ?_
      rotate_left
      focus (intro W hW; go_simp; try with_reducible rfl)
      simp only [Act.put, List.setIfInBounds_toArray, List.set_cons_zero, List.set_cons_succ]
      refine anyL_take 7 (v := ?_) rfl (by kernel_rfl) (fun _ _ _ h => h) (Or.inl ⟨by rfl, ?_⟩) hS0 ?_
      rotate_left
      focus (intro W hW; go_simp; try with_reducible rfl)
      simp only [Act.put, List.setIfInBounds_toArray, List.set_cons_zero, List.set_cons_succ]
      refine anyL_take 8 (v := ?_) rfl (by kernel_rfl) (fun _ _ _ h => h) (Or.inl ⟨by rfl, ?_⟩) hS0 ?_
      rotate_left
      focus (intro W hW; go_simp; try with_reducible rfl)
      simp only [Act.put, List.setIfInBounds_toArray, List.set_cons_zero, List.set_cons_succ]
      refine anyL_take 9 (v := ?_) rfl (by kernel_rfl) (fun _ _ _ h => h) (Or.inl ⟨by rfl, ?_⟩) hS0 ?_
      rotate_left
      focus (intro W hW; go_simp; try with_reducible rfl)
      simp only [Act.put, List.setIfInBounds_toArray, List.set_cons_zero, List.set_cons_succ]
      refine anyL_take 10 (v := ?_) rfl (by kernel_rfl) (fun _ _ _ h => h) (Or.inl ⟨by rfl, ?_⟩) hS0 ?_
      rotate_left
      focus (intro W hW; go_simp; try with_reducible rfl)
      simp only [Act.put, List.setIfInBounds_toArray, List.set_cons_zero, List.set_cons_succ]
      refine anyL_take 11 (v := ?_) rfl (by kernel_rfl) (fun _ _ _ h => h) (Or.inl ⟨by rfl, ?_⟩) hS0 ?_
      rotate_left
      focus (intro W hW; go_simp; try with_reducible rfl)
      simp only [Act.put, List.setIfInBounds_toArray, List.set_cons_zero, List.set_cons_succ]
      refine anyL_take 12 (v := ?_) rfl (by kernel_rfl) (fun _ _ _ h => h) (Or.inl ⟨by rfl, ?_⟩) hS0 ?_
      rotate_left
      focus (intro W hW; go_simp; try with_reducible rfl)
      simp only [Act.put, List.setIfInBounds_toArray, List.set_cons_zero, List.set_cons_succ]
      refine anyL_take 13 (v := ?_) rfl (by kernel_rfl) (fun _ _ _ h => h) (Or.inl ⟨by rfl, ?_⟩) hS0 ?_
      rotate_left
      focus (intro W hW; go_simp; try with_reducible rfl)
      simp only [Act.put, List.setIfInBounds_toArray, List.set_cons_zero, List.set_cons_succ]
      refine anyL_take 14 (v := undef) rfl (by kernel_rfl) (fun _ _ _ h => h) (Or.inr ⟨by rfl, rfl⟩) hS0 ?_
      simp only [Act.put, List.setIfInBounds_toArray, List.set_cons_zero, List.set_cons_succ]
      refine anyL_take 15 (v := undef) rfl (by kernel_rfl) (fun _ _ _ h => h) (Or.inr ⟨by rfl, rfl⟩) hS0 ?_
      simp only [Act.put, List.setIfInBounds_toArray, List.set_cons_zero, List.set_cons_succ]
      refine anyL_take 16 (v := undef) rfl (by kernel_rfl) (fun _ _ _ h => h) (Or.inr ⟨by rfl, rfl⟩) hS0 ?_
      simp only [Act.put, List.setIfInBounds_toArray, List.set_cons_zero, List.set_cons_succ]
      refine anyL_take 17 (v := undef) rfl (by kernel_rfl) (fun _ _ _ h => h) (Or.inr ⟨by rfl, rfl⟩) hS0 ?_
      simp only [Act.put, List.setIfInBounds_toArray, List.set_cons_zero, List.set_cons_succ]
      refine anyL_take 18 (v := undef) rfl (by kernel_rfl) (fun _ _ _ h => h) (Or.inr ⟨by rfl, rfl⟩) hS0 ?_
      simp only [Act.put, List.setIfInBounds_toArray, List.set_cons_zero, List.set_cons_succ]
      refine anyL_take 19 (v := undef) rfl (by kernel_rfl) (fun _ _ _ h => h) (Or.inr ⟨by rfl, rfl⟩) hS0 ?_
      simp only [Act.put, List.setIfInBounds_toArray, List.set_cons_zero, List.set_cons_succ]
      refine anyL_take 20 (v := undef) rfl (by kernel_rfl) (fun _ _ _ h => h) (Or.inr ⟨by rfl, rfl⟩) hS0 ?_
      simp only [Act.put, List.setIfInBounds_toArray, List.set_cons_zero, List.set_cons_succ]
      refine anyL_take 21 (v := undef) rfl (by kernel_rfl) (fun _ _ _ h => h) (Or.inr ⟨by rfl, rfl⟩) hS0 ?_
      simp only [Act.put, List.setIfInBounds_toArray, List.set_cons_zero, List.set_cons_succ]
      refine anyL_take 22 (v := undef) rfl (by kernel_rfl) (fun _ _ _ h => h) (Or.inr ⟨by rfl, rfl⟩) hS0 ?_
      simp only [Act.put, List.setIfInBounds_toArray, List.set_cons_zero, List.set_cons_succ]
      refine anyL_take 23 (v := ?_) rfl (by kernel_rfl) (fun _ _ _ h => h) (Or.inl ⟨by rfl, ?_⟩) hS0 ?_
      rotate_left
      focus (intro W hW; go_simp; try with_reducible rfl)
      simp only [Act.put, List.setIfInBounds_toArray, List.set_cons_zero, List.set_cons_succ]
      refine anyL_take 24 (v := ?_) rfl (by kernel_rfl) (fun _ _ _ h => h) (Or.inl ⟨by rfl, ?_⟩) hS0 ?_
      rotate_left
      focus (intro W hW; go_simp; try with_reducible rfl)
      simp only [Act.put, List.setIfInBounds_toArray, List.set_cons_zero, List.set_cons_succ]
      refine anyL_one 25 rfl (by kernel_rfl) (fun K hK => ?_)
      go_simp
      refine hK.out _ _ (fun _ => hS0) ?_
      clear hK K
      try simp only [Act.put, List.setIfInBounds_toArray, List.set_cons_zero, List.set_cons_succ]
      refine anyC_done (by kernel_rfl) ?_ _
      go_wp2_with fail
      go_ret
      exact ⟨rfl, hB9.out⟩
    | some a =>
      cases hv2 : vicK ys n with
      | none => rw [halH.out.1.2 hv2] at hv1; cases hv1
      | some b =>
        have hal := halH.out.2 a b hv1 hv2
        have ha := (hixH.out a hv1).1
        have hb := (hiyH.out b hv2).1
        have hal2 : a < xs.length := by rw [hnH.out.1]; exact ha
        have hbl2 : b < ys.length := by rw [hnH.out.2]; exact hb
        rw [zAt_eq hal2, zAt_eq hbl2] at hal
        obtain ⟨xb, xo, xe, -, a0, a1, a2⟩ := pz_at hT6.out.a hal2
        simp only [Option.some.injEq, Addr.mk.injEq, and_true] at xe
        obtain ⟨rfl, rfl⟩ := xe
        obtain ⟨yb, yo, rfl, -, b0, b1, b2⟩ := pz_at hT6.out.b hbl2
        rw [← hal] at b0 b1 b2
        generalize xs[a] = x at a0 a1 a2 b0 b1 b2
        have hq := fun W => (pz_eql W x).1
        have haI : (a : Int) < (n : Int) := by omega
        have hbI : (b : Int) < (n : Int) := by omega
        replace a0 : Wd.cell? ⟨g, 0 + a * 3, none⟩ = some (.int .i64 x.l) := by rw [hWd]; exact a0
        replace a1 : Wd.cell? ⟨g, 0 + a * 3 + 1, none⟩ = some (.int .i64 x.v) := by rw [hWd]; exact a1
        replace a2 : Wd.cell? ⟨g, 0 + a * 3 + 2, none⟩ = some (.bool x.o) := by rw [hWd]; exact a2
        replace b0 : Wd.cell? ⟨yb, yo + b * 3, none⟩ = some (.int .i64 x.l) := by rw [hWd]; exact b0
        replace b1 : Wd.cell? ⟨yb, yo + b * 3 + 1, none⟩ = some (.int .i64 x.v) := by rw [hWd]; exact b1
        replace b2 : Wd.cell? ⟨yb, yo + b * 3 + 2, none⟩ = some (.bool x.o) := by rw [hWd]; exact b2
        rw [Nat.zero_add] at a0 a1 a2
        unfold vicI
        dsimp only
        clear hWd hv1 hv2 hal hal2 hbl2 ha hb
        refine region_anyC (fun _ => true) (fun V => V = Wd) (by kernel_rfl) ?_
        rw [← hWdH.out]
        refine anyL_take 0 (v := ?_) rfl (by kernel_rfl) (fun _ _ _ h => h) (Or.inl ⟨by rfl, ?_⟩) hS0 ?_
        rotate_left
        focus (intro W hW; go_simp; try with_reducible rfl)
        simp only [Act.put, List.setIfInBounds_toArray, List.set_cons_zero, List.set_cons_succ]
        refine anyL_take 1 (v := ?_) rfl (by kernel_rfl) (fun _ _ _ h => h) (Or.inl ⟨by rfl, ?_⟩) hS0 ?_
        rotate_left
        focus (intro W hW; go_simp; try with_reducible rfl)
        simp only [Act.put, List.setIfInBounds_toArray, List.set_cons_zero, List.set_cons_succ]
        refine anyL_take 2 (v := ?_) rfl (by kernel_rfl) (fun _ _ _ h => h) (Or.inl ⟨by rfl, ?_⟩) hS0 ?_
        rotate_left
        focus (intro W hW; go_simp; try with_reducible rfl)
        simp only [Act.put, List.setIfInBounds_toArray, List.set_cons_zero, List.set_cons_succ]
        refine anyL_take 3 (v := ?_) rfl (by kernel_rfl) (fun _ _ _ h => h) (Or.inl ⟨by rfl, ?_⟩) hS0 ?_
        rotate_left
        focus (intro W hW; go_simp; try with_reducible rfl)
        simp only [Act.put, List.setIfInBounds_toArray, List.set_cons_zero, List.set_cons_succ]
        refine anyL_take 4 (v := ?_) rfl (by kernel_rfl) (fun _ _ _ h => h) (Or.inl ⟨by rfl, ?_⟩) hS0 ?_
        rotate_left
        focus (intro W hW; go_simp; try with_reducible rfl)
        simp only [Act.put, List.setIfInBounds_toArray, List.set_cons_zero, List.set_cons_succ]
        refine anyL_take 5 (v := ?_) rfl (by kernel_rfl) (fun _ _ _ h => h) (Or.inl ⟨by rfl, ?_⟩) hS0 ?_
        rotate_left
        focus (intro W hW; go_simp; try with_reducible rfl)
        simp only [Act.put, List.setIfInBounds_toArray, List.set_cons_zero, List.set_cons_succ]
        refine anyL_take 6 (v := ?_) rfl (by kernel_rfl) (fun _ _ _ h => h) (Or.inl ⟨by rfl, ?_⟩) hS0 ?_
        rotate_left
        focus (intro W hW; go_simp; try with_reducible rfl)
        simp only [Act.put, List.setIfInBounds_toArray, List.set_cons_zero, List.set_cons_succ]
        refine anyL_take 7 (v := ?_) rfl (by kernel_rfl) (fun _ _ _ h => h) (Or.inl ⟨by rfl, ?_⟩) hS0 ?_
        rotate_left
        focus (intro W hW; go_simp; try with_reducible rfl)
        simp only [Act.put, List.setIfInBounds_toArray, List.set_cons_zero, List.set_cons_succ]
        refine anyL_take 8 (v := ?_) rfl (by kernel_rfl) (fun _ _ _ h => h) (Or.inl ⟨by rfl, ?_⟩) hS0 ?_
        rotate_left
        focus (intro W hW; go_simp; try with_reducible rfl)
        simp only [Act.put, List.setIfInBounds_toArray, List.set_cons_zero, List.set_cons_succ]
        refine anyL_take 9 (v := ?_) rfl (by kernel_rfl) (fun _ _ _ h => h) (Or.inl ⟨by rfl, ?_⟩) hS0 ?_
        rotate_left
        focus (intro W hW; go_simp; try with_reducible rfl)
        simp only [Act.put, List.setIfInBounds_toArray, List.set_cons_zero, List.set_cons_succ]
        refine anyL_take 10 (v := ?_) rfl (by kernel_rfl) (fun _ _ _ h => h) (Or.inl ⟨by rfl, ?_⟩) hS0 ?_
        rotate_left
        focus (intro W hW; go_simp; try with_reducible rfl)
        simp only [Act.put, List.setIfInBounds_toArray, List.set_cons_zero, List.set_cons_succ]
        refine anyL_take 11 (v := ?_) rfl (by kernel_rfl) (fun _ _ _ h => h) (Or.inl ⟨by rfl, ?_⟩) hS0 ?_
        rotate_left
        focus (intro W hW; go_simp; try with_reducible rfl)
        simp only [Act.put, List.setIfInBounds_toArray, List.set_cons_zero, List.set_cons_succ]
        refine anyL_take 12 (v := ?_) rfl (by kernel_rfl) (fun _ _ _ h => h) (Or.inl ⟨by rfl, ?_⟩) hS0 ?_
        rotate_left
        focus (intro W hW; go_simp; try with_reducible rfl)
        simp only [Act.put, List.setIfInBounds_toArray, List.set_cons_zero, List.set_cons_succ]
        refine anyL_take 13 (v := ?_) rfl (by kernel_rfl) (fun _ _ _ h => h) (Or.inl ⟨by rfl, ?_⟩) hS0 ?_
        rotate_left
        focus (intro W hW; go_simp; try with_reducible rfl)
        simp only [Act.put, List.setIfInBounds_toArray, List.set_cons_zero, List.set_cons_succ]
        refine anyL_take 14 (v := ?_) rfl (by kernel_rfl) (fun _ _ _ h => h) (Or.inl ⟨by rfl, ?_⟩) hS0 ?_
        rotate_left
        focus (intro W hW; go_simp; try with_reducible rfl)
        simp only [Act.put, List.setIfInBounds_toArray, List.set_cons_zero, List.set_cons_succ]
        refine anyL_take 15 (v := ?_) rfl (by kernel_rfl) (fun _ _ _ h => h) (Or.inl ⟨by rfl, ?_⟩) hS0 ?_
        rotate_left
        focus (intro W hW; go_simp; try with_reducible rfl)
        simp only [Act.put, List.setIfInBounds_toArray, List.set_cons_zero, List.set_cons_succ]
        refine anyL_take 16 (v := ?_) rfl (by kernel_rfl) (fun _ _ _ h => h) (Or.inl ⟨by rfl, ?_⟩) hS0 ?_
        rotate_left
        focus (intro W hW; go_simp; try with_reducible rfl)
        simp only [Act.put, List.setIfInBounds_toArray, List.set_cons_zero, List.set_cons_succ]
        refine anyL_take 17 (v := ?_) rfl (by kernel_rfl) (fun _ _ _ h => h) (Or.inl ⟨by rfl, ?_⟩) hS0 ?_
        rotate_left
        focus (intro W hW; obtain rfl := hW; go_simp; try with_reducible rfl)
        simp only [Act.put, List.setIfInBounds_toArray, List.set_cons_zero, List.set_cons_succ]
        refine anyL_take 18 (v := ?_) rfl (by kernel_rfl) (fun _ _ _ h => h) (Or.inl ⟨by rfl, ?_⟩) hS0 ?_
        rotate_left
        focus (intro W hW; go_simp; try with_reducible rfl)
        simp only [Act.put, List.setIfInBounds_toArray, List.set_cons_zero, List.set_cons_succ]
        refine anyL_take 19 (v := ?_) rfl (by kernel_rfl) (fun _ _ _ h => h) (Or.inl ⟨by rfl, ?_⟩) hS0 ?_
        rotate_left
        focus (intro W hW; go_simp; try with_reducible rfl)
        simp only [Act.put, List.setIfInBounds_toArray, List.set_cons_zero, List.set_cons_succ]
        refine anyL_take 20 (v := ?_) rfl (by kernel_rfl) (fun _ _ _ h => h) (Or.inl ⟨by rfl, ?_⟩) hS0 ?_
        rotate_left
        focus (intro W hW; go_simp; try with_reducible rfl)
        simp only [Act.put, List.setIfInBounds_toArray, List.set_cons_zero, List.set_cons_succ]
        refine anyL_take 21 (v := ?_) rfl (by kernel_rfl) (fun _ _ _ h => h) (Or.inl ⟨by rfl, ?_⟩) hS0 ?_
        rotate_left
        focus (intro W hW; obtain rfl := hW; go_simp; try with_reducible rfl)
        simp only [Act.put, List.setIfInBounds_toArray, List.set_cons_zero, List.set_cons_succ]
        refine anyL_take 22 (v := ?_) rfl (by kernel_rfl) (fun _ _ _ h => h) (Or.inl ⟨by rfl, ?_⟩) hS0 ?_
        rotate_left
        focus (intro W hW; have h22 := hq W; go_simp; try with_reducible rfl)
        simp only [Act.put, List.setIfInBounds_toArray, List.set_cons_zero, List.set_cons_succ]
        refine anyL_take 23 (v := ?_) rfl (by kernel_rfl) (fun _ _ _ h => h) (Or.inl ⟨by rfl, ?_⟩) hS0 ?_
        rotate_left
        focus (intro W hW; go_simp; try with_reducible rfl)
        simp only [Act.put, List.setIfInBounds_toArray, List.set_cons_zero, List.set_cons_succ]
        refine anyL_take 24 (v := ?_) rfl (by kernel_rfl) (fun _ _ _ h => h) (Or.inl ⟨by rfl, ?_⟩) hS0 ?_
        rotate_left
        focus (intro W hW; go_simp; try with_reducible rfl)
        simp only [Act.put, List.setIfInBounds_toArray, List.set_cons_zero, List.set_cons_succ]
        refine anyL_one 25 rfl (by kernel_rfl) (fun K hK => ?_)
        go_simp
        refine hK.out _ _ (fun _ => hS0) ?_
        clear hK K
        try simp only [Act.put, List.setIfInBounds_toArray, List.set_cons_zero, List.set_cons_succ]
        refine anyC_done (by kernel_rfl) ?_ _
        go_wp2_with fail
        go_ret
        exact ⟨rfl, hB9.out⟩
end Go.Proofs.Ytbgkmppngnedlaa
