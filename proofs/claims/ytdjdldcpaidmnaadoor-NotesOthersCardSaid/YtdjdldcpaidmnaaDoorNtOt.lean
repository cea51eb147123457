/- NotesOthers: the walk. -/
import Derived.Test.YtdjdldcpaidmnaaDoorNtSp
import Derived.Test.YtdjdldcpaidmnaaDoorNtWh
import Derived.Test.YtdjdldcpaidmnaaDoorNtOp
import Derived.BigQuiet
namespace Go.Proofs.YtdjdldcpaidmnaaDoor
open Go.RowKit Rec Go.Maps Crc

def rcE : Enc Rc := ⟨Rc.cellsL, 7, fun _ => rfl, fun x u hu => by
  unfold Rc.cellsL at hu
  simp only [List.mem_cons, List.not_mem_nil, or_false] at hu
  rcases hu with rfl | rfl | rfl | rfl | rfl | rfl | rfl <;> rfl⟩
theorem infRcE : Enc.Inf Tryd.prog 29 7 64 := by unfold Enc.Inf; kernel_rfl
theorem rcIn {W : World} {A : Option Addr} {l : List Rc} (h : rcE.In W A l) : RecsAt W A l := h
theorem mod_moreN (x : Int) {m : Int} (h1 : 1 ≤ m) (h2 : m ≤ 5000) : ∃ (t : Int) (c : Nat), x.tmod m = t ∧ (t + m).tmod m = (c : Int) ∧ (c : Int) < m ∧ IntKind.i64.wrap t = t ∧ -5000 ≤ t ∧ t ≤ 5000 ∧ IntKind.i64.wrap (c : Int) = (c : Int) ∧ ¬ m = 0 ∧ ¬ m = -1 := by
  obtain ⟨t, y, e1, e2, h3, h4, _, _, h7, _⟩ := mod_in x m (by omega) (by omega)
  obtain ⟨c, rfl⟩ := Int.eq_ofNat_of_zero_le h3
  have b1 := Int.tmod_lt_of_pos x (show 0 < m by omega)
  have b2 := Int.lt_tmod_of_pos x (show 0 < m by omega)
  exact ⟨t, c, e1, e2, h4, h7, by omega, by omega, IntWalk.i64_in _ (by omega), by omega, by omega⟩
/-- The first so many records, as whole makes them. -/
def whL (l : List Rc) (k : Nat) : List Rc := (l.take k).map wholeR
theorem whL_len {l : List Rc} {k : Nat} (h : k ≤ l.length) : (whL l k).length = k := by unfold whL; rw [List.length_map, List.length_take]; omega
theorem whL_succ {l : List Rc} {k : Nat} (h : k < l.length) : whL l (k + 1) = whL l k ++ [wholeR l[k]] := by
  unfold whL
  rw [List.take_succ_eq_append_getElem h, List.map_append]
  rfl
theorem wholeR_kac (x : Rc) : (wholeR x).k = x.k ∧ (wholeR x).a = x.a ∧ (wholeR x).c = x.c := by
  unfold wholeR
  split <;> exact ⟨rfl, rfl, rfl⟩
theorem whL_wf {l : List Rc} {k : Nat} (h : ∀ x ∈ l, RcWf x) : ∀ x ∈ whL l k, WfI x.a ∧ WfI x.c := fun x hx => by
  unfold whL at hx
  obtain ⟨y, hy, rfl⟩ := List.mem_map.1 hx
  have h1 := h y (List.mem_of_mem_take hy)
  rw [(wholeR_kac y).2.1, (wholeR_kac y).2.2]
  exact ⟨h1.2.1, h1.2.2⟩
/-- Records of other kinds, zones or generations. -/
def othB (x : Rc) : Bool := decide (x.k ≠ 4 ∨ x.a ≠ 1 ∨ x.c ≠ 1)
def othL (l : List Rc) (k : Nat) : List Rc := (whL l k).filter othB
theorem othL_len (l : List Rc) (k : Nat) : (othL l k).length ≤ k := by
  unfold othL whL
  refine Nat.le_trans (List.length_filter_le _ _) ?_
  rw [List.length_map, List.length_take]
  omega
theorem othL_yes {l : List Rc} {k : Nat} (h : k < l.length) (ho : othB (wholeR l[k]) = true) : othL l (k + 1) = othL l k ++ [wholeR l[k]] := by
  unfold othL
  rw [whL_succ h, List.filter_append, List.filter_cons_of_pos ho]
  rfl
theorem othL_no {l : List Rc} {k : Nat} (h : k < l.length) (ho : othB (wholeR l[k]) = false) : othL l (k + 1) = othL l k := by
  unfold othL
  rw [whL_succ h, List.filter_append, List.filter_cons_of_neg (by rw [ho]; decide)]
  simp
theorem others_same (la lm : List Rc) (c : Nat) (hm : ∀ x ∈ lm, othB x = true) : notesOf (la.take c ++ lm ++ la.drop c) (1, 1) = notesOf la (1, 1) := by
  unfold notesOf
  have h1 : lm.filter (isN (1, 1)) = [] := by
    rw [List.filter_eq_nil_iff]
    intro x hx h2
    have h3 := of_decide_eq_true (hm x hx)
    have h4 := of_decide_eq_true h2
    rcases h3 with h3 | h3 | h3
    · exact h3 h4.1
    · exact h3 h4.2.1
    · exact h3 h4.2.2
  rw [List.filter_append, List.filter_append, h1, List.append_nil, ← List.filter_append, List.take_append_drop]
theorem others_wf {la lm : List Rc} {c : Nat} (h1 : ∀ x ∈ la, WfI x.a ∧ WfI x.c) (h2 : ∀ x ∈ lm, WfI x.a ∧ WfI x.c) : ∀ x ∈ la.take c ++ lm ++ la.drop c, WfI x.a ∧ WfI x.c := fun x hx => by
  rcases List.mem_append.1 hx with hx | hx
  · rcases List.mem_append.1 hx with hx | hx
    · exact h1 x (List.mem_of_mem_take hx)
    · exact h2 x hx
  · exact h1 x (List.mem_of_mem_drop hx)
theorem rc_cells (W : World) (x : Rc) (t : TypeId) : ∀ j, j < rcE.k → (W.alloc (.cells #[.int .i64 x.k, .int .i64 x.s, .int .i64 x.a, .int .i64 x.b, .int .i64 x.c, .int .i64 x.d, .string x.body] t)).cell? ⟨W.heap.size, j, none⟩ = (rcE.c x)[j]? := fun j hj => by
  rw [World.cell?_alloc_new]
  have h7 : j < 7 := hj
  rcases (by omega : j = 0 ∨ j = 1 ∨ j = 2 ∨ j = 3 ∨ j = 4 ∨ j = 5 ∨ j = 6) with rfl | rfl | rfl | rfl | rfl | rfl | rfl <;> rfl
theorem in_take {W : World} {A : Option Addr} {l : List Rc} (h : rcE.In W A l) (c : Nat) : rcE.In W A (l.take c) := by
  rcases h with h0 | ⟨b, off, e, hl, hc⟩
  · left; rw [h0, List.take_nil]
  · refine .inr ⟨b, off, e, hl, fun i hi j hj => ?_⟩
    rw [List.getElem_take]
    exact hc i (by rw [List.length_take] at hi; omega) j hj
theorem in_drop {W : World} {b : Nat} {l : List Rc} (h : rcE.In W (some ⟨b, 0, none⟩) l) (c : Nat) : rcE.In W (some ⟨b, c * 7, none⟩) (l.drop c) := by
  rcases h with h0 | ⟨b', off, e, hl, hc⟩
  · left; rw [h0, List.drop_nil]
  · injection e with e; injection e with e1 e2
    subst e1; subst e2
    refine .inr ⟨b, c * 7, rfl, hl, fun i hi j hj => ?_⟩
    rw [List.getElem_drop]
    have h1 := hc (c + i) (by rw [List.length_drop] at hi; omega) j hj
    rw [show 0 + (c + i) * rcE.k + j = c * 7 + i * rcE.k + j by show 0 + (c + i) * 7 + j = c * 7 + i * 7 + j; omega] at h1
    exact h1
theorem ap_none (W : World) (base : Nat) (B : Option Addr) (capB : Nat) (l : List Rc) (h : rcE.Row W base 29 B capB l) : (Builtin.append_ #[24, 24] 24 #[.slice B l.length capB, .slice none 0 0]).run Tryd.prog W = .ok (.slice B l.length capB) W := by
  have hinf := infRcE
  unfold Enc.Inf at hinf
  rw [Option.map_eq_some_iff] at hinf
  obtain ⟨i0, hi, _⟩ := hinf
  exact run_append_owned_none _ base 24 24 29 i0 7 Tryd.underlying24 hi _ _ _ h
set_option maxRecDepth 100000 in
set_option maxHeartbeats 4000000 in
theorem others_law (w : World) (hT : Tab w) (A1 : Option Addr) (c1 : Nat) (l : List Rc) (A2 : Option Addr) (c2 : Nat) (mo : List Rc) (a : Int) (hI1 : RecsAt w A1 l) (hw1 : ∀ x ∈ l, RcWf x) (hI2 : RecsAt w A2 mo) (hw2 : ∀ x ∈ mo, RcWf x) :
    Calls Tryd.prog 6 #[.slice A1 l.length c1, .slice A2 mo.length c2, .int .i64 a] w fun e w' => e = .returned (.bool true) ∧ Below w.heap.size w w' := by
  have hL1 := Lib.hid (fun W (hb : Below w.heap.size w W) => hI1.below hb)
  have hL2 := Lib.hid (fun W (hb : Below w.heap.size w W) => hI2.below hb)
  have hwf1 := Lib.hid hw1
  have hwf2 := Lib.hid hw2
  have hspk := Lib.hid (speaks14 w hT)
  clear hI1 hI2 hw1 hw2 hT
  go_enter Tryd.func6, Tryd.ntmps6
  go_wp2_with fail
  (with_reducible refine hspk.out.mono ?_)
  rintro e w2 ⟨rfl, hb2⟩
  have hb2H := Lib.hid hb2
  have hR0 : Hid (rcE.Row w2 w.heap.size 29 none 0 []) := Lib.hid (Enc.Row.nil _ _ _)
  clear hspk hb2
  go_wp2_with fail
  go_loopw [7, 9] (fun s i wr => ∃ (k : Nat) (A : Option Addr) (cap : Nat), k ≤ l.length ∧ k ≤ 60 ∧ i = .int .i64 (k : Int) ∧ s = .slice A k cap ∧ Hid (rcE.Row wr w.heap.size 29 A cap (whL l k)) ∧ Hid (Below w.heap.size w wr)) (fun _ i _ => 60 - (intOf i).toNat)
  case atStart => exact ⟨0, none, 0, Nat.zero_le _, Nat.zero_le _, rfl, rfl, hR0, hb2H⟩
  case round =>
    clear hR0 hb2H
    obtain ⟨k, A, cap, hkl, hk60, rfl, rfl, hR, hB⟩ := hrel
    obtain ⟨t, ht⟩ : ∃ t : Bool, (t = true ↔ (k < l.length ∧ k < 60)) := ⟨decide (k < l.length ∧ k < 60), by simp⟩
    have htH := Lib.hid ht
    clear ht
    go_upto_region 5 with fail
    go_cut [24] from 17 to 34 (fun c wx => c = .bool t ∧ wx = wr)
    case first =>
      by_cases hlo : (k : Int) < (l.length : Int)
      case neg =>
        have hf : t = false := by cases t with
          | false => rfl
          | true => exact absurd (htH.out.1 rfl).1 (by omega)
        subst hf
        go_wp2_with fail
        go_meet
        exact ⟨rfl, rfl⟩
      case pos =>
        have htd : Hid (t = decide ((k : Int) < 60)) := Lib.hid (by
          rw [Bool.eq_iff_iff, htH.out, decide_eq_true_eq]
          omega)
        go_wp2_with fail
        go_meet
        exact ⟨by rw [htd.out], rfl⟩
    case rest =>
      obtain ⟨rfl, rfl⟩ := hcut
      cases t with
      | true =>
        obtain ⟨hlo, hl60⟩ := htH.out.1 rfl
        clear htH
        have hkw : IntKind.i64.wrap ((k : Int) + 1) = (k : Int) + 1 := IntWalk.i64_in _ (by omega)
        have hkI : (k : Int) < (l.length : Int) := by omega
        obtain ⟨g, off, rfl, hgl, x0, x1, x2, x3, x4, x5, x6⟩ := (hL1.out wc hB.out).at_ hlo
        have hwx := hwf1.out l[k] (List.getElem_mem hlo)
        have hwc := Lib.hid (fun W => whole_any l[k] W (by have := hwx.1; unfold reachBytes at this; omega))
        have hsu := Lib.hid (whL_succ hlo)
        have hlk := Lib.hid (whL_len hkl)
        clear hwx
        generalize l[k] = x at x0 x1 x2 x3 x4 x5 x6 hwc hsu
        generalize whL l k = lk at hR hsu hlk
        go_wp2_with fail
        (with_reducible refine (hwc.out _).mono ?_)
        rintro e w3 ⟨rfl, hb3⟩
        generalize wholeR x = y at hsu ⊢
        have hal := (Below.refl w3.heap.size w3).alloc (Nat.le_refl _) (.cells #[.int .i64 y.k, .int .i64 y.s, .int .i64 y.a, .int .i64 y.b, .int .i64 y.c, .int .i64 y.d, .string y.body] 29)
        have hR3 := (hR.out.below hb3).below hal
        have hB3 := bmore (bmore hB.out hb3) hal
        obtain ⟨A3, cap3, W6, hrun6, hR6, hG6, _⟩ := hR3.append (P := Tryd.prog) Tryd.underlying24 infRcE (by decide) (by decide) (m := w3.heap.size) (x := y) (rc_cells w3 y 29) (by rw [hlk.out]; omega) hB3.size 24
        rw [hlk.out] at hrun6
        have hrun6H := Lib.hid hrun6
        have hB6 := Lib.hid (hB3.trans (hR3.grown hG6 hB3.size))
        rw [← hsu.out] at hR6
        have hR6H := Lib.hid hR6
        clear hrun6 hR6 hG6 hR3 hB3 hR hB hb3 hal hwc x0 x1 x2 x3 x4 x5 x6 hgl
        go_wp2_with (at_builtin; refine append_run_wp rfl _ _ _ rfl rfl rfl hrun6H.out ?_; clear hrun6H)
        first
          | exact ⟨⟨k + 1, A3, cap3, by omega, by omega, by go_num, rfl, hR6H, hB6⟩, by simp only [intOf]; omega⟩
          | (go_roundw
             case rel => exact ⟨k + 1, A3, cap3, by omega, by omega, by go_num, rfl, hR6H, hB6⟩
             case measure => simp only [intOf]; omega)
      | false =>
        clear htH
        have hlk := Lib.hid (whL_len hkl)
        have hnf := Lib.hid (whL_wf (k := k) hwf1.out)
        have hA0 := Lib.hid hR.out.in_
        have hform := Lib.hid hR.out.form
        have hk60H := Lib.hid hk60
        generalize whL l k = la at hR hlk hnf hA0 hform
        have hB4 := Lib.hid (Below.refl wc.heap.size wc)
        clear hR hkl hwf1 hL1
        have hBw := hB
        clear hB
        generalize wc = w4 at hA0 hform hB4 hBw ⊢
        have hAin : Hid (∀ W, Below w4.heap.size w4 W → rcE.In W A la) := Lib.hid (fun W hb => hA0.out.below hb)
        obtain ⟨M, hM⟩ : ∃ M : Int, (k : Int) + 1 = M := ⟨_, rfl⟩
        obtain ⟨t2, c, y1, y2, y3, y4, y5, y6, y7, y8, y9⟩ := mod_moreN a (m := M) (by omega) (by omega)
        obtain ⟨u, hu⟩ : ∃ u : Int, t2 + M = u := ⟨_, rfl⟩
        rw [hu] at y2
        have z0 : IntKind.i64.wrap ((k : Int) + 1) = M := by rw [hM]; exact IntWalk.i64_in _ (by omega)
        obtain ⟨v1, hv1⟩ : ∃ v1 : Int, t2 + (k : Int) = v1 := ⟨_, rfl⟩
        have z1 : IntKind.i64.wrap (t2 + (k : Int)) = v1 := by rw [hv1]; exact IntWalk.i64_in _ (by omega)
        have z2 : IntKind.i64.wrap (v1 + 1) = u := by rw [show v1 + 1 = u by omega]; exact IntWalk.i64_in _ (by omega)
        have hck : Hid (c ≤ k) := Lib.hid (by omega)
        clear hA0 hM hu hv1 y3 hk60
        go_upto_region 9 with fail
        clear z0 z1 z2 y1 y2 y4 y5 y6 y7 y8 y9
        go_cut [8] from 48 to 52 (fun v8 wx => ∃ (B : Option Addr) (capB : Nat), v8 = .slice B c capB ∧ Hid (rcE.Row wx w4.heap.size 29 B capB (la.take c)) ∧ Hid (Below w4.heap.size w4 wx))
        case first =>
          rcases hform.out with ⟨rfl, rfl, hla⟩ | ⟨g, rfl, _, hgl, hlc⟩
          case inl =>
            have hk0 : k = 0 := by rw [← hlk.out, hla]; rfl
            have hc0 : c = 0 := by have := hck.out; omega
            have hrun := Lib.hid (ap_none w4 w4.heap.size none 0 [] (Enc.Row.nil _ _ _))
            have hfin : Hid (rcE.Row w4 w4.heap.size 29 none 0 (la.take 0)) := Lib.hid (by rw [List.take_zero]; exact Enc.Row.nil _ _ _)
            subst hk0
            subst hc0
            clear hla
            go_wp2_with (at_builtin; refine append_run_wp rfl _ _ _ rfl rfl rfl hrun.out ?_; clear hrun)
            go_meet
            exact ⟨none, 0, rfl, hfin, hB4⟩
          case inr =>
            have hcc : c ≤ cap := by have := hck.out; have := hlk.out; omega
            have hccI : (c : Int) ≤ (cap : Int) := by omega
            have hccN : ¬ (cap : Int) < (c : Int) := by omega
            have hin : rcE.In w4 (some ⟨g, 0, none⟩) (la.take c) := in_take (hAin.out w4 (Below.refl _ _)) c
            obtain ⟨B, capB, W6, hrun, hrow, hgr, _⟩ := (Enc.Row.nil (E := rcE) w4 w4.heap.size 29).concat (P := Tryd.prog) Tryd.underlying24 infRcE (by decide) (by decide) (ad := ⟨g, 0, none⟩) (c2 := cap) (ys := la.take c) hin (by show 0 ≤ 1000000; omega) (by rw [List.length_take]; have := hk60H.out; have := hck.out; omega) (Nat.le_refl _) 24
            have hlt : (la.take c).length = c := by rw [List.length_take]; have := hlk.out; have := hck.out; omega
            rw [hlt] at hrun
            rw [List.nil_append] at hrow
            have hrun2 : (Builtin.append_ #[24, 24] 24 #[.slice none 0 0, .slice (some ⟨g, 0, none⟩) c cap]).run Tryd.prog w4 = .ok (.slice B c capB) W6 := by
              have h1 := hrun
              rw [List.length_nil, Nat.zero_add] at h1
              exact h1
            have hrunH := Lib.hid hrun2
            have hrowH := Lib.hid hrow
            have hB6 := Lib.hid ((Enc.Row.nil (E := rcE) w4 w4.heap.size 29).grown hgr (Nat.le_refl _))
            clear hrun hrow hgr hin hlt hrun2
            go_wp2_with (at_builtin; refine append_run_wp rfl _ _ _ rfl rfl rfl hrunH.out ?_; clear hrunH)
            go_meet
            exact ⟨B, capB, rfl, hrowH, hB6⟩
        case rest =>
          obtain ⟨B, capB, rfl, hRb, hBb⟩ := hcut
          have hcl : Hid ((la.take c).length = c) := Lib.hid (by rw [List.length_take]; have := hlk.out; have := hck.out; omega)
          have hs0 : Hid (c = (la.take c ++ othL mo 0).length) := Lib.hid (by rw [show othL mo 0 = [] from rfl, List.append_nil]; exact hcl.out.symm)
          have hs1 : Hid (rcE.Row wc w4.heap.size 29 B capB (la.take c ++ othL mo 0)) := Lib.hid (by rw [show othL mo 0 = [] from rfl, List.append_nil]; exact hRb.out)
          clear hRb
          go_wp2_with fail
          go_loopw [8, 10] (fun s i wr => ∃ (j nb : Nat) (B : Option Addr) (capB : Nat), j ≤ mo.length ∧ j ≤ 60 ∧ i = .int .i64 (j : Int) ∧ s = .slice B nb capB ∧ Hid (nb = (la.take c ++ othL mo j).length) ∧ Hid (rcE.Row wr w4.heap.size 29 B capB (la.take c ++ othL mo j)) ∧ Hid (Below w4.heap.size w4 wr)) (fun _ i _ => 60 - (intOf i).toNat)
          case atStart => exact ⟨0, c, B, capB, Nat.zero_le _, Nat.zero_le _, rfl, rfl, hs0, hs1, hBb⟩
          case round =>
            clear hs0 hs1 hBb
            obtain ⟨j, nb, B, capB, hjl, hj60, rfl, rfl, hnb, hR, hB⟩ := hrel
            obtain ⟨t, ht⟩ : ∃ t : Bool, (t = true ↔ (j < mo.length ∧ j < 60)) := ⟨decide (j < mo.length ∧ j < 60), by simp⟩
            have htH := Lib.hid ht
            clear ht
            go_upto_region 11 with fail
            go_cut [60] from 53 to 84 (fun c wx => c = .bool t ∧ wx = wr)
            case first =>
              by_cases hlo : (j : Int) < (mo.length : Int)
              case neg =>
                have hf : t = false := by cases t with
                  | false => rfl
                  | true => exact absurd (htH.out.1 rfl).1 (by omega)
                subst hf
                go_wp2_with fail
                go_meet
                exact ⟨rfl, rfl⟩
              case pos =>
                have htd : Hid (t = decide ((j : Int) < 60)) := Lib.hid (by
                  rw [Bool.eq_iff_iff, htH.out, decide_eq_true_eq]
                  omega)
                go_wp2_with fail
                go_meet
                exact ⟨by rw [htd.out], rfl⟩
            case rest =>
              obtain ⟨rfl, rfl⟩ := hcut
              have hlen : Hid ((la.take c ++ othL mo j).length ≤ 120) := Lib.hid (by rw [List.length_append, hcl.out]; have := othL_len mo j; have := hck.out; have := hk60H.out; omega)
              cases t with
              | true =>
                obtain ⟨hlo, hl60⟩ := htH.out.1 rfl
                clear htH
                have hkw : IntKind.i64.wrap ((j : Int) + 1) = (j : Int) + 1 := IntWalk.i64_in _ (by omega)
                have hkI : (j : Int) < (mo.length : Int) := by omega
                obtain ⟨g2, off2, rfl, hgl, x0, x1, x2, x3, x4, x5, x6⟩ := (hL2.out wc (bmore hBw.out hB.out)).at_ hlo
                have hwx := hwf2.out mo[j] (List.getElem_mem hlo)
                have hwc := Lib.hid (fun W => whole_any mo[j] W (by have := hwx.1; unfold reachBytes at this; omega))
                have hyes : Hid (othB (wholeR mo[j]) = true → la.take c ++ othL mo (j + 1) = (la.take c ++ othL mo j) ++ [wholeR mo[j]]) := Lib.hid (fun h => by rw [othL_yes hlo h, List.append_assoc])
                have hno : Hid (othB (wholeR mo[j]) = false → la.take c ++ othL mo (j + 1) = la.take c ++ othL mo j) := Lib.hid (fun h => by rw [othL_no hlo h])
                clear hwx
                generalize mo[j] = x at x0 x1 x2 x3 x4 x5 x6 hwc hyes hno
                generalize la.take c ++ othL mo j = lb at hnb hR hlen hyes hno
                go_wp2_with fail
                (with_reducible refine (hwc.out _).mono ?_)
                rintro e w3 ⟨rfl, hb3⟩
                generalize wholeR x = y at hyes hno ⊢
                have hN : Hid ((rcE.Row (w3.alloc (.cells #[.int .i64 y.k, .int .i64 y.s, .int .i64 y.a, .int .i64 y.b, .int .i64 y.c, .int .i64 y.d, .string y.body] 29)) w4.heap.size 29 B capB lb ∧ Below w4.heap.size w4 (w3.alloc (.cells #[.int .i64 y.k, .int .i64 y.s, .int .i64 y.a, .int .i64 y.b, .int .i64 y.c, .int .i64 y.d, .string y.body] 29))) ∧ RcAt (w3.alloc (.cells #[.int .i64 y.k, .int .i64 y.s, .int .i64 y.a, .int .i64 y.b, .int .i64 y.c, .int .i64 y.d, .string y.body] 29)) w3.heap.size y) := Lib.hid ⟨⟨(hR.out.below hb3).below ((Below.refl _ _).alloc (Nat.le_refl _) _), bmore (bmore hB.out hb3) ((Below.refl _ _).alloc (Nat.le_refl _) _)⟩, RcAt.new w3 y 29⟩
                clear hwc x0 x1 x2 x3 x4 x5 x6 hgl hR hB hb3
                go_upto_region 14 with fail
                generalize w3.heap.size = b5 at hN ⊢
                refine fresh_world (fun W => (rcE.Row W w4.heap.size 29 B capB lb ∧ Below w4.heap.size w4 W) ∧ RcAt W b5 y) hN.out ?_
                clear hN
                rintro W5 ⟨h5, hr5⟩
                have h5H := Lib.hid h5
                have hr5H := Lib.hid hr5
                obtain ⟨x0, x1, x2, x3, x4, x5, x6⟩ := hr5
                clear h5
                obtain ⟨t, ht⟩ : ∃ t, othB y = t := ⟨_, rfl⟩
                have htH := Lib.hid ht
                clear ht
                go_cut [80] from 53 to 84 (fun c wx => c = .bool t ∧ wx = W5)
                case first =>
                  by_cases hk4 : y.k = 4
                  case neg =>
                    have hf : t = true := by rw [← htH.out]; exact decide_eq_true (.inl hk4)
                    have hb : (y.k == 4) = false := by simp [hk4]
                    have hbn : (y.k != 4) = true := by simp [hk4]
                    subst hf
                    clear hk4
                    go_wp2_with fail
                    go_meet
                    exact ⟨rfl, rfl⟩
                  case pos =>
                    have hb : (y.k == 4) = true := by simp [hk4]
                    have hbn : (y.k != 4) = false := by simp [hk4]
                    have hk4H := Lib.hid hk4
                    clear hk4
                    by_cases ha : y.a = 1
                    case neg =>
                      have hf : t = true := by rw [← htH.out]; exact decide_eq_true (.inr (.inl ha))
                      have hb2 : (y.a == 1) = false := by simp [ha]
                      have hb2n : (y.a != 1) = true := by simp [ha]
                      subst hf
                      clear ha
                      go_wp2_with fail
                      go_meet
                      exact ⟨rfl, rfl⟩
                    case pos =>
                      have hb2 : (y.a == 1) = true := by simp [ha]
                      have hb2n : (y.a != 1) = false := by simp [ha]
                      have haH := Lib.hid ha
                      clear ha
                      by_cases hc1 : y.c = 1
                      case neg =>
                        have hf : t = true := by rw [← htH.out]; exact decide_eq_true (.inr (.inr hc1))
                        have hb3 : (y.c == 1) = false := by simp [hc1]
                        have hb3n : (y.c != 1) = true := by simp [hc1]
                        subst hf
                        clear hc1
                        go_wp2_with fail
                        go_meet
                        exact ⟨rfl, rfl⟩
                      case pos =>
                        have hf : t = false := by
                          rw [← htH.out]
                          refine decide_eq_false (fun h => ?_)
                          rcases h with h | h | h
                          · exact h hk4H.out
                          · exact h haH.out
                          · exact h hc1
                        have hb3 : (y.c == 1) = true := by simp [hc1]
                        have hb3n : (y.c != 1) = false := by simp [hc1]
                        subst hf
                        clear hc1
                        go_wp2_with fail
                        go_meet
                        exact ⟨rfl, rfl⟩
                case rest =>
                  obtain ⟨rfl, rfl⟩ := hcut
                  have h5 := h5H.out
                  cases t with
                  | true =>
                    have hal := (Below.refl wc.heap.size wc).alloc (Nat.le_refl _) (.cells #[.int .i64 y.k, .int .i64 y.s, .int .i64 y.a, .int .i64 y.b, .int .i64 y.c, .int .i64 y.d, .string y.body] 29)
                    have hR3 := h5.1.below hal
                    have hB3 := bmore h5.2 hal
                    obtain ⟨A3, cap3, W6, hrun6, hR6, hG6, _⟩ := hR3.append (P := Tryd.prog) Tryd.underlying24 infRcE (by decide) (by decide) (m := wc.heap.size) (x := y) (rc_cells wc y 29) (by have := hlen.out; omega) hB3.size 24
                    rw [← hnb.out] at hrun6
                    have hrun6H := Lib.hid hrun6
                    have hB6 := Lib.hid (hB3.trans (hR3.grown hG6 hB3.size))
                    have hnb6 : Hid (nb + 1 = (la.take c ++ othL mo (j + 1)).length) := Lib.hid (by rw [hyes.out htH.out, List.length_append, hnb.out]; rfl)
                    rw [← hyes.out htH.out] at hR6
                    have hR6H := Lib.hid hR6
                    clear hrun6 hR6 hG6 hR3 hB3 hal h5 h5H hyes hno htH hr5H
                    go_wp2_with (at_builtin; refine append_run_wp rfl _ _ _ rfl rfl rfl hrun6H.out ?_; clear hrun6H)
                    first
                      | exact ⟨⟨j + 1, nb + 1, A3, cap3, by omega, by omega, by go_num, rfl, hnb6, hR6H, hB6⟩, by simp only [intOf]; omega⟩
                      | (go_roundw
                         case rel => exact ⟨j + 1, nb + 1, A3, cap3, by omega, by omega, by go_num, rfl, hnb6, hR6H, hB6⟩
                         case measure => simp only [intOf]; omega)
                  | false =>
                    have hnb6 : Hid (nb = (la.take c ++ othL mo (j + 1)).length) := Lib.hid (by rw [hno.out htH.out]; exact hnb.out)
                    have hR6H : Hid (rcE.Row wc w4.heap.size 29 B capB (la.take c ++ othL mo (j + 1))) := Lib.hid (by rw [hno.out htH.out]; exact h5.1)
                    have hB6 := Lib.hid h5.2
                    clear h5 h5H hyes hno htH hr5H
                    go_wp2_with fail
                    first
                      | exact ⟨⟨j + 1, nb, B, capB, by omega, by omega, by go_num, rfl, hnb6, hR6H, hB6⟩, by simp only [intOf]; omega⟩
                      | (go_roundw
                         case rel => exact ⟨j + 1, nb, B, capB, by omega, by omega, by go_num, rfl, hnb6, hR6H, hB6⟩
                         case measure => simp only [intOf]; omega)
              | false =>
                clear htH
                have hlo2 : Hid ((othL mo j).length ≤ 60) := Lib.hid (Nat.le_trans (othL_len mo j) hj60)
                have hmb : Hid (∀ x ∈ othL mo j, othB x = true) := Lib.hid (fun x hx => (List.mem_filter.1 hx).2)
                have hmf : Hid (∀ x ∈ othL mo j, WfI x.a ∧ WfI x.c) := Lib.hid (fun x hx => whL_wf (k := j) hwf2.out x (List.mem_filter.1 hx).1)
                generalize othL mo j = lm at hnb hR hlen hlo2 hmb hmf
                clear hwf2 hL2 hjl hj60
                have hcH := Lib.hid hcl.out
                clear hcl
                have hlkH := hlk
                go_upto_region 16 with fail
                go_cut [8] from 85 to 89 (fun v8 wx => ∃ (n3 : Nat) (B : Option Addr) (capB : Nat), v8 = .slice B n3 capB ∧ Hid (n3 = (la.take c ++ lm ++ la.drop c).length) ∧ Hid (rcE.Row wx w4.heap.size 29 B capB (la.take c ++ lm ++ la.drop c)) ∧ Hid (Below w4.heap.size w4 wx))
                case first =>
                  rcases hform.out with ⟨rfl, rfl, hla⟩ | ⟨g, rfl, _, hgl, hlc⟩
                  case inl =>
                    have hk0 : k = 0 := by rw [← hlk.out, hla]; rfl
                    have hc0 : c = 0 := by have := hck.out; omega
                    have hrun := ap_none wc w4.heap.size B capB (la.take c ++ lm) hR.out
                    rw [← hnb.out] at hrun
                    have hrunH := Lib.hid hrun
                    have hd0 : la.drop c = [] := by rw [hla]; exact List.drop_nil
                    have hfin : Hid (rcE.Row wc w4.heap.size 29 B capB (la.take c ++ lm ++ la.drop c)) := Lib.hid (by rw [hd0, List.append_nil]; exact hR.out)
                    have hn3 : Hid (nb = (la.take c ++ lm ++ la.drop c).length) := Lib.hid (by rw [hd0, List.append_nil]; exact hnb.out)
                    clear hR hnb hrun hd0 hla
                    subst hk0
                    subst hc0
                    go_wp2_with (at_builtin; refine append_run_wp rfl _ _ _ rfl rfl rfl hrunH.out ?_; clear hrunH)
                    go_meet
                    exact ⟨nb, B, capB, rfl, hn3, hfin, hB⟩
                  case inr =>
                    have hcap : k ≤ cap := by have := hlk.out; omega
                    have hckk := hck.out
                    have hin0 : rcE.In wc (some ⟨g, 0, none⟩) la := hAin.out wc hB.out
                    obtain ⟨nd, hnd⟩ : ∃ nd, k - c = nd := ⟨_, rfl⟩
                    have hdl : (la.drop c).length = nd := by rw [List.length_drop]; have := hlk.out; omega
                    by_cases hcc : cap = c
                    case pos =>
                      have hd0 : la.drop c = [] := List.drop_eq_nil_of_le (by have := hlk.out; omega)
                      have hkc : k = c := by omega
                      have hin : rcE.In wc (some ⟨g, 0, none⟩) (la.drop c) := by rw [hd0]; exact .inl rfl
                      obtain ⟨B3, cap3, W6, hrun, hrow, hgr, _⟩ := hR.out.concat (P := Tryd.prog) Tryd.underlying24 infRcE (by decide) (by decide) (ad := ⟨g, 0, none⟩) (c2 := 0) (ys := la.drop c) hin (by have := hlen.out; omega) (by rw [hdl]; have := hk60H.out; omega) hB.out.size 24
                      rw [← hnb.out, hd0] at hrun
                      have hrunH := Lib.hid (show (Builtin.append_ #[24, 24] 24 #[.slice B nb capB, .slice (some ⟨g, 0, none⟩) 0 0]).run Tryd.prog wc = .ok (.slice B3 nb cap3) W6 from hrun)
                      have hrowH := Lib.hid hrow
                      have hn3 : Hid (nb = (la.take c ++ lm ++ la.drop c).length) := Lib.hid (by rw [hd0, List.append_nil]; exact hnb.out)
                      have hB6 := Lib.hid (hB.out.trans (hR.out.grown hgr hB.out.size))
                      clear hrun hrow hgr hin hdl hd0 hin0 hR hnb hnd
                      subst hkc
                      subst hcc
                      go_wp2_with (at_builtin; refine append_run_wp rfl _ _ _ rfl rfl rfl hrunH.out ?_; clear hrunH)
                      go_meet
                      exact ⟨nb, B3, cap3, rfl, hn3, hrowH, hB6⟩
                    case neg =>
                      have hin : rcE.In wc (some ⟨g, c * 7, none⟩) (la.drop c) := in_drop hin0 c
                      obtain ⟨cd, hcd⟩ : ∃ cd, cap - c = cd := ⟨_, rfl⟩
                      obtain ⟨B3, cap3, W6, hrun, hrow, hgr, _⟩ := hR.out.concat (P := Tryd.prog) Tryd.underlying24 infRcE (by decide) (by decide) (ad := ⟨g, c * 7, none⟩) (c2 := cd) (ys := la.drop c) hin (by have := hlen.out; omega) (by rw [hdl]; have := hk60H.out; omega) hB.out.size 24
                      have hn3 : Hid (nb + nd = (la.take c ++ lm ++ la.drop c).length) := Lib.hid (by rw [List.length_append, hdl, hnb.out])
                      rw [← hnb.out, hdl] at hrun
                      rw [← hnd, ← hcd] at hrun
                      have hrunH := Lib.hid hrun
                      have hrowH := Lib.hid hrow
                      have hB6 := Lib.hid (hB.out.trans (hR.out.grown hgr hB.out.size))
                      have i1 : (c : Int) ≤ (k : Int) := by omega
                      have i2 : (k : Int) ≤ (cap : Int) := by omega
                      have i3 : c ≤ cap := by omega
                      rw [← hnd] at hn3
                      clear hrun hrow hgr hin hdl hin0 hR hnb hnd hcd
                      go_wp2_with (at_builtin; refine append_run_wp rfl _ _ _ rfl rfl rfl hrunH.out ?_; clear hrunH)
                      go_meet
                      exact ⟨nb + (k - c), B3, cap3, rfl, hn3, hrowH, hB6⟩
                case rest =>
                  obtain ⟨n3, B3, cap3, rfl, hn3, hR3, hB3⟩ := hcut
                  clear hR hnb hB hform
                  have hsm := Lib.hid (others_same la lm c hmb.out)
                  have hl3 : Hid ((la.take c ++ lm ++ la.drop c).length ≤ 1000000) := Lib.hid (by
                    rw [List.length_append, List.length_append, List.length_take, List.length_drop]
                    have := hlo2.out; have := hlk.out; have := hk60H.out
                    omega)
                  have hwf3 := Lib.hid (others_wf (c := c) hnf.out hmf.out)
                  generalize la.take c ++ lm ++ la.drop c = lb at hn3 hR3 hsm hl3 hwf3
                  clear hcH hlo2 hmb hmf hlen hck
                  have h1c := Lib.hid (of_any14 wc A cap la 1 1 (rcIn (hAin.out wc hB3.out)) (by have := hlk.out; have := hk60H.out; omega) hnf.out (by unfold WfI; decide) (by unfold WfI; decide))
                  have h2c := Lib.hid (fun W (hb : Below wc.heap.size wc W) => of_any14 W B3 cap3 lb 1 1 (rcIn (hR3.out.below hb).in_) hl3.out hwf3.out (by unfold WfI; decide) (by unfold WfI; decide))
                  rw [hlk.out] at h1c
                  rw [← hn3.out] at h2c
                  unfold OfPost at h1c h2c
                  rw [hsm.out] at h2c
                  have hBa : Hid (Below w.heap.size w wc) := Lib.hid (bmore hBw.out hB3.out)
                  have hlkN := hlk.out
                  clear hlkH hlk hnf hAin hBw hB4 hR3 hB3 hn3 hsm hl3 hwf3
                  have hnl : (notesOf la (1, 1)).length ≤ 60 := Nat.le_trans (notesOf_len _ _) (by have := hlkN; have := hk60H.out; omega)
                  generalize notesOf la (1, 1) = ns at h1c h2c hnl
                  go_upto_region 17 with fail
                  go_wp2_with fail
                  (with_reducible refine h1c.out.mono ?_)
                  rintro e w6 ⟨A5, cap5, rfl, hrow5, hb6⟩
                  have h2c2 := Lib.hid (h2c.out w6 hb6)
                  have hrow5H := Lib.hid hrow5
                  have hB6 := Lib.hid (bmore hBa.out hb6)
                  clear h1c h2c hrow5 hb6 hBa
                  go_wp2_with fail
                  (with_reducible refine h2c2.out.mono ?_)
                  rintro e w7 ⟨A7, cap7, rfl, hrow7, hb7⟩
                  have hr5 := Lib.hid ((hrow5H.out.below hb7).in_)
                  have hr7 := Lib.hid hrow7.in_
                  have hB7 := Lib.hid (bmore hB6.out hb7)
                  clear h2c2 hrow5H hrow7 hb7 hB6
                  go_wp2_with fail
                  go_loopw [14] (fun i wr => ∃ (j : Nat), j ≤ ns.length ∧ i = .int .i64 (j : Int) ∧ Hid (Below w7.heap.size w7 wr)) (fun i _ => ns.length - (intOf i).toNat)
                  case atStart => exact ⟨0, Nat.zero_le _, rfl, Lib.hid (Below.refl _ _)⟩
                  case round =>
                    obtain ⟨j, hjn, rfl, hB⟩ := hrel
                    by_cases hlo : j < ns.length
                    case neg =>
                      have hlo2 : ¬ (j : Int) < (ns.length : Int) := by omega
                      have hF := Lib.hid (bmore hB7.out hB.out)
                      clear hB hB7 hr5 hr7
                      go_wp2_with fail
                      go_ret
                      exact ⟨rfl, hF.out⟩
                    case pos =>
                      have hloI : (j : Int) < (ns.length : Int) := by omega
                      have hkw : IntKind.i64.wrap ((j : Int) + 1) = (j : Int) + 1 := IntWalk.i64_in _ (by omega)
                      obtain ⟨g5, o5, rfl, _, x0, x1, x2⟩ := nt_at (hr5.out.below hB.out) hlo
                      obtain ⟨g7, o7, rfl, _, z0, z1, z2⟩ := nt_at (hr7.out.below hB.out) hlo
                      generalize ns[j] = x at x0 x1 x2 z0 z1 z2
                      have hne : ∀ W, (binOp .neq 45 (.agg #[.int .i64 x.r, .int .i64 x.c, .string x.p]) (.agg #[.int .i64 x.r, .int .i64 x.c, .string x.p])).run Tryd.prog W = .ok (.bool false) W := fun W => by
                        have h1 := (nt_eql W x x).2
                        rw [eqN_self] at h1
                        exact h1
                      go_wp2_with fail
                      go_quiet (fail)
                      have hB8 := Lib.hid (below_drewN hB.out)
                      clear hB hne x0 x1 x2 z0 z1 z2
                      go_wp2_with fail
                      first
                        | exact ⟨⟨j + 1, by omega, by go_num, hB8.out _⟩, by simp only [intOf]; omega⟩
                        | (go_roundw
                           case rel => exact ⟨j + 1, by omega, by go_num, Lib.hid (hB8.out _)⟩
                           case measure => simp only [intOf]; omega)
end Go.Proofs.YtdjdldcpaidmnaaDoor
