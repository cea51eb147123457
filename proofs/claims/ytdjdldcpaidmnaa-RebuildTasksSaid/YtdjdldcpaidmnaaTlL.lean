/- The last note that is of use. -/
import Derived.Test.YtdjdldcpaidmnaaTlB
namespace Go.Proofs.Ytdjdldcpaidmnaa
open Go.RowKit Go.Shelf Tl
attribute [local go_sem] Oper.semAt_some

/-- A note that is of use. -/
def useP (row idx reach : Int) (n : Int × Int) : Bool := decide (n.1 = row ∧ idx < n.2 ∧ n.2 ≤ reach)
/-- Among all that came none was of use. -/
theorem last_none {p : Int × Int → Bool} {ns : List (Int × Int)} (h : ∀ x ∈ bkU ns ns.length, p x.2 = false) : LastAt p ns (-1) := .inl ⟨rfl, fun x hx => by
  obtain ⟨j, hj, rfl⟩ := List.getElem_of_mem hx
  exact h _ (bkU_at (Nat.le_refl _) hj (by omega))⟩
/-- The first that came and was of use. -/
theorem last_some {p : Int × Int → Bool} {ns : List (Int × Int)} {k : Nat} {q : List (Nat × (Int × Int))} {x : Nat × (Int × Int)} (hk : k ≤ ns.length) (h : q ++ [x] = bkU ns k) (hq : ∀ y ∈ q, p y.2 = false) (hx : p x.2 = true) : LastAt p ns (x.1 : Int) := by
  have hlen := congrArg List.length h
  rw [bkU_length, List.length_append] at hlen
  have hk1 : k = q.length + 1 := by simpa using hlen.symm
  subst hk1
  rw [bkU_succ] at h
  obtain ⟨h1, h2⟩ := List.append_inj h (by rw [bkU_length])
  injection h2 with h2 _
  have hj : ns.length - 1 - q.length < ns.length := by omega
  rw [List.getElem?_eq_getElem hj] at h2
  subst h2
  refine .inr ⟨_, rfl, hj, hx, fun j hj2 hlt => ?_⟩
  have := bkU_at (k := q.length) (by omega) hj2 (by omega)
  rw [← h1] at this
  exact hq _ this
/-- A note in a box. -/
def NtBox (W : World) (b : Nat) (x : Int × Int) : Prop := W.heap[b]? = some (.cells #[.int .i64 x.1, .int .i64 x.2] 52 (0, 0))
theorem NtBox.lt {W : World} {b : Nat} {x : Int × Int} (h : NtBox W b x) : b < W.heap.size := (Array.getElem?_eq_some_iff.1 h).1
theorem NtBox.own {W W' : World} {b : Nat} {x : Int × Int} {row : Option Nat} (h : NtBox W b x) (hg : W.grownBy W' row) (hr : ∀ r, row = some r → ∃ o : Obj, W.heap[r]? = some o ∧ o.isCells = false) : NtBox W' b x :=
  (hg.block b h.lt (fun e => by
    obtain ⟨o, ho, hc⟩ := hr b e.symm
    rw [show W.heap[b]? = _ from h] at ho
    cases ho
    cases hc)).trans h
theorem keepsFrom_below {B : Nat} {W W' : World} (h : Below W.heap.size W W') : KeepsFrom B W W' := ⟨h.size, fun k _ _ h0 _ => (h.block k (Array.getElem?_eq_some_iff.1 h0).1).trans h0⟩
set_option maxRecDepth 100000 in
set_option maxHeartbeats 4000000 in
theorem last_in (n : Nat) (hn : 5 ≤ n) (B : Option Addr) (cb : Nat) (ns : List (Int × Int)) (row idx reach : Int) (br bi bc : Nat) (w : World) (hI : ntE.In w B ns) (h1 : w.cell? ⟨br, 0, none⟩ = some (.int .i64 row)) (h2 : w.cell? ⟨bi, 0, none⟩ = some (.int .i64 idx)) (h3 : w.cell? ⟨bc, 0, none⟩ = some (.int .i64 reach)) (hl : ns.length ≤ 1000000) :
    CallsIn Fence.wide n Try.prog 43 #[.slice B ns.length cb, .func (.func 44) #[] #[.pointer (some ⟨br, 0, none⟩), .pointer (some ⟨bi, 0, none⟩), .pointer (some ⟨bc, 0, none⟩)]] w fun e w' => e = .returned (.int .i64 (lastI (useP row idx reach) ns)) ∧ Below w.heap.size w w' := by
  have hn1 : 1 ≤ n := by omega
  have hu := Lib.hid (fun (x : Int × Int) W (hb : Below w.heap.size w W) => s3_any x.1 x.2 row idx reach br bi bc W (keepC h1 hb) (keepC h2 hb) (keepC h3 hb))
  have eg : ∀ args w, (callFunc 44 args).run Try.prog w = .ok (.enter 44 args) w := enters_of Try.func44 (by kernel_rfl) rfl
  have hIH := Lib.hid (ntB_of_in hI)
  have hfin := Lib.hid (fun (i : Int) (h : LastAt (useP row idx reach) ns i) => h.is)
  have hup : ∀ x : Int × Int, useP row idx reach x = decide (x.1 = row ∧ idx < x.2 ∧ x.2 ≤ reach) := fun _ => rfl
  obtain ⟨p, hp⟩ : ∃ p, useP row idx reach = p := ⟨_, rfl⟩
  simp only [← hup] at hu
  rw [hp] at hfin hu ⊢
  obtain ⟨LI, hLI⟩ : ∃ LI, lastI p ns = LI := ⟨_, rfl⟩
  rw [hLI] at hfin ⊢
  have hwl := lt_of_cell h1
  clear hI h1 h2 h3 hup hp hLI
  obtain ⟨fv, hfv⟩ : ∃ fv, Value.func (.func 44) #[] #[.pointer (some ⟨br, 0, none⟩), .pointer (some ⟨bi, 0, none⟩), .pointer (some ⟨bc, 0, none⟩)] = fv := ⟨_, rfl⟩
  rw [hfv]
  refine callsIn_of_wp_marks Try.func43 rfl trivial ?_ rfl
  simp only [Try.ntmps43, List.size_toArray, List.length_cons, List.length_nil, Nat.reduceAdd, Nat.reduceSub, Array.replicate_succ, Array.replicate_zero, List.push_toArray, List.append_toArray, List.nil_append, List.cons_append]
  gi_wp2_with (refine ⟨trivial, ?_⟩; refine (back_in (n - 1) _ _ _ _).mono ?_; rintro e w' ⟨rfl, rfl⟩)
  have bF := ((Boxed.new w 99 fv).alloc (.cells #[.int .i64 0] 3)).alloc (.cells #[.slice B ns.length cb] 37)
  have bR := (Boxed.new (w.alloc (.cells #[fv] 99)) 3 (.int .i64 0)).alloc (.cells #[.slice B ns.length cb] 37)
  have bS := Boxed.new ((w.alloc (.cells #[fv] 99)).alloc (.cells #[.int .i64 0] 3)) 37 (.slice B ns.length cb)
  simp only [World.size_alloc] at bR bS
  have hB0 : Below w.heap.size w (((w.alloc (.cells #[fv] 99)).alloc (.cells #[.int .i64 0] 3)).alloc (.cells #[.slice B ns.length cb] 37)) := (((Below.refl _ w).alloc (Nat.le_refl _) _).alloc (by simp) _).alloc (by simp; omega) _
  have hsz : (((w.alloc (.cells #[fv] 99)).alloc (.cells #[.int .i64 0] 3)).alloc (.cells #[.slice B ns.length cb] 37)).heap.size = w.heap.size + 3 := by simp
  obtain ⟨W0, hW0⟩ : ∃ W0, (((w.alloc (.cells #[fv] 99)).alloc (.cells #[.int .i64 0] 3)).alloc (.cells #[.slice B ns.length cb] 37)) = W0 := ⟨_, rfl⟩
  rw [hW0] at bF bR bS hB0 hsz ⊢
  clear hW0
  refine wpIn_rangeFunc_ownH rfl hn1 (gf := 79) (lb := #[.pointer (some ⟨w.heap.size + 1 + 1, 0, none⟩)]) rfl trivial (enters_of Try.func79 (by kernel_rfl) rfl)
    (back_stops (n - 1) (by omega) (w.heap.size + 1 + 1) (w.heap.size + 3) B cb ns hl W0 (by omega) (by omega) bS.cell ((hIH.out.below hB0).mono (by omega))) belowK_t (belowK_b (by omega)) (Below.refl _ _) (fun _ => rfl)
    (fun pre W => (((∀ x ∈ pre, p x.2 = false) ∧ Boxed W (w.heap.size + 1) 3 (.int .i64 0)) ∧ Boxed W w.heap.size 99 fv) ∧ Below (w.heap.size + 3) W0 W)
    (fun c pre W => (c = .ret ∧ ∃ q x, pre = q ++ [x] ∧ (∀ y ∈ q, p y.2 = false) ∧ p x.2 = true ∧ Boxed W (w.heap.size + 1) 3 (.int .i64 (x.1 : Int))) ∧ Below w.heap.size w W)
    (OwnFrom.and (OwnFrom.and (OwnFrom.and (ownFrom_pure _ _) (Own.from (boxed_own _ _ _) _)) (Own.from (boxed_own _ _ _) _)) (ownFrom_below (by omega) (by omega)))
    (fun c => OwnFrom.and (fun s X Y row hs hg hr => by
      obtain ⟨e0, q, x, e1, e2, e3, e4⟩ := hs
      exact ⟨e0, q, x, e1, e2, e3, boxed_own (w.heap.size + 1) 3 (fun (_ : Unit) => Value.int .i64 (x.1 : Int)) () X Y row e4 hg (fun r e => (hr r e).2)⟩) (ownFrom_below (Nat.le_refl _) (by omega)))
    ⟨⟨⟨by simp, bR⟩, bF⟩, Below.refl _ _⟩
    (fun x a' W => ∃ Bx, w.heap.size + 3 ≤ Bx ∧ NtBox W Bx x.2 ∧ a' = { tmps := #[.slice B ns.length cb, fv, undef, .pointer (some ⟨w.heap.size, 0, none⟩), .pointer (some ⟨w.heap.size + 1, 0, none⟩), .int .i64 (x.1 : Int), .pointer (some ⟨Bx, 0, none⟩), .slice B ns.length cb, .func (.func 79) #[] #[.pointer (some ⟨w.heap.size + 1 + 1, 0, none⟩)], .int .i64 (x.1 : Int), .agg #[.int .i64 x.2.1, .int .i64 x.2.2], undef, undef, undef, undef], defers := [] })
    (fun x a' _ X Y row hs hg hr => by obtain ⟨Bx, e1, e2, e3⟩ := hs; exact ⟨Bx, e1, e2.own hg (fun r e => (hr r e).2), e3⟩)
    ?assign ?body ?done ?stop
  case assign =>
    rintro l pre x W K ⟨⟨⟨hp, bR1⟩, bF1⟩, hB1⟩ hK
    have hsW : w.heap.size + 3 ≤ W.heap.size := by have := hB1.size; omega
    obtain ⟨i, a, c⟩ := x
    unfold ntV
    gi_wp2
    have hbx := (Below.refl W.heap.size W).alloc (Nat.le_refl _) (.cells #[.int .i64 a, .int .i64 c] 52)
    exact hK _ _ (keepsFrom_below hbx) (hbx.mono hsW) ⟨⟨⟨hp, (hbx.block _ bR1.lt).trans bR1⟩, (hbx.block _ bF1.lt).trans bF1⟩, hB1.trans (hbx.mono hsW)⟩ ⟨W.heap.size, hsW, World.alloc_heap_new W _, rfl⟩
  case body =>
    rintro l pre x a' W hl ⟨r, hr⟩ ⟨⟨⟨hp, bR1⟩, bF1⟩, hB1⟩ ⟨Bx, hBx, bX, rfl⟩ hlt
    subst hfv
    obtain ⟨i, a, c⟩ := x
    have cF := bF1.cell
    have cX0 : W.cell? ⟨Bx, 0, none⟩ = some (.int .i64 a) := cell_of_row W Bx 0 _ _ _ bX
    have cX1 : W.cell? ⟨Bx, 1, none⟩ = some (.int .i64 c) := cell_of_row W Bx 1 _ _ _ bX
    have hBw : Below w.heap.size w W := hB0.trans (hB1.mono (by omega))
    have hua := Lib.hid (hu.out (a, c) W hBw)
    have hsW : w.heap.size + 3 ≤ W.heap.size := by have := hB1.size; omega
    cases hv : p (a, c) with
    | false =>
      rw [hv] at hua
      gi_wp2_with (refine ⟨trivial, fun h => (by cases h), ?_⟩; refine (CallsIn.inRound l (callsIn_wide.2 hua.out)).mono ?_; rintro e w' ⟨rfl, hb1⟩)
      exact ⟨keepsFrom_below hb1, hb1.mono hsW, ⟨⟨fun y hy => by
        rcases List.mem_append.1 hy with h | h
        · exact hp y h
        · rw [List.mem_singleton.1 h]; exact hv, (hb1.block _ bR1.lt).trans bR1⟩, (hb1.block _ bF1.lt).trans bF1⟩, hB1.trans (hb1.mono hsW)⟩
    | true =>
      rw [hv] at hua
      gi_wp2_with (refine ⟨trivial, fun h => (by cases h), ?_⟩; refine (CallsIn.inRound l (callsIn_wide.2 hua.out)).mono ?_; rintro e w' ⟨rfl, hb1⟩; have bR2 : Boxed w' (w.heap.size + 1) 3 (.int .i64 0) := (hb1.block _ bR1.lt).trans bR1; have cR2 := bR2.cell; have fR2 := bR2.frozen)
      exact ⟨(keepsFrom_below hb1).trans ((KeepsOthers.setCell _ _ _).from _), ⟨rfl, pre, _, rfl, hp, hv, bR2.set _⟩, (hBw.trans (hb1.mono hBw.size)).setCell (p := ⟨w.heap.size + 1, 0, none⟩) (by simp) _⟩
  case done =>
    rintro D ys W hD rfl ⟨⟨⟨hp, bR1⟩, bF1⟩, hB1⟩ hK
    have hLI := Lib.hid (hfin.out _ (last_none hp))
    have cR := bR1.cell
    have fR := bR1.frozen
    have hBw : Below w.heap.size w W := hB0.trans (hB1.mono (by omega))
    have hBH := Lib.hid hBw
    clear hp
    gi_wp2
    have hK' : (W.setCell ⟨w.heap.size + 1, 0, none⟩ (.int .i64 (-1))).heap[D]? = some (.deferred (some [])) := (KeepsOthers.setCell _ _ _).same D _ hK rfl
    have hr := (bR1.set (.int .i64 (-1))).cell
    have hr2 := cell_kept hr (grownBy_putObj' _ D (.deferred none)) (fun r e => by cases e; exact ⟨_, hK', rfl⟩)
    refine ⟨by simp, .inl ⟨_, _, rfl, run_takeDeferred hK', ?_⟩⟩
    refine ⟨.int .i64 (-1), by simp [results, Try.results43, go_sem, hr2], by rw [hLI.out], ?_⟩
    exact (hBH.out.setCell (p := ⟨w.heap.size + 1, 0, none⟩) (by simp) _).trans (belowK_b (w := w) (Nat.le_refl _) _ D _ _ (by omega) hK' rfl rfl)
  case stop =>
    rintro D c pre W hD ⟨k, hk, rfl⟩ ⟨⟨rfl, q, x, e1, e2, e3, e4⟩, hBw⟩ hK
    have hLI := Lib.hid (hfin.out _ (last_some hk e1.symm e2 e3))
    gi_wp2
    have hr2 := cell_kept e4.cell (grownBy_putObj' _ D (.deferred none)) (fun r e => by cases e; exact ⟨_, hK, rfl⟩)
    refine ⟨by simp, .inl ⟨_, _, rfl, run_takeDeferred hK, ?_⟩⟩
    refine ⟨.int .i64 (x.1 : Int), by simp [results, Try.results43, go_sem, hr2], by rw [hLI.out], ?_⟩
    exact hBw.trans (belowK_b (w := w) (Nat.le_refl _) W D _ _ (by omega) hK rfl rfl)
theorem last_any (B : Option Addr) (cb : Nat) (ns : List (Int × Int)) (row idx reach : Int) (br bi bc : Nat) (w : World) (hI : ntE.In w B ns) (h1 : w.cell? ⟨br, 0, none⟩ = some (.int .i64 row)) (h2 : w.cell? ⟨bi, 0, none⟩ = some (.int .i64 idx)) (h3 : w.cell? ⟨bc, 0, none⟩ = some (.int .i64 reach)) (hl : ns.length ≤ 1000000) :
    Calls Try.prog 43 #[.slice B ns.length cb, .func (.func 44) #[] #[.pointer (some ⟨br, 0, none⟩), .pointer (some ⟨bi, 0, none⟩), .pointer (some ⟨bc, 0, none⟩)]] w fun e w' => e = .returned (.int .i64 (lastI (useP row idx reach) ns)) ∧ Below w.heap.size w w' :=
  callsIn_wide.1 (last_in 5 (by omega) B cb ns row idx reach br bi bc w hI h1 h2 h3 hl)
end Go.Proofs.Ytdjdldcpaidmnaa
