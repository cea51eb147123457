/- The values of the map, in a slice: AppendSeq, Collect. -/
import Derived.Test.YtbgkmppngnedlabDoorNtVl
namespace Go.Proofs.YtbgkmppngnedlabDoor
open Go.RowKit Rec Go.Maps Go.Sort Go.Shelf
attribute [local go_sem] Oper.semAt_some

/-- A note in a box. -/
def NtBox (W : World) (b : Nat) (x : Nt) : Prop := W.heap[b]? = some (.cells #[.int .i64 x.r, .int .i64 x.c, .string x.p] 45 (0, 0))
theorem NtBox.lt {W : World} {b : Nat} {x : Nt} (h : NtBox W b x) : b < W.heap.size := (Array.getElem?_eq_some_iff.1 h).1
theorem NtBox.cells {W : World} {b : Nat} {x : Nt} (h : NtBox W b x) : W.cell? ⟨b, 0, none⟩ = some (.int .i64 x.r) ∧ W.cell? ⟨b, 1, none⟩ = some (.int .i64 x.c) ∧ W.cell? ⟨b, 2, none⟩ = some (.string x.p) := by
  unfold NtBox at h
  refine ⟨?_, ?_, ?_⟩ <;> simp [World.cell?, h]
theorem NtBox.own {W W' : World} {b : Nat} {x : Nt} {row : Option Nat} (h : NtBox W b x) (hg : W.grownBy W' row) (hr : ∀ r, row = some r → ∃ o : Obj, W.heap[r]? = some o ∧ o.isCells = false) : NtBox W' b x :=
  (hg.block b h.lt (fun e => by
    obtain ⟨o, ho, hc⟩ := hr b e.symm
    rw [show W.heap[b]? = _ from h] at ho
    cases ho
    cases hc)).trans h
theorem keepsFrom_belowN {B : Nat} {W W' : World} (h : Below W.heap.size W W') : KeepsFrom B W W' := ⟨h.size, fun k _ _ h0 _ => (h.block k (Array.getElem?_eq_some_iff.1 h0).1).trans h0⟩
theorem keepsWalks_below {W W' : World} (h : Below W.heap.size W W') : KeepsWalks W W' := ⟨h.size, fun k _ h0 _ => (h.block k (Array.getElem?_eq_some_iff.1 h0).1).trans h0⟩
theorem ntFlat_snoc (l : List Nt) (x : Nt) : ntE.flat (l ++ [x]) = ntE.flat l ++ ntE.c x := by rw [Enc.flat_append, Enc.flat_one]
theorem nt_new (W : World) (x : Nt) (t : TypeId) : ∀ (j : Nat) (u : Value), (ntE.c x)[j]? = some u → (W.alloc (.cells #[.int .i64 x.r, .int .i64 x.c, .string x.p] t)).cell? ((⟨W.heap.size, 0, none⟩ : Addr).add j) = some u := fun j u hu => by
  have h3 : j < 3 := (List.getElem?_eq_some_iff.1 hu).1
  rcases (by omega : j = 0 ∨ j = 1 ∨ j = 2) with rfl | rfl | rfl <;> (go_simp; exact Option.some.inj hu)
theorem fresh_worldIn {F : Fence} {n : Nat} {P : Program} {c : Code} {Q : Exit → Act → World → Prop} {a : Act} {W : World} (R : World → Prop) (hR : R W) (h : ∀ W2, R W2 → c.wpIn F n P Q a W2) : c.wpIn F n P Q a W := h W hR
set_option maxRecDepth 100000 in
set_option maxHeartbeats 4000000 in
theorem append_in (n : Nat) (hn : 5 ≤ n) (Bm b nn : Nat) (D0 : DataW Unit) (w : World) (hm : w.cell? ⟨Bm, 0, none⟩ = some (.map (some b))) (hown : w.ownsMap Tryd.prog 3 ntRd b nn D0) (hsz : Maps.size D0 ≤ 1000000) :
    CallsIn Fence.wide n Tryd.prog 29 #[.slice none 0 0, .func (.func 22) #[] #[.pointer (some ⟨Bm, 0, none⟩)]] w fun e w' => ∃ ps A cap, AllOf D0 ps ∧ e = .returned (.slice A ps.length cap) ∧ ntE.Row w' w.heap.size 45 A cap (ps.map (·.2)) ∧ Below w.heap.size w w' := by
  have hn1 : 1 ≤ n := by omega
  have hBm := lt_of_cell hm
  have hinf := infNt
  unfold Enc.Inf at hinf
  rw [Option.map_eq_some_iff] at hinf
  obtain ⟨i0, hi, he⟩ := hinf
  simp only [Prod.mk.injEq, Option.map_eq_some_iff] at he
  obtain ⟨⟨z0, hz, hzs⟩, hs0, hby⟩ := he
  have hmf : ∀ (fn : Fn) (first cap : Array Value) (w : World), (Instr.makeFunc fn first cap).run Tryd.prog w = .ok (.func fn first cap) w := fun _ _ _ _ => rfl
  obtain ⟨sv, hsv⟩ : ∃ sv, Value.func (.func 22) #[] #[.pointer (some ⟨Bm, 0, none⟩)] = sv := ⟨_, rfl⟩
  rw [hsv]
  have hsvH := Lib.hid hsv
  clear hsv
  have hownH := Lib.hid hown
  clear hown
  refine callsIn_of_wp_marks Tryd.func29 rfl trivial ?_ rfl
  simp only [Tryd.ntmps29, List.size_toArray, List.length_cons, List.length_nil, Nat.reduceAdd, Nat.reduceSub, Array.replicate_succ, Array.replicate_zero, List.push_toArray, List.append_toArray, List.nil_append, List.cons_append]
  gi_wp2
  refine fresh_worldIn (fun W => W.heap.size = w.heap.size + 1 ∧ Below w.heap.size w W ∧ Boxed W w.heap.size 31 (.slice none 0 0)) ⟨by simp, ((Below.refl _ _).alloc (Nat.le_refl _) _), Boxed.new w 31 (.slice none 0 0)⟩ ?_
  rintro W0 ⟨hs1, hB0, hbox⟩
  have hown0 : W0.ownsMap Tryd.prog 3 ntRd b nn D0 := hownH.out.kept (row := none) ⟨hB0.os, hB0.tape, hB0.output, hB0.size, fun k hk _ => hB0.block k hk⟩ (by simp)
  refine wpIn_rangeFunc_ownH rfl hn1 (gf := 22) (lb := #[.pointer (some ⟨Bm, 0, none⟩)]) hsvH.out.symm trivial (enters_of Tryd.func22 (by kernel_rfl) rfl)
    (vals_stops (n - 1) (by omega) Bm b nn D0 W0 (by omega) ((hB0.cell (p := ⟨Bm, 0, none⟩) hBm).trans hm) hown0) walksK_t (fun W l o o' h1 h2 h3 h4 => walksK_b (w := W0) W l o o' h1 h2 h3 h4) (Below.refl _ _) (fun _ => rfl)
    (fun pre W => (∃ v, Boxed W w.heap.size 31 v ∧ W.ownsRow w.heap.size 45 3 v pre.length (ntE.flat pre) ∧ True) ∧ Below w.heap.size w W)
    (fun _ _ _ => False)
    (OwnFrom.and (Own.from (holdsRow_own w.heap.size w.heap.size 31 45 3 (fun pre => pre.length) (fun pre => ntE.flat pre) (fun _ _ => True)) _) (ownFrom_below (Nat.le_refl _) (by omega)))
    (fun _ _ _ _ _ hs _ _ => hs)
    ⟨⟨_, hbox, World.ownsRow_nil _ _ _ _, trivial⟩, hB0⟩
    (fun x a' W => ∃ Bx, w.heap.size + 1 ≤ Bx ∧ NtBox W Bx x ∧ a' = { tmps := #[.slice none 0 0, sv, .pointer (some ⟨w.heap.size, 0, none⟩), undef, .slice none 0 0, .pointer (some ⟨Bx, 0, none⟩), sv, ntV x, undef, undef, undef, undef, undef], defers := [] })
    (fun x a' _ X Y row hs hg hr => by obtain ⟨Bx, e1, e2, e3⟩ := hs; exact ⟨Bx, e1, e2.own hg (fun r e => (hr r e).2), e3⟩)
    ?assign ?body ?done ?stop
  case assign =>
    rintro l pre x W K ⟨⟨v, bV, hrow, _⟩, hB1⟩ hK
    have hsW : w.heap.size + 1 ≤ W.heap.size := by have := bV.lt; omega
    have hbx := (Below.refl W.heap.size W).alloc (Nat.le_refl _) (.cells #[.int .i64 x.r, .int .i64 x.c, .string x.p] 45)
    have hfin := hK _ _ (keepsFrom_belowN hbx) (keepsWalks_below hbx) ⟨⟨v, bV.alloc _, hrow.alloc _, trivial⟩, hB1.alloc hB1.size _⟩ ⟨W.heap.size, hsW, World.alloc_heap_new W _, rfl⟩
    have hfH := Lib.hid hfin
    clear hK hfin hrow
    unfold ntV at hfH ⊢
    gi_wp2
    exact hfH.out
  case body =>
    rintro l pre x a' W hl ⟨r, hr⟩ ⟨⟨v, bV, hrow, _⟩, hB1⟩ ⟨Bx, hBx, bX, rfl⟩ hlt
    have cV := bV.cell
    obtain ⟨x0, x1, x2⟩ := bX.cells
    have hBH := Lib.hid hB1
    have hsW := hB1.size
    clear bX hr
    gi_wp2_with (gi_at_builtin; refine wpListIn_append_own _ rfl _ _ 31 rfl w.heap.size 45 i0 z0 3 32 Tryd.underlying31 hi hz hs0 hby hzs (by decide) _ _ _ rfl (hrow.alloc _) ⟨W.heap.size, 0, none⟩ 1 1 (ntE.c x) rfl rfl (nt_new W x _) (ntE.one x) (by unfold maxLen; omega) (by omega) (by simp; omega) ?_; intro v' w1 hown' hgrow _; obtain ⟨g', cap', rfl⟩ := ownsRow_succ hown'; obtain ⟨hv1, hv2, hr2, hk2, hb2⟩ := Boxed.appended bV (by decide) hrow (by omega) (Nat.le_refl _) hown' hgrow; have hc1 := hv1.cell; have hf1 := hv1.frozen)
    refine ⟨hk2.from _, hk2.walks, ⟨_, hv2, by rw [ntFlat_snoc, List.length_append]; exact hr2, trivial⟩, hBH.out.trans hb2⟩
  case done =>
    rintro D xs W hD ⟨ps, hall, rfl⟩ ⟨⟨v, bV, hrow, _⟩, hB1⟩ hK
    have cV := bV.cell
    have hBH := Lib.hid hB1
    have hrH := Lib.hid hrow
    clear hrow
    gi_wp2
    refine ⟨by simp, .inl ⟨_, _, rfl, run_takeDeferred hK, ?_⟩⟩
    have hrow2 := ownsRow_putObj hrH.out (.deferred none) hK rfl
    have hB2 := hBH.out.trans (belowK_b (w := w) (Nat.le_refl _) W D _ (.deferred none) (by omega) hK rfl rfl)
    have hlen : (ps.map (·.2)).length = ps.length := List.length_map _
    obtain ⟨A, cap, rfl⟩ : ∃ A cap, v = .slice A ps.length cap := by
      rcases hrow2.2 with ⟨e, h0⟩ | ⟨g, cap, cur, e, _⟩
      · exact ⟨none, 0, by rw [e, ← hlen, h0]⟩
      · exact ⟨_, cap, by rw [e, hlen]⟩
    refine ⟨_, results_tmp rfl _ _ _, ps, A, cap, hall, rfl, ?_, hB2⟩
    unfold Enc.Row
    rw [hlen] at hrow2 ⊢
    exact hrow2
  case stop =>
    rintro D c pre W _ _ h _
    exact h.elim
theorem append_any (Bm b nn : Nat) (D0 : DataW Unit) (w : World) (hm : w.cell? ⟨Bm, 0, none⟩ = some (.map (some b))) (hown : w.ownsMap Tryd.prog 3 ntRd b nn D0) (hsz : Maps.size D0 ≤ 1000000) :
    Calls Tryd.prog 29 #[.slice none 0 0, .func (.func 22) #[] #[.pointer (some ⟨Bm, 0, none⟩)]] w fun e w' => ∃ ps A cap, AllOf D0 ps ∧ e = .returned (.slice A ps.length cap) ∧ ntE.Row w' w.heap.size 45 A cap (ps.map (·.2)) ∧ Below w.heap.size w w' := callsIn_wide.1 (append_in 5 (by omega) Bm b nn D0 w hm hown hsz)
theorem collect_any (Bm b nn : Nat) (D0 : DataW Unit) (w : World) (hm : w.cell? ⟨Bm, 0, none⟩ = some (.map (some b))) (hown : w.ownsMap Tryd.prog 3 ntRd b nn D0) (hsz : Maps.size D0 ≤ 1000000) :
    Calls Tryd.prog 20 #[.func (.func 22) #[] #[.pointer (some ⟨Bm, 0, none⟩)]] w fun e w' => ∃ ps A cap, AllOf D0 ps ∧ e = .returned (.slice A ps.length cap) ∧ ntE.Row w' w.heap.size 45 A cap (ps.map (·.2)) ∧ Below w.heap.size w w' := by
  have h := Lib.hid (append_any Bm b nn D0 w hm hown hsz)
  clear hm hown hsz
  go_enter Tryd.func20, Tryd.ntmps20
  go_wp2_with fail
  (with_reducible refine h.out.mono ?_)
  rintro e w1 ⟨ps, A, cap, h1, rfl, h2, h3⟩
  have hF := Lib.hid (And.intro h1 (And.intro h2 h3))
  clear h1 h2 h3 h
  go_wp2_with fail
  go_ret
  exact ⟨ps, A, cap, hF.out.1, rfl, hF.out.2.1, hF.out.2.2⟩
end Go.Proofs.YtbgkmppngnedlabDoor
