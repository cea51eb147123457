/- The set's List. -/
import Derived.Test.YtdiefdijhghefaaSetCount
import Derived.Maps.AppendAt
namespace Go.Proofs.Ytdiefdijhghefaa
open Go.RowKit Go.Shelf Sets
attribute [local go_sem] Oper.semAt_some

theorem appended2 {W w1 : World} {b0 B : Nat} {t e : TypeId} {size : Nat} {v v' : Value} {k m : Nat} {xs ys : List Value} {tmp : Obj}
    (hv : Boxed W B t v) (hte : t ≠ e) (hrow : W.ownsRow b0 e size v k xs) (hb0 : b0 ≤ W.heap.size)
    (hown' : w1.ownsRow b0 e size v' m ys) (hgrow : (W.alloc tmp).grownBy w1 v.ownBlock) :
    Boxed w1 B t v ∧ Boxed (w1.setCell ⟨B, 0, none⟩ v') B t v' ∧ (w1.setCell ⟨B, 0, none⟩ v').ownsRow b0 e size v' m ys ∧ KeepsOthers W (w1.setCell ⟨B, 0, none⟩ v') ∧ (∀ n₀, n₀ ≤ b0 → n₀ ≤ B → Below n₀ W (w1.setCell ⟨B, 0, none⟩ v'))
    ∧ ∀ bx, bx < b0 → bx ≠ B → KeepBox bx W (w1.setCell ⟨B, 0, none⟩ v') := by
  have hv1 : Boxed w1 B t v := (hv.alloc tmp).kept hgrow (hv.not_row hte hrow)
  have hbl : ∀ j, v.ownBlock = some j → b0 ≤ j := fun j ej => by
    rcases hrow.2 with ⟨rfl, _⟩ | ⟨g, cap, cur, rfl, hb, _, _⟩
    · simp [Value.ownBlock] at ej
    · obtain rfl : g = j := by simpa [Value.ownBlock] using ej
      exact hb
  refine ⟨hv1, hv1.set v', hown'.kept (grownBy_setCell' w1 B v') (.inr (hv1.not_row hte hown').symm), ?_, ?_, ?_⟩
  · refine ((KeepsOthers.alloc W tmp).trans (KeepsOthers.of_grownBy hgrow fun j o ej hj => ?_)).trans (KeepsOthers.setCell _ _ _)
    rcases (hrow.alloc tmp).2 with ⟨rfl, _⟩ | ⟨g, cap, cur, rfl, _, hgb, _⟩
    · simp [Value.ownBlock] at ej
    · obtain rfl : g = j := by simpa [Value.ownBlock] using ej
      rw [hgb] at hj; cases hj; rfl
  · intro n₀ h1 h2
    exact (((Below.refl n₀ W).alloc (by omega) tmp).grown hgrow (by simp; omega) fun j ej => by have := hbl j ej; omega).setCell (p := ⟨B, 0, none⟩) h2 v'
  · intro bx h1 h2 c t' fr h
    have hlt : bx < W.heap.size := (Array.getElem?_eq_some_iff.1 h).1
    rw [Below.heap_setCell _ _ _ bx (by simpa using h2)]
    exact ((hgrow.block bx (by simp; omega) (fun ej => by have := hbl bx ej.symm; omega)).trans (Below.heap_alloc W tmp bx hlt)).trans h

theorem ownsRow_mono {W : World} {b b0 : Nat} {e : TypeId} {size n : Nat} {v : Value} {xs : List Value} (h : W.ownsRow b0 e size v n xs) (hb : b ≤ b0) : W.ownsRow b e size v n xs := by
  rcases h.2 with h0 | ⟨g, cap, cur, e1, h2, rest⟩
  · exact ⟨h.1, .inl h0⟩
  · exact ⟨h.1, .inr ⟨g, cap, cur, e1, Nat.le_trans hb h2, rest⟩⟩

theorem infoI : (Try.prog.info? 3).map (fun i => (i.zero, i.size, i.bytes)) = some (some (.int .i64 0), 1, 8) := by kernel_rfl

set_option maxRecDepth 100000 in
set_option maxHeartbeats 1000000 in
theorem list_in (s : W4) (hs : s.ok) (n : Nat) (hn : 3 ≤ n) (w : World) :
    CallsIn Fence.wide n Try.prog 22 #[s.val] w fun e W' => ∃ v, e = .returned v ∧ W'.ownsRow w.heap.size 3 1 v (elems s).length ((elems s).map (Value.int .i64)) ∧ (v = .slice none 0 0 ↔ elems s = []) ∧ Below w.heap.size w W' := by
  have h1 : 1 ≤ n := by omega
  have hseq := all_seq s hs
  obtain ⟨i0, hi, hz0, hz1, hz2⟩ := info_parts infoI
  unfold W4.val at hseq ⊢
  have hmf : ∀ (fn : Fn) (first cap : Array Value) (w : World), (Instr.makeFunc fn first cap).run Try.prog w = .ok (.func fn first cap) w := fun _ _ _ _ => rfl
  refine callsIn_of_wp_marks Try.func22 rfl trivial ?_ rfl
  simp only [Try.ntmps22, List.size_toArray, List.length_cons, List.length_nil, Nat.reduceAdd, Nat.reduceSub, Array.replicate_succ, Array.replicate_zero, List.push_toArray, List.append_toArray, List.nil_append, List.cons_append]
  have hseqH := Lib.hid hseq
  clear hseq
  gi_wp2
  refine fresh_worldIn (fun W => W.heap.size = w.heap.size + 2 ∧ Below w.heap.size w W ∧ Boxed W (w.heap.size + 1) 34 (.slice none 0 0)) ⟨by simp, ((Below.refl _ _).alloc (Nat.le_refl _) _).alloc (by simp) _, ?_⟩ ?_
  · have h := Boxed.new (w.alloc (.cells #[.int .u64 (s.a : Int), .int .u64 (s.b : Int), .int .u64 (s.c : Int), .int .u64 (s.d : Int)] 33)) 34 (.slice none 0 0)
    rw [World.size_alloc] at h
    exact h
  rintro W0 ⟨hsz, hB0, hbox⟩
  refine wpIn_rangeFunc_bound (Kp := KeepBox (W0.heap.size + 2)) rfl h1 (gf := 28) rfl trivial (enters_of Try.func28 (by kernel_rfl) rfl) (hseqH.out (n - 1) (W0.heap.size + 2)) keepBox_t (fun W l o o' h1 h2 h3 h4 => keepBox_b (w := W0) W l o o' h1 h2 h3 h4) (fun _ => rfl)
    (fun pre W => (∃ v, Boxed W (w.heap.size + 1) 34 v ∧ W.ownsRow (W0.heap.size + 3) 3 1 v pre.length (pre.map (Value.int .i64)) ∧ (v = .slice none 0 0 ↔ pre = [])) ∧ Below w.heap.size w W)
    (fun _ _ _ => False)
    (OwnFrom.and (Own.from (holdsRow_own (W0.heap.size + 3) (w.heap.size + 1) 34 3 1 (fun pre => pre.length) (fun pre => pre.map (Value.int .i64)) (fun pre v => v = .slice none 0 0 ↔ pre = [])) _) (ownFrom_below (Nat.le_refl _) (by omega)))
    (fun _ _ _ _ _ hs _ _ => hs)
    ⟨⟨_, hbox, World.ownsRow_nil _ _ _ _, by simp⟩, hB0⟩
    (fun x => { tmps := #[.agg #[.int .u64 (s.a : Int), .int .u64 (s.b : Int), .int .u64 (s.c : Int), .int .u64 (s.d : Int)], .pointer (some ⟨w.heap.size, 0, none⟩), .slice none 0 0, .pointer (some ⟨w.heap.size + 1, 0, none⟩), .int .i64 x,
      .agg #[.int .u64 (s.a : Int), .int .u64 (s.b : Int), .int .u64 (s.c : Int), .int .u64 (s.d : Int)], .func (.func 28) #[.agg #[.int .u64 (s.a : Int), .int .u64 (s.b : Int), .int .u64 (s.c : Int), .int .u64 (s.d : Int)]] #[], .int .i64 x, undef, undef, undef, undef, undef], defers := [] }) ?assign ?body ?done ?stop
  case assign =>
    intro l x W K hK
    gi_wp2
    exact hK
  case body =>
    rintro l pre x W ⟨⟨v, hv, hrow, hnil⟩, hB⟩ ⟨hlt, hpl⟩
    have hc := hv.cell
    have hnilH := Lib.hid hnil
    clear hnil
    gi_wp2_with (gi_at_builtin; refine wpListIn_append_own _ rfl _ _ 34 rfl (W0.heap.size + 3) 3 i0 (.int .i64 0) 1 8 Try.underlying34 hi hz0 hz1 hz2 rfl (by decide) _ _ _ rfl (hrow.alloc _) ⟨W.heap.size, 0, none⟩ 1 1 [.int .i64 x] rfl rfl (cell_one_new _ _ _) (by simp [Value.oneCell']) (by unfold maxLen; omega) (by omega) (by simp; omega) ?_; intro v' w1 hown' hgrow _; obtain ⟨g', cap', rfl⟩ := ownsRow_succ hown'; obtain ⟨hv1, hv2, hr2, hk2, hb2, hx2⟩ := appended2 hv (by decide) hrow (by omega) hown' hgrow; have hc1 := hv1.cell; have hf1 := hv1.frozen)
    refine ⟨hk2, hx2 _ (by omega) (by omega), ⟨_, hv2, by simpa using hr2, by simp⟩, hB.trans (hb2 _ (by omega) (by omega))⟩
  case done =>
    rintro D ys W hD rfl ⟨⟨v, hv, hrow, hnil⟩, hB⟩ hK
    have hc := hv.cell
    gi_wp2
    refine ⟨by simp, .inl ⟨_, _, rfl, run_takeDeferred hK, ?_⟩⟩
    exact ⟨_, results_tmp rfl _ _ _, v, rfl, ownsRow_mono (ownsRow_putObj hrow _ hK rfl) (by omega), hnil, hB.trans (belowK_b (w := w) (Nat.le_refl _) W D _ _ (by omega) hK rfl rfl)⟩
  case stop =>
    rintro D c pre W _ _ h _
    exact h.elim

theorem list_any (s : W4) (hs : s.ok) (w : World) :
    Calls Try.prog 22 #[s.val] w fun e W' => ∃ v, e = .returned v ∧ W'.ownsRow w.heap.size 3 1 v (elems s).length ((elems s).map (Value.int .i64)) ∧ (v = .slice none 0 0 ↔ elems s = []) ∧ Below w.heap.size w W' := callsIn_wide.1 (list_in s hs 3 (by omega) w)
end Go.Proofs.Ytdiefdijhghefaa
