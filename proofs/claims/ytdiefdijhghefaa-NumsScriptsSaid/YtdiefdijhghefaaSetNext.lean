/- The set's Next. -/
import Derived.Test.YtdiefdijhghefaaSetCount
namespace Go.Proofs.Ytdiefdijhghefaa
open Go.RowKit Go.Shelf Sets
attribute [local go_sem] Oper.semAt_some

/-- The least number of a list, rising, that is at least so much; -1. -/
def nextL (l : List Int) (f : Int) : Int := (l.find? fun x => decide (f ≤ x)).getD (-1)
theorem nextL_none (l : List Int) (f : Int) (h : ∀ x ∈ l, x < f) : nextL l f = -1 := by
  unfold nextL
  rw [List.find?_eq_none.2 (fun x hx => by have := h x hx; simp; omega)]
  rfl
theorem nextL_some (p q : List Int) (x f : Int) (h : ∀ y ∈ p, y < f) (hx : f ≤ x) : nextL (p ++ x :: q) f = x := by
  unfold nextL
  rw [List.find?_append, List.find?_eq_none.2 (fun x hx => by have := h x hx; simp; omega)]
  simp [hx]

set_option maxRecDepth 100000 in
set_option maxHeartbeats 1000000 in
theorem next_in (s : W4) (hs : s.ok) (f : Int) (n : Nat) (hn : 3 ≤ n) (w : World) :
    CallsIn Fence.wide n Try.prog 24 #[s.val, .int .i64 f] w fun e W' => e = .returned (.int .i64 (nextL (elems s) f)) ∧ Below w.heap.size w W' := by
  have h1 : 1 ≤ n := by omega
  have hseq := all_seq s hs
  unfold W4.val at hseq ⊢
  have hmf : ∀ (fn : Fn) (first cap : Array Value) (w : World), (Instr.makeFunc fn first cap).run Try.prog w = .ok (.func fn first cap) w := fun _ _ _ _ => rfl
  refine callsIn_of_wp_marks Try.func24 rfl trivial ?_ rfl
  simp only [Try.ntmps24, List.size_toArray, List.length_cons, List.length_nil, Nat.reduceAdd, Nat.reduceSub, Array.replicate_succ, Array.replicate_zero, List.push_toArray, List.append_toArray, List.nil_append, List.cons_append]
  have hseqH := Lib.hid hseq
  clear hseq
  gi_wp2
  refine fresh_worldIn (fun W => W.heap.size = w.heap.size + 3 ∧ Below w.heap.size w W ∧ W.cell? ⟨w.heap.size + 1, 0, none⟩ = some (.int .i64 f) ∧ W.cell? ⟨w.heap.size + 1 + 1, 0, none⟩ = some (.int .i64 0) ∧ W.frozen? ⟨w.heap.size + 1 + 1, 0, none⟩ = false)
    ⟨by simp, (((Below.refl _ _).alloc (Nat.le_refl _) _).alloc (by simp) _).alloc (by simp; omega) _, ?_, ?_⟩ ?_
  · have h := cell_new_l (w.alloc (.cells #[.int .u64 (s.a : Int), .int .u64 (s.b : Int), .int .u64 (s.c : Int), .int .u64 (s.d : Int)] 33)) (.int .i64 f) 3
    rw [World.size_alloc] at h
    exact cell_alloc_l _ h.1
  · have h := cell_new_l ((w.alloc (.cells #[.int .u64 (s.a : Int), .int .u64 (s.b : Int), .int .u64 (s.c : Int), .int .u64 (s.d : Int)] 33)).alloc (.cells #[.int .i64 f] 3)) (.int .i64 0) 3
    rw [World.size_alloc, World.size_alloc] at h
    exact h
  rintro W0 ⟨hsz, hB0, hc0, hd0, hf0⟩
  refine wpIn_rangeFunc_bound (Kp := KeepBox (W0.heap.size + 2)) rfl h1 (gf := 28) rfl trivial (enters_of Try.func28 (by kernel_rfl) rfl) (hseqH.out (n - 1) (W0.heap.size + 2)) keepBox_t (fun W l o o' h1 h2 h3 h4 => keepBox_b (w := W0) W l o o' h1 h2 h3 h4) (fun _ => rfl)
    (fun pre W => ((∀ x ∈ pre, x < f) ∧ W.cell? ⟨w.heap.size + 1, 0, none⟩ = some (.int .i64 f) ∧ (∃ z, W.cell? ⟨w.heap.size + 1 + 1, 0, none⟩ = some (.int .i64 z)) ∧ W.frozen? ⟨w.heap.size + 1 + 1, 0, none⟩ = false) ∧ Below w.heap.size w W)
    (fun c pre W => (c = .ret ∧ ∃ p x, pre = p ++ [x] ∧ (∀ y ∈ p, y < f) ∧ f ≤ x ∧ W.cell? ⟨w.heap.size + 1 + 1, 0, none⟩ = some (.int .i64 x)) ∧ Below w.heap.size w W)
    (OwnFrom.and (Own.from (fun s A B row hs hg hr => ⟨hs.1, cell_kept hs.2.1 hg hr, ⟨_, cell_kept hs.2.2.1.choose_spec hg hr⟩, (frozen_kept hs.2.2.1.choose_spec hg hr).trans hs.2.2.2⟩) _) (ownFrom_below (Nat.le_refl _) (by omega)))
    (fun c => OwnFrom.and (Own.from (fun s A B row hs hg hr => by
      obtain ⟨h1, p, x, h2, h3, h4, h5⟩ := hs
      exact ⟨h1, p, x, h2, h3, h4, cell_kept h5 hg hr⟩) _) (ownFrom_below (Nat.le_refl _) (by omega)))
    ⟨⟨by simp, hc0, ⟨_, hd0⟩, hf0⟩, hB0⟩
    (fun x => { tmps := #[.agg #[.int .u64 (s.a : Int), .int .u64 (s.b : Int), .int .u64 (s.c : Int), .int .u64 (s.d : Int)], .int .i64 f, .pointer (some ⟨w.heap.size, 0, none⟩), .pointer (some ⟨w.heap.size + 1, 0, none⟩), .pointer (some ⟨w.heap.size + 1 + 1, 0, none⟩), .int .i64 x,
      .agg #[.int .u64 (s.a : Int), .int .u64 (s.b : Int), .int .u64 (s.c : Int), .int .u64 (s.d : Int)], .func (.func 28) #[.agg #[.int .u64 (s.a : Int), .int .u64 (s.b : Int), .int .u64 (s.c : Int), .int .u64 (s.d : Int)]] #[], .int .i64 x, undef, undef, undef, undef], defers := [] }) ?assign ?body ?done ?stop
  case assign =>
    intro l x W K hK
    gi_wp2
    exact hK
  case body =>
    rintro l pre x W ⟨⟨hpre, hc, ⟨z, hd⟩, hf⟩, hB⟩ hlt
    have hpreH := Lib.hid hpre
    clear hpre
    by_cases hx : f ≤ x
    · gi_wp2
      refine ⟨KeepsOthers.setCell _ _ _, ⟨rfl, pre, x, rfl, hpreH.out, hx, World.cell?_setCell_same' _ _ _ (by rw [hd]; rfl)⟩, hB.setCell (p := ⟨w.heap.size + 1 + 1, 0, none⟩) (by simp; omega) _⟩
    · gi_wp2
      refine ⟨KeepsOthers.refl _, fun C t fr h => h, ⟨?_, hc, ⟨z, hd⟩, hf⟩, hB⟩
      intro y hy
      rcases List.mem_append.1 hy with hy | hy
      · exact hpreH.out y hy
      · obtain rfl : y = x := by simpa using hy
        omega
  case done =>
    rintro D ys W hD rfl ⟨⟨hpre, hc, ⟨z, hd⟩, hf⟩, hB⟩ hK
    have hfin := Lib.hid (nextL_none _ _ hpre)
    clear hpre
    gi_wp2
    have hK' : (W.setCell ⟨w.heap.size + 1 + 1, 0, none⟩ (.int .i64 (-1))).heap[D]? = some (.deferred (some [])) := (KeepsOthers.setCell _ _ _).same D _ hK rfl
    have hr : (W.setCell ⟨w.heap.size + 1 + 1, 0, none⟩ (.int .i64 (-1))).cell? ⟨w.heap.size + 1 + 1, 0, none⟩ = some (.int .i64 (-1)) := World.cell?_setCell_same' _ _ _ (by rw [hd]; rfl)
    have hr2 := cell_kept hr (grownBy_putObj' _ D (.deferred none)) (fun r e => by cases e; exact ⟨_, hK', rfl⟩)
    refine ⟨by simp, .inl ⟨_, _, rfl, run_takeDeferred hK', ?_⟩⟩
    refine ⟨.int .i64 (-1), by simp [results, Try.results24, go_sem, hr2], by rw [hfin.out], ?_⟩
    exact (hB.setCell (p := ⟨w.heap.size + 1 + 1, 0, none⟩) (by simp; omega) _).trans (belowK_b (w := w) (Nat.le_refl _) _ D _ _ (by omega) hK' rfl rfl)
  case stop =>
    rintro D c pre W hD hSp ⟨⟨rfl, p, x, rfl, hp, hx, hc⟩, hB⟩ hK
    obtain ⟨q, hq⟩ := hSp
    have hfin := Lib.hid (nextL_some p q x f hp hx)
    rw [List.append_assoc] at hq
    gi_wp2
    have hr2 := cell_kept hc (grownBy_putObj' _ D (.deferred none)) (fun r e => by cases e; exact ⟨_, hK, rfl⟩)
    refine ⟨by simp, .inl ⟨_, _, rfl, run_takeDeferred hK, ?_⟩⟩
    refine ⟨.int .i64 x, by simp [results, Try.results24, go_sem, hr2], by rw [← hq]; exact congrArg (fun z => Ending.returned (.int .i64 z)) hfin.out.symm, ?_⟩
    exact hB.trans (belowK_b (w := w) (Nat.le_refl _) W D _ _ (by omega) hK rfl rfl)

theorem next_any (s : W4) (hs : s.ok) (f : Int) (w : World) :
    Calls Try.prog 24 #[s.val, .int .i64 f] w fun e W' => e = .returned (.int .i64 (nextL (elems s) f)) ∧ Below w.heap.size w W' := callsIn_wide.1 (next_in s hs f 3 (by omega) w)
end Go.Proofs.Ytdiefdijhghefaa
