/- The set's Count. -/
import Derived.Test.YtdiefdijhghefaaSetAll
namespace Go.Proofs.Ytdiefdijhghefaa
open Go.RowKit Go.Shelf Sets
attribute [local go_sem] Oper.semAt_some

def cnt : List Int → Int := List.foldl (fun c _ => wrap64 (c + 1)) 0
theorem cnt_snoc (pre : List Int) (x : Int) : cnt (pre ++ [x]) = wrap64 (cnt pre + 1) := by simp [cnt]
theorem cnt_eq (l : List Int) (h : l.length ≤ 1000) : cnt l = l.length := by
  have : ∀ (l : List Int) (c : Nat), c + l.length ≤ 1000 → List.foldl (fun c _ => wrap64 (c + 1)) (c : Int) l = ((c + l.length : Nat) : Int) := by
    intro l
    induction l with
    | nil => intro c _; rfl
    | cons x l ih =>
      intro c hc
      simp only [List.length_cons] at hc
      rw [List.foldl_cons, IntWalk.wrap64_in _ ⟨by omega, by omega⟩]
      have := ih (c + 1) (by omega)
      rw [show ((c + 1 : Nat) : Int) = (c : Int) + 1 by omega] at this
      rw [this, List.length_cons]; omega
  have h2 := this l 0 (by omega)
  rw [Nat.zero_add] at h2
  exact h2
theorem elems_length (s : W4) : (elems s).length ≤ 256 := upto_length s 256

theorem cell_new_l (W : World) (v : Value) (t : TypeId) : (W.alloc (.cells #[v] t)).cell? ⟨W.heap.size, 0, none⟩ = some v ∧ (W.alloc (.cells #[v] t)).frozen? ⟨W.heap.size, 0, none⟩ = false := by
  have h := World.alloc_heap_new W (.cells #[v] t)
  constructor <;> simp only [World.cell?, World.frozen?, h] <;> rfl
theorem fresh_worldIn {F : Fence} {n : Nat} {P : Program} {c : Code} {Q : Exit → Act → World → Prop} {a : Act} {W : World} (R : World → Prop) (hR : R W) (h : ∀ W2, R W2 → c.wpIn F n P Q a W2) : c.wpIn F n P Q a W := h W hR
theorem cell_alloc_l {W : World} {a : Addr} {v : Value} (o : Obj) (h : W.cell? a = some v) : (W.alloc o).cell? a = some v := cell_kept h (World.grownBy_alloc W o none) (fun r e => by cases e)
theorem frozen_alloc_l {W : World} {a : Addr} {v : Value} (o : Obj) (h : W.cell? a = some v) (hf : W.frozen? a = false) : (W.alloc o).frozen? a = false := (frozen_kept h (World.grownBy_alloc W o none) (fun r e => by cases e)).trans hf

set_option maxRecDepth 100000 in
set_option maxHeartbeats 1000000 in
theorem count_in (s : W4) (hs : s.ok) (n : Nat) (hn : 3 ≤ n) (w : World) :
    CallsIn Fence.wide n Try.prog 23 #[s.val] w fun e W' => e = .returned (.int .i64 (elems s).length) ∧ Below w.heap.size w W' := by
  have h1 : 1 ≤ n := by omega
  have hseq := all_seq s hs
  unfold W4.val at hseq ⊢
  have hmf : ∀ (fn : Fn) (first cap : Array Value) (w : World), (Instr.makeFunc fn first cap).run Try.prog w = .ok (.func fn first cap) w := fun _ _ _ _ => rfl
  refine callsIn_of_wp_marks Try.func23 rfl trivial ?_ rfl
  simp only [Try.ntmps23, List.size_toArray, List.length_cons, List.length_nil, Nat.reduceAdd, Nat.reduceSub, Array.replicate_succ, Array.replicate_zero, List.push_toArray, List.append_toArray, List.nil_append, List.cons_append]
  have hseqH := Lib.hid hseq
  clear hseq
  gi_wp2
  refine fresh_worldIn (fun W => W.heap.size = w.heap.size + 2 ∧ Below w.heap.size w W ∧ W.cell? ⟨w.heap.size + 1, 0, none⟩ = some (.int .i64 0) ∧ W.frozen? ⟨w.heap.size + 1, 0, none⟩ = false) ⟨by simp, ((Below.refl _ _).alloc (Nat.le_refl _) _).alloc (by simp) _, ?_⟩ ?_
  · have h := cell_new_l (w.alloc (.cells #[.int .u64 (s.a : Int), .int .u64 (s.b : Int), .int .u64 (s.c : Int), .int .u64 (s.d : Int)] 33)) (.int .i64 0) 3
    rw [World.size_alloc] at h
    exact h
  rintro W0 ⟨hsz, hB0, hc0, hf0⟩
  refine wpIn_rangeFunc_bound (Kp := KeepBox (W0.heap.size + 2)) rfl h1 (gf := 28) rfl trivial (enters_of Try.func28 (by kernel_rfl) rfl) (hseqH.out (n - 1) (W0.heap.size + 2)) keepBox_t (fun W l o o' h1 h2 h3 h4 => keepBox_b (w := W0) W l o o' h1 h2 h3 h4) (fun _ => rfl)
    (fun pre W => (W.cell? ⟨w.heap.size + 1, 0, none⟩ = some (.int .i64 (cnt pre)) ∧ W.frozen? ⟨w.heap.size + 1, 0, none⟩ = false) ∧ Below w.heap.size w W)
    (fun _ _ _ => False)
    (OwnFrom.and (Own.from (fun s A B row hs hg hr => ⟨cell_kept hs.1 hg hr, (frozen_kept hs.1 hg hr).trans hs.2⟩) _) (ownFrom_below (Nat.le_refl _) (by omega)))
    (fun _ _ _ _ _ hs _ _ => hs)
    ⟨⟨hc0, hf0⟩, hB0⟩
    (fun x => { tmps := #[.agg #[.int .u64 (s.a : Int), .int .u64 (s.b : Int), .int .u64 (s.c : Int), .int .u64 (s.d : Int)], .pointer (some ⟨w.heap.size, 0, none⟩), .int .i64 0, .pointer (some ⟨w.heap.size + 1, 0, none⟩),
      .agg #[.int .u64 (s.a : Int), .int .u64 (s.b : Int), .int .u64 (s.c : Int), .int .u64 (s.d : Int)], .func (.func 28) #[.agg #[.int .u64 (s.a : Int), .int .u64 (s.b : Int), .int .u64 (s.c : Int), .int .u64 (s.d : Int)]] #[], .int .i64 x, undef, undef, undef], defers := [] }) ?assign ?body ?done ?stop
  case assign =>
    intro l x W K hK
    gi_wp2
    simpa using hK
  case body =>
    rintro l pre x W ⟨⟨hc, hf⟩, hB⟩ hlt
    have hcn := Lib.hid (cnt_snoc pre x)
    generalize cnt pre = c at hc hcn
    gi_wp2
    refine ⟨KeepsOthers.setCell _ _ _, ?_, ⟨?_, ?_⟩, hB.setCell (p := ⟨w.heap.size + 1, 0, none⟩) (by simp) _⟩
    · intro C t fr h
      exact (Below.heap_setCell W ⟨w.heap.size + 1, 0, none⟩ _ (W0.heap.size + 2) (by simp; omega)).trans h
    · rw [hcn.out]; exact World.cell?_setCell_same' _ _ _ (by rw [hc]; rfl)
    · rw [World.frozen?_setCell]; exact hf
  case done =>
    rintro D ys W hD rfl ⟨⟨hc, _⟩, hB⟩ hK
    rw [cnt_eq _ (Nat.le_trans (elems_length s) (by omega))] at hc
    gi_wp2
    refine ⟨by simp, .inl ⟨_, _, rfl, run_takeDeferred hK, ?_⟩⟩
    refine ⟨_, results_tmp rfl _ _ _, rfl, ?_⟩
    exact hB.trans (belowK_b (w := w) (Nat.le_refl _) W D _ _ (by omega) hK rfl rfl)
  case stop =>
    rintro D c pre W _ _ h _
    exact h.elim

theorem count_any (s : W4) (hs : s.ok) (w : World) :
    Calls Try.prog 23 #[s.val] w fun e W' => e = .returned (.int .i64 (elems s).length) ∧ Below w.heap.size w W' := callsIn_wide.1 (count_in s hs 3 (by omega) w)
end Go.Proofs.Ytdiefdijhghefaa
