/- nums.Of. -/
import Derived.Test.YtdiefdijhghefaaSets
namespace Go.Proofs.Ytdiefdijhghefaa
open Go.RowKit Sets

def ofL (zs : List Int) : W4 := zs.foldl W4.withI W4.zero
theorem ofL_snoc (zs : List Int) (z : Int) : ofL (zs ++ [z]) = (ofL zs).withI z := by simp [ofL]
theorem ofL_ok (zs : List Int) : (ofL zs).ok := by
  have : ∀ (zs : List Int) (s : W4), s.ok → (zs.foldl W4.withI s).ok := by
    intro zs
    induction zs with
    | nil => exact fun s h => h
    | cons z zs ih => exact fun s h => ih _ (W4.withI_ok h z)
  exact this zs _ W4.zero_ok

/-- A block of four cells that holds a set. -/
def SetAt (W : World) (B : Nat) (s : W4) : Prop :=
  W.cell? ⟨B, 0, none⟩ = some (.int .u64 (s.a : Int)) ∧ W.cell? ⟨B, 1, none⟩ = some (.int .u64 (s.b : Int)) ∧ W.cell? ⟨B, 2, none⟩ = some (.int .u64 (s.c : Int)) ∧ W.cell? ⟨B, 3, none⟩ = some (.int .u64 (s.d : Int))
  ∧ W.frozen? ⟨B, 0, none⟩ = false ∧ W.frozen? ⟨B, 1, none⟩ = false ∧ W.frozen? ⟨B, 2, none⟩ = false ∧ W.frozen? ⟨B, 3, none⟩ = false
theorem SetAt.below {W W' : World} {B : Nat} {s : W4} (h : SetAt W B s) (hb : Below W.heap.size W W') : SetAt W' B s := by
  have hlt := lt_of_cell h.1
  obtain ⟨h0, h1, h2, h3, f0, f1, f2, f3⟩ := h
  obtain ⟨hc, hf⟩ := bcell hb
  exact ⟨(hc _ _ hlt).trans h0, (hc _ _ hlt).trans h1, (hc _ _ hlt).trans h2, (hc _ _ hlt).trans h3, (hf _ _ hlt).trans f0, (hf _ _ hlt).trans f1, (hf _ _ hlt).trans f2, (hf _ _ hlt).trans f3⟩

theorem SetAt.other {W : World} {B : Nat} {s : W4} (h : SetAt W B s) {p : Addr} (hp : p.block ≠ B) (v : Value) : SetAt (W.setCell p v) B s := by
  obtain ⟨h0, h1, h2, h3, f0, f1, f2, f3⟩ := h
  have hc : ∀ j, (W.setCell p v).cell? ⟨B, j, none⟩ = W.cell? ⟨B, j, none⟩ := fun j => World.cell?_setCell_other _ _ _ _ (by rintro rfl; exact hp rfl)
  exact ⟨(hc 0).trans h0, (hc 1).trans h1, (hc 2).trans h2, (hc 3).trans h3, by rw [World.frozen?_setCell]; exact f0, by rw [World.frozen?_setCell]; exact f1, by rw [World.frozen?_setCell]; exact f2, by rw [World.frozen?_setCell]; exact f3⟩
theorem cell_set (W : World) (B j : Nat) (u v : Value) (h : W.cell? ⟨B, j, none⟩ = some u) : (W.setCell ⟨B, j, none⟩ v).cell? ⟨B, j, none⟩ = some v := World.cell?_setCell_same' _ _ _ (by rw [h]; rfl)
theorem cell_keep (W : World) (B i j : Nat) (v : Value) (hij : i ≠ j) : (W.setCell ⟨B, i, none⟩ v).cell? ⟨B, j, none⟩ = W.cell? ⟨B, j, none⟩ :=
  World.cell?_setCell_other _ _ _ _ (by intro e; injection e with _ e; omega)
theorem SetAt.store {W : World} {B : Nat} {s : W4} (h : SetAt W B s) (t : W4) :
    SetAt ((((W.setCell ⟨B, 0, none⟩ (.int .u64 (t.a : Int))).setCell ⟨B, 1, none⟩ (.int .u64 (t.b : Int))).setCell ⟨B, 2, none⟩ (.int .u64 (t.c : Int))).setCell ⟨B, 3, none⟩ (.int .u64 (t.d : Int))) B t := by
  obtain ⟨h0, h1, h2, h3, f0, f1, f2, f3⟩ := h
  have k := fun W i j v hij => cell_keep W B i j v hij
  refine ⟨?_, ?_, ?_, ?_, ?_, ?_, ?_, ?_⟩
  · rw [k _ 3 0 _ (by omega), k _ 2 0 _ (by omega), k _ 1 0 _ (by omega)]; exact cell_set _ _ _ _ _ h0
  · rw [k _ 3 1 _ (by omega), k _ 2 1 _ (by omega)]; exact cell_set _ _ _ (.int .u64 (s.b : Int)) _ (by rw [k _ 0 1 _ (by omega)]; exact h1)
  · rw [k _ 3 2 _ (by omega)]; exact cell_set _ _ _ (.int .u64 (s.c : Int)) _ (by rw [k _ 1 2 _ (by omega), k _ 0 2 _ (by omega)]; exact h2)
  · exact cell_set _ _ _ (.int .u64 (s.d : Int)) _ (by rw [k _ 2 3 _ (by omega), k _ 1 3 _ (by omega), k _ 0 3 _ (by omega)]; exact h3)
  all_goals (simp only [World.frozen?_setCell]; assumption)

theorem setAt_new (W : World) (s : W4) : SetAt (W.alloc (.cells #[.int .u64 (s.a : Int), .int .u64 (s.b : Int), .int .u64 (s.c : Int), .int .u64 (s.d : Int)] 33)) W.heap.size s := by
  have hc := fun j => World.cell?_alloc_mark W #[.int .u64 (s.a : Int), .int .u64 (s.b : Int), .int .u64 (s.c : Int), .int .u64 (s.d : Int)] 33 (0, 0) j
  have hf := fun j => World.frozen?_alloc_mark W #[.int .u64 (s.a : Int), .int .u64 (s.b : Int), .int .u64 (s.c : Int), .int .u64 (s.d : Int)] 33 0 0 j
  exact ⟨hc 0, hc 1, hc 2, hc 3, (hf 0).trans (by simp), (hf 1).trans (by simp), (hf 2).trans (by simp), (hf 3).trans (by simp)⟩

set_option maxHeartbeats 1000000 in
theorem of_any (A : Option Addr) (cap : Nat) (zs : List Int) (w : World) (hzl : zs.length ≤ maxLen) (hI : IntsIn w A zs) :
    Calls Try.prog 26 #[.slice A zs.length cap] w fun e w' => e = .returned (ofL zs).val ∧ Below w.heap.size w w' := by
  unfold maxLen at hzl
  have hIH := Lib.hid hI
  clear hI
  go_enter Try.func26, Try.ntmps26
  go_wp2
  refine fresh_world (fun W => SetAt W (w.heap.size + 1) W4.zero ∧ Below w.heap.size w W ∧ SetAt W w.heap.size W4.zero) ?_ ?_
  · have h1 := setAt_new w W4.zero
    have h2 := setAt_new (w.alloc (.cells #[.int .u64 (W4.zero.a : Int), .int .u64 (W4.zero.b : Int), .int .u64 (W4.zero.c : Int), .int .u64 (W4.zero.d : Int)] 33)) W4.zero
    rw [World.size_alloc] at h2
    exact ⟨h2, ((Below.refl _ _).alloc (Nat.le_refl _) _).alloc (by simp) _, h1.below ((Below.refl _ _).alloc (Nat.le_refl _) _)⟩
  rintro W0 ⟨hS0, hB0, hR0⟩
  go_loopw [8] (fun i wr => ∃ k : Nat, k ≤ zs.length ∧ i = .int .i64 (k : Int) ∧ SetAt wr (w.heap.size + 1) (ofL (zs.take k)) ∧ SetAt wr w.heap.size W4.zero ∧ Below w.heap.size w wr) (fun i _ => zs.length - (intOf i).toNat)
  case atStart => exact ⟨0, by omega, rfl, hS0, hR0, hB0⟩
  case round =>
    clear hS0 hB0 hR0
    obtain ⟨k, hk, rfl, hS, hR, hB⟩ := hrel
    by_cases hlt : k < zs.length
    · obtain ⟨b, off, rfl, hlt2, hc⟩ := (hIH.out.below hB).at_ hlt
      have hw := Lib.hid (fun W => with_any (ofL (zs.take k)) (ofL_ok _) zs[k] W)
      have hsn := Lib.hid (show ofL (zs.take (k + 1)) = (ofL (zs.take k)).withI zs[k] by rw [List.take_succ_eq_append_getElem hlt, ofL_snoc])
      generalize zs[k] = z at hc hw hsn
      generalize ofL (zs.take k) = s at hS hw hsn
      have hSH := Lib.hid hS
      have hRH := Lib.hid hR
      obtain ⟨h0, h1, h2, h3, f0, f1, f2, f3⟩ := hS
      clear hR
      unfold W4.val at hw
      go_wp2_with (go_at_call 17; refine (hw.out _).mono ?_; rintro e w1 ⟨rfl, hb1⟩; obtain ⟨g0, g1, g2, g3, e0, e1, e2, e3⟩ := hSH.out.below hb1)
      have hbn := hB.trans (hb1.mono hB.size)
      go_roundw
      case rel =>
        refine ⟨k + 1, by omega, by go_num, ?_, ?_, ?_⟩
        · rw [hsn.out]; exact (hSH.out.below hb1).store _
        · exact ((((hRH.out.below hb1).other (by simp) _).other (by simp) _).other (by simp) _).other (by simp) _
        · exact (((hbn.setCell (by simp) _).setCell (by simp) _).setCell (by simp) _).setCell (by simp) _
      case measure => simp [intOf]; omega
    · obtain rfl : k = zs.length := by omega
      rw [List.take_length] at hS
      have hSH := Lib.hid hS
      have hRH := Lib.hid hR
      obtain ⟨h0, h1, h2, h3, f0, f1, f2, f3⟩ := hS
      obtain ⟨r0, r1, r2, r3, q0, q1, q2, q3⟩ := hR
      have hfin := hRH.out.store (ofL zs)
      obtain ⟨k0, k1, k2, k3, _⟩ := hfin
      have hk := Lib.hid (And.intro k0 (And.intro k1 (And.intro k2 k3)))
      clear k0 k1 k2 k3
      go_wp2
      obtain ⟨k0, k1, k2, k3⟩ := hk.out
      refine bodyPost_ret (v := .agg #[.int .u64 ((ofL zs).a : Int), .int .u64 ((ofL zs).b : Int), .int .u64 ((ofL zs).c : Int), .int .u64 ((ofL zs).d : Int)]) (by simp [results, Try.results26, go_sem, k0, k1, k2, k3]) rfl ⟨rfl, ?_⟩
      exact (((hB.setCell (by simp) _).setCell (by simp) _).setCell (by simp) _).setCell (by simp) _
end Go.Proofs.Ytdiefdijhghefaa
