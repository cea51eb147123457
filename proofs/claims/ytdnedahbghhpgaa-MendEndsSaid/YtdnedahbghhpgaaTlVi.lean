/- What views of the law does. -/
import Derived.Test.YtdnedahbghhpgaaTlSp
import Derived.Test.YtdnedahbghhpgaaFreshC
namespace Go.Proofs.Ytdnedahbghhpgaa
open Go.RowKit Tl

/-- Numbers in their cells. -/
def inE : Enc Int := ⟨fun z => [.int .i64 z], 1, fun _ => rfl, fun x u hu => by
  simp only [List.mem_cons, List.not_mem_nil, or_false] at hu
  rw [hu]; rfl⟩
theorem infoIn : Enc.Inf Try.prog 3 1 8 := by unfold Enc.Inf; kernel_rfl
theorem inE_of {W : World} {A : Option Addr} {zs : List Int} (h : IntsIn W A zs) : inE.In W A zs := by
  rcases h with h | ⟨b, off, e, hlt, hc⟩
  · exact .inl h
  · refine .inr ⟨b, off, e, hlt, fun i hi j hj => ?_⟩
    match j, hj with
    | 0, _ =>
      have := hc i hi
      show W.cell? ⟨b, off + i * 1 + 0, none⟩ = some (.int .i64 zs[i])
      rw [Nat.mul_one, Nat.add_zero]; exact this
theorem ints_of {W : World} {A : Option Addr} {zs : List Int} (h : inE.In W A zs) : IntsIn W A zs := by
  rcases h with h | ⟨b, off, e, hlt, hc⟩
  · exact .inl h
  · refine .inr ⟨b, off, e, hlt, fun i hi => ?_⟩
    have : W.cell? ⟨b, off + i * 1 + 0, none⟩ = some (.int .i64 zs[i]) := hc i hi 0 (by decide)
    rw [Nat.mul_one, Nat.add_zero] at this; exact this
/-- append([]int{}, x...) -/
theorem ints_app {W : World} {base g : Nat} (hr : inE.Row W base 3 (some ⟨g, 0, none⟩) 0 []) {A : Option Addr} {cap : Nat} {zs : List Int} (hI : IntsIn W A zs) (hN : A = none → cap = 0) (hl : zs.length ≤ 1000000) (hb : base ≤ W.heap.size) :
    ∃ A' cap' W', (Builtin.append_ #[24, 24] 24 #[.slice (some ⟨g, 0, none⟩) 0 0, .slice A zs.length cap]).run Try.prog W = .ok (.slice A' zs.length cap') W' ∧ inE.Row W' base 3 A' cap' zs ∧ W.grownBy W' (some g) ∧ (A' = some ⟨g, 0, none⟩ ∨ A' = some ⟨W.heap.size, 0, none⟩) := by
  cases A with
  | none =>
    obtain rfl := hN rfl
    have hzs : zs = [] := by
      rcases hI with h | ⟨b, off, h, _⟩
      · exact h
      · cases h
    subst hzs
    have hinf := infoIn
    unfold Enc.Inf at hinf
    rw [Option.map_eq_some_iff] at hinf
    obtain ⟨i0, hi, _⟩ := hinf
    refine ⟨some ⟨g, 0, none⟩, 0, W, ?_, hr, ⟨rfl, rfl, rfl, Nat.le_refl _, fun _ _ _ => rfl⟩, .inl rfl⟩
    exact run_append_owned_none _ base 24 24 3 i0 1 Try.underlying24 hi _ _ _ hr
  | some ad =>
    obtain ⟨A', cap', W', h1, h2, h3, h4⟩ := Enc.Row.concat (E := inE) (P := Try.prog) Try.underlying24 infoIn (by decide) (by decide) hr (ad := ad) (c2 := cap) (ys := zs) (inE_of hI) (by simp) hl hb 24
    rw [List.length_nil, Nat.zero_add] at h1
    exact ⟨A', cap', W', h1, h2, h3, h4⟩
/-- A view's box, being made beside its lengths. -/
structure PreV (w W : World) (t : TypeId) (b : Nat) (A : Option Addr) (c : Nat) (zs : List Int) : Prop where
  z : W.heap[b]? = some (.cells #[.slice none 0 0, .int .i64 0, .slice none 0 0] t (0, 0))
  r : inE.Row W w.heap.size 3 A c zs
  ne : ∀ g, A = some ⟨g, 0, none⟩ → g ≠ b
  ge : w.heap.size ≤ b
  bw : Below w.heap.size w W
/-- The same when it is made. -/
structure ViV (w W : World) (t : TypeId) (b : Nat) (A : Option Addr) (c : Nat) (zs : List Int) (m : Int) : Prop where
  z : W.heap[b]? = some (.cells #[.slice A zs.length c, .int .i64 m, .slice none 0 0] t (0, 0))
  r : inE.Row W w.heap.size 3 A c zs
  ne : ∀ g, A = some ⟨g, 0, none⟩ → g ≠ b
  ge : w.heap.size ≤ b
  bw : Below w.heap.size w W
theorem heap_setV {W : World} {g : Nat} {cs : Array Value} {t : TypeId} {m : Nat × Nat} (h : W.heap[g]? = some (.cells cs t m)) (i : Nat) (v : Value) : (W.setCell ⟨g, i, none⟩ v).heap[g]? = some (.cells (cs.setIfInBounds i v) t m) := by
  rw [setCell_eq_setRow W g i cs t m v h]
  exact setRow_heap W g _ _ t m h
theorem grownV (W : World) (g o : Nat) (v : Value) : W.grownBy (W.setCell ⟨g, o, none⟩ v) (some g) := ⟨rfl, rfl, rfl, by simp [World.setCell], fun k _ hk => Below.heap_setCell _ _ _ _ (fun e => hk (by rw [e]))⟩
theorem PreV.put {w W : World} {t : TypeId} {b : Nat} {A : Option Addr} {c : Nat} {zs : List Int} (h : PreV w W t b A c zs) (m : Int) :
    ViV w (((W.setCell ⟨b, 0, none⟩ (.slice A zs.length c)).setCell ⟨b, 1, none⟩ (.int .i64 m)).setCell ⟨b, 2, none⟩ (.slice none 0 0)) t b A c zs m := by
  have hne : ∀ g, A = some ⟨g, 0, none⟩ → some b ≠ some g := fun g e e' => h.ne g e (Option.some.inj e').symm
  refine ⟨?_, ((h.r.far (grownV _ _ _ _) hne).far (grownV _ _ _ _) hne).far (grownV _ _ _ _) hne, h.ne, h.ge, ((h.bw.setCell (by show w.heap.size ≤ b; exact h.ge) _).setCell (by show w.heap.size ≤ b; exact h.ge) _).setCell (by show w.heap.size ≤ b; exact h.ge) _⟩
  rw [heap_setV (heap_setV (heap_setV h.z 0 _) 1 _) 2 _]
  rfl
/-- The three orders. -/
theorem empty_int (W : World) {base : Nat} (hb : base ≤ W.heap.size) : inE.Row (W.alloc (.cells #[] 3)) base 3 (some ⟨W.heap.size, 0, none⟩) 0 [] :=
  World.ownsRow_lit (base := base) (size := 1) (e := 3) W #[] 0 hb (by unfold maxLen; omega) rfl
theorem row_ne {W : World} {base cap b : Nat} {A : Option Addr} {zs : List Int} (h : inE.Row W base 3 A cap zs) (hb : W.heap.size ≤ b) : ∀ g, A = some ⟨g, 0, none⟩ → g ≠ b := fun g e e' => by
  rcases h.form with ⟨h1, _⟩ | ⟨g', h1, _, h2, _⟩
  · rw [h1] at e; cases e
  · rw [h1] at e; injection e with e; injection e with e; omega
end Go.Proofs.Ytdnedahbghhpgaa
