/- May there be such a view? The document's answer. -/
import Derived.Test.YtdnedahbghhpgaaTlLn
import Derived.Test.YtdnedahbghhpgaaSRef
import Derived.Test.YtdnedahbghhpgaaMdU
namespace Go.Proofs.Ytdnedahbghhpgaa
open Go.RowKit Tl

/-- The boxes of the document's functions over a view: the geometry's and the view's. -/
structure CnB (w W : World) (D Z B O A : Int) (A1 : Option Addr) (n ca : Nat) (m : Int) (Bn : Option Addr) (nn cb : Nat) : Prop where
  g : GeoAt W w.heap.size D Z B O A
  z : W.heap[w.heap.size + 1]? = some (.cells #[.slice A1 n ca, .int .i64 m, .slice Bn nn cb] 34 (0, 0))
  b : Below w.heap.size w W
section
variable {w W W' : World} {D Z B O A : Int} {A1 : Option Addr} {n ca : Nat} {m : Int} {Bn : Option Addr} {nn cb : Nat}
theorem CnB.below (h : CnB w W D Z B O A A1 n ca m Bn nn cb) (hb : Below W.heap.size W W') : CnB w W' D Z B O A A1 n ca m Bn nn cb := ⟨h.g.below hb, (hb.block _ (Array.getElem?_eq_some_iff.1 h.z).1).trans h.z, bmore h.b hb⟩
theorem CnB.new (w : World) (D Z B O A : Int) (A1 : Option Addr) (n ca : Nat) (m : Int) (Bn : Option Addr) (nn cb : Nat) : CnB w ((w.alloc (.cells #[.int .i64 D, .int .i64 Z, .int .i64 B, .int .i64 O, .int .i64 A] 38)).alloc (.cells #[.slice A1 n ca, .int .i64 m, .slice Bn nn cb] 34)) D Z B O A A1 n ca m Bn nn cb := by
  have s1 := World.size_alloc w (.cells #[.int .i64 D, .int .i64 Z, .int .i64 B, .int .i64 O, .int .i64 A] 38)
  have g1 := GeoAt.new w D Z B O A 38
  have b1 := (Below.refl w.heap.size w).alloc (Nat.le_refl _) (.cells #[.int .i64 D, .int .i64 Z, .int .i64 B, .int .i64 O, .int .i64 A] 38)
  generalize w.alloc (.cells #[.int .i64 D, .int .i64 Z, .int .i64 B, .int .i64 O, .int .i64 A] 38) = W1 at s1 g1 b1 ⊢
  have a2 := (Below.refl W1.heap.size W1).alloc (Nat.le_refl _) (.cells #[.slice A1 n ca, .int .i64 m, .slice Bn nn cb] 34)
  have h2 := World.alloc_heap_new W1 (.cells #[.slice A1 n ca, .int .i64 m, .slice Bn nn cb] 34)
  rw [s1] at h2
  exact ⟨g1.below a2, h2, bmore b1 a2⟩
theorem CnB.c0 (h : CnB w W D Z B O A A1 n ca m Bn nn cb) : W.cell? ⟨w.heap.size + 1, 0, none⟩ = some (.slice A1 n ca) := cell_of_row W _ 0 _ _ _ h.z
theorem CnB.c1 (h : CnB w W D Z B O A A1 n ca m Bn nn cb) : W.cell? ⟨w.heap.size + 1, 1, none⟩ = some (.int .i64 m) := cell_of_row W _ 1 _ _ _ h.z
theorem CnB.c2 (h : CnB w W D Z B O A A1 n ca m Bn nn cb) : W.cell? ⟨w.heap.size + 1, 2, none⟩ = some (.slice Bn nn cb) := cell_of_row W _ 2 _ _ _ h.z
end
theorem ok_of {D B m : Int} {ls : List Int} (h1 : (ls.length : Int) = D) (h2 : -1 ≤ m) (h3 : m < D) (h4 : ∀ j, j < ls.length → 0 ≤ ls.getD j 0 ∧ ls.getD j 0 ≤ B) : okB D B ⟨ls, m, []⟩ = true := by
  refine decide_eq_true ⟨h1, h2, h3, fun x hx => ?_⟩
  obtain ⟨j, hj, rfl⟩ := List.getElem_of_mem hx
  have := h4 j hj
  rw [List.getD_eq_getElem?_getD, List.getElem?_eq_getElem hj] at this
  exact this
theorem no_of {D B m : Int} {ls : List Int} {j : Nat} (hj : j < ls.length) (h : ls.getD j 0 < 0 ∨ B < ls.getD j 0) : okB D B ⟨ls, m, []⟩ = false := by
  refine decide_eq_false fun hk => ?_
  have := hk.2.2.2 _ (List.getElem_mem hj)
  rw [List.getD_eq_getElem?_getD, List.getElem?_eq_getElem hj] at h
  have h' : ls[j] < 0 ∨ B < ls[j] := h
  omega
set_option maxRecDepth 100000 in
set_option maxHeartbeats 2000000 in
theorem rcan_any (D Z B O A : Int) (A1 : Option Addr) (ca : Nat) (ls : List Int) (m : Int) (Bn : Option Addr) (nn cb : Nat) (w : World) (hI : IntsIn w A1 ls) (hl : ls.length ≤ 1000000) :
    Calls Try.prog 47 #[.agg #[.int .i64 D, .int .i64 Z, .int .i64 B, .int .i64 O, .int .i64 A], .agg #[.slice A1 ls.length ca, .int .i64 m, .slice Bn nn cb]] w fun e w' => e = .returned (.bool (goodB D Z B O A && okB D B ⟨ls, m, []⟩)) ∧ Below w.heap.size w w' := by
  have hN := Lib.hid (CnB.new w D Z B O A A1 ls.length ca m Bn nn cb)
  have hIH := Lib.hid (fun W (hb : Below w.heap.size w W) => hI.below hb)
  have hrg := Lib.hid (fun W => refgood_any D Z B O A W)
  have hok : Hid (∀ h1 : (ls.length : Int) = D, ∀ h2 : -1 ≤ m, ∀ h3 : m < D, ∀ h4 : ∀ j, j < ls.length → 0 ≤ ls.getD j 0 ∧ ls.getD j 0 ≤ B, okB D B ⟨ls, m, []⟩ = true) := Lib.hid (fun h1 h2 h3 h4 => ok_of h1 h2 h3 h4)
  have hno : Hid (∀ j, j < ls.length → (ls.getD j 0 < 0 ∨ B < ls.getD j 0) → okB D B ⟨ls, m, []⟩ = false) := Lib.hid (fun j hj h => no_of hj h)
  have hn1 : Hid (¬ ((ls.length : Int) = D ∧ -1 ≤ m ∧ m < D) → okB D B ⟨ls, m, []⟩ = false) := Lib.hid (fun h => decide_eq_false fun hk => h ⟨hk.1, hk.2.1, hk.2.2.1⟩)
  obtain ⟨v, hv⟩ : ∃ v, okB D B ⟨ls, m, []⟩ = v := ⟨_, rfl⟩
  rw [hv] at hok hno hn1
  rw [hv]
  obtain ⟨n, hn⟩ : ∃ n, ls.length = n := ⟨_, rfl⟩
  rw [hn] at hok hno hn1 hN hl
  rw [hn]
  have hnH := Lib.hid hn
  clear hI hv hn
  go_enter Try.func47, Try.ntmps47
  go_upto_region 1 with fail
  refine fresh_world (fun W => CnB w W D Z B O A A1 n ca m Bn nn cb) hN.out ?_
  clear hN
  rintro W1 h1
  obtain ⟨g0, g1, g2, g3, g4, _⟩ := h1.g
  have h1H := Lib.hid h1
  clear h1
  cases hg : goodB D Z B O A with
  | false =>
    rw [hg] at hrg
    go_wp2_with fail
    (with_reducible refine (hrg.out _).mono ?_)
    rintro e w1 ⟨rfl, hb1⟩
    have hF := Lib.hid (h1H.out.below hb1).b
    clear h1H hb1 g0 g1 g2 g3 g4
    go_wp2_with fail
    go_ret
    exact ⟨by rw [hg]; rfl, hF.out⟩
  | true =>
    rw [hg] at hrg
    go_wp2_with fail
    (with_reducible refine (hrg.out _).mono ?_)
    rintro e w1 ⟨rfl, hb1⟩
    have h2 := h1H.out.below hb1
    clear h1H hb1 g0 g1 g2 g3 g4 hrg
    obtain ⟨g0, g1, g2, g3, g4, _⟩ := h2.g
    have c0 := h2.c0
    have c1 := h2.c1
    have c2 := h2.c2
    have h2H := Lib.hid h2
    clear h2
    have FIN : ∀ v' : Bool, v = v' → Hid (v = v') := fun _ h => Lib.hid h
    by_cases k1 : (n : Int) = D
    case neg =>
      have e1 : ((n : Int) != D) = true := by simp [k1]
      have hvf := FIN false (hn1.out fun h => k1 h.1)
      have hF := Lib.hid h2H.out.b
      clear h2H hok hno hn1 FIN
      go_wp2_with fail
      go_ret
      exact ⟨by first | (rw [hg, hvf.out]; rfl) | (rw [hvf.out]; rfl), hF.out⟩
    have e1 : ((n : Int) != D) = false := by simp [k1]
    by_cases k2 : m < -1
    · have hvf := FIN false (hn1.out fun h => by omega)
      have hF := Lib.hid h2H.out.b
      clear h2H hok hno hn1 FIN k1
      go_wp2_with fail
      go_ret
      exact ⟨by first | (rw [hg, hvf.out]; rfl) | (rw [hvf.out]; rfl), hF.out⟩
    by_cases k3 : D ≤ m
    · have hvf := FIN false (hn1.out fun h => by omega)
      have hF := Lib.hid h2H.out.b
      have d2 : decide (m < -1) = false := decide_eq_false k2
      clear h2H hok hno hn1 FIN k1
      go_wp2_with fail
      go_ret
      exact ⟨by first | (rw [hg, hvf.out]; rfl) | (rw [hvf.out]; rfl), hF.out⟩
    have d2 : decide (m < -1) = false := decide_eq_false k2
    have d3 : decide (D ≤ m) = false := decide_eq_false k3
    have hok2 := Lib.hid (hok.out k1 (by omega) (by omega))
    clear hok hn1 k1
    go_wp2_with fail
    clear g0 g1 g2 g3 g4 c0 c1 c2 e1 d2 d3
    go_loopw [5] (fun ii wr => ∃ i : Nat, ii = .int .i64 (i : Int) ∧ i ≤ n ∧ Hid (∀ j, j < i → 0 ≤ ls.getD j 0 ∧ ls.getD j 0 ≤ B) ∧ Hid (CnB w wr D Z B O A A1 n ca m Bn nn cb)) (fun ii _ => n - (intOf ii).toNat)
    case atStart => exact ⟨0, rfl, Nat.zero_le _, Lib.hid (fun j hj => absurd hj (Nat.not_lt_zero _)), h2H⟩
    case round =>
      obtain ⟨i, rfl, hi, hq, hB⟩ := hrel
      obtain ⟨g0, g1, g2, g3, g4, _⟩ := hB.out.g
      have c0 := hB.out.c0
      have c1 := hB.out.c1
      have c2 := hB.out.c2
      by_cases hlt : i < n
      case neg =>
        have hx : ¬ (i : Int) < (n : Int) := by omega
        have hvf := FIN true (hok2.out fun j hj => hq.out j (by omega))
        have hF := Lib.hid hB.out.b
        clear hB hok2 hno hq FIN h2H
        go_wp2_with fail
        go_ret
        exact ⟨by first | (rw [hg, hvf.out]; rfl) | (rw [hvf.out]; rfl), hF.out⟩
      case pos =>
        have hx : (i : Int) < (n : Int) := by omega
        obtain ⟨b1, o1, rfl, a1⟩ := ints_at (hIH.out wr hB.out.b) (k := i) (by rw [hnH.out]; exact hlt)
        obtain ⟨y, hy⟩ : ∃ y, ls.getD i 0 = y := ⟨_, rfl⟩
        rw [hy] at a1
        have hBd := Lib.hid (fun k => hB.out.below (below_drewN (Below.refl _ wr) k))
        have hb0 := Lib.hid hB.out.b
        by_cases y1 : y < 0
        · have hvf := FIN false (hno.out i hlt (.inl (by rw [hy]; exact y1)))
          clear hB hok2 hno hq FIN h2H hy
          go_wp2_with fail
          go_quiet (fail)
          go_wp2_with fail
          go_ret
          exact ⟨by first | (rw [hg, hvf.out]; rfl) | (rw [hvf.out]; rfl), (hBd.out _).b⟩
        have d1 : decide (y < 0) = false := decide_eq_false y1
        by_cases y2 : B < y
        · have hvf := FIN false (hno.out i hlt (.inr (by rw [hy]; exact y2)))
          clear hB hok2 hno hq FIN h2H hy
          go_wp2_with fail
          go_quiet (fail)
          go_wp2_with fail
          go_ret
          exact ⟨by first | (rw [hg, hvf.out]; rfl) | (rw [hvf.out]; rfl), (hBd.out _).b⟩
        have d2 : decide (B < y) = false := decide_eq_false y2
        have hq2 : Hid (∀ j, j < i + 1 → 0 ≤ ls.getD j 0 ∧ ls.getD j 0 ≤ B) := Lib.hid (fun j hj => by
          by_cases e : j = i
          · rw [e, hy]; omega
          · exact hq.out j (by omega))
        have iw : IntKind.i64.wrap ((i : Int) + 1) = (i : Int) + 1 := IntWalk.i64_in _ (by omega)
        clear hB hq hy
        go_wp2_with fail
        go_quiet (fail)
        go_wp2_with fail
        go_roundw
        case rel => exact ⟨i + 1, by go_num, hlt, hq2, Lib.hid (hBd.out _)⟩
        case measure => simp only [intOf]; omega
end Go.Proofs.Ytdnedahbghhpgaa
