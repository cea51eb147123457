/- What the law NumsWalk does. -/
import Derived.Test.YtoobjnnbmfmchaaNumSpeaks
import Derived.Deep.RegionHeld3
namespace Go.Proofs.Ytoobjnnbmfmchaa
open Go.RowKit Sets Num

theorem elems_mem (s : W4) (x : Int) : x ∈ elems s ↔ s.hasI x = true := by
  unfold elems upto W4.hasI
  rw [List.mem_map]
  constructor
  · rintro ⟨n, hn, rfl⟩
    rw [List.mem_filter] at hn
    simpa using hn.2
  · intro h
    simp only [Bool.and_eq_true, decide_eq_true_iff] at h
    refine ⟨x.toNat, ?_, by show ((x.toNat : Nat) : Int) = x; omega⟩
    rw [List.mem_filter, List.mem_range]
    refine ⟨?_, h.2⟩
    have h2 := h.2
    unfold W4.has at h2
    simp at h2
    omega
theorem elems_sorted (s : W4) : (elems s).Pairwise (· < ·) := by
  unfold elems upto
  rw [List.pairwise_map]
  refine List.Pairwise.filter _ ?_
  refine List.Pairwise.imp ?_ List.pairwise_lt_range
  intro a b h
  show ((a : Nat) : Int) < ((b : Nat) : Int)
  omega
theorem next_at (e : List Int) (f : Int) (i : Nat) (h1 : ∀ j (h : j < e.length), j < i → e[j] < f) (h2 : ∀ (h : i < e.length), f ≤ e[i]) : nextL e f = (e[i]?).getD (-1) := by
  by_cases hi : i < e.length
  · have he : e = e.take i ++ e[i] :: e.drop (i + 1) := by rw [List.getElem_cons_drop, List.take_append_drop]
    conv => lhs; rw [he]
    rw [nextL_some _ _ _ _ ?_ (h2 hi), List.getElem?_eq_getElem hi]
    · rfl
    · intro y hy
      obtain ⟨j, hj, rfl⟩ := List.getElem_of_mem hy
      rw [List.length_take] at hj
      rw [List.getElem_take]
      exact h1 j (by omega) (by omega)
  · rw [List.getElem?_eq_none (by omega)]
    refine nextL_none _ _ fun x hx => ?_
    obtain ⟨j, hj, rfl⟩ := List.getElem_of_mem hx
    exact h1 j hj (by omega)
theorem ofL_has (zs : List Int) (z : Int) : (ofL zs).hasI z = decide (z ∈ zs ∧ 0 ≤ z ∧ z < 256) := by
  have : ∀ (zs : List Int) (s : W4), (zs.foldl W4.withI s).hasI z = (s.hasI z || decide (z ∈ zs ∧ 0 ≤ z ∧ z < 256)) := by
    intro zs
    induction zs with
    | nil => intro s; simp
    | cons a zs ih =>
      intro s
      rw [List.foldl_cons, ih, W4.hasI_withI, Bool.or_assoc]
      congr 1
      rw [Bool.eq_iff_iff]
      simp only [Bool.or_eq_true, Bool.and_eq_true, decide_eq_true_iff, List.mem_cons]
      constructor
      · rintro (⟨h1, rfl⟩ | ⟨h1, h2⟩)
        · exact ⟨.inl rfl, h1⟩
        · exact ⟨.inr h1, h2⟩
      · rintro ⟨rfl | h1, h2⟩
        · exact .inl ⟨h2, rfl⟩
        · exact .inr ⟨h1, h2⟩
  rw [ofL, this, W4.hasI_zero, Bool.false_or]

/-- The list's i-th number, -1 behind its end. -/
def nth (e : List Int) (i : Nat) : Int := (e[i]?).getD (-1)
/-- The one ahead of it, -1 ahead of the first. -/
def prev (e : List Int) : Nat → Int
  | 0 => -1
  | i + 1 => nth e i

set_option maxHeartbeats 4000000 in
theorem walk_law (A : Option Addr) (cap : Nat) (zs : List Int) (w : World) (hzl : zs.length ≤ maxLen) (hI : IntsIn w A zs) :
    Calls Try.prog 9 #[.slice A zs.length cap] w fun e w' => e = .returned (.bool true) ∧ Below w.heap.size w w' := by
  have hIH := Lib.hid hI
  have hof := Lib.hid (fun W hb => of_any A cap zs W hzl (hI.below (w' := W) hb))
  unfold maxLen at hzl
  clear hI
  have hok := ofL_ok zs
  have hmem := Lib.hid (fun z hz => show (ofL zs).hasI z = decide (0 ≤ z ∧ z < 256) by rw [ofL_has, decide_eq_decide]; exact ⟨fun h => h.2, fun h => ⟨hz, h⟩⟩)
  have hnext := Lib.hid (fun f W => next_any (ofL zs) hok f W)
  have hhas := Lib.hid (fun x W => has_any (ofL zs) hok x W)
  have hcount := Lib.hid (fun W => count_any (ofL zs) hok W)
  have hsort := Lib.hid (elems_sorted (ofL zs))
  have hel := Lib.hid (elems_mem (ofL zs))
  have hlen := elems_length (ofL zs)
  clear hok
  generalize ofL zs = s at hof hmem hnext hhas hcount hsort hel hlen
  generalize elems s = e at hnext hcount hsort hel hlen
  unfold W4.val at hof hnext hhas hcount
  go_enter Try.func9, Try.ntmps9
  go_upto_region 3 with (go_at_call 10; refine (speaks1 _).mono ?_; rintro e w1 ⟨rfl, hb⟩)
  by_cases h3 : 300 < zs.length
  · have hd : decide (300 < (zs.length : Int)) = true := by simp; omega
    go_wp2
    go_ret
    exact ⟨rfl, hb⟩
  have hd : decide (300 < (zs.length : Int)) = false := by simp; omega
  go_wp2_with (go_at_call 26; refine (hof.out _ hb).mono ?_; rintro e w2 ⟨rfl, hb2⟩; have hB2 := bmore hb hb2)
  have hS0 := setAt_new w2 s
  have hB2' := hB2.alloc hB2.size (.cells #[.int .u64 (s.a : Int), .int .u64 (s.b : Int), .int .u64 (s.c : Int), .int .u64 (s.d : Int)] 33)
  refine (hnext.out (-5) _).mono ?_
  rintro e' w3 ⟨rfl, hb3⟩
  have hS3 := hS0.below hb3
  have hB3 := bmore hB2' hb3
  clear hS0 hB2' hb3 hB2 hb hb2
  generalize w2.heap.size = B at hS3 ⊢
  have hpos := Lib.hid (fun x (h : x ∈ e) => W4.hasI_range ((hel.out x).1 h))
  have hfirst : nextL e (-5) = nth e 0 := next_at e (-5) 0 (fun j _ h => by omega) (fun h => by have := hpos.out e[0] (List.getElem_mem _); omega)
  rw [hfirst]
  have hlenH := Lib.hid hlen
  clear hfirst hlen
  go_wp2
  go_loopw [4, 5, 6] (fun n l k wr => ∃ i : Nat, i ≤ e.length ∧ n = .int .i64 (i : Int) ∧ l = .int .i64 (prev e i) ∧ k = .int .i64 (nth e i) ∧ SetAt wr B s ∧ Below w.heap.size w wr) (fun n _ _ _ => e.length + 1 - (intOf n).toNat)
  case atStart => exact ⟨0, by omega, rfl, rfl, rfl, hS3, hB3⟩
  case round =>
    clear hS3 hB3
    obtain ⟨i, hi, rfl, rfl, rfl, hS, hB⟩ := hrel
    have hSH := Lib.hid hS
    obtain ⟨c0, c1, c2, c3, _⟩ := hS
    by_cases hlt : i < e.length
    · have hk : nth e i = e[i] := by unfold nth; rw [List.getElem?_eq_getElem hlt]; rfl
      have hkr := hpos.out e[i] (List.getElem_mem _)
      have hpr : prev e i < e[i] := by
        cases i with
        | zero => show -1 < _; omega
        | succ j =>
          show nth e j < _
          unfold nth
          rw [List.getElem?_eq_getElem (by omega)]
          exact List.pairwise_iff_getElem.1 hsort.out j (j + 1) (by omega) hlt (by omega)
      have hh := hhas.out e[i]
      rw [(hel.out e[i]).1 (List.getElem_mem _)] at hh
      have hnx : nextL e (e[i] + 1) = nth e (i + 1) := by
        refine next_at e (e[i] + 1) (i + 1) (fun j h1 h2 => ?_) (fun h => ?_)
        · by_cases e1 : j = i
          · subst e1; omega
          · have := List.pairwise_iff_getElem.1 hsort.out j i h1 hlt (by omega); omega
        · have := List.pairwise_iff_getElem.1 hsort.out i (i + 1) hlt h (by omega); omega
      have hn := hnext.out (e[i] + 1)
      rw [hnx] at hn
      have hpe : prev e (i + 1) = e[i] := hk
      rw [hk]
      have hpeH := Lib.hid hpe
      have hhH := Lib.hid hh
      have hnH := Lib.hid hn
      have hi256 : (i : Int) ≤ 256 := by have := hlenH.out; omega
      clear hk hpe hh hn hnx
      generalize e[i] = x at hkr hpr hpeH hhH hnH ⊢
      generalize prev e i = p at hpr
      go_wp2_with (first | (go_at_call 19; refine (hhH.out _).mono ?_; rintro e' w4 ⟨rfl, hb4⟩; have hS4 := hSH.out.below hb4; have hB4 := bmore hB hb4; have hS4H := Lib.hid hS4; obtain ⟨d0, d1, d2, d3, _⟩ := hS4) | (go_at_call 24; refine (hnH.out _).mono ?_; rintro e' w5 ⟨rfl, hb5⟩; have hS5 := hS4H.out.below hb5; have hB5 := bmore hB4 hb5))
      go_roundw
      case rel => exact ⟨i + 1, by omega, by go_num, by rw [hpeH.out], rfl, hS5, hB5⟩
      case measure => simp [intOf]; omega
    · obtain rfl : i = e.length := by omega
      have hk : nth e e.length = -1 := by unfold nth; rw [List.getElem?_eq_none (Nat.le_refl _)]; rfl
      rw [hk]
      generalize prev e e.length = p
      go_wp2
      go_loopw [7] (fun i wr => ∃ j : Nat, j ≤ zs.length ∧ i = .int .i64 (j : Int) ∧ SetAt wr B s ∧ Below w.heap.size w wr) (fun i _ => zs.length - (intOf i).toNat)
      case atStart => exact ⟨0, by omega, rfl, hSH.out, hB⟩
      case round =>
        clear c0 c1 c2 c3 hSH hB
        obtain ⟨j, hj, rfl, hS, hB⟩ := hrel
        have hSH := Lib.hid hS
        obtain ⟨c0, c1, c2, c3, _⟩ := hS
        by_cases hjl : j < zs.length
        · obtain ⟨b, off, rfl, hlt2, hc⟩ := (hIH.out.below hB).at_ hjl
          have hh := hhas.out zs[j]
          rw [hmem.out zs[j] (List.getElem_mem _)] at hh
          generalize zs[j] = z at hc hh
          obtain ⟨x, hx⟩ : ∃ x : Bool, decide (0 ≤ z) = x := ⟨_, rfl⟩
          obtain ⟨y, hy⟩ : ∃ y : Bool, decide (z < 256) = y := ⟨_, rfl⟩
          have e0 : decide (0 ≤ z ∧ z < 256) = (x && y) := by rw [← hx, ← hy]; simp
          rw [e0] at hh
          clear e0
          have hhH := Lib.hid hh
          clear hh
          go_wp2_with fail
          cases x
          case true =>
            go_region_held3 (fun W => W.cell? ⟨B, 0, none⟩ = some (.int .u64 (s.a : Int)) ∧ W.cell? ⟨B, 1, none⟩ = some (.int .u64 (s.b : Int)) ∧ W.cell? ⟨B, 2, none⟩ = some (.int .u64 (s.c : Int)) ∧ W.cell? ⟨B, 3, none⟩ = some (.int .u64 (s.d : Int)) ∧ W.cell? ⟨b, off + j, none⟩ = some (.int .i64 z) ∧ Below wr.heap.size wr W)
            (first | exact ⟨c0, c1, c2, c3, hc, (Below.refl _ _).drew⟩ | exact ⟨(hb4'.cell (lt_of_cell c0)).trans c0, (hb4'.cell (lt_of_cell c1)).trans c1, (hb4'.cell (lt_of_cell c2)).trans c2, (hb4'.cell (lt_of_cell c3)).trans c3, (hb4'.cell (lt_of_cell hc)).trans hc, hb4'⟩)
            (first | (go_at_call 19; refine (hhH.out _).mono ?_; rintro e' w4 ⟨rfl, hb4⟩; have hb4' := ((Below.refl wr.heap.size wr).drew).trans (hb4.mono (by simp))))
            all_goals
              have hS4 := hSH.out.below hb4'
              have hB4 := bmore hB hb4'
              go_wp2
              go_roundw
              case rel => exact ⟨j + 1, by omega, by go_num, hS4, hB4⟩
              case measure => simp [intOf]; omega
          case false =>
            first | go_region_with (go_at_call 19; refine (hhH.out _).mono ?_; rintro e' w4 ⟨rfl, hb4⟩; have hb4' := ((Below.refl wr.heap.size wr).drew).trans (hb4.mono (by simp)); have k4 := (hb4'.cell (p := ⟨b, off + j, none⟩) hlt2).trans hc) | fail "with"
            all_goals
              have hS4 := hSH.out.below hb4'
              have hB4 := bmore hB hb4'
              clear k4
              go_wp2
              go_roundw
              case rel => exact ⟨j + 1, by omega, by go_num, hS4, hB4⟩
              case measure => simp [intOf]; omega
        · obtain rfl : j = zs.length := by omega
          go_wp2_with fail
          refine (hcount.out _).mono ?_
          rintro e' w4 ⟨rfl, hb4⟩
          have hB4 := bmore hB hb4
          go_wp2
          go_ret
          exact ⟨by simp, hB4⟩
end Go.Proofs.Ytoobjnnbmfmchaa
