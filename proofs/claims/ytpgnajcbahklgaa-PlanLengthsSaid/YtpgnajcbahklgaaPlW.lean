/- What plan's small calls do: which zone there is, the blocks of a row. -/
import Derived.Test.YtpgnajcbahklgaaMKRow
import Derived.Test.YtpgnajcbahklgaaMGeo
import Derived.Test.YtpgnajcbahklgaaMBase
import Derived.Test.YtpgnajcbahklgaaPlN
namespace Go.Proofs.Ytpgnajcbahklgaa
open Go.RowKit Pl Tl

theorem pexists_any (D Z B O A zone : Int) (w : World) :
    Calls Try.prog 56 #[.agg #[.int .i64 D, .int .i64 Z, .int .i64 B, .int .i64 O, .int .i64 A], .int .i64 zone] w fun e w' => e = .returned (.bool (exB D Z B O A zone)) ∧ Below w.heap.size w w' := by
  have c1 := fun W => zones_any D Z B O A W
  have hV := zonesV_bd D Z B O A
  unfold exB
  generalize zonesV D Z B O A = V at c1 hV ⊢
  have hB0 : Below w.heap.size w (w.alloc (.cells #[.int .i64 D, .int .i64 Z, .int .i64 B, .int .i64 O, .int .i64 A] 37)) := (Below.refl _ _).alloc (Nat.le_refl _) _
  have hBH := Lib.hid hB0
  have c1H := Lib.hid c1
  clear hB0 c1
  by_cases h0 : zone < 0
  · have e : betB zone 0 (V - 1) = false := decide_eq_false (fun h => by omega)
    rw [e]
    have k1 : ¬ (0 ≤ zone) := by omega
    clear e
    go_enter Try.func56, Try.ntmps56
    go_wp2
    go_ret
    exact ⟨rfl, hBH.out⟩
  have k1 : 0 ≤ zone := by omega
  by_cases h1 : zone < V
  · have e : betB zone 0 (V - 1) = true := decide_eq_true ⟨k1, by omega⟩
    rw [e]
    clear e
    go_enter Try.func56, Try.ntmps56
    go_wp2_with fail
    refine (c1H.out _).mono ?_
    rintro e w1 ⟨rfl, hb1⟩
    go_wp2
    go_ret
    exact ⟨by simp, bmore hBH.out hb1⟩
  · have e : betB zone 0 (V - 1) = false := decide_eq_false (fun h => by omega)
    rw [e]
    clear e
    go_enter Try.func56, Try.ntmps56
    go_wp2_with fail
    refine (c1H.out _).mono ?_
    rintro e w1 ⟨rfl, hb1⟩
    go_wp2
    go_ret
    exact ⟨by simp [h1], bmore hBH.out hb1⟩
theorem pperRow_any (D Z B O A : Int) (w : World) (h : 3 ≤ D ∧ D ≤ 16) :
    Calls Try.prog 58 #[.agg #[.int .i64 D, .int .i64 Z, .int .i64 B, .int .i64 O, .int .i64 A]] w fun e w' => e = .returned (.int .i64 (D - 1)) ∧ Below w.heap.size w w' := by
  obtain ⟨h1, h2⟩ := h
  go_enter Try.func58, Try.ntmps58
  go_wp2
  go_ret
  exact ⟨rfl, (Below.refl _ _).alloc (Nat.le_refl _) _⟩
/-- Steps in their cells. -/
def stE : Enc St := ⟨fun s => [.int .i64 s.k, .int .i64 s.s, .int .i64 s.r, .int .i64 s.b, .int .i64 s.c], 5, fun _ => rfl, fun x u hu => by
  simp only [List.mem_cons, List.not_mem_nil, or_false] at hu
  rcases hu with rfl | rfl | rfl | rfl | rfl <;> rfl⟩
theorem infoSt : Enc.Inf Try.prog 76 5 40 := by unfold Enc.Inf; kernel_rfl
theorem infSt : (Try.prog.info? 76).map (fun i => (i.zero, i.size, i.bytes)) = some (some (.agg #[.int .i64 0, .int .i64 0, .int .i64 0, .int .i64 0, .int .i64 0]), 5, 40) := by kernel_rfl
def st0 : St := ⟨0, 0, 0, 0, 0⟩
theorem flat_st0 : ∀ n : Nat, stE.flat (List.replicate n st0) = List.replicate (n * 5) (.int .i64 0)
  | 0 => rfl
  | n + 1 => by
    show stE.c st0 ++ stE.flat (List.replicate n st0) = _
    rw [flat_st0 n, Nat.add_mul, Nat.one_mul]
    rfl
theorem made_steps (W : World) (base : Nat) (hb : base ≤ W.heap.size) (n : Nat) (hn : n ≤ 100000) : stE.Row (W.alloc (.cells (madeCells #[.int .i64 0, .int .i64 0, .int .i64 0, .int .i64 0, .int .i64 0] (n * 5)) 76)) base 76 (some ⟨W.heap.size, 0, none⟩) n (List.replicate n st0) := by
  have h := World.ownsRow_lit (base := base) (size := 5) (e := 76) W (madeCells #[.int .i64 0, .int .i64 0, .int .i64 0, .int .i64 0, .int .i64 0] (n * 5)) n hb (by unfold maxLen; omega) (size_madeCells _ _)
  have e : (madeCells #[.int .i64 0, .int .i64 0, .int .i64 0, .int .i64 0, .int .i64 0] (n * 5)).toList = List.replicate (n * 5) (.int .i64 0) := by
    apply List.ext_getElem
    · simp [madeCells]
    · intro j h1 h2
      rw [List.getElem_replicate]
      simp only [madeCells, Array.toList_map, Array.toList_range, List.getElem_map, List.getElem_range]
      have : j % 5 < 5 := Nat.mod_lt _ (by omega)
      show (#[.int .i64 0, .int .i64 0, .int .i64 0, .int .i64 0, .int .i64 0] : Array Value)[j % 5]! = .int .i64 0
      rcases (by omega : j % 5 = 0 ∨ j % 5 = 1 ∨ j % 5 = 2 ∨ j % 5 = 3 ∨ j % 5 = 4) with e | e | e | e | e <;> rw [e] <;> rfl
  rw [e, ← flat_st0] at h
  unfold Enc.Row
  rw [List.length_replicate]
  exact h
/-- Two boxes and the row of steps behind them. -/
structure DtW (w W : World) (D Z B O A : Int) (q f c : Int) (p G : Nat) (cap : Nat) (l : List St) : Prop where
  g : GeoAt W w.heap.size D Z B O A
  p0 : W.cell? ⟨p, 0, none⟩ = some (.int .i64 q)
  p1 : W.cell? ⟨p, 1, none⟩ = some (.int .i64 f)
  p2 : W.cell? ⟨p, 2, none⟩ = some (.int .i64 c)
  r : stE.Row W w.heap.size 76 (some ⟨G, 0, none⟩) cap l
  bw : Below w.heap.size w W
  ne1 : w.heap.size < G
  ne2 : p < G
theorem DtW.below {w W W' : World} {D Z B O A q f c : Int} {p G cap : Nat} {l : List St} (h : DtW w W D Z B O A q f c p G cap l) (hb : Below W.heap.size W W') : DtW w W' D Z B O A q f c p G cap l :=
  ⟨h.g.below hb, (hb.cell (p := ⟨p, 0, none⟩) (lt_of_cell h.p0)).trans h.p0, (hb.cell (p := ⟨p, 1, none⟩) (lt_of_cell h.p0)).trans h.p1, (hb.cell (p := ⟨p, 2, none⟩) (lt_of_cell h.p0)).trans h.p2, h.r.below hb, bmore h.bw hb, h.ne1, h.ne2⟩
theorem store_st (W : World) (G p : Nat) (s : St) : Enc.storeAt W G p (stE.c s) = ((((W.setCell ⟨G, p, none⟩ (.int .i64 s.k)).setCell ⟨G, p + 1, none⟩ (.int .i64 s.s)).setCell ⟨G, p + 2, none⟩ (.int .i64 s.r)).setCell ⟨G, p + 3, none⟩ (.int .i64 s.b)).setCell ⟨G, p + 4, none⟩ (.int .i64 s.c) := rfl
/-- A step is put into the row. -/
theorem DtW.put {w W : World} {D Z B O A q f c : Int} {p G cap : Nat} {l : List St} (h : DtW w W D Z B O A q f c p G cap l) {i : Nat} (hi : i < l.length) (s : St) :
    DtW w (Enc.storeAt W G (i * 5) (stE.c s)) D Z B O A q f c p G cap (l.set i s) := by
  have h1 := h.ne1
  have h2 := h.ne2
  have hg := Enc.grownBy_store G (stE.c s) W (i * 5)
  have hs : stE.Row (Enc.storeAt W G (i * 5) (stE.c s)) w.heap.size 76 (some ⟨G, 0, none⟩) cap (l.set i s) := h.r.store hi s
  generalize Enc.storeAt W G (i * 5) (stE.c s) = W' at hg hs ⊢
  have hblk : ∀ k, k < W.heap.size → k ≠ G → W'.heap[k]? = W.heap[k]? := fun k hk hne => hg.block k hk (fun e => hne (Option.some.inj e))
  obtain ⟨g0, g1, g2, g3, g4, glt⟩ := h.g
  have plt := lt_of_cell h.p0
  have hG := hblk w.heap.size glt (by omega)
  have hP := hblk p plt (by omega)
  refine ⟨⟨(World.cell?_of_block (a := ⟨w.heap.size, 0, none⟩) hG).trans g0, (World.cell?_of_block (a := ⟨w.heap.size, 1, none⟩) hG).trans g1, (World.cell?_of_block (a := ⟨w.heap.size, 2, none⟩) hG).trans g2, (World.cell?_of_block (a := ⟨w.heap.size, 3, none⟩) hG).trans g3, (World.cell?_of_block (a := ⟨w.heap.size, 4, none⟩) hG).trans g4, Nat.lt_of_lt_of_le glt hg.size⟩, (World.cell?_of_block (a := ⟨p, 0, none⟩) hP).trans h.p0, (World.cell?_of_block (a := ⟨p, 1, none⟩) hP).trans h.p1, (World.cell?_of_block (a := ⟨p, 2, none⟩) hP).trans h.p2, hs, ?_, h1, h2⟩
  exact h.bw.grown hg h.bw.size fun b e => by injection e with e; omega
theorem dats_fill {w z a : Nat} {l : List St} {i : Nat} (h : ∀ j (hj : j < l.length), j < i → l[j] = dat w z (a + j)) :
    ∀ j (hj : j < (l.set i (dat w z (a + i))).length), j < i + 1 → (l.set i (dat w z (a + i)))[j] = dat w z (a + j) := by
  intro j hj hlt
  have hj' : j < l.length := by rw [List.length_set] at hj; exact hj
  rw [List.getElem_set]
  split
  · rename_i e; rw [e]
  · exact h j hj' (by omega)
theorem dats_done {w z a c : Nat} {l : List St} (hl : l.length = c) (h : ∀ j (hj : j < l.length), j < c → l[j] = dat w z (a + j)) : l = dats w z a c := by
  apply List.ext_getElem
  · rw [dats_len, hl]
  · intro j h1 h2
    rw [dats_at, h j h1 (by omega)]
/-- What data returns. -/
def DtPost (w : World) (l : List St) (e : Ending) (w' : World) : Prop := ∃ g, e = .returned (.slice (some ⟨g, 0, none⟩) l.length l.length) ∧ stE.Row w' w.heap.size 76 (some ⟨g, 0, none⟩) l.length l ∧ Below w.heap.size w w'
/-- The place of a block, as the steps have it. -/
theorem place_dat {D Z B O A : Int} {wd z b : Nat} (hD : D = (wd : Int) + 1) (hg : GoodP D Z B O A) (hz : (z : Int) ≤ Z - 4) (hb : (b : Int) < (D - 1) * B) :
    plR D Z B O A (z : Int) (b : Int) = ((b / wd : Nat) : Int) ∧ plD D Z B O A (z : Int) (b : Int) = sl wd z b := by
  have hp := plB_mk hg (Int.natCast_nonneg z) hz (Int.natCast_nonneg b) hb
  obtain ⟨e1, e2⟩ := slot_pl hp
  subst hD
  rw [show (wd : Int) + 1 - 1 = (wd : Int) by omega] at e1 e2
  refine ⟨by rw [e1]; rfl, ?_⟩
  rw [e2]
  show slotK _ _ _ _ = slotK _ _ _ _
  congr 1
end Go.Proofs.Ytpgnajcbahklgaa
