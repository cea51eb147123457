/- A range over a map; how many entries are in each zone. -/
import Derived.Test.YtbgkmppngnedlaaLmE
import Derived.Test.YtbgkmppngnedlaaLmS
import Derived.Maps.RangeWalk
import Derived.Laws.IdiomRangeMap
namespace Go.Proofs.Ytbgkmppngnedlaa
open Go.RowKit Go.Maps

/-- A range under way: what has come. -/
def RgE (W : World) (b r n : Nat) (f : Mp) (ps : List (Int × En)) (cnt : Nat) : Prop := ∃ (D : DataW Unit) (left : Lit → Bool), W.ranges Try.prog 3 enRd b r n D left cnt ∧ (∀ k, has D (.int .i64 k) = (f k).isSome ∧ ∀ z, D.atKey (.int .i64 k) z = ((f k).map enD).getD z) ∧
  CollectedI D left (ps.map (·.1)) ∧ (∀ p ∈ ps, f p.1 = some p.2 ∧ WfI p.1) ∧ ps.length + cnt ≤ n
theorem RgE.kept {W W' : World} {b r n cnt : Nat} {f : Mp} {ps : List (Int × En)} {row : Option Nat} (h : RgE W b r n f ps cnt) (hg : W.grownBy W' row) (h1 : some b ≠ row) (h2 : some r ≠ row) : RgE W' b r n f ps cnt := by
  obtain ⟨D, left, h0, rest⟩ := h
  exact ⟨D, left, h0.kept hg h1 h2, rest⟩
theorem RgE.alloc {W : World} {b r n cnt : Nat} {f : Mp} {ps : List (Int × En)} (h : RgE W b r n f ps cnt) (o : Obj) : RgE (W.alloc o) b r n f ps cnt := h.kept (World.grownBy_alloc W o none) (by simp) (by simp)
theorem RgE.left {W : World} {b r n cnt : Nat} {f : Mp} {ps : List (Int × En)} (h : RgE W b r n f ps cnt) : W.rangeLeft b r = cnt := by obtain ⟨D, left, h0, _⟩ := h; exact h0.left_eq
theorem RgE.lt {W : World} {b r n cnt : Nat} {f : Mp} {ps : List (Int × En)} (h : RgE W b r n f ps cnt) : b < W.heap.size ∧ r < W.heap.size ∧ r ≠ b := by obtain ⟨D, left, h0, _⟩ := h; exact ⟨h0.owns.lt, h0.lt, h0.ne⟩
theorem RgE.len {W : World} {b r n cnt : Nat} {f : Mp} {ps : List (Int × En)} (h : RgE W b r n f ps cnt) : ps.length ≤ n := by obtain ⟨D, left, _, _, _, _, h1⟩ := h; omega
theorem wpList_rangeE {W : World} {ops : Array Oper} {rest : List Oper} {o : Oper} {a : Act} {Q : Exit → Act → World → Prop} (hg : o.guard = none) (m : Operand) (hop : o.op = Op.range 119 m) {b n : Nat} {f : Mp} (h : MapE W b n f) (hm : a.eval m = .map (some b))
    (hK : ∀ w' cnt, RgE w' b W.heap.size n f [] cnt → W.grownBy w' none → w'.heap.size = W.heap.size + 1 → wpList Try.prog ops Q rest (a.put o.dst (.pointer (some ⟨W.heap.size, 0, none⟩))) w') : wpList Try.prog ops Q (o :: rest) a W := by
  obtain ⟨D, h1, h2⟩ := h
  refine wpList_range_own W hg m _ hop 3 117 intKeyed Try.underlying119 enRd b n D hm h1 fun w' r1 r2 r3 => ?_
  exact hK w' _ ⟨D, has D, r1, h2, CollectedI.start D, by simp, by have := h1.size_le; simp; omega⟩ r2 r3
theorem wpList_nextE {W : World} {ops : Array Oper} {rest : List Oper} {o : Oper} {a : Act} {Q : Exit → Act → World → Prop} (hg : o.guard = none) (it : Operand) (hop : o.op = Op.next it false) {b r n cnt : Nat} {f : Mp} {ps : List (Int × En)}
    (hit : a.eval it = .pointer (some ⟨r, 0, none⟩)) (h : RgE W b r n f ps cnt) (hDone : KeysOf f (ps.map (·.1)) → wpList Try.prog ops Q rest (a.put o.dst (.tuple #[.bool false])) W)
    (hMore : ∀ (x : Int) (c : En) (w' : World) (cnt' : Nat), f x = some c → WfI x → RgE w' b r n f (ps ++ [(x, c)]) cnt' → cnt' < cnt → W.grownBy w' (some r) → w'.heap.size = W.heap.size → (Instr.entry (.pointer (some ⟨r, 0, none⟩))).run Try.prog w' = .ok (.tuple #[.int .i64 x, enV c]) w' → wpList Try.prog ops Q rest (a.put o.dst (.tuple #[.bool true, .int .i64 x, enV c])) w') :
    wpList Try.prog ops Q (o :: rest) a W := by
  obtain ⟨D, left, hr, hD, hC, hV, hn⟩ := h
  refine wpList_next_ranges W hg it hop 3 intKeyed enRd encZ enV (fun key kl hk => by obtain ⟨x, hx, _⟩ := Maps.keyOf_i64 Try.underlying3 hk; exact ⟨x, hx⟩) (fun v y hv => by obtain ⟨c, rfl, _⟩ := enRd_inv hv; exact ⟨c, rfl⟩) b r n D left cnt hit hr ?_ ?_
  · intro _ hl
    refine hDone ⟨hC.1, fun k => ?_⟩
    rw [hC.2 k, hl, (hD k).1]
    simp
  · intro x c kl y w' cnt' hkey hlk hv hat hrg hlt hgr hsz hen
    obtain ⟨x', ex, rfl, hwx⟩ := Maps.keyOf_i64 Try.underlying3 hkey
    obtain rfl : x = x' := encZ_inj ex
    obtain ⟨c', ec, ez⟩ := enRd_inv hv
    obtain rfl : c = c' := enV_inj ec
    obtain rfl : y = (enD c, []) := ez
    have hfx : f x = some c := by
      have h1 := hat (.map [])
      rw [(hD x).2] at h1
      cases hf : f x with
      | none => rw [hf] at h1; cases h1
      | some c' => rw [hf] at h1; rw [enD_inj h1]
    refine hMore x c w' cnt' hfx hwx ⟨D, _, hrg, hD, by simpa using hC.step hlk hat, fun p hp => ?_, by simp; omega⟩ hlt hgr hsz hen
    rcases List.mem_append.1 hp with h1 | h1
    · exact hV p h1
    · rw [List.mem_singleton.1 h1]; exact ⟨hfx, hwx⟩
/-- So many of what has come are in a zone. -/
def cntP (ps : List (Int × En)) (z : Int) : Nat := (ps.filter fun p => p.2.z == z).length
theorem cntP_snoc (ps : List (Int × En)) (p : Int × En) (z : Int) : cntP (ps ++ [p]) z = cntP ps z + (if p.2.z = z then 1 else 0) := by
  unfold cntP
  rw [List.filter_append, List.length_append]
  congr 1
  by_cases h : p.2.z = z
  · rw [if_pos h, List.filter_cons_of_pos (by simpa using h)]; rfl
  · rw [if_neg h, List.filter_cons_of_neg (by simpa using h)]; rfl
theorem cntP_le (ps : List (Int × En)) (z : Int) : cntP ps z ≤ ps.length := List.length_filter_le _ _
theorem cntP_cnt {f : Mp} (z : Int) : ∀ {ps : List (Int × En)}, (∀ p ∈ ps, f p.1 = some p.2) → cntZ f (ps.map (·.1)) z = cntP ps z
  | [], _ => rfl
  | p :: ps, h => by
    have ih := cntP_cnt (f := f) z (ps := ps) (fun q hq => h q (List.mem_cons_of_mem _ hq))
    have hp := h p (List.mem_cons_self)
    have hz : zoneIs f z p.1 = (p.2.z == z) := by unfold zoneIs; rw [hp]
    unfold cntZ cntP at ih ⊢
    rw [List.map_cons]
    cases hb : (p.2.z == z) with
    | true => rw [List.filter_cons_of_pos (by rw [hz]; exact hb), List.filter_cons_of_pos (p := fun p : Int × En => p.2.z == z) hb, List.length_cons, List.length_cons, ih]
    | false => rw [List.filter_cons_of_neg (by rw [hz, hb]; simp), List.filter_cons_of_neg (p := fun p : Int × En => p.2.z == z) (by simp [hb]), ih]
/-- Counts in memory. -/
def CtAt (W : World) (R zs : Nat) (ps : List (Int × En)) : Prop := ∀ z, z < zs → W.cell? ⟨R, z, none⟩ = some (.int .i64 (cntP ps (z : Int) : Int)) ∧ W.frozen? ⟨R, z, none⟩ = false
theorem CtAt.below {W W' : World} {R zs : Nat} {ps : List (Int × En)} (h : CtAt W R zs ps) (hb : Below W.heap.size W W') (hl : R < W.heap.size) : CtAt W' R zs ps := fun z hz => ⟨(hb.cell (p := ⟨R, z, none⟩) hl).trans (h z hz).1, (hb.frozen (p := ⟨R, z, none⟩) hl).trans (h z hz).2⟩
theorem CtAt.far {W W' : World} {R zs r : Nat} {ps : List (Int × En)} (h : CtAt W R zs ps) (hg : W.grownBy W' (some r)) (hl : R < W.heap.size) (hne : R ≠ r) : CtAt W' R zs ps := fun z hz => by
  have e1 : W'.heap[R]? = W.heap[R]? := hg.block R hl (fun e => by injection e with e; exact hne e)
  exact ⟨(World.cell?_of_block (a := ⟨R, z, none⟩) e1).trans (h z hz).1, by rw [← (h z hz).2]; simp [World.frozen?, e1]⟩
theorem CtAt.skip {W : World} {R zs : Nat} {ps : List (Int × En)} (h : CtAt W R zs ps) {p : Int × En} (hp : ¬ (0 ≤ p.2.z ∧ p.2.z < (zs : Int))) : CtAt W R zs (ps ++ [p]) := fun z hz => by
  rw [cntP_snoc, if_neg (by omega)]
  exact h z hz
theorem CtAt.put {W : World} {R zs : Nat} {ps : List (Int × En)} (h : CtAt W R zs ps) {p : Int × En} {k : Nat} (hk : k < zs) (hp : p.2.z = (k : Int)) : CtAt (W.setCell ⟨R, k, none⟩ (.int .i64 ((cntP ps (k : Int) : Int) + 1))) R zs (ps ++ [p]) := fun z hz => by
  obtain ⟨h1, h2⟩ := h z hz
  have h3 := (h k hk).1
  by_cases e : z = k
  · subst e
    rw [cntP_snoc, if_pos hp]
    exact ⟨by go_simp, by go_simp⟩
  · rw [cntP_snoc, if_neg (by omega)]
    refine ⟨?_, by go_simp⟩
    rw [World.cell?_setCell_other _ _ _ _ (by intro e'; injection e' with _ e'; omega)]
    exact h1
theorem infoInt : (Try.prog.info? 3).map (fun i => (i.zero, i.size, i.bytes)) = some (some (.int .i64 0), 1, 8) := by kernel_rfl
theorem mk_ints (n : Nat) (hn : n ≤ 100) (W : World) : (Instr.makeSlice 37 (.int .i64 (n : Int)) (.int .i64 (n : Int))).run Try.prog W = .ok (.slice (some ⟨W.heap.size, 0, none⟩) n n) (W.alloc (.cells (madeCells #[.int .i64 0] n) 3)) := by
  obtain ⟨i0, hi, hz0, hz1, hz2⟩ := info_parts infoInt
  have h := run_make_m (P := Try.prog) 37 3 i0 (.int .i64 0) Try.underlying37 hi hz0 .i64 .i64 n n (Nat.le_refl _) (by rw [hz2]; omega) (by omega) W
  rw [hz1, Nat.mul_one] at h
  exact h
def CountsPost (w : World) (f : Mp) (zs : Nat) (e : Ending) (w' : World) : Prop := ∃ (R : Nat) (K : List Int), e = .returned (.slice (some ⟨R, 0, none⟩) zs zs) ∧ KeysOf f K ∧ R < w'.heap.size ∧ w.heap.size ≤ R ∧ (∀ z, z < zs → w'.cell? ⟨R, z, none⟩ = some (.int .i64 (cntZ f K (z : Int) : Int)) ∧ cntZ f K (z : Int) ≤ 1000000) ∧ Below w.heap.size w w'
theorem counts_bad (w : World) (g : Nat) (zs : Int) (hz : zs < 1 ∨ 64 < zs) : Calls Try.prog 34 #[.pointer (some ⟨g, 0, none⟩), .int .i64 zs] w fun e w' => e = .returned (.slice none 0 0) ∧ Below w.heap.size w w' := by
  have hbH := Lib.hid (Below.refl w.heap.size w)
  by_cases h1 : zs < 1
  case pos =>
    have h1b : decide (zs < 1) = true := by simp [h1]
    clear hz
    go_enter Try.func34, Try.ntmps34
    go_wp2_with fail
    go_ret
    exact ⟨rfl, hbH.out⟩
  case neg =>
    have h2 : 64 < zs := by omega
    have h1b : decide (zs < 1) = false := by simp; omega
    have h2b : decide (zs > 64) = true := by simp [h2]
    clear hz
    go_enter Try.func34, Try.ntmps34
    go_wp2_with fail
    go_ret
    exact ⟨rfl, hbH.out⟩
set_option maxRecDepth 100000 in
set_option maxHeartbeats 2000000 in
theorem counts_any (w : World) (g mb n : Nat) (m : Lm) (zs : Nat) (h : LmAt w g mb n m) (hz : 1 ≤ zs ∧ zs ≤ 64) (hn : n ≤ 1000000) : Calls Try.prog 34 #[.pointer (some ⟨g, 0, none⟩), .int .i64 (zs : Int)] w (CountsPost w m.f zs) := by
  have hmk := mk_ints zs (by omega) w
  have b1 := (Below.refl w.heap.size w).alloc (Nat.le_refl _) (.cells (madeCells #[.int .i64 0] zs) 3)
  have hst := Lib.hid (show LmAt (w.alloc (.cells (madeCells #[.int .i64 0] zs) 3)) g mb n m ∧ CtAt (w.alloc (.cells (madeCells #[.int .i64 0] zs) 3)) w.heap.size zs [] ∧ Below w.heap.size w (w.alloc (.cells (madeCells #[.int .i64 0] zs) 3)) ∧ w.heap.size < (w.alloc (.cells (madeCells #[.int .i64 0] zs) 3)).heap.size from
    ⟨h.below b1, fun z hz' => ⟨made_noughts w _ _ _ _ hz', made_free w _ _ _ _⟩, b1, by simp⟩)
  have hgl := Lib.hid h.lt
  have hz1 : ¬ (zs : Int) < 1 := by omega
  have hz2 : ¬ (64 : Int) < (zs : Int) := by omega
  have hz3 : decide ((zs : Int) < 1) = false := by simp; omega
  have hz4 : decide ((zs : Int) > 64) = false := by simp; omega
  clear h b1
  go_enter Try.func34, Try.ntmps34
  go_upto_region 4 with fail
  refine fresh_world (fun W => LmAt W g mb n m ∧ CtAt W w.heap.size zs [] ∧ Below w.heap.size w W ∧ w.heap.size < W.heap.size) hst.out ?_
  clear hst hmk hz1 hz2 hz3 hz4
  rintro W1 ⟨hl, hc, hb, hs⟩
  have c0 := hl.c0
  have hmp := hl.mp
  have hcH := Lib.hid hc
  have hbH := Lib.hid hb
  have hsH := Lib.hid hs
  clear hl hc hb hs
  go_wp2_with (first
    | (at_range; refine wpList_rangeE rfl _ rfl hmp rfl ?_; intro w0 cnt0 hrg0 hg0 hs0)
    | go_in)
  have hb0 : Below W1.heap.size W1 w0 := ⟨hg0.os, hg0.tape, hg0.output, hg0.size, fun k hk => hg0.block k hk (by simp)⟩
  have hst : Hid (RgE w0 mb W1.heap.size n m.f [] cnt0 ∧ CtAt w0 w.heap.size zs [] ∧ Below w.heap.size w w0 ∧ w.heap.size < W1.heap.size) := Lib.hid ⟨hrg0, hcH.out.below hb0 hsH.out, hbH.out.trans (hb0.mono hbH.out.size), hsH.out⟩
  clear hrg0 hg0 hs0 hb0 hcH hbH hsH hmp c0
  generalize W1.heap.size = r at hst ⊢
  go_frame
  go_loopw [8] (fun _ wr => ∃ (ps : List (Int × En)) (cnt : Nat), Hid (RgE wr mb r n m.f ps cnt ∧ CtAt wr w.heap.size zs ps ∧ Below w.heap.size w wr ∧ w.heap.size < r)) (fun _ wr => wr.rangeLeft mb r)
  case atStart => exact ⟨[], cnt0, hst⟩
  case round =>
    clear hst
    obtain ⟨ps, cnt, hP⟩ := hrel
    have hrg := hP.out.1
    have hleft := Lib.hid hrg.left
    go_wp2_with (first
      | (at_next; refine wpList_nextE rfl _ rfl rfl hrg ?_ ?_)
      | go_in)
    · intro hK
      have hKH := Lib.hid hK
      clear hK hrg
      go_wp2_with fail
      go_ret
      refine ⟨w.heap.size, ps.map (·.1), rfl, hKH.out, by have h1 := hP.out.1.lt.2.1; have h2 := hP.out.2.2.2; omega, Nat.le_refl _, fun z hz' => ?_, hP.out.2.2.1⟩
      obtain ⟨D, left, _, _, _, hV, _⟩ := hP.out.1
      rw [cntP_cnt (z : Int) (fun p hp => (hV p hp).1)]
      exact ⟨(hP.out.2.1 z hz').1, by have := cntP_le ps (z : Int); have := hP.out.1.len; omega⟩
    · intro x c w1 cnt1 hfx hwx hrg1 hlt hg1 hs1 hen
      obtain ⟨cs, ct, cz, ca, ce⟩ := c
      unfold enV at hen ⊢
      dsimp only at hen ⊢
      have hrl := hrg.lt
      have hal := (Below.refl w1.heap.size w1).alloc (Nat.le_refl _) (.cells #[.int .i64 cs, .bool ct, .int .i64 cz, .int .i64 ca, .int .i64 ce] 117)
      have hct1 : CtAt w1 w.heap.size zs ps := hP.out.2.1.far hg1 (by have := hP.out.2.2.2; omega) (by have := hP.out.2.2.2; omega)
      have hb1 : Below w.heap.size w w1 := hP.out.2.2.1.grown hg1 hP.out.2.2.1.size (fun k e => by injection e with e; have := hP.out.2.2.2; omega)
      have hX : Hid (RgE (w1.alloc (.cells #[.int .i64 cs, .bool ct, .int .i64 cz, .int .i64 ca, .int .i64 ce] 117)) mb r n m.f (ps ++ [(x, ⟨cs, ct, cz, ca, ce⟩)]) cnt1 ∧ CtAt (w1.alloc (.cells #[.int .i64 cs, .bool ct, .int .i64 cz, .int .i64 ca, .int .i64 ce] 117)) w.heap.size zs ps ∧ Below w.heap.size w (w1.alloc (.cells #[.int .i64 cs, .bool ct, .int .i64 cz, .int .i64 ca, .int .i64 ce] 117)) ∧ w.heap.size < r) :=
        Lib.hid ⟨hrg1.alloc _, hct1.below hal (by have := hP.out.2.2.2; omega), hb1.alloc hb1.size _, hP.out.2.2.2⟩
      have hltH := Lib.hid hlt
      clear hrg1 hct1 hb1 hal hfx hwx hlt hg1 hs1 hrl hrg hP
      go_upto_region 8 with fail
      clear hen
      refine fresh_world (fun W => RgE W mb r n m.f (ps ++ [(x, ⟨cs, ct, cz, ca, ce⟩)]) cnt1 ∧ CtAt W w.heap.size zs ps ∧ Below w.heap.size w W ∧ w.heap.size < r) hX.out ?_
      clear hX
      rintro W5 ⟨hr5, hc5, hb5, hs5⟩
      by_cases hin : 0 ≤ cz ∧ cz < (zs : Int)
      case neg =>
        have hc6 := hc5.skip (p := (x, ⟨cs, ct, cz, ca, ce⟩)) hin
        have hfin := Lib.hid (And.intro hr5 (And.intro hc6 (And.intro hb5 hs5)))
        have hl5 := Lib.hid hr5.left
        clear hr5 hc5 hb5 hs5 hc6
        by_cases h0 : 0 ≤ cz
        case pos =>
          have h1 : ¬ cz < (zs : Int) := by omega
          have h0b : decide (cz ≥ 0) = true := by simp [h0]
          clear hin
          go_wp2_with fail
          go_roundw
          case rel => exact ⟨_, cnt1, hfin⟩
          case measure => rw [hl5.out, hleft.out]; exact hltH.out
        case neg =>
          have h0b : decide (cz ≥ 0) = false := by simp; omega
          clear hin
          go_wp2_with fail
          go_roundw
          case rel => exact ⟨_, cnt1, hfin⟩
          case measure => rw [hl5.out, hleft.out]; exact hltH.out
      case pos =>
        obtain ⟨k, rfl⟩ : ∃ k : Nat, cz = (k : Int) := ⟨cz.toNat, by omega⟩
        have hk : k < zs := by omega
        obtain ⟨d1, d2⟩ := hc5 k hk
        have hle := cntP_le ps (k : Int)
        have hln := hr5.len
        rw [List.length_append] at hln
        have hw1 : IntKind.i64.wrap ((cntP ps (k : Int) : Int) + 1) = (cntP ps (k : Int) : Int) + 1 := IntWalk.i64_in _ (by omega)
        have hc6 := hc5.put (p := (x, ⟨cs, ct, (k : Int), ca, ce⟩)) hk rfl
        have hrz := hr5.lt
        have hr6 : RgE (W5.setCell ⟨w.heap.size, k, none⟩ (.int .i64 ((cntP ps (k : Int) : Int) + 1))) mb r n m.f (ps ++ [(x, ⟨cs, ct, (k : Int), ca, ce⟩)]) cnt1 := hr5.kept (grownBy_setC _ _ _ _) (by have := hgl.out; intro e; injection e with e; omega) (by intro e; injection e with e; omega)
        have hl6 := Lib.hid hr6.left
        have hfin := Lib.hid (And.intro hr6 (And.intro hc6 (And.intro (hb5.setCell (p := ⟨w.heap.size, k, none⟩) (Nat.le_refl _) (.int .i64 ((cntP ps (k : Int) : Int) + 1))) hs5)))
        have h0 : (0 : Int) ≤ (k : Int) := by omega
        have h1 : (k : Int) < (zs : Int) := by omega
        have h0b : decide ((k : Int) ≥ 0) = true := by simp
        clear hr5 hc5 hb5 hs5 hc6 hr6 hin hle hln hrz
        generalize cntP ps (k : Int) = ck at d1 hw1 hfin hl6
        go_wp2_with fail
        go_roundw
        case rel => exact ⟨_, cnt1, hfin⟩
        case measure => rw [hl6.out, hleft.out]; exact hltH.out
end Go.Proofs.Ytbgkmppngnedlaa
