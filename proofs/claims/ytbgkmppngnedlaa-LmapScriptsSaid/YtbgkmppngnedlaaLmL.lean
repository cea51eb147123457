/- Live of a map: the blocks of a zone, in order. -/
import Derived.Test.YtbgkmppngnedlaaLmK
namespace Go.Proofs.Ytbgkmppngnedlaa
open Go.RowKit Go.Sort Go.Shelf

theorem heap_sortedN {w : World} {g n : Nat} {os : Array Obj} {cur : Array Value} {e : TypeId} {fr : Nat × Nat} (F : Array Value) (hb : w.heap[g]? = some (.cells cur e fr)) :
    (grow (putRow id (Sort.ahead w n) g 0 F) os).heap[g]? = some (.cells (putCells id 0 F cur) e fr) := by
  have hg : g < w.heap.size := (Array.getElem?_eq_some_iff.1 hb).1
  rw [heap_grow_old _ _ (by simpa using hg)]
  simp [putRow, mapBlock, Sort.ahead, Array.getElem?_modify, hb, onCells]
theorem grownBy_sortedN {w : World} {g n : Nat} {os : Array Obj} (F : Array Value) : w.grownBy (grow (putRow id (Sort.ahead w n) g 0 F) os) (some g) := by
  refine ⟨rfl, rfl, rfl, by simp, fun k hk hne => ?_⟩
  rw [heap_grow_old _ _ (by simpa using hk)]
  have : g ≠ k := fun e => hne (by rw [e])
  simp [putRow, mapBlock, Sort.ahead, Array.getElem?_modify, this]
theorem take_putCellsN (cur F : Array Value) (h : F.size ≤ cur.size) : (putCells id 0 F cur).toList.take F.size = F.toList := by
  apply List.ext_getElem?
  intro j
  by_cases hj : j < F.size
  · rw [List.getElem?_take_of_lt hj, Array.getElem?_toList]
    simp [putCells, hj, show j < cur.size by omega]
  · rw [List.getElem?_take_eq_none (by omega), List.getElem?_eq_none (by simp; omega)]
theorem flatK_list (d : Array Lv) : (flatK lvE.c 5 d).toList = lvE.flat d.toList := by
  apply List.ext_getElem?
  intro t
  by_cases ht : t < d.size * 5
  · have h1 := get_flatK lvE.c 5 d t ht
    have hd : t / 5 < d.size := by omega
    have hm : t % 5 < 5 := Nat.mod_lt _ (by omega)
    have h2 := lvE.flat_at d.toList (t / 5) (by simpa using hd) (t % 5) hm
    have e : t / 5 * lvE.k + t % 5 = t := by show t / 5 * 5 + t % 5 = t; omega
    rw [e] at h2
    rw [h2]
    have hs : t < (flatK lvE.c 5 d).size := by rw [size_flatK]; exact ht
    rw [getElem!_pos _ t hs, getElem!_pos d _ hd] at h1
    have hl : (lvE.c d[t / 5]).length = 5 := rfl
    rw [getElem!_pos (lvE.c d[t / 5]) _ (by rw [hl]; exact hm)] at h1
    rw [List.getElem?_eq_getElem (by simpa using hs), List.getElem?_eq_getElem (by simp only [Array.getElem_toList]; rw [hl]; exact hm)]
    simp only [Array.getElem_toList, h1]
  · rw [List.getElem?_eq_none (by rw [Array.length_toList, size_flatK]; omega), List.getElem?_eq_none (by rw [lvE.flat_len, Array.length_toList]; show d.size * 5 ≤ t; omega)]
theorem row_sorted {W : World} {base g cap : Nat} {l : List Lv} (hr : lvE.Row W base 71 (some ⟨g, 0, none⟩) cap l) :
    HoldsK lvE.c 5 W g 0 l.toArray ∧ base ≤ g ∧ g < W.heap.size ∧ ∀ (n : Nat) (d' : Array Lv) (os : Array Obj), d'.size = l.length →
      lvE.Row (sortWorldK lvE.c 5 W g 0 n d' os) base 71 (some ⟨g, 0, none⟩) cap d'.toList ∧ W.grownBy (sortWorldK lvE.c 5 W g 0 n d' os) (some g) := by
  rcases hr.2 with ⟨e, _⟩ | ⟨g', cap', cur, e, hb, hh, h1, h2, h3, h4⟩
  · cases e
  · injection e with e1 _ e3
    injection e1 with e1; injection e1 with e1 _ _
    subst e1; subst e3
    have hg : g < W.heap.size := (Array.getElem?_eq_some_iff.1 hh).1
    refine ⟨?_, hb, hg, fun n d' os hs => ⟨?_, grownBy_sortedN _⟩⟩
    · intro j hj
      rw [size_flatK] at hj
      have hj' : j < l.length * 5 := by simpa using hj
      refine ⟨?_, by simp [World.frozen?, hh]⟩
      have hx : (cur.toList.take (l.length * 5))[j]? = (lvE.flat l)[j]? := congrArg (·[j]?) h4
      rw [List.getElem?_take_of_lt hj'] at hx
      have hy := flatK_list l.toArray
      rw [List.toList_toArray] at hy
      rw [← hy] at hx
      have hs : j < (flatK lvE.c 5 l.toArray).size := by rw [size_flatK]; exact hj
      rw [getElem!_pos _ j hs]
      simp only [World.cell?, hh, Nat.zero_add, Option.isSome_none, Bool.false_eq_true, if_false]
      rw [← Array.getElem?_toList, hx, List.getElem?_eq_getElem (by simpa using hs)]
      rfl
    · have hF : (flatK lvE.c 5 d').size = l.length * 5 := by rw [size_flatK, hs]
      have hcur : cur.size = cap * 5 := h3
      have hcs : (flatK lvE.c 5 d').size ≤ cur.size := by rw [hF, hcur]; omega
      have h5 := take_putCellsN cur (flatK lvE.c 5 d') hcs
      rw [flatK_list, hF, ← hs] at h5
      unfold Enc.Row
      rw [Array.length_toList]
      refine ⟨by rw [lvE.flat_len, Array.length_toList], .inr ⟨g, cap, _, rfl, hb, heap_sortedN _ hh, by rw [hs]; exact h1, h2, ?_, h5⟩⟩
      simp [putCells, hcur]
      rfl
theorem perm_of {d d' : Array Lv} (h : PermIn 0 d.size d d') : d'.size = d.size ∧ d'.toList.Perm d.toList := by
  obtain ⟨h1, _, h3⟩ := h
  rw [← h1] at h3
  rw [Array.extract_size, h1, Array.extract_size] at h3
  exact ⟨h1, h3⟩
theorem sorted_of {d : Array Lv} (h : SortedIn (fun x y : Lv => decide (lvLt x y)) 0 d.size d) : d.toList.Pairwise (fun a b => ¬ lvLt b a) := by
  rw [List.pairwise_iff_getElem]
  intro i j hi hj hij
  have hi' : i < d.size := by simpa using hi
  have hj' : j < d.size := by simpa using hj
  have h1 := h i j (Nat.zero_le _) hij hj'
  rw [getElem!_pos d i hi', getElem!_pos d j hj'] at h1
  simpa using h1

theorem infLv : Enc.Inf Try.prog 71 5 40 := by unfold Enc.Inf; kernel_rfl
/-- What SortFunc does with a row of these. -/
def SortsL : Prop := ∀ (W : World) (base : Nat) (A : Option Addr) (cap : Nat) (l : List Lv), lvE.Row W base 71 A cap l → base ≤ W.heap.size → l.length ≤ 1000000 →
  Calls Try.prog 59 #[.slice A l.length cap, .func (.func 60) #[] #[]] W fun e w' => ∃ d : List Lv, e = .returned (.tuple #[]) ∧ d.Perm l ∧ d.Pairwise (fun a b => ¬ lvLt b a) ∧ lvE.Row w' base 71 A cap d ∧ Below base W w'
def mkL (p : Int × En) : Lv := ⟨p.1, p.2.t, p.2.z, p.2.a, p.2.e⟩
def inZ (ps : List (Int × En)) (z : Int) : List Lv := (ps.filter fun p => p.2.z == z).map mkL
theorem inZ_len (ps : List (Int × En)) (z : Int) : (inZ ps z).length = cntP ps z := by unfold inZ cntP; rw [List.length_map]
theorem inZ_yes {ps : List (Int × En)} {p : Int × En} {z : Int} (h : p.2.z = z) : inZ (ps ++ [p]) z = inZ ps z ++ [mkL p] := by
  unfold inZ
  rw [List.filter_append, List.map_append, List.filter_cons_of_pos (by simpa using h)]
  rfl
theorem inZ_no {ps : List (Int × En)} {p : Int × En} {z : Int} (h : ¬ p.2.z = z) : inZ (ps ++ [p]) z = inZ ps z := by
  unfold inZ
  rw [List.filter_append, List.map_append, List.filter_cons_of_neg (by simpa using h)]
  simp
/-- What Live answers. -/
def LiveL (f : Mp) (z : Int) (L : List Lv) : Prop := (∃ ps : List (Int × En), KeysOf f (ps.map (·.1)) ∧ (∀ p ∈ ps, f p.1 = some p.2 ∧ WfI p.1) ∧ L.Perm (inZ ps z)) ∧ L.Pairwise (fun a b => ¬ lvLt b a)
theorem LiveL.len {f : Mp} {z : Int} {L : List Lv} (h : LiveL f z L) {K : List Int} (hK : KeysOf f K) : L.length = cntZ f K z := by
  obtain ⟨⟨ps, h1, h2, h3⟩, _⟩ := h
  rw [h3.length_eq, inZ_len, ← cntP_cnt z (fun p hp => (h2 p hp).1)]
  exact h1.cnt hK z
theorem LiveL.at_ {f : Mp} {z : Int} {L : List Lv} (h : LiveL f z L) {x : Lv} (hx : x ∈ L) : ∃ s, f x.b = some ⟨s, x.t, x.z, x.a, x.e⟩ ∧ x.z = z ∧ WfI x.b := by
  obtain ⟨⟨ps, h1, h2, h3⟩, _⟩ := h
  have h4 := h3.mem_iff.1 hx
  unfold inZ at h4
  obtain ⟨p, hp, rfl⟩ := List.mem_map.1 h4
  rw [List.mem_filter] at hp
  exact ⟨p.2.s, (h2 p hp.1).1, (by show p.2.z = z; simpa using hp.2), (h2 p hp.1).2⟩
def LivePost (w : World) (f : Mp) (z : Int) (e : Ending) (w' : World) : Prop := ∃ (L : List Lv) (A : Option Addr) (cap : Nat), LiveL f z L ∧ e = .returned (.slice A L.length cap) ∧ L.length ≤ 1000000 ∧ lvE.Row w' w.heap.size 71 A cap L ∧ Below w.heap.size w w'
theorem row_farL {W W' : World} {base cap r : Nat} {A : Option Addr} {xs : List Lv} (h : lvE.Row W base 71 A cap xs) (hg : W.grownBy W' (some r)) (hr : ∀ g, A = some ⟨g, 0, none⟩ → g ≠ r) : lvE.Row W' base 71 A cap xs := h.far hg (fun g e e2 => by injection e2 with e2; exact hr g e e2.symm)
set_option maxRecDepth 100000 in
set_option maxHeartbeats 2000000 in
theorem live_any (hS : SortsL) (w : World) (g mb n : Nat) (m : Lm) (z : Int) (h : LmAt w g mb n m) (hn : n ≤ 1000000) : Calls Try.prog 31 #[.pointer (some ⟨g, 0, none⟩), .int .i64 z] w (LivePost w m.f z) := by
  have hSH := Lib.hid hS
  have c0 := h.c0
  have hmp := h.mp
  have hgl := Lib.hid h.lt
  clear h hS
  go_enter Try.func31, Try.ntmps31
  go_wp2_with (first
    | (at_range; refine wpList_rangeE rfl _ rfl hmp rfl ?_; intro w0 cnt0 hrg0 hg0 hs0)
    | go_in)
  have hb0 : Below w.heap.size w w0 := ⟨hg0.os, hg0.tape, hg0.output, hg0.size, fun k hk => hg0.block k hk (by simp)⟩
  have hst : Hid (RgE w0 mb w.heap.size n m.f [] cnt0 ∧ Below w.heap.size w w0) := Lib.hid ⟨hrg0, hb0⟩
  clear hrg0 hg0 hs0 hb0 hmp c0
  go_frame
  go_loopw [5] (fun sl wr => ∃ (ps : List (Int × En)) (cnt : Nat) (A : Option Addr) (nl cap : Nat), sl = .slice A nl cap ∧ Hid (nl = (inZ ps z).length) ∧ Hid (RgE wr mb w.heap.size n m.f ps cnt ∧ lvE.Row wr (w.heap.size + 1) 71 A cap (inZ ps z) ∧ Below w.heap.size w wr)) (fun _ wr => wr.rangeLeft mb w.heap.size)
  case atStart => exact ⟨[], cnt0, none, 0, 0, rfl, Lib.hid rfl, Lib.hid ⟨hst.out.1, Enc.Row.nil _ _ _, hst.out.2⟩⟩
  case round =>
    clear hst
    obtain ⟨ps, cnt, A, nl, cap, rfl, hnl, hP⟩ := hrel
    have hrg := hP.out.1
    have hleft := Lib.hid hrg.left
    go_wp2_with (first
      | (at_next; refine wpList_nextE rfl _ rfl rfl hrg ?_ ?_)
      | go_in)
    · intro hK
      have hlen : Hid ((inZ ps z).length ≤ 1000000) := Lib.hid (by rw [inZ_len]; have := cntP_le ps z; have := hP.out.1.len; omega)
      have hs := hSH.out wr (w.heap.size + 1) A cap (inZ ps z) hP.out.2.1 (by have := hP.out.1.lt.2.1; omega) hlen.out
      rw [← hnl.out] at hs
      have hsH := Lib.hid hs
      have hV : Hid (KeysOf m.f (ps.map (·.1)) ∧ ∀ p ∈ ps, m.f p.1 = some p.2 ∧ WfI p.1) := Lib.hid (by
        obtain ⟨D, left, _, _, _, hV, _⟩ := hP.out.1
        exact ⟨hK, hV⟩)
      clear hK hrg hs
      go_wp2_with fail
      (with_reducible refine hsH.out.mono ?_)
      rintro e w5 ⟨d, rfl, hp, hd, hr, hb⟩
      have hG : LivePost w m.f z (.returned (.slice A nl cap)) w5 := ⟨d, A, cap, ⟨⟨ps, hV.out.1, hV.out.2, hp⟩, hd⟩, by rw [hp.length_eq, ← hnl.out], by rw [hp.length_eq]; exact hlen.out, hr.mono (Nat.le_succ _), hP.out.2.2.trans (hb.mono (Nat.le_succ _))⟩
      have hGH := Lib.hid hG
      clear hsH hp hd hr hb hG
      go_wp2_with fail
      go_ret
      exact hGH.out
    · intro x c w1 cnt1 hfx hwx hrg1 hlt hg1 hs1 hen
      obtain ⟨cs, ct, cz, ca, ce⟩ := c
      unfold enV at hen ⊢
      dsimp only at hen ⊢
      have hrow1 : lvE.Row w1 (w.heap.size + 1) 71 A cap (inZ ps z) := row_farL hP.out.2.1 hg1 (fun g e => by
        rcases hP.out.2.1.form with ⟨e1, _⟩ | ⟨g', e1, hb, _⟩
        · rw [e1] at e; cases e
        · rw [e1] at e; injection e with e; injection e with e _ _; omega)
      have hb1 : Below w.heap.size w w1 := hP.out.2.2.grown hg1 hP.out.2.2.size (fun k e => by injection e with e; omega)
      have hX : Hid (RgE (w1.alloc (.cells #[.int .i64 cs, .bool ct, .int .i64 cz, .int .i64 ca, .int .i64 ce] 117)) mb w.heap.size n m.f (ps ++ [(x, ⟨cs, ct, cz, ca, ce⟩)]) cnt1 ∧ lvE.Row (w1.alloc (.cells #[.int .i64 cs, .bool ct, .int .i64 cz, .int .i64 ca, .int .i64 ce] 117)) (w.heap.size + 1) 71 A cap (inZ ps z) ∧ Below w.heap.size w (w1.alloc (.cells #[.int .i64 cs, .bool ct, .int .i64 cz, .int .i64 ca, .int .i64 ce] 117)) ∧
          ((w1.alloc (.cells #[.int .i64 cs, .bool ct, .int .i64 cz, .int .i64 ca, .int .i64 ce] 117)).cell? ⟨w1.heap.size, 1, none⟩ = some (.bool ct) ∧ (w1.alloc (.cells #[.int .i64 cs, .bool ct, .int .i64 cz, .int .i64 ca, .int .i64 ce] 117)).cell? ⟨w1.heap.size, 2, none⟩ = some (.int .i64 cz) ∧ (w1.alloc (.cells #[.int .i64 cs, .bool ct, .int .i64 cz, .int .i64 ca, .int .i64 ce] 117)).cell? ⟨w1.heap.size, 3, none⟩ = some (.int .i64 ca) ∧ (w1.alloc (.cells #[.int .i64 cs, .bool ct, .int .i64 cz, .int .i64 ca, .int .i64 ce] 117)).cell? ⟨w1.heap.size, 4, none⟩ = some (.int .i64 ce))) :=
        Lib.hid ⟨hrg1.alloc _, hrow1.alloc _, hb1.alloc hb1.size _, by go_simp, by go_simp, by go_simp, by go_simp⟩
      have hltH := Lib.hid hlt
      clear hrg1 hrow1 hb1 hfx hwx hlt hg1 hs1 hrg hP
      go_upto_region 7 with fail
      clear hen
      generalize w1.heap.size = xb at hX ⊢
      refine fresh_world (fun W => RgE W mb w.heap.size n m.f (ps ++ [(x, ⟨cs, ct, cz, ca, ce⟩)]) cnt1 ∧ lvE.Row W (w.heap.size + 1) 71 A cap (inZ ps z) ∧ Below w.heap.size w W ∧ (W.cell? ⟨xb, 1, none⟩ = some (.bool ct) ∧ W.cell? ⟨xb, 2, none⟩ = some (.int .i64 cz) ∧ W.cell? ⟨xb, 3, none⟩ = some (.int .i64 ca) ∧ W.cell? ⟨xb, 4, none⟩ = some (.int .i64 ce))) hX.out ?_
      clear hX
      rintro W5 ⟨hr5, hc5, hb5, x1, x2, x3, x4⟩
      have hxl := lt_of_cell x1
      by_cases hin : cz = z
      case neg =>
        have hzb : (cz == z) = false := by simp [hin]
        have hno : inZ (ps ++ [(x, ⟨cs, ct, cz, ca, ce⟩)]) z = inZ ps z := inZ_no hin
        have hl5 := Lib.hid hr5.left
        have hfin := Lib.hid (And.intro hr5 (And.intro (by rw [hno]; exact hc5 : lvE.Row W5 (w.heap.size + 1) 71 A cap (inZ (ps ++ [(x, ⟨cs, ct, cz, ca, ce⟩)]) z)) hb5))
        have hnl2 : Hid (nl = (inZ (ps ++ [(x, ⟨cs, ct, cz, ca, ce⟩)]) z).length) := Lib.hid (by rw [hno]; exact hnl.out)
        clear hr5 hc5 hb5 hno hin
        go_wp2_with fail
        go_roundw
        case rel => exact ⟨_, cnt1, A, nl, cap, rfl, hnl2, hfin⟩
        case measure => rw [hl5.out, hleft.out]; exact hltH.out
      case pos =>
        subst hin
        have hzb : (cz == cz) = true := by simp
        have hal := (Below.refl W5.heap.size W5).alloc (Nat.le_refl _) (.cells #[.int .i64 x, .bool ct, .int .i64 cz, .int .i64 ca, .int .i64 ce] 71)
        obtain ⟨A', cap', W7, hrun, hrow, hgr, hor⟩ := (hc5.below hal).append (P := Try.prog) Try.underlying66 infLv (by decide) (by decide) (m := W5.heap.size) (x := ⟨x, ct, cz, ca, ce⟩) (fun j hj => by
          rw [World.cell?_alloc_new]
          have h5 : j < 5 := hj
          rcases (by omega : j = 0 ∨ j = 1 ∨ j = 2 ∨ j = 3 ∨ j = 4) with rfl | rfl | rfl | rfl | rfl <;> rfl) (by rw [inZ_len]; have := cntP_le ps cz; have := hr5.len; rw [List.length_append] at this; omega) (by have := hr5.lt.2.1; have := hal.size; omega) 66
        rw [← hnl.out] at hrun
        have hyes : inZ (ps ++ [(x, ⟨cs, ct, cz, ca, ce⟩)]) cz = inZ ps cz ++ [⟨x, ct, cz, ca, ce⟩] := inZ_yes rfl
        have hgb : ∀ k, (Value.slice A (inZ ps cz).length cap).ownBlock = some k → w.heap.size + 1 ≤ k := fun k e => by
          rcases hc5.form with ⟨e1, _⟩ | ⟨g', e1, hb, _⟩
          · rw [e1] at e; simp [Value.ownBlock] at e
          · rw [e1] at e; simp only [Value.ownBlock, Option.some.injEq] at e; omega
        have hr7 : RgE W7 mb w.heap.size n m.f (ps ++ [(x, ⟨cs, ct, cz, ca, ce⟩)]) cnt1 := (hr5.alloc _).kept hgr (fun e => by have := hgb _ e.symm; have := hgl.out; omega) (fun e => by have := hgb _ e.symm; omega)
        have hb7 : Below w.heap.size w W7 := (hb5.alloc hb5.size (.cells #[.int .i64 x, .bool ct, .int .i64 cz, .int .i64 ca, .int .i64 ce] 71)).grown hgr (by have := hb5.size; have := hal.size; omega) (fun k e => by have := hgb k e; omega)
        have hl7 := Lib.hid hr7.left
        have hfin := Lib.hid (And.intro hr7 (And.intro (by rw [hyes]; exact hrow : lvE.Row W7 (w.heap.size + 1) 71 A' cap' (inZ (ps ++ [(x, ⟨cs, ct, cz, ca, ce⟩)]) cz)) hb7))
        have hnl2 : Hid (nl + 1 = (inZ (ps ++ [(x, ⟨cs, ct, cz, ca, ce⟩)]) cz).length) := Lib.hid (by rw [hyes, List.length_append, hnl.out]; rfl)
        have hrunH := Lib.hid hrun
        clear hr5 hc5 hb5 hal hrun hrow hgr hor hyes hgb hr7 hb7
        go_wp2_with (at_builtin; refine append_run_wp rfl _ _ _ rfl rfl rfl hrunH.out ?_; clear hrunH)
        first
          | (go_roundw
             case rel => exact ⟨_, cnt1, A', nl + 1, cap', rfl, hnl2, hfin⟩
             case measure => rw [hl7.out, hleft.out]; exact hltH.out)
          | exact ⟨⟨_, cnt1, A', nl + 1, cap', rfl, hnl2, hfin⟩, by rw [hl7.out, hleft.out]; exact hltH.out⟩
end Go.Proofs.Ytbgkmppngnedlaa
