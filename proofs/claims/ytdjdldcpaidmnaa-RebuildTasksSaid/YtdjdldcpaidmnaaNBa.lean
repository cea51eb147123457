/- Where an int stands in a slice. -/
import Derived.Test.YtdjdldcpaidmnaaNBn
import Derived.Test.YtdjdldcpaidmnaaMBase
import Derived.IntWalk
import Derived.LoopTactic
namespace Go.Proofs.Ytdjdldcpaidmnaa
open Go.RowKit Rec Bk
theorem struct_three {P : Program} {t : TypeId} {k0 k1 k2 : TypeId × Nat × Bool} (h : (P.fieldsOf t).toList.map fKey = [k0, k1, k2]) : ∃ f0 f1 f2, (P.fieldsOf t).toList = [f0, f1, f2] ∧ fKey f0 = k0 ∧ fKey f1 = k1 ∧ fKey f2 = k2 := by
  generalize (P.fieldsOf t).toList = l at h
  match l, h with
  | [a, b, c], h => simp at h; exact ⟨a, b, c, rfl, h.1, h.2.1, h.2.2⟩
def eqZ (z z' : Zo) : Bool := z.p == z'.p && (z.g == z'.g && z.s == z'.s)
theorem eqZ_iff {z z' : Zo} : eqZ z z' = true ↔ z = z' := by
  unfold eqZ
  obtain ⟨a, b, c⟩ := z
  obtain ⟨a', b', c'⟩ := z'
  simp
theorem zo_eql (w : World) (z z' : Zo) : (binOp .eql 69 (.agg #[.int .i64 z.p, .int .i64 z.g, .int .i64 z.s]) (.agg #[.int .i64 z'.p, .int .i64 z'.g, .int .i64 z'.s])).run Try.prog w = .ok (.bool (eqZ z z')) w ∧ (binOp .neq 69 (.agg #[.int .i64 z.p, .int .i64 z.g, .int .i64 z.s]) (.agg #[.int .i64 z'.p, .int .i64 z'.g, .int .i64 z'.s])).run Try.prog w = .ok (.bool (!eqZ z z')) w := by
  obtain ⟨f0, f1, f2, hl, h0, h1, h2⟩ := struct_three (P := Try.prog) (t := 69) (k0 := (3, 0, true)) (k1 := (3, 1, true)) (k2 := (3, 2, true)) (by kernel_rfl)
  refine eql_of (by kernel_rfl) (by kernel_rfl) ?_
  rw [hl,
    eqF_cons h0 (a := .int .i64 z.p) (b := .int .i64 z'.p) (by kernel_rfl) (by kernel_rfl) (run_equalIn_int _ 9998 _ _ .i64 _ _ Try.underlying3),
    eqF_cons h1 (a := .int .i64 z.g) (b := .int .i64 z'.g) (by kernel_rfl) (by kernel_rfl) (run_equalIn_int _ 9998 _ _ .i64 _ _ Try.underlying3),
    eqF_cons h2 (a := .int .i64 z.s) (b := .int .i64 z'.s) (by kernel_rfl) (by kernel_rfl) (run_equalIn_int _ 9998 _ _ .i64 _ _ Try.underlying3), eqF_nil]
  unfold eqZ
  cases h10 : (z.p == z'.p) <;> cases h11 : (z.g == z'.g) <;> (first | rfl | (cases h12 : (z.s == z'.s) <;> rfl))
def zo0 : Zo := ⟨0, 0, 0⟩
theorem flat_noughts : ∀ n : Nat, zoE.flat (List.replicate n zo0) = List.replicate (n * 3) (.int .i64 0)
  | 0 => rfl
  | n + 1 => by
    show zoE.c zo0 ++ zoE.flat (List.replicate n zo0) = _
    rw [flat_noughts n, Nat.add_mul, Nat.one_mul]
    rfl
theorem made_bzones (W : World) (n : Nat) (hn : n ≤ 1000) : zoE.Row (W.alloc (.cells (madeCells #[.int .i64 0, .int .i64 0, .int .i64 0] (n * 3)) 69)) W.heap.size 69 (some ⟨W.heap.size, 0, none⟩) n (List.replicate n zo0) := by
  have h := World.ownsRow_lit (base := W.heap.size) (size := 3) (e := 69) W (madeCells #[.int .i64 0, .int .i64 0, .int .i64 0] (n * 3)) n (Nat.le_refl _) (by unfold maxLen; omega) (size_madeCells _ _)
  have e : (madeCells #[.int .i64 0, .int .i64 0, .int .i64 0] (n * 3)).toList = List.replicate (n * 3) (.int .i64 0) := by
    apply List.ext_getElem
    · simp [madeCells]
    · intro j h1 h2
      rw [List.getElem_replicate]
      simp only [madeCells, Array.toList_map, Array.toList_range, List.getElem_map, List.getElem_range]
      have : j % 3 < 3 := Nat.mod_lt _ (by omega)
      show (#[.int .i64 0, .int .i64 0, .int .i64 0] : Array Value)[j % 3]! = .int .i64 0
      rcases (by omega : j % 3 = 0 ∨ j % 3 = 1 ∨ j % 3 = 2) with e | e | e <;> rw [e] <;> rfl
  rw [e, ← flat_noughts] at h
  unfold Enc.Row
  rw [List.length_replicate]
  exact h
/-- The table behind the first k zones. -/
structure Tbl (zs : List Zo) (k n : Nat) (st : List Zo) : Prop where
  len : st.length = n
  no : ∀ i (h : i < st.length), hasZ (zs.take k) (i : Int) = false → st[i] = zo0
  yes : ∀ i (h : i < st.length), hasZ (zs.take k) (i : Int) = true → st[i].p = (i : Int)
theorem hasZ_takeB {zs : List Zo} {k : Nat} (h : k < zs.length) (ph : Int) : hasZ (zs.take (k + 1)) ph = (hasZ (zs.take k) ph || (zs[k].p == ph)) := by
  unfold hasZ; rw [List.take_succ_eq_append_getElem h, List.any_append]; simp
theorem Tbl.step {zs : List Zo} {k n p : Nat} {st : List Zo} (h : Tbl zs k n st) (hk : k < zs.length) (hp : zs[k].p = (p : Int)) : Tbl zs (k + 1) n (st.set p zs[k]) := by
  refine ⟨by rw [List.length_set]; exact h.len, fun i hi hno => ?_, fun i hi hy => ?_⟩
  · rw [hasZ_takeB hk, Bool.or_eq_false_iff] at hno
    have hne : p ≠ i := fun e => by
      have := hno.2
      rw [hp, e] at this
      simp at this
    rw [List.getElem_set_ne hne]
    exact h.no i _ hno.1
  · by_cases e : p = i
    · subst e
      rw [List.getElem_set_self]
      exact hp
    · rw [List.getElem_set_ne e]
      rw [hasZ_takeB hk, Bool.or_eq_true] at hy
      rcases hy with hy | hy
      · exact h.yes i _ hy
      · rw [hp] at hy
        exact absurd (Int.ofNat_inj.1 (by simpa using hy)) e
theorem nodup_take {zs : List Zo} {k : Nat} (hk : k < zs.length) (h : ((zs.take k).map Zo.p).Nodup) : ((zs.take (k + 1)).map Zo.p).Nodup ↔ hasZ (zs.take k) zs[k].p = false := by
  rw [List.take_succ_eq_append_getElem hk, List.map_append, List.nodup_append, hasZ_not]
  constructor
  · intro ⟨_, _, h3⟩ z hz
    exact h3 _ (List.mem_map.2 ⟨z, hz, rfl⟩) _ (by simp)
  · intro h1
    refine ⟨h, by simp, fun a ha b hb => ?_⟩
    obtain ⟨z, hz, rfl⟩ := List.mem_map.1 ha
    have : b = zs[k].p := by simpa using hb
    rw [this]
    exact h1 z hz
theorem nodup_of_take {l : List Int} {k : Nat} (h : l.Nodup) : (l.take k).Nodup := h.sublist (List.take_sublist _ _)
/-- The world within apart. -/
structure ApaW (w W : World) (Z : Int) (g : Nat) (cap : Nat) (st : List Zo) : Prop where
  z : W.cell? ⟨w.heap.size, 1, none⟩ = some (.int .i64 Z)
  r : zoE.Row W (w.heap.size + 1) 69 (some ⟨g, 0, none⟩) cap st
  bw : Below w.heap.size w W
theorem ApaW.below {w W W' : World} {Z : Int} {g cap : Nat} {st : List Zo} (h : ApaW w W Z g cap st) (hb : Below W.heap.size W W') : ApaW w W' Z g cap st :=
  ⟨(hb.cell (p := ⟨_, 1, none⟩) (lt_of_cell h.z)).trans h.z, h.r.below hb, h.bw.trans (hb.mono h.bw.size)⟩
theorem ApaW.store {w W : World} {Z : Int} {g cap : Nat} {st : List Zo} (h : ApaW w W Z g cap st) {i : Nat} (hi : i < st.length) (z : Zo) :
    ApaW w (((W.setCell ⟨g, i * 3, none⟩ (.int .i64 z.p)).setCell ⟨g, i * 3 + 1, none⟩ (.int .i64 z.g)).setCell ⟨g, i * 3 + 2, none⟩ (.int .i64 z.s)) Z g cap (st.set i z) := by
  have hg : w.heap.size + 1 ≤ g := by
    rcases h.r.form with ⟨e, _⟩ | ⟨g', e, hb, _⟩
    · cases e
    · injection e with e; injection e with e; omega
  refine ⟨?_, h.r.store hi z, ((h.bw.setCell (by show w.heap.size ≤ g; omega) _).setCell (by show w.heap.size ≤ g; omega) _).setCell (by show w.heap.size ≤ g; omega) _⟩
  rw [World.cell?_setCell_other _ _ _ _ (by intro e; injection e with e; omega), World.cell?_setCell_other _ _ _ _ (by intro e; injection e with e; omega), World.cell?_setCell_other _ _ _ _ (by intro e; injection e with e; omega)]
  exact h.z
theorem infZo3 : (Try.prog.info? 69).map (fun i => (i.zero, i.size, i.bytes)) = some (some (.agg #[.int .i64 0, .int .i64 0, .int .i64 0]), 3, 24) := by kernel_rfl
theorem idx_take {l : List Int} {k : Nat} (hk : k < l.length) (x : Int) : (l.take (k + 1)).any (· == x) = ((l.take k).any (· == x) || (l[k] == x)) := by
  rw [List.take_succ_eq_append_getElem hk, List.any_append]; simp
/-- The place of the first x in l. -/
def IxPost (w : World) (l : List Int) (x : Int) (e : Ending) (w' : World) : Prop := ∃ i : Int, e = .returned (.int .i64 i) ∧ ((i = -1 ∧ ∀ y ∈ l, y ≠ x) ∨ ∃ (k : Nat) (h : k < l.length), i = (k : Int) ∧ l[k] = x ∧ ∀ j (hj : j < l.length), j < k → l[j] ≠ x) ∧ w = w'
set_option maxRecDepth 100000 in
set_option maxHeartbeats 1000000 in
theorem index_any (w : World) (A1 : Option Addr) (c1 : Nat) (l : List Int) (x : Int) (hI : IntsIn w A1 l) (hl : l.length ≤ 64) :
    Calls Try.prog 72 #[.slice A1 l.length c1, .int .i64 x] w (IxPost w l x) := by
  have hIH := Lib.hid hI
  clear hI
  go_enter Try.func72, Try.ntmps72
  go_wp2_with fail
  go_loopw [8] (fun i wr => ∃ k : Nat, k ≤ l.length ∧ i = .int .i64 (k : Int) ∧ (∀ j (hj : j < l.length), j < k → l[j] ≠ x) ∧ w = wr) (fun i _ => l.length - (intOf i).toNat)
  case atStart => exact ⟨0, Nat.zero_le _, rfl, fun j _ h => absurd h (Nat.not_lt_zero _), rfl⟩
  case round =>
    obtain ⟨k, hk, rfl, hno, rfl⟩ := hrel
    have hnoH := Lib.hid hno
    clear hno
    by_cases hlt : k < l.length
    case pos =>
      obtain ⟨b, off, rfl, -, hc⟩ := hIH.out.at_ hlt
      have hkw : IntKind.i64.wrap ((k : Int) + 1) = (k : Int) + 1 := IntWalk.i64_in _ (by omega)
      by_cases he : l[k] = x
      case pos =>
        have heq : (x == l[k]) = true := by simp [he]
        have heH := Lib.hid he
        clear he
        generalize hy : l[k] = y at hc heq heH
        have hyH := Lib.hid hy
        clear hy
        go_wp2_with fail
        go_ret
        exact ⟨k, rfl, .inr ⟨k, hlt, rfl, by rw [hyH.out]; exact heH.out, hnoH.out⟩, rfl⟩
      case neg =>
        have heq : (x == l[k]) = false := by simp [Ne.symm he]
        have heH := Lib.hid he
        clear he
        generalize hy : l[k] = y at hc heq heH
        have hyH := Lib.hid hy
        clear hy
        go_wp2_with fail
        go_roundw
        case rel => exact ⟨k + 1, by omega, by go_num, fun j hj h => by
                      by_cases e : j = k
                      · subst e; rw [hyH.out]; exact heH.out
                      · exact hnoH.out j hj (by omega), trivial⟩
        case measure => simp only [intOf]; omega
    case neg =>
      have hke : k = l.length := by omega
      go_wp2_with fail
      go_ret
      refine ⟨-1, rfl, .inl ⟨rfl, fun y hy e => ?_⟩, rfl⟩
      obtain ⟨i, hi, rfl⟩ := List.getElem_of_mem hy
      exact hnoH.out i hi (by omega) e
end Go.Proofs.Ytdjdldcpaidmnaa
