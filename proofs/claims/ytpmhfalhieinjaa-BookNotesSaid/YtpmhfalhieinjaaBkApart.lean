/- Each zone in a place of its own; each slot with a drive of its own. -/
import Derived.Test.YtpmhfalhieinjaaBkNewM
import Derived.Test.YtpmhfalhieinjaaMake
import Derived.Test.YtpmhfalhieinjaaStructEq
import Derived.IntWalk
import Derived.LoopTactic
namespace Go.Proofs.Ytpmhfalhieinjaa
open Go.RowKit Rec Bk

theorem struct_three {P : Program} {t : TypeId} {k0 k1 k2 : TypeId × Nat × Bool} (h : (P.fieldsOf t).toList.map fKey = [k0, k1, k2]) : ∃ f0 f1 f2, (P.fieldsOf t).toList = [f0, f1, f2] ∧ fKey f0 = k0 ∧ fKey f1 = k1 ∧ fKey f2 = k2 := by
  generalize (P.fieldsOf t).toList = l at h
  match l, h with
  | [a, b, c], h => simp at h; exact ⟨a, b, c, rfl, h.1, h.2.1, h.2.2⟩
def eqZ (z z' : Zo) : Bool := z.p == z'.p && (z.g == z'.g && z.s == z'.s)
theorem eqZ_iff {z z' : Zo} : eqZ z z' = true ↔ z = z' := by
  unfold eqZ
  obtain ⟨a, b, c⟩ := z
  obtain ⟨a', b', c'⟩ := z'
  simp
theorem zo_eql (w : World) (z z' : Zo) : (binOp .eql 60 (.agg #[.int .i64 z.p, .int .i64 z.g, .int .i64 z.s]) (.agg #[.int .i64 z'.p, .int .i64 z'.g, .int .i64 z'.s])).run Try.prog w = .ok (.bool (eqZ z z')) w ∧ (binOp .neq 60 (.agg #[.int .i64 z.p, .int .i64 z.g, .int .i64 z.s]) (.agg #[.int .i64 z'.p, .int .i64 z'.g, .int .i64 z'.s])).run Try.prog w = .ok (.bool (!eqZ z z')) w := by
  obtain ⟨f0, f1, f2, hl, h0, h1, h2⟩ := struct_three (P := Try.prog) (t := 60) (k0 := (3, 0, true)) (k1 := (3, 1, true)) (k2 := (3, 2, true)) (by kernel_rfl)
  refine eql_of (by kernel_rfl) (by kernel_rfl) ?_
  rw [hl,
    eqF_cons h0 (a := .int .i64 z.p) (b := .int .i64 z'.p) (by kernel_rfl) (by kernel_rfl) (run_equalIn_int _ 9998 _ _ .i64 _ _ Try.underlying3),
    eqF_cons h1 (a := .int .i64 z.g) (b := .int .i64 z'.g) (by kernel_rfl) (by kernel_rfl) (run_equalIn_int _ 9998 _ _ .i64 _ _ Try.underlying3),
    eqF_cons h2 (a := .int .i64 z.s) (b := .int .i64 z'.s) (by kernel_rfl) (by kernel_rfl) (run_equalIn_int _ 9998 _ _ .i64 _ _ Try.underlying3), eqF_nil]
  unfold eqZ
  cases h10 : (z.p == z'.p) <;> cases h11 : (z.g == z'.g) <;> (first | rfl | (cases h12 : (z.s == z'.s) <;> rfl))
def zo0 : Zo := ⟨0, 0, 0⟩
theorem flat_noughts : ∀ n : Nat, zoE.flat (List.replicate n zo0) = List.replicate (n * 3) (.int .i64 0)
  | 0 => rfl
  | n + 1 => by
    show zoE.c zo0 ++ zoE.flat (List.replicate n zo0) = _
    rw [flat_noughts n, Nat.add_mul, Nat.one_mul]
    rfl
theorem made_zones (W : World) (n : Nat) (hn : n ≤ 1000) : zoE.Row (W.alloc (.cells (madeCells #[.int .i64 0, .int .i64 0, .int .i64 0] (n * 3)) 60)) W.heap.size 60 (some ⟨W.heap.size, 0, none⟩) n (List.replicate n zo0) := by
  have h := World.ownsRow_lit (base := W.heap.size) (size := 3) (e := 60) W (madeCells #[.int .i64 0, .int .i64 0, .int .i64 0] (n * 3)) n (Nat.le_refl _) (by unfold maxLen; omega) (size_madeCells _ _)
  have e : (madeCells #[.int .i64 0, .int .i64 0, .int .i64 0] (n * 3)).toList = List.replicate (n * 3) (.int .i64 0) := by
    apply List.ext_getElem
    · simp [madeCells]
    · intro j h1 h2
      rw [List.getElem_replicate]
      simp only [madeCells, Array.toList_map, Array.toList_range, List.getElem_map, List.getElem_range]
      have : j % 3 < 3 := Nat.mod_lt _ (by omega)
      show (#[.int .i64 0, .int .i64 0, .int .i64 0] : Array Value)[j % 3]! = .int .i64 0
      rcases (by omega : j % 3 = 0 ∨ j % 3 = 1 ∨ j % 3 = 2) with e | e | e <;> rw [e] <;> rfl
  rw [e, ← flat_noughts] at h
  unfold Enc.Row
  rw [List.length_replicate]
  exact h
/-- The table behind the first k zones. -/
structure Tbl (zs : List Zo) (k n : Nat) (st : List Zo) : Prop where
  len : st.length = n
  no : ∀ i (h : i < st.length), hasZ (zs.take k) (i : Int) = false → st[i] = zo0
  yes : ∀ i (h : i < st.length), hasZ (zs.take k) (i : Int) = true → st[i].p = (i : Int)
theorem hasZ_takeB {zs : List Zo} {k : Nat} (h : k < zs.length) (ph : Int) : hasZ (zs.take (k + 1)) ph = (hasZ (zs.take k) ph || (zs[k].p == ph)) := by
  unfold hasZ; rw [List.take_succ_eq_append_getElem h, List.any_append]; simp
theorem Tbl.step {zs : List Zo} {k n p : Nat} {st : List Zo} (h : Tbl zs k n st) (hk : k < zs.length) (hp : zs[k].p = (p : Int)) : Tbl zs (k + 1) n (st.set p zs[k]) := by
  refine ⟨by rw [List.length_set]; exact h.len, fun i hi hno => ?_, fun i hi hy => ?_⟩
  · rw [hasZ_takeB hk, Bool.or_eq_false_iff] at hno
    have hne : p ≠ i := fun e => by
      have := hno.2
      rw [hp, e] at this
      simp at this
    rw [List.getElem_set_ne hne]
    exact h.no i _ hno.1
  · by_cases e : p = i
    · subst e
      rw [List.getElem_set_self]
      exact hp
    · rw [List.getElem_set_ne e]
      rw [hasZ_takeB hk, Bool.or_eq_true] at hy
      rcases hy with hy | hy
      · exact h.yes i _ hy
      · rw [hp] at hy
        exact absurd (Int.ofNat_inj.1 (by simpa using hy)) e
theorem nodup_take {zs : List Zo} {k : Nat} (hk : k < zs.length) (h : ((zs.take k).map Zo.p).Nodup) : ((zs.take (k + 1)).map Zo.p).Nodup ↔ hasZ (zs.take k) zs[k].p = false := by
  rw [List.take_succ_eq_append_getElem hk, List.map_append, List.nodup_append, hasZ_not]
  constructor
  · intro ⟨_, _, h3⟩ z hz
    exact h3 _ (List.mem_map.2 ⟨z, hz, rfl⟩) _ (by simp)
  · intro h1
    refine ⟨h, by simp, fun a ha b hb => ?_⟩
    obtain ⟨z, hz, rfl⟩ := List.mem_map.1 ha
    have : b = zs[k].p := by simpa using hb
    rw [this]
    exact h1 z hz
theorem nodup_of_take {l : List Int} {k : Nat} (h : l.Nodup) : (l.take k).Nodup := h.sublist (List.take_sublist _ _)
/-- The world within apart. -/
structure ApaW (w W : World) (Z : Int) (g : Nat) (cap : Nat) (st : List Zo) : Prop where
  z : W.cell? ⟨w.heap.size, 1, none⟩ = some (.int .i64 Z)
  r : zoE.Row W (w.heap.size + 1) 60 (some ⟨g, 0, none⟩) cap st
  bw : Below w.heap.size w W
theorem ApaW.below {w W W' : World} {Z : Int} {g cap : Nat} {st : List Zo} (h : ApaW w W Z g cap st) (hb : Below W.heap.size W W') : ApaW w W' Z g cap st :=
  ⟨(hb.cell (p := ⟨_, 1, none⟩) (lt_of_cell h.z)).trans h.z, h.r.below hb, h.bw.trans (hb.mono h.bw.size)⟩
theorem ApaW.store {w W : World} {Z : Int} {g cap : Nat} {st : List Zo} (h : ApaW w W Z g cap st) {i : Nat} (hi : i < st.length) (z : Zo) :
    ApaW w (((W.setCell ⟨g, i * 3, none⟩ (.int .i64 z.p)).setCell ⟨g, i * 3 + 1, none⟩ (.int .i64 z.g)).setCell ⟨g, i * 3 + 2, none⟩ (.int .i64 z.s)) Z g cap (st.set i z) := by
  have hg : w.heap.size + 1 ≤ g := by
    rcases h.r.form with ⟨e, _⟩ | ⟨g', e, hb, _⟩
    · cases e
    · injection e with e; injection e with e; omega
  refine ⟨?_, h.r.store hi z, ((h.bw.setCell (by show w.heap.size ≤ g; omega) _).setCell (by show w.heap.size ≤ g; omega) _).setCell (by show w.heap.size ≤ g; omega) _⟩
  rw [World.cell?_setCell_other _ _ _ _ (by intro e; injection e with e; omega), World.cell?_setCell_other _ _ _ _ (by intro e; injection e with e; omega), World.cell?_setCell_other _ _ _ _ (by intro e; injection e with e; omega)]
  exact h.z
theorem infZo3 : (Try.prog.info? 60).map (fun i => (i.zero, i.size, i.bytes)) = some (some (.agg #[.int .i64 0, .int .i64 0, .int .i64 0]), 3, 24) := by kernel_rfl
set_option maxRecDepth 100000 in
set_option maxHeartbeats 2000000 in
theorem apart_any (w : World) (D B O A : Int) (n : Nat) (A1 : Option Addr) (c1 : Nat) (zs : List Zo) (hI : zoE.In w A1 zs) (hl : zs.length ≤ 64) (hn : n ≤ 64) (hz : ∀ z ∈ zs, 2 ≤ z.p ∧ z.p < n) :
    Calls Try.prog 24 #[.agg #[.int .i64 D, .int .i64 (n : Int), .int .i64 B, .int .i64 O, .int .i64 A], .slice A1 zs.length c1] w fun e w' => e = .returned (.bool (decide (zs.map Zo.p).Nodup)) ∧ Below w.heap.size w w' := by
  obtain ⟨i0, hi, hz0, hz1, hz2⟩ := info_parts infZo3
  have hmk := fun W => run_make_m (P := Try.prog) 30 60 i0 (.agg #[.int .i64 0, .int .i64 0, .int .i64 0]) Try.underlying30 hi hz0 .i64 .i64 n n (Nat.le_refl _) (by rw [hz2]; omega) (by omega) W
  rw [hz1] at hmk
  have hIH := Lib.hid (fun W (hb : Below w.heap.size w W) => hI.below hb)
  have hzH := Lib.hid hz
  have heq := Lib.hid (fun W z => (zo_eql W z zo0).2)
  obtain ⟨t, ht⟩ : ∃ t, t = decide (zs.map Zo.p).Nodup := ⟨_, rfl⟩
  rw [← ht]
  have htH := Lib.hid ht
  clear hI hz hi hz0 hz1 hz2 ht
  go_enter Try.func24, Try.ntmps24
  go_upto_region 2 with fail
  clear hmk
  refine fresh_world (fun W => ApaW w W (n : Int) (w.heap.size + 1) n (List.replicate n zo0)) ?_ ?_
  · have h1 : (w.alloc (.cells #[.int .i64 D, .int .i64 (n : Int), .int .i64 B, .int .i64 O, .int .i64 A] 37)).cell? ⟨w.heap.size, 1, none⟩ = some (.int .i64 (n : Int)) := by go_simp
    have h2 := made_zones (w.alloc (.cells #[.int .i64 D, .int .i64 (n : Int), .int .i64 B, .int .i64 O, .int .i64 A] 37)) n (by omega)
    rw [World.size_alloc] at h2
    have hb := (Below.refl w.heap.size w).alloc (Nat.le_refl _) (.cells #[.int .i64 D, .int .i64 (n : Int), .int .i64 B, .int .i64 O, .int .i64 A] 37)
    exact ⟨(((Below.refl _ _).alloc (Nat.le_refl _) _).cell (p := ⟨w.heap.size, 1, none⟩) (lt_of_cell h1)).trans h1, h2, hb.alloc hb.size _⟩
  rintro W hW
  have hWH := Lib.hid hW
  clear hW
  go_wp2_with fail
  go_loopw [13] (fun i wr => ∃ (k : Nat) (st : List Zo), k ≤ zs.length ∧ i = .int .i64 (k : Int) ∧ Tbl zs k n st ∧ ((zs.take k).map Zo.p).Nodup ∧ ApaW w wr (n : Int) (w.heap.size + 1) n st) (fun i _ => zs.length - (intOf i).toNat)
  case atStart => exact ⟨0, _, Nat.zero_le _, rfl, ⟨by simp, fun i h _ => by simp, fun i h e => by simp [hasZ] at e⟩, by simp, hWH.out⟩
  case round =>
    clear hWH
    obtain ⟨k, st, hk, rfl, hT, hnd, hN⟩ := hrel
    have hNH := Lib.hid hN
    by_cases hlt : k < zs.length
    case pos =>
      obtain ⟨b, off, rfl, -, z0, z1, z2⟩ := zo_at (hIH.out _ hN.bw) hlt
      have hzk := hzH.out _ (List.getElem_mem hlt)
      obtain ⟨p, hp⟩ := Int.eq_ofNat_of_zero_le (show 0 ≤ zs[k].p by omega)
      have hpn : p < st.length := by rw [hT.len]; omega
      have hTs := hT.step hlt hp
      have hiff := nodup_take hlt hnd
      obtain ⟨g', e', hgb, hgl, hcap, s0, s1, s2, sf⟩ := zo_own hN.r hpn
      injection e' with e'
      injection e' with e'
      subst e'
      have hno := hT.no p hpn
      have hyes := hT.yes p hpn
      rw [← hp] at hno hyes
      have hall := Lib.hid (show hasZ (zs.take k) zs[k].p = true → t = false from fun e => by
        rw [htH.out]
        refine decide_eq_false fun h => ?_
        have h2 : ((zs.take (k + 1)).map Zo.p).Nodup := by rw [List.map_take]; exact nodup_of_take h
        rw [hiff, e] at h2
        cases h2)
      have hst := Lib.hid (fun (W : World) (hW : ApaW w W (n : Int) (w.heap.size + 1) n st) => hW.store hpn zs[k])
      have hTsH := Lib.hid hTs
      have hiffH := Lib.hid hiff
      have hf0 := sf (p * 3)
      have hf1 := sf (p * 3 + 1)
      have hf2 := sf (p * 3 + 2)
      have hl0 : p < n := by have := hT.len; omega
      have hl1 : (p : Int) < (n : Int) := by omega
      have hkw : IntKind.i64.wrap ((k : Int) + 1) = (k : Int) + 1 := IntWalk.i64_in _ (by omega)
      have hwl := hN.bw.size
      have hng : ¬ wr.heap.size = w.heap.size + 1 := by omega
      have hp2 : 2 ≤ p := by omega
      clear hN hT hTs hiff hnd sf hzk
      generalize hz : zs[k] = z at z0 z1 z2 hp hno hyes hall hst hTsH hiffH
      obtain ⟨zp, zg, zt⟩ := z
      dsimp only at hp z0 z1 z2
      subst hp
      clear hz
      generalize hsp : st[p] = sp at s0 s1 s2 hno hyes
      clear hsp
      by_cases hd : hasZ (zs.take k) (p : Int) = true
      case pos =>
        have hte := hall.out hd
        subst hte
        have hspp := hyes hd
        have hne : eqZ sp zo0 = false := by
          cases he : eqZ sp zo0 with
          | false => rfl
          | true =>
            have := eqZ_iff.1 he
            rw [this] at hspp
            exact absurd hspp (by show ¬ (0 : Int) = (p : Int); omega)
        have hq : ∀ W, (binOp .neq 60 (.agg #[.int .i64 sp.p, .int .i64 sp.g, .int .i64 sp.s]) (.agg #[.int .i64 0, .int .i64 0, .int .i64 0])).run Try.prog W = .ok (.bool true) W := fun W => by
          have h := heq.out W sp
          rw [hne] at h
          exact h
        clear hno hyes hd hspp hne
        go_wp2_with fail
        go_ret
        exact ⟨rfl, hNH.out.bw.alloc hNH.out.bw.size _⟩
      case neg =>
        rw [Bool.not_eq_true] at hd
        have hsp := hno hd
        subst hsp
        have hq : ∀ W, (binOp .neq 60 (.agg #[.int .i64 0, .int .i64 0, .int .i64 0]) (.agg #[.int .i64 0, .int .i64 0, .int .i64 0])).run Try.prog W = .ok (.bool false) W := fun W => by
          have h := heq.out W zo0
          exact h
        have hndH := Lib.hid (hiffH.out.2 hd)
        have hfin := Lib.hid ((hst.out _ hNH.out).below ((Below.refl _ _).alloc (Nat.le_refl _) (.cells #[.int .i64 (p : Int), .int .i64 zg, .int .i64 zt] 60)))
        clear hno hyes hd hst
        go_wp2_with fail
        go_roundw
        case rel => exact ⟨k + 1, _, by omega, by go_num, hTsH.out, hndH.out, hfin.out⟩
        case measure => simp only [intOf]; omega
    case neg =>
      have hke : k = zs.length := by omega
      rw [hke, List.take_length] at hnd
      have e : t = true := by rw [htH.out]; exact decide_eq_true hnd
      subst e
      clear hnd hN hT hke
      go_wp2_with fail
      go_ret
      exact ⟨rfl, hNH.out.bw⟩
theorem idx_take {l : List Int} {k : Nat} (hk : k < l.length) (x : Int) : (l.take (k + 1)).any (· == x) = ((l.take k).any (· == x) || (l[k] == x)) := by
  rw [List.take_succ_eq_append_getElem hk, List.any_append]; simp
/-- The place of the first x in l. -/
def IxPost (w : World) (l : List Int) (x : Int) (e : Ending) (w' : World) : Prop := ∃ i : Int, e = .returned (.int .i64 i) ∧ ((i = -1 ∧ ∀ y ∈ l, y ≠ x) ∨ ∃ (k : Nat) (h : k < l.length), i = (k : Int) ∧ l[k] = x ∧ ∀ j (hj : j < l.length), j < k → l[j] ≠ x) ∧ w = w'
set_option maxRecDepth 100000 in
set_option maxHeartbeats 1000000 in
theorem index_any (w : World) (A1 : Option Addr) (c1 : Nat) (l : List Int) (x : Int) (hI : IntsIn w A1 l) (hl : l.length ≤ 64) :
    Calls Try.prog 35 #[.slice A1 l.length c1, .int .i64 x] w (IxPost w l x) := by
  have hIH := Lib.hid hI
  clear hI
  go_enter Try.func35, Try.ntmps35
  go_wp2_with fail
  go_loopw [8] (fun i wr => ∃ k : Nat, k ≤ l.length ∧ i = .int .i64 (k : Int) ∧ (∀ j (hj : j < l.length), j < k → l[j] ≠ x) ∧ w = wr) (fun i _ => l.length - (intOf i).toNat)
  case atStart => exact ⟨0, Nat.zero_le _, rfl, fun j _ h => absurd h (Nat.not_lt_zero _), rfl⟩
  case round =>
    obtain ⟨k, hk, rfl, hno, rfl⟩ := hrel
    have hnoH := Lib.hid hno
    clear hno
    by_cases hlt : k < l.length
    case pos =>
      obtain ⟨b, off, rfl, -, hc⟩ := hIH.out.at_ hlt
      have hkw : IntKind.i64.wrap ((k : Int) + 1) = (k : Int) + 1 := IntWalk.i64_in _ (by omega)
      by_cases he : l[k] = x
      case pos =>
        have heq : (x == l[k]) = true := by simp [he]
        have heH := Lib.hid he
        clear he
        generalize hy : l[k] = y at hc heq heH
        have hyH := Lib.hid hy
        clear hy
        go_wp2_with fail
        go_ret
        exact ⟨k, rfl, .inr ⟨k, hlt, rfl, by rw [hyH.out]; exact heH.out, hnoH.out⟩, rfl⟩
      case neg =>
        have heq : (x == l[k]) = false := by simp [Ne.symm he]
        have heH := Lib.hid he
        clear he
        generalize hy : l[k] = y at hc heq heH
        have hyH := Lib.hid hy
        clear hy
        go_wp2_with fail
        go_roundw
        case rel => exact ⟨k + 1, by omega, by go_num, fun j hj h => by
                      by_cases e : j = k
                      · subst e; rw [hyH.out]; exact heH.out
                      · exact hnoH.out j hj (by omega), trivial⟩
        case measure => simp only [intOf]; omega
    case neg =>
      have hke : k = l.length := by omega
      go_wp2_with fail
      go_ret
      refine ⟨-1, rfl, .inl ⟨rfl, fun y hy e => ?_⟩, rfl⟩
      obtain ⟨i, hi, rfl⟩ := List.getElem_of_mem hy
      exact hnoH.out i hi (by omega) e
set_option maxRecDepth 100000 in
set_option maxHeartbeats 1000000 in
theorem distinct_any (w : World) (A1 : Option Addr) (c1 : Nat) (l : List Int) (hI : IntsIn w A1 l) (hl : l.length ≤ 64) :
    Calls Try.prog 25 #[.slice A1 l.length c1] w fun e w' => e = .returned (.bool (decide l.Nodup)) ∧ w = w' := by
  have hIH := Lib.hid hI
  have hix := Lib.hid (fun x => index_any w A1 c1 l x hI hl)
  obtain ⟨t, ht⟩ : ∃ t, t = decide l.Nodup := ⟨_, rfl⟩
  rw [← ht]
  have htH := Lib.hid ht
  clear hI ht
  go_enter Try.func25, Try.ntmps25
  go_wp2_with fail
  go_loopw [7] (fun i wr => ∃ k : Nat, k ≤ l.length ∧ i = .int .i64 (k : Int) ∧ (l.take k).Nodup ∧ w = wr) (fun i _ => l.length - (intOf i).toNat)
  case atStart => exact ⟨0, Nat.zero_le _, rfl, by simp, rfl⟩
  case round =>
    obtain ⟨k, hk, rfl, hnd, rfl⟩ := hrel
    by_cases hlt : k < l.length
    case pos =>
      obtain ⟨b, off, rfl, -, hc⟩ := hIH.out.at_ hlt
      have hkw : IntKind.i64.wrap ((k : Int) + 1) = (k : Int) + 1 := IntWalk.i64_in _ (by omega)
      have hi1 := Lib.hid (hix.out l[k])
      have hstep : (l.take (k + 1)).Nodup ↔ ∀ j (hj : j < l.length), j < k → l[j] ≠ l[k] := by
        rw [List.take_succ_eq_append_getElem hlt, List.nodup_append]
        constructor
        · intro ⟨_, _, h3⟩ j hj hjk
          exact h3 _ (List.mem_take_iff_getElem.2 ⟨j, by omega, rfl⟩) _ (by simp)
        · intro h1
          refine ⟨hnd, by simp, fun a ha c hc2 => ?_⟩
          obtain ⟨j, hj, rfl⟩ := List.mem_take_iff_getElem.1 ha
          have : c = l[k] := by simpa using hc2
          rw [this]
          exact h1 j (by omega) (by omega)
      have hsH := Lib.hid hstep
      have hndn : t = true → (l.take (k + 1)).Nodup := fun e => by
        have h : l.Nodup := by rw [htH.out] at e; exact of_decide_eq_true e
        exact nodup_of_take h
      have hnH := Lib.hid hndn
      clear hstep hndn hnd
      generalize hy : l[k] = y at hc hi1
      have hyH := Lib.hid hy
      clear hy
      go_upto_region 4 with fail
      go_wp2_with fail
      refine hi1.out.mono ?_
      rintro e w1 ⟨i, rfl, hi, rfl⟩
      by_cases hik : i = (k : Int)
      case pos =>
        have hne : (i != (k : Int)) = false := by simp [hik]
        have hnext := Lib.hid (hsH.out.2 (fun j hj hjk => by
          rcases hi with ⟨e, _⟩ | ⟨k', hk', e, _, h3⟩
          · omega
          · have e2 : k' = k := by omega
            rw [hyH.out]
            exact h3 j hj (by omega)))
        clear hik hi
        go_wp2_with fail
        go_roundw
        case rel => exact ⟨k + 1, by omega, by go_num, hnext.out, trivial⟩
        case measure => simp only [intOf]; omega
      case neg =>
        have hne : (i != (k : Int)) = true := by simp [hik]
        have hte : t = false := by
          cases t with
          | false => rfl
          | true =>
            exfalso
            have h1 := hsH.out.1 (hnH.out rfl)
            rcases hi with ⟨e, h2⟩ | ⟨k', hk', e, h2, h3⟩
            · exact h2 _ (List.getElem_mem hlt) hyH.out
            · by_cases hlt2 : k' < k
              · exact h1 k' hk' hlt2 (by rw [h2, hyH.out])
              · by_cases hgt : k < k'
                · exact h3 k hlt hgt hyH.out
                · exact hik (by omega)
        subst hte
        clear hik hi
        go_wp2_with fail
        go_ret
        exact ⟨rfl, rfl⟩
    case neg =>
      have hke : k = l.length := by omega
      rw [hke, List.take_length] at hnd
      have e : t = true := by rw [htH.out]; exact decide_eq_true hnd
      subst e
      clear hnd hke
      go_wp2_with fail
      go_ret
      exact ⟨rfl, rfl⟩
end Go.Proofs.Ytpmhfalhieinjaa
