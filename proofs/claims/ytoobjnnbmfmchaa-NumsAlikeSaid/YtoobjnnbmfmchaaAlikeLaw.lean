/- What the law NumsAlike does. -/
import Derived.Test.YtoobjnnbmfmchaaNumSpeaks
import Derived.Test.YtoobjnnbmfmchaaInts
import Derived.Deep.RegionHeld3
import Derived.StillTailTactics
import Derived.Deep.AppendLies
namespace Go.Proofs.Ytoobjnnbmfmchaa
open Go.RowKit Sets Num

theorem ofL_has2 (zs : List Int) (z : Int) : (ofL zs).hasI z = decide (z ∈ zs ∧ 0 ≤ z ∧ z < 256) := by
  have : ∀ (zs : List Int) (s : W4), (zs.foldl W4.withI s).hasI z = (s.hasI z || decide (z ∈ zs ∧ 0 ≤ z ∧ z < 256)) := by
    intro zs
    induction zs with
    | nil => intro s; simp
    | cons a zs ih =>
      intro s
      rw [List.foldl_cons, ih, W4.hasI_withI, Bool.or_assoc]
      congr 1
      rw [Bool.eq_iff_iff]
      simp only [Bool.or_eq_true, Bool.and_eq_true, decide_eq_true_iff, List.mem_cons]
      constructor
      · rintro (⟨h1, rfl⟩ | ⟨h1, h2⟩)
        · exact ⟨.inl rfl, h1⟩
        · exact ⟨.inr h1, h2⟩
      · rintro ⟨rfl | h1, h2⟩
        · exact .inl ⟨h2, rfl⟩
        · exact .inr ⟨h1, h2⟩
  rw [ofL, this, W4.hasI_zero, Bool.false_or]
/-- Lists of the same numbers make one set. -/
theorem ofL_same {xs ys : List Int} (h : ∀ x, x ∈ xs ↔ x ∈ ys) : ofL xs = ofL ys :=
  W4.extI (ofL_ok _) (ofL_ok _) fun n => by rw [ofL_has2, ofL_has2]; simp [h n]
/-- What is in a set, taken away and put again, is as it was. -/
theorem ofL_again {zs : List Int} {z : Int} (h : z ∈ zs) : ((ofL zs).lessI z).withI z = ofL zs :=
  W4.extI (W4.withI_ok (W4.lessI_ok (ofL_ok _) _) _) (ofL_ok _) fun n => by
    rw [W4.hasI_withI, W4.hasI_lessI, ofL_has2]
    by_cases e : n = z
    · subst e
      by_cases h0 : 0 ≤ n ∧ n < 256
      · simp [h, h0]
      · simp [h0]
    · simp [e]

theorem eqSet (a b c d : Int) (w : World) :
    (Op.equalIn 10000 33 (.agg #[.int .u64 a, .int .u64 b, .int .u64 c, .int .u64 d]) (.agg #[.int .u64 a, .int .u64 b, .int .u64 c, .int .u64 d])).run Try.prog w = .ok true w := by
  obtain ⟨f, hf, hn, ht, ho⟩ : ∃ f, (Try.prog.fieldsOf 33).toList = [f] ∧ (f.name ≠ "_") ∧ f.type = 31 ∧ f.offset = 0 := ⟨(Try.prog.fieldsOf 33)[0]!, by kernel_rfl, by decide +kernel, by kernel_rfl, by kernel_rfl⟩
  rw [run_equalIn_struct w 9999 _ _ _ (by kernel_rfl) (by kernel_rfl), hf]
  have hp : (part 31 #[.int .u64 a, .int .u64 b, .int .u64 c, .int .u64 d] 0).run Try.prog w = .ok (.agg #[.int .u64 a, .int .u64 b, .int .u64 c, .int .u64 d]) w := by kernel_rfl
  have he : (Op.equalIn 9999 31 (.agg #[.int .u64 a, .int .u64 b, .int .u64 c, .int .u64 d]) (.agg #[.int .u64 a, .int .u64 b, .int .u64 c, .int .u64 d])).run Try.prog w = .ok true w := by
    obtain ⟨i, hi⟩ := Option.isSome_iff_exists.1 infoU
    rw [run_equalIn_array w 9998 _ _ Try.underlying31 hi, cellsU]
    obtain ⟨p0, p1, p2, p3⟩ := parts4 a b c d w
    have e : List.range 4 = [0, 1, 2, 3] := rfl
    have hq : ∀ x : Int, (Op.equalIn 9998 30 (.int .u64 x) (.int .u64 x)).run Try.prog w = .ok true w := fun x => by rw [run_equalIn_int w 9997 _ _ _ x x Try.underlying30]; simp
    rw [e]
    simp only [Op.eqItems, Sem.run_bind, Nat.mul_one, p0, hq, Result.andThen_ok]
    simp [p1, p2, p3, hq]
  simp [Op.eqFields, hn, ht, ho, hp, he]

theorem list_ints (s : W4) (hs : s.ok) (w : World) :
    Calls Try.prog 22 #[s.val] w fun e W' => ∃ A cap, e = .returned (.slice A (elems s).length cap) ∧ IntsIn W' A (elems s) ∧ Below w.heap.size w W' :=
  (list_any s hs w).mono fun e W' ⟨v, he, hown, _, hb⟩ => by
    obtain ⟨A, cap, rfl, hI⟩ := ints_own hown rfl
    exact ⟨A, cap, he, hI, hb⟩

theorem cell_two_new (w : World) (x y : Value) (t : TypeId) : ∀ j u, [x, y][j]? = some u → (w.alloc (.cells #[x, y] t)).cell? ((⟨w.heap.size, 0, none⟩ : Addr).add j) = some u := by
  intro j u hj
  match j, hj with
  | 0, hj =>
    simp at hj
    subst hj
    simp [Addr.add]
  | 1, hj =>
    simp at hj
    subst hj
    simp [Addr.add]

theorem appended_to {W w1 : World} {b0 n0 : Nat} {e : TypeId} {size k : Nat} {v : Value} {xs : List Value} {tmp : Obj} (hrow : W.ownsRow b0 e size v k xs) (h0 : n0 ≤ b0) (hb0 : b0 ≤ W.heap.size)
    (hgrow : (W.alloc tmp).grownBy w1 v.ownBlock) : Below n0 W w1 := by
  refine ((Below.refl n0 W).alloc (by omega) tmp).grown hgrow (by simp; omega) fun j ej => ?_
  rcases hrow.2 with ⟨rfl, _⟩ | ⟨g, cap, cur, rfl, hb, _, _⟩
  · simp [Value.ownBlock] at ej
  · obtain rfl : g = j := by simpa [Value.ownBlock] using ej
    omega

theorem own_ne {W : World} {b0 b : Nat} {e : TypeId} {size k : Nat} {v : Value} {xs : List Value} (hrow : W.ownsRow b0 e size v k xs) (hb : b < b0) : some b ≠ v.ownBlock := by
  rcases hrow.2 with ⟨rfl, _⟩ | ⟨g, cap, cur, rfl, hg, _, _⟩
  · simp [Value.ownBlock]
  · simp [Value.ownBlock]; omega

set_option maxHeartbeats 2000000 in
theorem alike_law (A : Option Addr) (cap : Nat) (zs : List Int) (w : World) (hzl : zs.length ≤ maxLen) (hI : IntsIn w A zs) :
    Calls Try.prog 7 #[.slice A zs.length cap] w fun e w' => e = .returned (.bool true) ∧ Below w.heap.size w w' := by
  have hIH := Lib.hid hI
  have hof := Lib.hid (fun W hb => of_any A cap zs W hzl (hI.below (w' := W) hb))
  have hof2 := Lib.hid (fun (A' : Option Addr) (cap' : Nat) (pre : List Int) (W : World) (hl : pre.length ≤ maxLen) (hI' : IntsIn W A' pre) (hm : ∀ x, x ∈ pre ↔ x ∈ zs) => show Calls Try.prog 26 #[.slice A' pre.length cap'] W fun e w' => e = .returned (ofL zs).val ∧ Below W.heap.size W w' by have h := of_any A' cap' pre W hl hI'; rwa [ofL_same hm] at h)
  unfold maxLen at hzl
  clear hI
  have hok := ofL_ok zs
  have hless := Lib.hid (fun z W => less_any (ofL zs) hok z W)
  have hwith := Lib.hid (fun z (hz : z ∈ zs) W => show Calls Try.prog 17 #[((ofL zs).lessI z).val, .int .i64 z] W fun e w' => e = .returned (ofL zs).val ∧ Below W.heap.size W w' by have h := with_any ((ofL zs).lessI z) (W4.lessI_ok hok z) z W; rwa [ofL_again hz] at h)
  have hlist := Lib.hid (fun W => list_ints (ofL zs) hok W)
  have hlen := elems_length (ofL zs)
  have hints := Lib.hid (fun (A1 A2 : Option Addr) (c1 c2 : Nat) (W : World) (h1 : IntsIn W A1 (elems (ofL zs))) (h2 : IntsIn W A2 (elems (ofL zs))) => show Calls Try.prog 21 #[.slice A1 (elems (ofL zs)).length c1, .slice A2 (elems (ofL zs)).length c2] W fun e w' => e = .returned (.bool true) ∧ Below W.heap.size W w' by
    have h := ints_any A1 A2 c1 c2 (elems (ofL zs)) (elems (ofL zs)) W (by unfold maxLen; omega) (by unfold maxLen; omega) h1 h2
    simpa using h)
  clear hok hlen
  generalize elems (ofL zs) = e at hlist hints
  generalize ofL zs = s at hof hof2 hless hwith hlist hints
  have heq := fun w => eqSet (s.a : Int) (s.b : Int) (s.c : Int) (s.d : Int) w
  obtain ⟨i0, hi, hz0, hz1, hz2⟩ := info_parts infoI
  have hinfo := Lib.hid (And.intro hi (And.intro hz0 (And.intro hz1 hz2)))
  clear hi hz0 hz1 hz2
  unfold W4.val at hof hof2 hless hwith hlist
  go_enter Try.func7, Try.ntmps7
  go_upto_region 3 with (go_at_call 10; refine (speaks1 _).mono ?_; rintro e w1 ⟨rfl, hb⟩)
  by_cases h3 : 300 < zs.length
  · have hd : decide (300 < (zs.length : Int)) = true := by simp; omega
    go_wp2
    go_ret
    exact ⟨rfl, hb⟩
  have hd : decide (300 < (zs.length : Int)) = false := by simp; omega
  go_wp2
  go_loopw [3, 4] (fun v i wr => ∃ (k : Nat) (pre : List Int), k ≤ zs.length ∧ i = .int .i64 ((k : Int) - 1) ∧ wr.ownsRow w.heap.size 3 1 v pre.length (pre.map (Value.int .i64)) ∧ pre.length = 2 * (zs.length - k) ∧ (∀ x, x ∈ pre ↔ x ∈ zs.drop k) ∧ Below w.heap.size w wr) (fun _ i _ => (intOf i + 1).toNat)
  case atStart => exact ⟨zs.length, [], Nat.le_refl _, by go_num, World.ownsRow_nil _ _ _ _, by simp, by simp, hb⟩
  case round =>
    clear hb
    obtain ⟨k, pre, hk, rfl, hrow, hpl, hmem, hB⟩ := hrel
    have hmemH := Lib.hid hmem
    clear hmem
    by_cases hk0 : k = 0
    · subst hk0
      rw [show (((0 : Nat) : Int) - 1) = -1 by omega]
      obtain ⟨A', cap', rfl, hI2⟩ := ints_own hrow rfl
      have hl2 : pre.length ≤ maxLen := by unfold maxLen; omega
      have hm2 : ∀ x, x ∈ pre ↔ x ∈ zs := fun x => by simpa using hmemH.out x
      have hl2H := Lib.hid hl2
      have hm2H := Lib.hid hm2
      have hI2H := Lib.hid hI2
      clear hl2 hm2 hI2 hmemH hrow hpl
      go_wp2_with fail
      refine (hof.out _ hB).mono ?_
      rintro e' w2 ⟨rfl, hb2⟩
      have hB2 := bmore hB hb2
      go_wp2_with fail
      refine (hof2.out _ _ _ _ hl2H.out (hI2H.out.below hb2) hm2H.out).mono ?_
      rintro e' w3 ⟨rfl, hb3⟩
      have hB3 := bmore hB2 hb3
      go_wp2_with fail
      refine fresh_world (fun W => SetAt W w3.heap.size s ∧ SetAt W (w3.heap.size + 1) s ∧ Below w.heap.size w W ∧ W.heap.size = w3.heap.size + 2) ?_ ?_
      · have h1 := setAt_new w3 s
        have h2 := setAt_new (w3.alloc (.cells #[.int .u64 (s.a : Int), .int .u64 (s.b : Int), .int .u64 (s.c : Int), .int .u64 (s.d : Int)] 33)) s
        rw [World.size_alloc] at h2
        exact ⟨h1.below ((Below.refl _ _).alloc (Nat.le_refl _) _), h2, (hB3.alloc hB3.size _).alloc (Nat.le_trans hB3.size (by simp)) _, by simp⟩
      rintro W0 ⟨hSa, hSb, hB0, _⟩
      have hBs := hB3.size
      clear hB hB2 hB3 hb2 hb3
      generalize w3.heap.size = B at hSa hSb hBs ⊢
      go_loopw [7] (fun i wr => ∃ j : Nat, j ≤ zs.length ∧ i = .int .i64 (j : Int) ∧ SetAt wr B s ∧ SetAt wr (B + 1) s ∧ Below w.heap.size w wr) (fun i _ => zs.length - (intOf i).toNat)
      case atStart => exact ⟨0, by omega, rfl, hSa, hSb, hB0⟩
      case round =>
        clear hSa hSb hB0
        obtain ⟨j, hj, rfl, hSa, hSb, hB⟩ := hrel
        by_cases hjl : j < zs.length
        · obtain ⟨b, off, rfl, hlt0, hc0⟩ := hIH.out.at_ hjl
          have hc := (hB.cell (p := ⟨b, off + j, none⟩) hlt0).trans hc0
          have hw1 := hwith.out zs[j] (List.getElem_mem _)
          have hl1 := hless.out zs[j]
          generalize zs[j] = z at hc hc0 hw1 hl1
          have hw1H := Lib.hid hw1
          have hl1H := Lib.hid hl1
          have hc0H := Lib.hid hc0
          have hSaH := Lib.hid hSa
          have hSbH := Lib.hid hSb
          clear hw1 hl1 hc0 hSa
          generalize s.lessI z = t at hw1H hl1H
          obtain ⟨c0, c1, c2, c3, f0, f1, f2, f3⟩ := hSb
          go_wp2_with fail
          go_still_tail 5, (by kernel_rfl)
          go_wp2_with fail
          refine (hl1H.out _).mono ?_
          rintro e' w4 ⟨rfl, hb4⟩
          have hb4' := ((Below.refl wr.heap.size wr).drew).trans (hb4.mono (by simp))
          clear c0 c1 c2 c3 f0 f1 f2 f3
          have hSb4H := Lib.hid (hSbH.out.below hb4')
          obtain ⟨c0, c1, c2, c3, f0, f1, f2, f3⟩ := hSb4H.out
          go_wp2_with fail
          refine fresh_world (fun W => SetAt W B s ∧ SetAt W (B + 1) t ∧ Below w.heap.size w W) ?_ ?_
          · exact ⟨((((hSaH.out.below hb4').other (by simp) _).other (by simp) _).other (by simp) _).other (by simp) _, hSb4H.out.store t, ((((bmore hB hb4').setCell (by simp; omega) _).setCell (by simp; omega) _).setCell (by simp; omega) _).setCell (by simp; omega) _⟩
          clear c0 c1 c2 c3 f0 f1 f2 f3 hSaH hSbH hSb4H hb4' hb4 hB hc
          rintro W5 ⟨hSa, hSb, hB⟩
          have hc := (hB.cell (p := ⟨b, off + j, none⟩) hlt0).trans hc0H.out
          have hSaH := Lib.hid hSa
          have hSbH := Lib.hid hSb
          clear hSa hSb
          obtain ⟨c0, c1, c2, c3, f0, f1, f2, f3⟩ := hSbH.out
          go_still_tail 5, (by kernel_rfl)
          go_wp2_with fail
          refine (hw1H.out _).mono ?_
          rintro e' w6 ⟨rfl, hb6⟩
          have hb6' := ((Below.refl W5.heap.size W5).drew).trans (hb6.mono (by simp))
          clear c0 c1 c2 c3 f0 f1 f2 f3
          have hSb6H := Lib.hid (hSbH.out.below hb6')
          obtain ⟨c0, c1, c2, c3, f0, f1, f2, f3⟩ := hSb6H.out
          go_wp2
          go_roundw
          case rel => exact ⟨j + 1, by omega, by go_num, ((((hSaH.out.below hb6').other (by simp) _).other (by simp) _).other (by simp) _).other (by simp) _, hSb6H.out.store s, ((((bmore hB hb6').setCell (by simp; omega) _).setCell (by simp; omega) _).setCell (by simp; omega) _).setCell (by simp; omega) _⟩
          case measure => simp [intOf]; omega
        · obtain rfl : j = zs.length := by omega
          obtain ⟨c0, c1, c2, c3, _⟩ := hSa
          obtain ⟨d0, d1, d2, d3, _⟩ := hSb
          have hkeep : ∀ W, Below wr.heap.size wr W → (W.cell? ⟨B, 0, none⟩ = some (.int .u64 (s.a : Int)) ∧ W.cell? ⟨B, 1, none⟩ = some (.int .u64 (s.b : Int)) ∧ W.cell? ⟨B, 2, none⟩ = some (.int .u64 (s.c : Int)) ∧ W.cell? ⟨B, 3, none⟩ = some (.int .u64 (s.d : Int))
              ∧ W.cell? ⟨B + 1, 0, none⟩ = some (.int .u64 (s.a : Int)) ∧ W.cell? ⟨B + 1, 1, none⟩ = some (.int .u64 (s.b : Int)) ∧ W.cell? ⟨B + 1, 2, none⟩ = some (.int .u64 (s.c : Int)) ∧ W.cell? ⟨B + 1, 3, none⟩ = some (.int .u64 (s.d : Int))) := fun W hb =>
            have hc := (bcell hb).1
            ⟨(hc _ _ (lt_of_cell c0)).trans c0, (hc _ _ (lt_of_cell c1)).trans c1, (hc _ _ (lt_of_cell c2)).trans c2, (hc _ _ (lt_of_cell c3)).trans c3, (hc _ _ (lt_of_cell d0)).trans d0, (hc _ _ (lt_of_cell d1)).trans d1, (hc _ _ (lt_of_cell d2)).trans d2, (hc _ _ (lt_of_cell d3)).trans d3⟩
          have hkeepH := Lib.hid hkeep
          clear hkeep
          go_wp2_with fail
          go_region_held3 (fun W => W.cell? ⟨B, 0, none⟩ = some (.int .u64 (s.a : Int)) ∧ W.cell? ⟨B, 1, none⟩ = some (.int .u64 (s.b : Int)) ∧ W.cell? ⟨B, 2, none⟩ = some (.int .u64 (s.c : Int)) ∧ W.cell? ⟨B, 3, none⟩ = some (.int .u64 (s.d : Int)) ∧ W.cell? ⟨B + 1, 0, none⟩ = some (.int .u64 (s.a : Int)) ∧ W.cell? ⟨B + 1, 1, none⟩ = some (.int .u64 (s.b : Int)) ∧ W.cell? ⟨B + 1, 2, none⟩ = some (.int .u64 (s.c : Int)) ∧ W.cell? ⟨B + 1, 3, none⟩ = some (.int .u64 (s.d : Int)))
            (first | exact hkeepH.out _ (Below.refl _ _).drew | exact hkeepH.out _ hb6' | exact hkeepH.out _ hb5' | exact hkeepH.out _ hb4')
            (first | (go_at_call 22; refine (hlist.out wr.drew).mono ?_; rintro e' w4 ⟨A4, cap4, rfl, hI4, hb4⟩; have hb4' := ((Below.refl wr.heap.size wr).drew).trans (hb4.mono (by simp))) | (go_at_call 22; refine (hlist.out w4).mono ?_; rintro e' w5 ⟨A5, cap5, rfl, hI5, hb5⟩; have hb5' := bmore hb4' hb5) | (go_at_call 21; refine (hints.out A4 A5 cap4 cap5 w5 (hI4.below hb5) hI5).mono ?_; rintro e' w6 ⟨rfl, hb6⟩; have hb6' := bmore hb5' hb6))
          go_wp2
          go_ret
          exact ⟨rfl, bmore hB hb6'⟩
    · obtain ⟨m, rfl⟩ : ∃ m, k = m + 1 := ⟨k - 1, by omega⟩
      have hm : m < zs.length := by omega
      rw [show (((m + 1 : Nat) : Int) - 1) = (m : Int) by omega]
      obtain ⟨b, off, rfl, hlt0, hc0⟩ := hIH.out.at_ hm
      have hc := (hB.cell (p := ⟨b, off + m, none⟩) hlt0).trans hc0
      have hlt2 := lt_of_cell hc
      have hdrop : zs.drop m = zs[m] :: zs.drop (m + 1) := by rw [List.drop_eq_getElem_cons hm]
      have hmem2 : ∀ x, x ∈ pre ++ [zs[m], zs[m]] ↔ x ∈ zs.drop m := fun x => by
        rw [hdrop, List.mem_append, hmemH.out x, List.mem_cons]; simp only [List.mem_cons, List.not_mem_nil, or_false, or_self]; exact or_comm
      generalize zs[m] = z at hc hc0 hmem2
      have hmem2H := Lib.hid hmem2
      have hplH := Lib.hid hpl
      clear hmem2 hdrop hc0 hpl
      go_wp2_with fail
      have hT := hinfo.out
      have hrow1 := (show wr.drew.ownsRow _ _ _ _ _ _ from hrow).alloc (.cells #[.int .i64 z, .int .i64 z] 3)
      have hcells := cell_two_new wr.drew (.int .i64 z) (.int .i64 z) 3
      have h1c : ∀ u ∈ [Value.int .i64 z, Value.int .i64 z], u.oneCell' = true := by simp [Value.oneCell']
      have h63 : pre.length + 2 ≤ maxLen := by have := hplH.out; unfold maxLen; omega
      have hby : (pre.length + 2) * 8 ≤ 140737488355328 := by have := hplH.out; omega
      have hbs : w.heap.size ≤ (wr.drew.alloc (.cells #[.int .i64 z, .int .i64 z] 3)).heap.size := by have := hB.size; simp; omega
      have hBd := hB.drew
      have hBs : w.heap.size ≤ wr.drew.heap.size := hB.size
      have hca : (wr.drew.alloc (.cells #[.int .i64 z, .int .i64 z] 3)).cell? ⟨b, off + m, none⟩ = some (.int .i64 z) := (World.cell?_alloc_lt wr.drew _ _ hlt2).trans hc
      have hlt3 := lt_of_cell hca
      have hne := own_ne hrow hlt0
      go_region_held3 (fun W => W.cell? ⟨b, off + m, none⟩ = some (.int .i64 z)) (first | exact hc | exact (World.cell?_alloc_lt _ _ _ hlt2).trans hc | exact hcw)
        (first | (refine step_append_lies (wr.drew.alloc (.cells #[.int .i64 z, .int .i64 z] 3)) rfl (.tmp 20) (.tmp 29) 34 rfl w.heap.size 3 i0 (.int .i64 0) 1 8 Try.underlying34 hT.1 hT.2.1 hT.2.2.1 hT.2.2.2 rfl (by decide) _ pre.length (pre.map (Value.int .i64)) ?h1 hrow1 ⟨wr.heap.size, 0, none⟩ 2 2 [.int .i64 z, .int .i64 z] ?h2 rfl hcells h1c (by decide) h63 hby hbs _ rfl ?_; (case h1 => rfl); (case h2 => rfl); intro g' cap' w1 hown' hgrow hat hlt'; have hcw := (hgrow.cell_far ⟨b, off + m, none⟩ hlt3 hne).trans hca; have hB1 := hBd.trans (appended_to (W := wr.drew) (tmp := .cells #[.int .i64 z, .int .i64 z] 3) hrow (Nat.le_refl _) hBs hgrow)))
      go_wp2
      go_roundw
      case rel => exact ⟨m, pre ++ [z, z], by omega, by go_num, by simpa using hown', by have := hplH.out; simp; omega, hmem2H.out, hB1⟩
      case measure => simp [intOf]
end Go.Proofs.Ytoobjnnbmfmchaa
