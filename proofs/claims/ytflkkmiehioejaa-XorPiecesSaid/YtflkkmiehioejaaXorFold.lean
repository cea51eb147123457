/- What xor's text and Fold do. -/
import Derived.Test.YtflkkmiehioejaaXorWalks
import Derived.Test.YtflkkmiehioejaaStrs
import Derived.OwnWalk
import Derived.StillTailTactics
namespace Go.Proofs.Ytflkkmiehioejaa
open Go.RowKit Xor

/-- A block of the call's own whose first cells are words. -/
def WordsAt (w : World) (g : Nat) (f : Nat → Nat) (m : Nat) : Prop := ∀ k, k < m → w.cell? ⟨g, k, none⟩ = some (.int .u64 (f k : Int))
theorem WordsAt.below {w w' : World} {g m : Nat} {f : Nat → Nat} (h : WordsAt w g f m) {n : Nat} (hb : Below n w w') (hg : g < n) : WordsAt w' g f m := fun k hk =>
  (hb.cell (p := ⟨g, k, none⟩) hg).trans (h k hk)
/-- The k-th word of a row of bytes. -/
def wordOf (f : Nat → UInt8) (k : Nat) : Nat := pack (fun i => f (8 * k + i)) 8
theorem wordOf_lt (f : Nat → UInt8) (k : Nat) : wordOf f k < 18446744073709551616 := pack_lt8 _
def bytesV (f : Nat → UInt8) (n : Nat) : List Value := (List.range n).map fun i => .int .u8 ((f i).toNat : Int)
theorem bytesV_succ (f : Nat → UInt8) (n : Nat) : bytesV f n ++ [.int .u8 ((f n).toNat : Int)] = bytesV f (n + 1) := by
  unfold bytesV; rw [List.range_succ, List.map_append]; rfl

theorem own_next {w wr w' : World} {e : TypeId} {k : Nat} {v : Value} {xs : List Value} {o : Obj} (hB : Below w.heap.size w wr) (_ : w'.ownsRow w.heap.size e 1 v k xs) (hg : (wr.alloc o).grownBy w' (some w.heap.size)) : Below w.heap.size w w' :=
  (hB.alloc hB.size o).grown hg (by have := hB.size; simp; omega) (fun _ e => by cases e; exact Nat.le_refl _)

set_option maxHeartbeats 1000000 in
theorem text_any (f : Nat → UInt8) (g m n : Nat) (w : World) (hm : m ≤ 8192) (hn : n ≤ 8 * m) (hg : g < w.heap.size) (hW : WordsAt w g (wordOf f) m) :
    Calls Try.prog 27 #[.slice (some ⟨g, 0, none⟩) m m, .int .i64 (n : Int)] w fun e w' => e = .returned (.string (textOf f n)) ∧ Below w.heap.size w w' := by
  obtain ⟨i0, hi, hz0, hz1, hz2⟩ := info_parts infoB
  have hWH := Lib.hid hW
  clear hW
  go_enter Try.func27, Try.ntmps27
  go_wp2_with (at_make; refine wpList_make_own _ rfl _ _ 33 rfl w.heap.size 5 i0 (.int .u8 0) 1 Try.underlying33 hi hz0 hz1 _ _ _ (8 * m) rfl rfl (by omega) ?b2 ?b3 (Nat.le_refl _) ?_)
  case b2 => rw [hz2]; omega
  case b3 => unfold maxLen; omega
  intro w0 hown0 hgrow0
  go_wp2_with fail
  have hB0 : Below w.heap.size w w0 := (Below.refl _ _).grown hgrow0 (Nat.le_refl _) (fun k h => by cases h)
  clear hgrow0
  go_loopw [5, 15] (fun b i wr => ∃ k : Nat, k ≤ m ∧ i = .int .i64 (k : Int) ∧ b = .slice (some ⟨w.heap.size, 0, none⟩) (8 * k) (8 * m) ∧ wr.ownsRow w.heap.size 5 1 (.slice (some ⟨w.heap.size, 0, none⟩) (8 * k) (8 * m)) (8 * k) (bytesV f (8 * k)) ∧ Below w.heap.size w wr) (fun _ i _ => m - (intOf i).toNat)
  case atStart => exact ⟨0, Nat.zero_le _, rfl, rfl, hown0, hB0⟩
  case round =>
    clear hown0 hB0
    obtain ⟨k, hk, rfl, rfl, hown, hB⟩ := hrel
    have hownH := Lib.hid hown
    have hBH := Lib.hid hB
    clear hown
    by_cases hlt : k < m
    · have hc := hWH.out.below hB hg k hlt
      have hwl := wordOf_lt f k
      have hbyte : ∀ i, i < 8 → wordOf f k / 256 ^ i % 256 = (f (8 * k + i)).toNat := fun i hi => pack_byte i 8 (fun i => f (8 * k + i)) hi
      have hbyH := Lib.hid hbyte
      clear hbyte hB
      generalize wordOf f k = x at hc hwl hbyH
      go_wp2_with fail
      go_loopw [5, 19] (fun b i wr => ∃ j : Nat, j ≤ 8 ∧ i = .int .i64 (j : Int) ∧ b = .slice (some ⟨w.heap.size, 0, none⟩) (8 * k + j) (8 * m) ∧ wr.ownsRow w.heap.size 5 1 (.slice (some ⟨w.heap.size, 0, none⟩) (8 * k + j) (8 * m)) (8 * k + j) (bytesV f (8 * k + j)) ∧ Below w.heap.size w wr) (fun _ i _ => 8 - (intOf i).toNat)
      case atStart => exact ⟨0, Nat.zero_le _, rfl, rfl, hownH.out, hBH.out⟩
      case round =>
        clear hc hownH hBH
        obtain ⟨j, hj, rfl, rfl, hown, hB⟩ := hrel
        have hBH := Lib.hid hB
        have hsz := hB.size
        clear hB
        by_cases hlj : j < 8
        · obtain ⟨d, hd⟩ : ∃ d : Nat, (f (8 * k + j)).toNat = d := ⟨_, rfl⟩
          have hx : (x : Int) / 2 ^ (8 * j) % 256 = (d : Int) := by
            have h1 := hbyH.out j hlj
            rw [hd, (pow256 j hlj).1] at h1
            rw [← h1]; simp
          have hdH := Lib.hid hd
          clear hd
          go_wp2_with (at_builtin; refine wpList_append_fits _ rfl (.tmp 22) (.tmp 28) 33 rfl w.heap.size 5 i0 1 Try.underlying33 hi hz1 w.heap.size (8 * k + j) (8 * m) _ rfl (hown.alloc _) ⟨wr.heap.size, 0, none⟩ 1 1 [.int .u8 (d : Int)] rfl rfl (cell_one_new _ _ _) (by simp [Value.oneCell']) (by omega) ?_; intro w' hown' hgrow; have hnext := Lib.hid (own_next hBH.out hown' hgrow))
          clear hx
          go_roundw
          case rel => exact ⟨j + 1, by omega, by go_num, rfl, by rw [← Nat.add_assoc, ← bytesV_succ, hdH.out]; exact hown', hnext.out⟩
          case measure => simp [intOf]; omega
        · obtain rfl : j = 8 := by omega
          go_wp2
          go_roundw
          case rel => exact ⟨k + 1, by omega, by go_num, by rw [Nat.mul_add], by rw [Nat.mul_add]; exact hown, hBH.out⟩
          case measure => simp [intOf]; omega
    · obtain rfl : k = m := by omega
      have hBy : BytesAt wr w.heap.size ((List.range n).map f) := fun i hi => by
        have hi' : i < n := by simpa using hi
        have h1 := (hownH.out.cells (g := w.heap.size) rfl) i (.int .u8 ((f i).toNat : Int)) (by
          unfold bytesV
          rw [List.getElem?_map, List.getElem?_range (by omega)]; rfl)
        have h2 : (⟨w.heap.size, 0, none⟩ : Addr).add i = ⟨w.heap.size, i, none⟩ := by unfold Addr.add; split <;> simp_all
        rw [h2] at h1
        rw [h1]; simp
      have hcb := back hBy (show ((List.range n).map f).length = n by simp) (cap := 8 * k) Try.underlying33 Try.underlying5 Try.underlying9
      clear hBy hB
      have hn8 : (n : Int) ≤ 8 * (k : Int) := by omega
      go_wp2
      go_ret
      exact ⟨rfl, hBH.out⟩

/-- The sum, by words: of the first j words the newer row, of the others the elder one. -/
def mixW (X Y : Nat → UInt8) (j k : Nat) : Nat := if k < j then wordOf Y k else wordOf X k
structure SumAt (w W : World) (g : Nat) (F : Nat → Nat) (M : Nat) : Prop where
  words : WordsAt W g F M
  free : ∀ k, k < M → W.frozen? ⟨g, k, none⟩ = false
  below : Below w.heap.size w W
  own : w.heap.size ≤ g
  lt : g < W.heap.size
theorem SumAt.step {w W : World} {g M j : Nat} {X Y : Nat → UInt8} (h : SumAt w W g (mixW X Y j) M) (hj : j < M) {v : Int} (hv : v = (wordOf Y j : Int)) : SumAt w (W.setCell ⟨g, j, none⟩ (.int .u64 v)) g (mixW X Y (j + 1)) M := by
  subst hv
  refine ⟨fun k hk => ?_, fun k hk => by rw [World.frozen?_setCell]; exact h.free k hk, h.below.setCell (by exact h.own) _, h.own, by simpa using h.lt⟩
  by_cases e : j = k
  · subst e
    rw [World.cell?_setCell_same' _ _ _ (by rw [h.words j hj]; rfl)]
    unfold mixW; rw [if_pos (by omega)]
  · rw [World.cell?_setCell_other _ _ _ _ (by intro e'; injection e' with _ e'; omega), h.words k hk]
    unfold mixW
    by_cases hk' : k < j
    · rw [if_pos hk', if_pos (by omega)]
    · rw [if_neg hk', if_neg (by omega)]
theorem SumAt.congr {w W : World} {g M : Nat} {F G : Nat → Nat} (h : SumAt w W g F M) (hFG : ∀ k, k < M → F k = G k) : SumAt w W g G M :=
  ⟨fun k hk => by rw [← hFG k hk]; exact h.words k hk, h.free, h.below, h.own, h.lt⟩
theorem SumAt.drew {w W : World} {g M : Nat} {F : Nat → Nat} (h : SumAt w W g F M) : SumAt w W.drew g F M := ⟨h.words, h.free, h.below.drew, h.own, h.lt⟩

theorem wordOf_zero (k : Nat) : wordOf (fun _ => 0) k = 0 := rfl

theorem wrap_small64 {x : Int} (h : -9223372036854775808 ≤ x ∧ x ≤ 9223372036854775807) : IntKind.i64.wrap x = x := by
  rw [IntKind.wrap_i64]; omega
theorem infoW : (Try.prog.info? 50).map (fun i => (i.zero, i.size, i.bytes)) = some (some (.int .u64 0), 1, 8) := by kernel_rfl

set_option maxHeartbeats 1000000 in
theorem fold_any (A : Option Addr) (cap : Nat) (ps : List ByteArray) (w : World) (hl : ps.length ≤ 1000000) (hL : longest ps ≤ 65536) (hS : StrsIn w A ps) :
    Calls Try.prog 13 #[.slice A ps.length cap] w fun e w' => e = .returned (.string (foldS ps)) ∧ Below w.heap.size w w' := by
  have hSH := Lib.hid hS
  have hLH := Lib.hid (fun p (hp : p ∈ ps) => Nat.le_trans (longest_ge hp) hL)
  have hLL := Lib.hid hL
  clear hS hL
  go_enter Try.func13, Try.ntmps13
  go_wp2_with fail
  go_loop [3, 12] (fun n i => ∃ k : Nat, k ≤ ps.length ∧ i = .int .i64 (k : Int) ∧ n = .int .i64 ((longest (ps.take k) : Nat) : Int)) (fun _ i => ps.length - (intOf i).toNat)
  case atStart => exact ⟨0, Nat.zero_le _, rfl, rfl⟩
  case round =>
    obtain ⟨k, hk, rfl, rfl⟩ := hrel
    by_cases hlt : k < ps.length
    · obtain ⟨b, off, rfl, _, hc⟩ := hSH.out.at_ hlt
      have hp := hLH.out ps[k] (List.getElem_mem _)
      have hsn : longest (ps.take (k + 1)) = max (longest (ps.take k)) ps[k].size := by rw [List.take_succ_eq_append_getElem hlt, longest_snoc]
      have hlk : longest (ps.take k) ≤ 65536 := longest_le fun p hp => hLH.out p (List.mem_of_mem_take hp)
      generalize ps[k] = p at hc hp hsn
      have hsnH := Lib.hid hsn
      clear hsn
      generalize longest (ps.take k) = n at hsnH hlk ⊢
      rcases Nat.lt_or_ge n p.size with hx | hx
      all_goals
        go_wp2
        go_round
        case rel => exact ⟨k + 1, by omega, by go_num, by rw [hsnH.out]; go_num⟩
        case measure => simp [intOf]; omega
    · obtain rfl : k = ps.length := by omega
      rw [List.take_length]
      have hL := hLL.out
      obtain ⟨L, hLe⟩ : ∃ L, longest ps = L := ⟨_, rfl⟩
      rw [hLe] at hL ⊢
      have hLeH := Lib.hid hLe
      clear hLe
      obtain ⟨M, hM⟩ : ∃ M : Nat, M = (L + 7) / 8 := ⟨_, rfl⟩
      have hMe : ((L : Int) + 8 - 1) / 8 = (M : Int) := by omega
      have hMH := Lib.hid hM
      have hMb : M ≤ 8192 := by omega
      obtain ⟨i0, hi, hz0, hz1, hz2⟩ := info_parts infoW
      have hmk := fun W => run_make_m (P := Try.prog) 49 50 i0 (.int .u64 0) Try.underlying49 hi hz0 .i64 .i64 M M (Nat.le_refl _) (by rw [hz2]; omega) (by omega) W
      rw [hz1] at hmk
      clear hi hz0 hz1 hz2 hM
      go_wp2_with fail
      clear hmk hMe
      refine fresh_world (fun W => SumAt w W w.heap.size (wordOf fun _ => 0) M) ?_ ?_
      · refine ⟨fun k hk => ?_, fun k _ => made_free w 50 (.int .u64 0) M k, (Below.refl _ _).alloc (Nat.le_refl _) _, Nat.le_refl _, by simp⟩
        rw [made_noughts w 50 (.int .u64 0) M k hk, wordOf_zero]; rfl
      intro W2 hA0
      obtain ⟨g, hg⟩ : ∃ g, g = w.heap.size := ⟨_, rfl⟩
      rw [← hg] at hA0
      have hgH := Lib.hid hg
      rw [← hg]
      clear hg
      go_loopw [28] (fun i wr => ∃ k : Nat, k ≤ ps.length ∧ i = .int .i64 (k : Int) ∧ SumAt w wr g (wordOf (xorAt (ps.take k))) M) (fun i _ => ps.length - (intOf i).toNat)
      case atStart => exact ⟨0, Nat.zero_le _, rfl, hA0⟩
      case round =>
        clear hA0
        obtain ⟨k, hk, rfl, hA⟩ := hrel
        have hAH := Lib.hid hA
        by_cases hlt : k < ps.length
        · obtain ⟨b, off, rfl, hltb, hc0⟩ := hSH.out.at_ hlt
          have hc := (hA.below.cell (p := ⟨b, off + k, none⟩) hltb).trans hc0
          have hp := hLH.out ps[k] (List.getElem_mem _)
          have hpL := longest_ge (List.getElem_mem hlt)
          rw [hLeH.out] at hpL
          have hsn : ∀ i, xorAt (ps.take (k + 1)) i = xorAt (ps.take k) i ^^^ byteAt ps[k] i := fun i => by rw [List.take_succ_eq_append_getElem hlt, xorAt_snoc]
          generalize ps[k] = p at hc hc0 hp hpL hsn
          have hsnH := Lib.hid hsn
          obtain ⟨X, hX⟩ : ∃ X, xorAt (ps.take k) = X := ⟨_, rfl⟩
          rw [hX] at hsnH hAH
          clear hsn hA hc0 hX
          go_wp2_with fail
          go_loopw [9] (fun i wr => ∃ j : Nat, 8 * j ≤ p.size + 7 ∧ i = .int .i64 (8 * (j : Int)) ∧ SumAt w wr g (mixW X (fun i => X i ^^^ byteAt p i) j) M) (fun i _ => (p.size + 8 - (intOf i).toNat))
          case atStart => exact ⟨0, by omega, rfl, hAH.out⟩
          case round =>
            clear hc hAH
            obtain ⟨j, hj, rfl, hA⟩ := hrel
            by_cases hlj : 8 * j < p.size
            · have hjM : j < M := by have := hMH.out; omega
              have hc := hA.words j hjM
              have hf := hA.free j hjM
              have hmx : mixW X (fun i => X i ^^^ byteAt p i) j j = wordOf X j := by unfold mixW; rw [if_neg (by omega)]
              rw [hmx] at hc
              have hw := fun W => word_any (p.extract (8 * j) p.size) W (by unfold maxLen; rw [ByteArray.size_extract]; omega)
              have hwe : pack (byteAt (p.extract (8 * j) p.size)) 8 = wordOf (byteAt p) j := pack_congr 8 _ _ fun i _ => byteAt_extract p (8 * j) i
              rw [hwe] at hw
              have hxo : bits .xor .u64 ((wordOf X j : Nat) : Int) ((wordOf (byteAt p) j : Nat) : Int) = ((wordOf (fun i => X i ^^^ byteAt p i) j : Nat) : Int) := by
                rw [u64_xor_nat _ _ (wordOf_lt _ _) (wordOf_lt _ _)]
                unfold wordOf; rw [pack_xor]
              have hwH := Lib.hid hw
              have hxoH := Lib.hid hxo
              have hAH := Lib.hid hA
              have b1 := wordOf_lt X j
              have b2 := wordOf_lt (byteAt p) j
              clear hw hwe hxo hA hmx
              generalize wordOf X j = x at hc hxoH b1
              generalize wordOf (byteAt p) j = y at hwH hxoH b2
              have hb1H := Lib.hid b1
              have hb2H := Lib.hid b2
              clear b1 b2
              go_wp2_with fail
              have e1 : IntKind.i64.wrap (j : Int) = (j : Int) := wrap_small64 (by omega)
              have e2 : (j : Int) < (M : Int) := by omega
              have e3 : 8 * (j : Int) ≤ (p.size : Int) := by omega
              have e4 : 0 ≤ 8 * (j : Int) := by omega
              have e5 : (8 * (j : Int)).toNat = 8 * j := by omega
              go_still_tail 11, (by kernel_rfl)
              still_call ((hwH.out _).mono fun _ _ ⟨h1, h2⟩ => ⟨h1, h2.symm⟩)
              repeat still_step
              refine wpStill_nil ?_
              change wpList _ _ _ _ _ wr.drew
              have hd := hAH.out.drew
              have hcd := hd.words j hjM
              have hfd := hd.free j hjM
              clear e1 e2 e3 e4 e5 hc hf hd
              have hAd := Lib.hid hAH.out.drew
              clear hAH
              generalize wr.drew = w5 at hcd hfd hAd ⊢

              go_wp2
              go_roundw
              case rel => exact ⟨j + 1, by omega, by go_num, hAd.out.step hjM hxoH.out⟩
              case measure => simp [intOf]; omega
            · have hmix : SumAt w wr g (wordOf (xorAt (ps.take (k + 1)))) M := hA.congr fun i _ => by
                unfold mixW wordOf
                split
                · exact pack_congr 8 _ _ fun t _ => (hsnH.out _).symm
                · refine pack_congr 8 _ _ fun t _ => ?_
                  rw [hsnH.out, byteAt_ge (by omega), UInt8.xor_zero]
              have hmH := Lib.hid hmix
              clear hA hmix
              go_wp2
              go_roundw
              case rel => exact ⟨k + 1, by omega, by go_num, hmH.out⟩
              case measure => simp [intOf]; omega
        · obtain rfl : k = ps.length := by omega
          rw [List.take_length] at hA
          have ht := text_any (xorAt ps) g M L wr hMb (by have := hMH.out; omega) (hA.lt) hA.words
          rw [show textOf (xorAt ps) L = foldS ps by unfold foldS; rw [hLeH.out]] at ht
          have htH := Lib.hid ht
          have hbH := Lib.hid hA.below
          clear hA ht hAH
          go_wp2_with fail
          (with_reducible refine htH.out.mono ?_)
          rintro e w5 ⟨rfl, hb5⟩
          go_wp2
          go_ret
          exact ⟨rfl, bmore hbH.out hb5⟩
end Go.Proofs.Ytflkkmiehioejaa
