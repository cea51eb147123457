/- What each function under the crc laws does, call by call: one step of the register, the sum of parts, the turn of a byte, the document's own sum, numbers as bytes. -/
import Derived.Test.YtoobjnnbmfmchabDoorRows
import Derived.Test.YtoobjnnbmfmchabDoorCrcMath
import Derived.Test.YtoobjnnbmfmchabDoorKit
import Derived.WalkKit
import Derived.WalkSpells
import Derived.WalkLawsBesides
import Derived.Lib.Hide
import Derived.Laws.BitsAllLaws
namespace Go.Proofs.YtoobjnnbmfmchabDoor
open Go.RowKit Crc

theorem bits_xor_u32 (a b : BitVec 32) : bits .xor .u32 (a.toNat : Int) (b.toNat : Int) = ((a ^^^ b).toNat : Int) := by
  rw [u32_xor_nat _ _ a.isLt b.isLt, BitVec.toNat_xor]

theorem bits_not_u32 (r : BitVec 32) : bits .xor .u32 IntKind.u32.max (r.toNat : Int) = 4294967295 - (r.toNat : Int) := by
  have h := bits_xor_u32 (BitVec.allOnes 32) r
  rw [BitVec.allOnes_xor, BitVec.toNat_not] at h
  have := r.isLt
  have e : (((BitVec.allOnes 32).toNat : Nat) : Int) = IntKind.u32.max := by rfl
  rw [e] at h
  rw [h]
  omega

theorem bits_and15_u32 (a : BitVec 32) : bits .and .u32 (a.toNat : Int) 15 = ((a.toNat % 16 : Nat) : Int) := by
  have := u32_and_nat a.toNat 15 a.isLt (by omega)
  rw [show a.toNat &&& 15 = a.toNat % 16 from Nat.and_two_pow_sub_one_eq_mod a.toNat 4] at this
  exact this

/-- The table's cells: what the package's variable holds. -/
def Tab (w : World) : Prop := ∀ i : Nat, i < 16 → w.cell? ⟨0, i, none⟩ = some (.int .u32 ((tbl.getD i 0 : Nat) : Int))

theorem half (x : BitVec 32) (w : World) (hT : Tab w) : ∃ (i : Nat) (t : Nat), i < 16 ∧ t < 4294967296 ∧ bits .and .u32 (x.toNat : Int) 15 = (i : Int)
    ∧ w.cell? ⟨0, i, none⟩ = some (.int .u32 (t : Int)) ∧ bits .xor .u32 ((x.toNat : Int) / 16) (t : Int) = ((n4 x).toNat : Int) := by
  have hx := x.isLt
  have hi : x.toNat % 16 < 16 := Nat.mod_lt _ (by omega)
  have ht := tbl_lt ⟨_, hi⟩
  refine ⟨x.toNat % 16, tbl.getD (x.toNat % 16) 0, hi, ht, bits_and15_u32 x, hT _ hi, ?_⟩
  rw [n4_tbl, ← bits_xor_u32, BitVec.toNat_ushiftRight, BitVec.toNat_ofNat, Nat.mod_eq_of_lt (a := tbl.getD (x.toNat % 16) 0) (by exact ht), Nat.shiftRight_eq_div_pow]
  rfl

theorem wd_toNat (b : UInt8) : (wd b).toNat = b.toNat := by
  unfold wd
  have hb := b.toNat_lt
  rw [BitVec.toNat_ofNat]; exact Nat.mod_eq_of_lt (by omega)

theorem ret_u32 {a b : Int} (h : a = b) : Ending.returned (.int .u32 a) = .returned (.int .u32 b) := by rw [h]

set_option maxHeartbeats 400000 in
theorem next_core (R b X Y Z i j t u : Nat) (w : World) (_hR : R < 4294967296) (_hb : b < 256) (_hX : X < 4294967296) (_hY : Y < 4294967296) (_hi : i < 16) (_hj : j < 16)
    (h1 : bits .xor .u32 (R : Int) (b : Int) = (X : Int)) (h2 : bits .and .u32 (X : Int) 15 = (i : Int)) (h3 : w.cell? ⟨0, i, none⟩ = some (.int .u32 (t : Int)))
    (h4 : bits .xor .u32 ((X : Int) / 16) (t : Int) = (Y : Int)) (h5 : bits .and .u32 (Y : Int) 15 = (j : Int)) (h6 : w.cell? ⟨0, j, none⟩ = some (.int .u32 (u : Int)))
    (h7 : bits .xor .u32 ((Y : Int) / 16) (u : Int) = (Z : Int)) :
    Calls Tryd.prog 16 #[.int .u32 (R : Int), .int .u8 (b : Int)] w fun e w' => e = .returned (.int .u32 (Z : Int)) ∧ w = w' := by
  go_enter Tryd.func16, Tryd.ntmps16
  go_wp2
  go_ret
  exact ⟨rfl, rfl⟩

theorem next_any (r : BitVec 32) (b : UInt8) (w : World) (hT : Tab w) :
    Calls Tryd.prog 16 #[.int .u32 (r.toNat : Int), .int .u8 (b.toNat : Int)] w fun e w' => e = .returned (.int .u32 ((nx r b).toNat : Int)) ∧ w = w' := by
  obtain ⟨i, t, hi, ht, a2, a3, a4⟩ := half (r ^^^ wd b) w hT
  obtain ⟨j, u, hj, hu, a5, a6, a7⟩ := half (n4 (r ^^^ wd b)) w hT
  have h1 := bits_xor_u32 r (wd b)
  rw [wd_toNat] at h1
  exact next_core r.toNat b.toNat _ _ _ i j t u w r.isLt b.toNat_lt (r ^^^ wd b).isLt (n4 (r ^^^ wd b)).isLt hi hj h1 a2 a3 a4 a5 a6 a7


def R0 : BitVec 32 := 4294967295#32
/-- All bytes of the parts, one behind the other. -/
def flat (ss : List ByteArray) : List UInt8 := (ss.map fun s => s.data.toList).flatten
/-- The sum of a list of bytes, as a word and as a number. -/
def sumW (l : List UInt8) : BitVec 32 := ~~~ (reg R0 l)
def sumI (l : List UInt8) : Int := ((sumW l).toNat : Int)
theorem sumI_eq (l : List UInt8) : sumI l = 4294967295 - ((reg R0 l).toNat : Int) := by
  have := (reg R0 l).isLt
  unfold sumI sumW; rw [BitVec.toNat_not]; omega
theorem flat_snoc (ss : List ByteArray) (s : ByteArray) : flat (ss ++ [s]) = flat ss ++ s.data.toList := by simp [flat]
theorem take_snoc (s : ByteArray) (k : Nat) (h : k < s.size) : s.data.toList.take (k + 1) = s.data.toList.take k ++ [s[k]] := by
  rw [List.take_succ_eq_append_getElem (by simpa using h)]; rfl

set_option maxHeartbeats 400000 in
theorem sum_any (ss : List ByteArray) (b off cap : Nat) (w : World) (hT : Tab w) (hlen : ss.length ≤ 1000) (hsz : ∀ s ∈ ss, s.size ≤ maxLen)
    (hc : ∀ i (h : i < ss.length), w.cell? ⟨b, off + i, none⟩ = some (.string ss[i])) :
    Calls Tryd.prog 11 #[.slice (some ⟨b, off, none⟩) ss.length cap] w fun e w' => e = .returned (.int .u32 (sumI (flat ss))) ∧ w = w' := by
  have hTH := Lib.hid hT
  have hcH := Lib.hid hc
  have hsH := Lib.hid hsz
  clear hT hc hsz
  go_enter Tryd.func11, Tryd.ntmps11
  go_wp2
  go_loop [3, 9] (fun r i => ∃ k : Nat, k ≤ ss.length ∧ i = .int .i64 k ∧ r = .int .u32 ((reg R0 (flat (ss.take k))).toNat : Int)) (fun _ i => ss.length - (intOf i).toNat)
  case atStart => exact ⟨0, Nat.zero_le _, rfl, rfl⟩
  case round =>
    obtain ⟨k, hk, rfl, rfl⟩ := hrel
    by_cases hlt : k < ss.length
    · have hck := hcH.out k hlt
      have hsk := hsH.out ss[k] (List.getElem_mem _)
      have hflat : flat (ss.take (k + 1)) = flat (ss.take k) ++ ss[k].data.toList := by
        rw [List.take_succ_eq_append_getElem hlt, flat_snoc]
      generalize ss[k] = p at hck hsk hflat
      unfold maxLen at hsk
      generalize hr0 : reg R0 (flat (ss.take k)) = r0
      have hend : reg r0 p.data.toList = reg R0 (flat (ss.take (k + 1))) := by rw [hflat, reg_append, hr0]
      have hendH := Lib.hid hend
      clear hend hflat hr0
      go_wp2
      go_loop [3, 15] (fun r i => ∃ j : Nat, j ≤ p.size ∧ i = .int .i64 j ∧ r = .int .u32 ((reg r0 (p.data.toList.take j)).toNat : Int)) (fun _ i => p.size - (intOf i).toNat)
      case atStart => exact ⟨0, Nat.zero_le _, rfl, rfl⟩
      case round =>
        obtain ⟨j, hj, rfl, rfl⟩ := hrel
        by_cases hlj : j < p.size
        · have hsn : reg r0 (p.data.toList.take (j + 1)) = nx (reg r0 (p.data.toList.take j)) p[j] := by rw [take_snoc p j hlj, reg_snoc]
          have hsnH := Lib.hid hsn
          clear hsn
          generalize reg r0 (p.data.toList.take j) = r1 at hsnH ⊢
          have hstep := next_any r1 p[j] w hTH.out
          go_wp2_with (go_at_call 16; refine hstep.mono ?_; rintro e w' ⟨rfl, rfl⟩)
          go_round
          case rel => exact ⟨j + 1, by omega, by go_num, by rw [hsnH.out]⟩
          case measure => simp [intOf]; omega
        · obtain rfl : j = p.size := by omega
          rw [show p.data.toList.take p.size = p.data.toList from List.take_of_length_le (by simp)]
          rw [hendH.out]
          go_wp2
          go_round
          case rel => exact ⟨k + 1, by omega, by go_num, rfl⟩
          case measure => simp [intOf]; omega
    · obtain rfl : k = ss.length := by omega
      rw [List.take_length]
      have hfin := sumI_eq (flat ss)
      have hfinH := Lib.hid hfin
      clear hfin
      have hr := (reg R0 (flat ss)).isLt
      generalize reg R0 (flat ss) = r0 at hfinH hr
      go_wp2
      go_ret
      refine ⟨ret_u32 ?_, rfl⟩
      rw [hfinH.out]
      exact bits_not_u32 r0


theorem Tab.below {w w' : World} (h : Tab w) (hb : Below w.heap.size w w') : Tab w' := fun i hi =>
  (hb.cell (p := ⟨0, i, none⟩) (lt_of_cell (h i hi))).trans (h i hi)

/-- What one byte, so many bytes ahead of the end, does to the sum. -/
def turnW (k : Nat) (y : UInt8) : BitVec 32 := zs k (nx 0#32 y)
def turnI (k : Nat) (y : UInt8) : Int := ((turnW k y).toNat : Int)

set_option maxHeartbeats 400000 in
theorem turn_any (k : Nat) (y : UInt8) (w : World) (hT : Tab w) (hk : k ≤ 65536) :
    Calls Tryd.prog 12 #[.int .i64 (k : Int), .int .u8 (y.toNat : Int)] w fun e w' => e = .returned (.int .u32 (turnI k y)) ∧ w = w' := by
  have hTH := Lib.hid hT
  clear hT
  have h0 := next_any 0#32 y w hTH.out
  rw [show ((0#32 : BitVec 32).toNat : Int) = 0 from rfl] at h0
  have hz : turnI k y = ((zs k (nx 0#32 y)).toNat : Int) := rfl
  have hzH := Lib.hid hz
  clear hz
  generalize nx 0#32 y = r0 at h0 hzH
  have h0H := Lib.hid h0
  clear h0
  go_enter Tryd.func12, Tryd.ntmps12
  go_wp2_with (go_at_call 16; refine h0H.out.mono ?_; rintro e w' ⟨rfl, rfl⟩)
  go_loop [5, 15] (fun r i => ∃ j : Nat, j ≤ k ∧ i = .int .i64 j ∧ r = .int .u32 ((zs j r0).toNat : Int)) (fun _ i => k - (intOf i).toNat)
  case atStart => exact ⟨0, Nat.zero_le _, rfl, rfl⟩
  case round =>
    obtain ⟨j, hj, rfl, rfl⟩ := hrel
    by_cases hlt : j < k
    · have hsn : zs (j + 1) r0 = n8 (zs j r0) := rfl
      have hsnH := Lib.hid hsn
      clear hsn
      generalize zs j r0 = r1 at hsnH ⊢
      have hstep := next_any r1 0 w hTH.out
      rw [nx_zero, show ((UInt8.toNat 0 : Nat) : Int) = 0 from rfl] at hstep
      go_wp2_with (go_at_call 16; refine hstep.mono ?_; rintro e w' ⟨rfl, rfl⟩)
      go_round
      case rel => exact ⟨j + 1, by omega, by go_num, by rw [hsnH.out]⟩
      case measure => simp [intOf]; omega
    · obtain rfl : j = k := by omega
      generalize zs j r0 = r1 at hzH ⊢
      go_wp2
      go_ret
      exact ⟨ret_u32 hzH.out.symm, rfl⟩

theorem turn_far (k : Int) (y : UInt8) (w : World) (hk : k < 0 ∨ 65536 < k) :
    Calls Tryd.prog 12 #[.int .i64 k, .int .u8 (y.toNat : Int)] w fun e w' => e = .returned (.int .u32 0) ∧ w = w' := by
  rcases hk with hk | hk
  all_goals
    go_enter Tryd.func12, Tryd.ntmps12
    go_wp2
    go_ret
    exact ⟨rfl, rfl⟩

theorem speaks_sum : sumI (flat [⟨#[49, 50, 51, 52]⟩, ⟨#[]⟩, ⟨#[53, 54, 55, 56, 57]⟩]) = 3808858755 := by decide +kernel

set_option maxHeartbeats 400000 in
theorem speaks_any (w : World) (hT : Tab w) :
    Calls Tryd.prog 9 #[] w fun e w' => e = .returned (.bool true) ∧ Below w.heap.size w w' := by
  have hb : Below w.heap.size w (w.alloc (.cells #[.string ⟨#[49, 50, 51, 52]⟩, .string ⟨#[]⟩, .string ⟨#[53, 54, 55, 56, 57]⟩] 9)) := (Below.refl _ _).alloc (Nat.le_refl _) _
  have hs := sum_any [⟨#[49, 50, 51, 52]⟩, ⟨#[]⟩, ⟨#[53, 54, 55, 56, 57]⟩] w.heap.size 0 3 _ (hT.below hb) (by simp) (by intro s h; simp only [List.mem_cons, List.not_mem_nil, or_false] at h; rcases h with rfl | rfl | rfl <;> decide) (by
    intro i hi
    match i, hi with
    | 0, _ => go_simp
    | 1, _ => go_simp
    | 2, _ => go_simp)
  rw [speaks_sum] at hs
  have hsH := Lib.hid hs
  clear hs hT
  go_enter Tryd.func9, Tryd.ntmps9
  go_wp2_with (go_at_call 11; refine hsH.out.mono ?_; rintro e w' ⟨rfl, rfl⟩)
  go_ret
  exact ⟨rfl, hb⟩


theorem bit_form (y : UInt8) (j : Nat) (c : BitVec 32) :
    (((y.toNat : Int) % 4294967296 / 2 ^ j).tmod 2 != (c.toNat : Int) % 2) = (y.toNat / 2 ^ j % 2 != c.toNat % 2) := by
  have hy := y.toNat_lt
  have e1 : (y.toNat : Int) % 4294967296 / 2 ^ j = ((y.toNat / 2 ^ j : Nat) : Int) := by
    rw [Int.emod_eq_of_lt (by omega) (by omega)]; norm_cast
  rw [e1, Int.tmod_eq_emod_of_nonneg (Int.natCast_nonneg _)]
  generalize y.toNat / 2 ^ j = a
  generalize c.toNat = b
  rw [Bool.eq_iff_iff, bne_iff_ne, bne_iff_ne]
  omega
theorem bit_yes {r : BitVec 32} {y : UInt8} {j : Nat} (h : (((y.toNat : Int) % 4294967296 / 2 ^ j).tmod 2 != ((cj r (wd y) j).toNat : Int) % 2) = true) :
    bits .xor .u32 (((cj r (wd y) j).toNat : Int) / 2) 2197175160 = ((cj r (wd y) (j + 1)).toNat : Int) := by
  rw [bit_form, bne_iff_ne] at h
  have hc := (cj r (wd y) j).isLt
  rw [(cj_num r (wd y) j).2 (by rw [wd_toNat]; exact h), ← bits_xor_u32, BitVec.toNat_ofNat, Nat.mod_eq_of_lt (by omega)]
  rfl
theorem bit_no {r : BitVec 32} {y : UInt8} {j : Nat} (h : (((y.toNat : Int) % 4294967296 / 2 ^ j).tmod 2 != ((cj r (wd y) j).toNat : Int) % 2) = false) :
    (((cj r (wd y) j).toNat : Int) / 2) = ((cj r (wd y) (j + 1)).toNat : Int) := by
  rw [bit_form, bne_eq_false_iff_eq] at h
  rw [(cj_num r (wd y) j).1 (by rw [wd_toNat]; exact h)]
  rfl

set_option maxHeartbeats 400000 in
theorem ref_any (s : ByteArray) (w : World) (hs : s.size ≤ maxLen) :
    Calls Tryd.prog 10 #[.string s] w fun e w' => e = .returned (.int .u32 (sumI s.data.toList)) ∧ w = w' := by
  unfold maxLen at hs
  go_enter Tryd.func10, Tryd.ntmps10
  go_wp2
  go_loop [3, 4] (fun c i => ∃ k : Nat, k ≤ s.size ∧ i = .int .i64 k ∧ c = .int .u32 ((reg R0 (s.data.toList.take k)).toNat : Int)) (fun _ i => s.size - (intOf i).toNat)
  case atStart => exact ⟨0, Nat.zero_le _, rfl, rfl⟩
  case round =>
    obtain ⟨k, hk, rfl, rfl⟩ := hrel
    by_cases hlt : k < s.size
    · have hend : reg R0 (s.data.toList.take (k + 1)) = nx (reg R0 (s.data.toList.take k)) s[k] := by rw [take_snoc s k hlt, reg_snoc]
      have hendH := Lib.hid hend
      clear hend
      generalize reg R0 (s.data.toList.take k) = r0 at hendH ⊢
      go_wp2
      go_loop [3, 5] (fun c i => ∃ j : Nat, j ≤ 8 ∧ i = .int .i64 j ∧ c = .int .u32 ((cj r0 (wd s[k]) j).toNat : Int)) (fun _ i => 8 - (intOf i).toNat)
      case atStart => exact ⟨0, Nat.zero_le _, rfl, by rw [cj_zero]⟩
      case round =>
        obtain ⟨j, hj, rfl, rfl⟩ := hrel
        by_cases hlj : j < 8
        · go_wp2
          · go_round
            case rel => exact ⟨j + 1, by omega, by go_num, by rw [bit_yes ‹_›]⟩
            case measure => simp [intOf]; omega
          · go_round
            case rel => exact ⟨j + 1, by omega, by go_num, by rw [bit_no ‹_›]⟩
            case measure => simp [intOf]; omega
        · obtain rfl : j = 8 := by omega
          rw [cj_eight]
          go_wp2
          go_round
          case rel => exact ⟨k + 1, by omega, by go_num, by rw [hendH.out]⟩
          case measure => simp [intOf]; omega
    · obtain rfl : k = s.size := by omega
      rw [show s.data.toList.take s.size = s.data.toList from List.take_of_length_le (by simp)]
      have hfin := Lib.hid (sumI_eq s.data.toList)
      have hr := (reg R0 s.data.toList).isLt
      generalize reg R0 s.data.toList = r0 at hfin hr
      go_wp2
      go_ret
      exact ⟨ret_u32 (by rw [hfin.out]), rfl⟩


theorem and_mask (n : Int) (k M : Nat) (hM : M = 2 ^ k - 1) (hk : k ≤ 62) : bits .and .i64 n (M : Int) = n % ((2 ^ k : Nat) : Int) := by
  have h62 : 2 ^ k ≤ 2 ^ 62 := Nat.pow_le_pow_right (by omega) hk
  have hpos : 0 < 2 ^ k := Nat.two_pow_pos k
  have hdvd : 2 ^ k ∣ 2 ^ 64 := Nat.pow_dvd_pow 2 (by omega)
  show IntKind.i64.wrap ((BitVec.ofInt 64 n &&& BitVec.ofInt 64 (M : Int)).toNat : Int) = _
  have h2 : (BitVec.ofInt 64 (M : Int)).toNat = M := by
    rw [BitVec.ofInt_natCast, BitVec.toNat_ofNat]; exact Nat.mod_eq_of_lt (by omega)
  have h1 : ((BitVec.ofInt 64 n).toNat : Int) = n % ((2 ^ 64 : Nat) : Int) := by
    rw [BitVec.toNat_ofInt]; exact Int.toNat_of_nonneg (Int.emod_nonneg _ (by decide))
  rw [BitVec.toNat_and, h2, hM, Nat.and_two_pow_sub_one_eq_mod, Int.natCast_emod, h1, Int.emod_emod_of_dvd _ (by exact_mod_cast hdvd), IntKind.wrap_i64]
  generalize hP : 2 ^ k = P at *
  have := Int.emod_nonneg n (b := (P : Int)) (by omega)
  have := Int.emod_lt_of_pos n (b := (P : Int)) (by omega)
  omega
theorem mask_nat (n : Int) (k M : Nat) (hM : M = 2 ^ k - 1) (hk : k ≤ 62) : ∃ m : Nat, m < 2 ^ k ∧ bits .and .i64 n (M : Int) = (m : Int) := by
  have hpos : 0 < 2 ^ k := Nat.two_pow_pos k
  have h1 := Int.emod_nonneg n (b := ((2 ^ k : Nat) : Int)) (by omega)
  have h2 := Int.emod_lt_of_pos n (b := ((2 ^ k : Nat) : Int)) (by omega)
  refine ⟨(n % ((2 ^ k : Nat) : Int)).toNat, by omega, ?_⟩
  rw [and_mask n k M hM hk]; omega

theorem byte_of {x : Int} (h0 : 0 ≤ x) (h1 : x ≤ 255) : ∃ y : UInt8, x = (y.toNat : Int) :=
  ⟨UInt8.ofNat x.toNat, by rw [UInt8.toNat_ofNat']; omega⟩
theorem u8_xor_bytes (a b : UInt8) : bits .xor .u8 (a.toNat : Int) (b.toNat : Int) = ((a ^^^ b).toNat : Int) := by
  rw [u8_xor_nat _ _ a.toNat_lt b.toNat_lt, UInt8.toNat_xor]
theorem turnI_xor (k : Nat) (a b : UInt8) : bits .xor .u32 (turnI k a) (turnI k b) = turnI k (a ^^^ b) := by
  unfold turnI; rw [bits_xor_u32]; unfold turnW; rw [turn_add]
theorem turnI_zero_iff (k : Nat) (a : UInt8) : turnI k a = 0 ↔ a = 0 := by
  unfold turnI turnW
  constructor
  · intro h
    refine turn_inj k (BitVec.eq_of_toNat_eq ?_)
    rw [BitVec.toNat_zero]; omega
  · rintro rfl
    rw [turn_zero]; rfl

set_option maxHeartbeats 400000 in
theorem adds_any (n : Int) (a b : UInt8) (w : World) (hT : Tab w) :
    Calls Tryd.prog 6 #[.int .i64 n, .int .u8 (a.toNat : Int), .int .u8 (b.toNat : Int)] w fun e w' => e = .returned (.bool true) ∧ Below w.heap.size w w' := by
  obtain ⟨m, hm, hmask0⟩ := mask_nat n 10 1023 rfl (by omega)
  have hmask : bits .and .i64 n 1023 = (m : Int) := hmask0
  clear hmask0
  obtain ⟨c, hx, ht⟩ : ∃ c : UInt8, bits .xor .u8 (a.toNat : Int) (b.toNat : Int) = (c.toNat : Int) ∧ bits .xor .u32 (turnI m a) (turnI m b) = turnI m c :=
    ⟨a ^^^ b, u8_xor_bytes a b, turnI_xor m a b⟩
  obtain ⟨z, hz1, hz2⟩ : ∃ z : Bool, (turnI m a == 0) = z ∧ ((a.toNat : Int) == 0) = z := by
    refine ⟨decide (a = 0), ?_, ?_⟩
    · rw [Bool.eq_iff_iff, beq_iff_eq, decide_eq_true_iff, turnI_zero_iff]
    · rw [Bool.eq_iff_iff, beq_iff_eq, decide_eq_true_iff, ← UInt8.toNat_inj]; simp
  have hTH := Lib.hid hT
  clear hT
  go_enter Tryd.func6, Tryd.ntmps6
  go_wp2_with (first | (go_at_call 9; refine (speaks_any _ hTH.out).mono ?_; rintro e w1 ⟨rfl, hb⟩; have hT1 := Lib.hid (hTH.out.below hb)) | (go_at_call 12; refine (turn_any _ _ _ hT1.out (by omega)).mono ?_; rintro e w' ⟨rfl, rfl⟩))
  go_ret
  exact ⟨by simp, hb⟩

end Go.Proofs.YtoobjnnbmfmchabDoor
