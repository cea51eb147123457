/- What Sum of crc does; Put and Get of nums. -/
import Derived.Test.YtbgkmppngnedlabDoorRows
import Derived.Test.YtbgkmppngnedlabDoorOMath
import Derived.Test.YtbgkmppngnedlabDoorOKit
import Derived.WalkKit
import Derived.WalkSpells
import Derived.WalkLawsBesides
import Derived.Lib.Hide
import Derived.Laws.BitsAllLaws
import Derived.Test.YtbgkmppngnedlabDoorOBase
import Derived.Laws.MakeOwn
namespace Go.Proofs.YtbgkmppngnedlabDoor
open Go.RowKit Crc
theorem bits_xor_u32 (a b : BitVec 32) : bits .xor .u32 (a.toNat : Int) (b.toNat : Int) = ((a ^^^ b).toNat : Int) := by
  rw [u32_xor_nat _ _ a.isLt b.isLt, BitVec.toNat_xor]
theorem bits_not_u32 (r : BitVec 32) : bits .xor .u32 IntKind.u32.max (r.toNat : Int) = 4294967295 - (r.toNat : Int) := by
  have h := bits_xor_u32 (BitVec.allOnes 32) r
  rw [BitVec.allOnes_xor, BitVec.toNat_not] at h
  have := r.isLt
  have e : (((BitVec.allOnes 32).toNat : Nat) : Int) = IntKind.u32.max := by rfl
  rw [e] at h
  rw [h]
  omega
theorem bits_and15_u32 (a : BitVec 32) : bits .and .u32 (a.toNat : Int) 15 = ((a.toNat % 16 : Nat) : Int) := by
  have := u32_and_nat a.toNat 15 a.isLt (by omega)
  rw [show a.toNat &&& 15 = a.toNat % 16 from Nat.and_two_pow_sub_one_eq_mod a.toNat 4] at this
  exact this
/-- The table's cells: what the package's variable holds. -/
def Tab (w : World) : Prop := ∀ i : Nat, i < 16 → w.cell? ⟨0, i, none⟩ = some (.int .u32 ((tbl.getD i 0 : Nat) : Int))
theorem half (x : BitVec 32) (w : World) (hT : Tab w) : ∃ (i : Nat) (t : Nat), i < 16 ∧ t < 4294967296 ∧ bits .and .u32 (x.toNat : Int) 15 = (i : Int)
    ∧ w.cell? ⟨0, i, none⟩ = some (.int .u32 (t : Int)) ∧ bits .xor .u32 ((x.toNat : Int) / 16) (t : Int) = ((n4 x).toNat : Int) := by
  have hx := x.isLt
  have hi : x.toNat % 16 < 16 := Nat.mod_lt _ (by omega)
  have ht := tbl_lt ⟨_, hi⟩
  refine ⟨x.toNat % 16, tbl.getD (x.toNat % 16) 0, hi, ht, bits_and15_u32 x, hT _ hi, ?_⟩
  rw [n4_tbl, ← bits_xor_u32, BitVec.toNat_ushiftRight, BitVec.toNat_ofNat, Nat.mod_eq_of_lt (a := tbl.getD (x.toNat % 16) 0) (by exact ht), Nat.shiftRight_eq_div_pow]
  rfl
theorem wd_toNat (b : UInt8) : (wd b).toNat = b.toNat := by
  unfold wd
  have hb := b.toNat_lt
  rw [BitVec.toNat_ofNat]; exact Nat.mod_eq_of_lt (by omega)
theorem ret_u32 {a b : Int} (h : a = b) : Ending.returned (.int .u32 a) = .returned (.int .u32 b) := by rw [h]
set_option maxHeartbeats 400000 in
theorem next_core (R b X Y Z i j t u : Nat) (w : World) (_hR : R < 4294967296) (_hb : b < 256) (_hX : X < 4294967296) (_hY : Y < 4294967296) (_hi : i < 16) (_hj : j < 16)
    (h1 : bits .xor .u32 (R : Int) (b : Int) = (X : Int)) (h2 : bits .and .u32 (X : Int) 15 = (i : Int)) (h3 : w.cell? ⟨0, i, none⟩ = some (.int .u32 (t : Int)))
    (h4 : bits .xor .u32 ((X : Int) / 16) (t : Int) = (Y : Int)) (h5 : bits .and .u32 (Y : Int) 15 = (j : Int)) (h6 : w.cell? ⟨0, j, none⟩ = some (.int .u32 (u : Int)))
    (h7 : bits .xor .u32 ((Y : Int) / 16) (u : Int) = (Z : Int)) :
    Calls Tryd.prog 49 #[.int .u32 (R : Int), .int .u8 (b : Int)] w fun e w' => e = .returned (.int .u32 (Z : Int)) ∧ w = w' := by
  go_enter Tryd.func49, Tryd.ntmps49
  go_wp2
  go_ret
  exact ⟨rfl, rfl⟩
theorem next_any (r : BitVec 32) (b : UInt8) (w : World) (hT : Tab w) :
    Calls Tryd.prog 49 #[.int .u32 (r.toNat : Int), .int .u8 (b.toNat : Int)] w fun e w' => e = .returned (.int .u32 ((nx r b).toNat : Int)) ∧ w = w' := by
  obtain ⟨i, t, hi, ht, a2, a3, a4⟩ := half (r ^^^ wd b) w hT
  obtain ⟨j, u, hj, hu, a5, a6, a7⟩ := half (n4 (r ^^^ wd b)) w hT
  have h1 := bits_xor_u32 r (wd b)
  rw [wd_toNat] at h1
  exact next_core r.toNat b.toNat _ _ _ i j t u w r.isLt b.toNat_lt (r ^^^ wd b).isLt (n4 (r ^^^ wd b)).isLt hi hj h1 a2 a3 a4 a5 a6 a7
theorem Tab.below {w w' : World} (h : Tab w) (hb : Below w.heap.size w w') : Tab w' := fun i hi =>
  (hb.cell (p := ⟨0, i, none⟩) (lt_of_cell (h i hi))).trans (h i hi)
def R0 : BitVec 32 := 4294967295#32
/-- All bytes of the parts, one behind the other. -/
def flat (ss : List ByteArray) : List UInt8 := (ss.map fun s => s.data.toList).flatten
/-- The sum of a list of bytes, as a word and as a number. -/
def sumW (l : List UInt8) : BitVec 32 := ~~~ (reg R0 l)
def sumI (l : List UInt8) : Int := ((sumW l).toNat : Int)
theorem sumI_eq (l : List UInt8) : sumI l = 4294967295 - ((reg R0 l).toNat : Int) := by
  have := (reg R0 l).isLt
  unfold sumI sumW; rw [BitVec.toNat_not]; omega
theorem flat_snoc (ss : List ByteArray) (s : ByteArray) : flat (ss ++ [s]) = flat ss ++ s.data.toList := by simp [flat]
theorem take_snoc (s : ByteArray) (k : Nat) (h : k < s.size) : s.data.toList.take (k + 1) = s.data.toList.take k ++ [s[k]] := by
  rw [List.take_succ_eq_append_getElem (by simpa using h)]; rfl
set_option maxHeartbeats 400000 in
theorem sum_any (ss : List ByteArray) (b off cap : Nat) (w : World) (hT : Tab w) (hlen : ss.length ≤ 1000) (hsz : ∀ s ∈ ss, s.size ≤ maxLen)
    (hc : ∀ i (h : i < ss.length), w.cell? ⟨b, off + i, none⟩ = some (.string ss[i])) :
    Calls Tryd.prog 38 #[.slice (some ⟨b, off, none⟩) ss.length cap] w fun e w' => e = .returned (.int .u32 (sumI (flat ss))) ∧ w = w' := by
  have hTH := Lib.hid hT
  have hcH := Lib.hid hc
  have hsH := Lib.hid hsz
  clear hT hc hsz
  go_enter Tryd.func38, Tryd.ntmps38
  go_wp2
  go_loop [3, 9] (fun r i => ∃ k : Nat, k ≤ ss.length ∧ i = .int .i64 k ∧ r = .int .u32 ((reg R0 (flat (ss.take k))).toNat : Int)) (fun _ i => ss.length - (intOf i).toNat)
  case atStart => exact ⟨0, Nat.zero_le _, rfl, rfl⟩
  case round =>
    obtain ⟨k, hk, rfl, rfl⟩ := hrel
    by_cases hlt : k < ss.length
    · have hck := hcH.out k hlt
      have hsk := hsH.out ss[k] (List.getElem_mem _)
      have hflat : flat (ss.take (k + 1)) = flat (ss.take k) ++ ss[k].data.toList := by
        rw [List.take_succ_eq_append_getElem hlt, flat_snoc]
      generalize ss[k] = p at hck hsk hflat
      unfold maxLen at hsk
      generalize hr0 : reg R0 (flat (ss.take k)) = r0
      have hend : reg r0 p.data.toList = reg R0 (flat (ss.take (k + 1))) := by rw [hflat, reg_append, hr0]
      have hendH := Lib.hid hend
      clear hend hflat hr0
      go_wp2
      go_loop [3, 15] (fun r i => ∃ j : Nat, j ≤ p.size ∧ i = .int .i64 j ∧ r = .int .u32 ((reg r0 (p.data.toList.take j)).toNat : Int)) (fun _ i => p.size - (intOf i).toNat)
      case atStart => exact ⟨0, Nat.zero_le _, rfl, rfl⟩
      case round =>
        obtain ⟨j, hj, rfl, rfl⟩ := hrel
        by_cases hlj : j < p.size
        · have hsn : reg r0 (p.data.toList.take (j + 1)) = nx (reg r0 (p.data.toList.take j)) p[j] := by rw [take_snoc p j hlj, reg_snoc]
          have hsnH := Lib.hid hsn
          clear hsn
          generalize reg r0 (p.data.toList.take j) = r1 at hsnH ⊢
          have hstep := next_any r1 p[j] w hTH.out
          go_wp2_with (go_at_call 49; refine hstep.mono ?_; rintro e w' ⟨rfl, rfl⟩)
          go_round
          case rel => exact ⟨j + 1, by omega, by go_num, by rw [hsnH.out]⟩
          case measure => simp [intOf]; omega
        · obtain rfl : j = p.size := by omega
          rw [show p.data.toList.take p.size = p.data.toList from List.take_of_length_le (by simp)]
          rw [hendH.out]
          go_wp2
          go_round
          case rel => exact ⟨k + 1, by omega, by go_num, rfl⟩
          case measure => simp [intOf]; omega
    · obtain rfl : k = ss.length := by omega
      rw [List.take_length]
      have hfin := sumI_eq (flat ss)
      have hfinH := Lib.hid hfin
      clear hfin
      have hr := (reg R0 (flat ss)).isLt
      generalize reg R0 (flat ss) = r0 at hfinH hr
      go_wp2
      go_ret
      refine ⟨ret_u32 ?_, rfl⟩
      rw [hfinH.out]
      exact bits_not_u32 r0
theorem sum_one (s : ByteArray) (b : Nat) (w : World) (hT : Tab w) (hs : s.size ≤ maxLen) (hc : w.cell? ⟨b, 0, none⟩ = some (.string s)) :
    Calls Tryd.prog 38 #[.slice (some ⟨b, 0, none⟩) 1 1] w fun e w' => e = .returned (.int .u32 (sumI s.data.toList)) ∧ w = w' := by
  have := sum_any [s] b 0 1 w hT (by simp) (by intro x h; simp only [List.mem_cons, List.not_mem_nil, or_false] at h; subst h; exact hs) (by
    intro i hi
    match i, hi with
    | 0, _ => exact hc)
  simpa [flat] using this
theorem and_mask (n : Int) (k M : Nat) (hM : M = 2 ^ k - 1) (hk : k ≤ 62) : bits .and .i64 n (M : Int) = n % ((2 ^ k : Nat) : Int) := by
  have h62 : 2 ^ k ≤ 2 ^ 62 := Nat.pow_le_pow_right (by omega) hk
  have hpos : 0 < 2 ^ k := Nat.two_pow_pos k
  have hdvd : 2 ^ k ∣ 2 ^ 64 := Nat.pow_dvd_pow 2 (by omega)
  show IntKind.i64.wrap ((BitVec.ofInt 64 n &&& BitVec.ofInt 64 (M : Int)).toNat : Int) = _
  have h2 : (BitVec.ofInt 64 (M : Int)).toNat = M := by
    rw [BitVec.ofInt_natCast, BitVec.toNat_ofNat]; exact Nat.mod_eq_of_lt (by omega)
  have h1 : ((BitVec.ofInt 64 n).toNat : Int) = n % ((2 ^ 64 : Nat) : Int) := by
    rw [BitVec.toNat_ofInt]; exact Int.toNat_of_nonneg (Int.emod_nonneg _ (by decide))
  rw [BitVec.toNat_and, h2, hM, Nat.and_two_pow_sub_one_eq_mod, Int.natCast_emod, h1, Int.emod_emod_of_dvd _ (by exact_mod_cast hdvd), IntKind.wrap_i64]
  generalize hP : 2 ^ k = P at *
  have := Int.emod_nonneg n (b := (P : Int)) (by omega)
  have := Int.emod_lt_of_pos n (b := (P : Int)) (by omega)
  omega
theorem mask_nat (n : Int) (k M : Nat) (hM : M = 2 ^ k - 1) (hk : k ≤ 62) : ∃ m : Nat, m < 2 ^ k ∧ bits .and .i64 n (M : Int) = (m : Int) := by
  have hpos : 0 < 2 ^ k := Nat.two_pow_pos k
  have h1 := Int.emod_nonneg n (b := ((2 ^ k : Nat) : Int)) (by omega)
  have h2 := Int.emod_lt_of_pos n (b := ((2 ^ k : Nat) : Int)) (by omega)
  refine ⟨(n % ((2 ^ k : Nat) : Int)).toNat, by omega, ?_⟩
  rw [and_mask n k M hM hk]; omega
end Go.Proofs.YtbgkmppngnedlabDoor
namespace Go.Proofs.YtbgkmppngnedlabDoor
open Go.RowKit Num
theorem run_make_rowN {P : Program} (t e : TypeId) (i : TypeInfo) (z : Value) (ht : P.underlying t = some (.slice e)) (hi : P.info? e = some i) (hz : i.zero = some z)
    (kl kc : IntKind) (n c : Nat) (hnc : n ≤ c) (hbytes : i.bytes * c ≤ 281474976710656) (h63 : c ≤ 9223372036854775807) (w : World) :
    (Instr.makeSlice t (.int kl (n : Int)) (.int kc (c : Int))).run P w = .ok (.slice (some ⟨w.heap.size, 0, none⟩) n c) (w.alloc (.cells (madeCells z.cells (c * i.size)) e)) := by
  have hb : (i.bytes : Int) * (c : Int) ≤ 281474976710656 := by
    have h : ((i.bytes * c : Nat) : Int) ≤ 281474976710656 := by omega
    rwa [Int.natCast_mul] at h
  have hr := run_make (P := P) w t e i z ht hi hz kl kc n c (by omega) (by omega) hb (by omega)
  simp only [Int.toNat_natCast] at hr
  exact hr
theorem infoByte : (Tryd.prog.info? 5).map (fun i => (i.zero, i.size, i.bytes)) = some (some (.int .u8 0), 1, 1) := by kernel_rfl
theorem made_bytes (w : World) (k : Nat) : BytesAt (w.alloc (.cells (madeCells #[.int .u8 0] k) 5)) w.heap.size (List.replicate k 0) := fun j hj => by
  rw [World.cell?_alloc_new, ← Array.getElem?_toList, toList_madeCells_one]
  simp at hj
  simp [hj]
theorem digit_int (n j : Nat) : (n : Int) / 2 ^ (8 * j) % 256 = ((UInt8.ofNat (n / 256 ^ j % 256)).toNat : Int) := by
  rw [byte_digit, ← pow8]
  simp
/-- What stands in memory with the lowest j bytes laid. -/
def Laid (w wr : World) (g n k j : Nat) : Prop := BytesAt wr g (fill n k j) ∧ (∀ i, i < k → wr.frozen? ⟨g, i, none⟩ = false) ∧ Below w.heap.size w wr ∧ w.heap.size ≤ g
theorem Laid.step {w wr : World} {g n k j : Nat} (h : Laid w wr g n k j) (hj : j < k) {d : Int} (hd : d = ((UInt8.ofNat (n / 256 ^ j % 256)).toNat : Int)) : Laid w (wr.setCell ⟨g, k - 1 - j, none⟩ (.int .u8 d)) g n k (j + 1) := by
  obtain ⟨h1, h2, h3, h4⟩ := h
  subst hd
  refine ⟨?_, ?_, h3.setCell (by exact h4) _, h4⟩
  · rw [← fill_step n k j hj]
    exact h1.set (by rw [fill_length _ _ _ (by omega)]; omega) _
  · intro i hi
    rw [World.frozen?_setCell]
    exact h2 i hi
theorem Laid.at_ {w wr : World} {g n k j : Nat} (h : Laid w wr g n k j) (hj : j < k) : (∃ u, wr.cell? ⟨g, k - 1 - j, none⟩ = some (.int .u8 u)) ∧ wr.frozen? ⟨g, k - 1 - j, none⟩ = false :=
  ⟨⟨_, h.1 (k - 1 - j) (by rw [fill_length _ _ _ (by omega)]; omega)⟩, h.2.1 _ (by omega)⟩
set_option maxHeartbeats 400000 in
theorem put_ok (n k : Nat) (w : World) (h1 : 1 ≤ k) (h7 : k ≤ 7) (hn : n < 256 ^ k) :
    Calls Tryd.prog 26 #[.int .i64 (n : Int), .int .i64 (k : Int)] w fun e w' => e = .returned (.string ⟨(putL n k).toArray⟩) ∧ Below w.heap.size w w' := by
  have hp7 := pow_le7 h7
  have hn56 : n < 72057594037927936 := by omega
  have hsh : (n : Int) / 2 ^ (8 * k) = 0 := by
    have : ((n / 2 ^ (8 * k) : Nat) : Int) = 0 := by rw [pow8, Nat.div_eq_of_lt hn]; rfl
    simpa using this
  obtain ⟨i0, hi, hz0, hz1, hz2⟩ := info_parts infoByte
  have hmk := fun W => run_make_rowN (P := Tryd.prog) 43 5 i0 (.int .u8 0) Tryd.underlying43 hi hz0 .i64 .i64 k k (Nat.le_refl _) (by rw [hz2]; omega) (by omega) W
  rw [hz1] at hmk
  clear hi hz0 hz1 hz2
  go_enter Tryd.func26, Tryd.ntmps26
  go_wp2
  refine fresh_world (fun wx => Laid w wx w.heap.size n k 0) ⟨by rw [fill_start]; exact made_bytes w k, fun i _ => ?_, (Below.refl _ _).alloc (Nat.le_refl _) _, Nat.le_refl _⟩ ?_
  · have := World.frozen?_alloc_mark w (madeCells #[.int .u8 0] k) 5 0 0 i
    exact this.trans (by simp)
  intro W2 hL
  generalize hg : w.heap.size = g at hL ⊢
  have hgH := Lib.hid hg
  clear hg hmk hsh
  go_loopw [27] (fun i wr => ∃ j : Nat, j ≤ k ∧ i = .int .i64 (j : Int) ∧ Laid w wr g n k j) (fun i _ => k - (intOf i).toNat)
  case atStart => exact ⟨0, by omega, rfl, hL⟩
  case round =>
    clear hL
    obtain ⟨j, hj, rfl, hL⟩ := hrel
    by_cases hlt : j < k
    · obtain ⟨⟨u, hc⟩, hf⟩ := hL.at_ hlt
      have hLH := Lib.hid hL
      clear hL
      have hi1 : ((k : Int) - 1 - (j : Int)).toNat = k - 1 - j := by omega
      go_wp2
      go_roundw
      case rel => exact ⟨j + 1, by omega, by go_num, hLH.out.step hlt (digit_int n j)⟩
      case measure => simp [intOf]; omega
    · obtain rfl : j = k := by omega
      have hB := hL.1
      have hW := hL.2.2.1
      rw [fill_end] at hB
      have hcb : (convert 43 9 (.slice (some ⟨g, 0, none⟩) j j)).run Tryd.prog wr = .ok (.string ⟨(putL n j).toArray⟩) wr :=
        back hB (putL_length n j) Tryd.underlying43 Tryd.underlying5 Tryd.underlying9
      clear hL hB
      go_wp2
      go_ret
      exact ⟨rfl, hW⟩
end Go.Proofs.YtbgkmppngnedlabDoor
namespace Go.Proofs.YtbgkmppngnedlabDoor
open Go.RowKit Num
theorem put_bad (n k : Int) (w : World) (h : k < 1 ∨ 7 < k ∨ n < 0) :
    Calls Tryd.prog 26 #[.int .i64 n, .int .i64 k] w fun e w' => e = .returned (.string ByteArray.empty) ∧ w = w' := by
  by_cases h1 : k < 1
  · go_enter Tryd.func26, Tryd.ntmps26
    go_wp2
    go_ret
    exact ⟨rfl, rfl⟩
  by_cases h2 : 7 < k
  · go_enter Tryd.func26, Tryd.ntmps26
    go_wp2
    go_ret
    exact ⟨rfl, rfl⟩
  have h3 : n < 0 := by omega
  go_enter Tryd.func26, Tryd.ntmps26
  go_wp2
  go_ret
  exact ⟨rfl, rfl⟩
theorem put_great (n k : Nat) (w : World) (h1 : 1 ≤ k) (h7 : k ≤ 7) (hn : 256 ^ k ≤ n) :
    Calls Tryd.prog 26 #[.int .i64 (n : Int), .int .i64 (k : Int)] w fun e w' => e = .returned (.string ByteArray.empty) ∧ w = w' := by
  have hsh : ((n : Int) / 2 ^ (8 * k) == 0) = false := by
    rw [beq_eq_false_iff_ne]
    have h2 : 0 < 256 ^ k := Nat.pow_pos (by omega)
    have h3 : 1 ≤ n / 2 ^ (8 * k) := by rw [pow8]; exact (Nat.le_div_iff_mul_le h2).2 (by omega)
    have h4 : ((n / 2 ^ (8 * k) : Nat) : Int) = (n : Int) / 2 ^ (8 * k) := by simp
    omega
  have hsh2 : ((n : Int) / 2 ^ (8 * k) != 0) = true := by rw [bne, hsh]; rfl
  go_enter Tryd.func26, Tryd.ntmps26
  go_wp2
  go_ret
  exact ⟨rfl, rfl⟩
theorem take_snoc' (s : ByteArray) (k : Nat) (h : k < s.size) : s.data.toList.take (k + 1) = s.data.toList.take k ++ [s[k]] := by
  rw [List.take_succ_eq_append_getElem (by simpa using h)]; rfl
theorem ofInt_i64 (a : Nat) (ha : a < 9223372036854775808) : (BitVec.ofInt 64 (a : Int)).toNat = a := by
  rw [BitVec.ofInt_natCast, BitVec.toNat_ofNat]; exact Nat.mod_eq_of_lt (by omega)
theorem i64_or_nat (a b : Nat) (ha : a < 9223372036854775808) (hb : b < 9223372036854775808) : bits .or .i64 (a : Int) (b : Int) = ((a ||| b : Nat) : Int) := by
  have hx : a ||| b < 2 ^ 63 := Nat.or_lt_two_pow (by omega) (by omega)
  show IntKind.i64.wrap ((BitVec.ofInt 64 (a : Int) ||| BitVec.ofInt 64 (b : Int)).toNat : Int) = _
  rw [BitVec.toNat_or, ofInt_i64 a ha, ofInt_i64 b hb, IntKind.wrap_i64]
  omega
theorem or_byte (m : Nat) (b : UInt8) (hm : m < 281474976710656) : bits .or .i64 ((m : Int) * 256) (wrap64 (b.toNat : Int)) = ((m * 256 + b.toNat : Nat) : Int) := by
  have hb := b.toNat_lt
  rw [IntWalk.wrap64_in _ ⟨by omega, by omega⟩, show (m : Int) * 256 = ((m * 256 : Nat) : Int) by omega, i64_or_nat _ _ (by omega) (by omega), nat_join 8 _ _ (by omega) (by omega)]
theorem ret_get {a b : Int} (h : a = b) : Ending.returned (.tuple #[.int .i64 a, .bool true]) = .returned (.tuple #[.int .i64 b, .bool true]) := by rw [h]
end Go.Proofs.YtbgkmppngnedlabDoor
namespace Go.Proofs.YtbgkmppngnedlabDoor
open Go.RowKit Num
/-- The text of a number: empty where it can't be written so. -/
def putS (n k : Int) : ByteArray := if 1 ≤ k ∧ k ≤ 7 ∧ 0 ≤ n ∧ n.toNat < 256 ^ k.toNat then ⟨(putL n.toNat k.toNat).toArray⟩ else ByteArray.empty
theorem nput_any (n k : Int) (w : World) :
    Calls Tryd.prog 26 #[.int .i64 n, .int .i64 k] w fun e w' => e = .returned (.string (putS n k)) ∧ Below w.heap.size w w' := by
  by_cases h : k < 1 ∨ 7 < k ∨ n < 0
  · have e : putS n k = ByteArray.empty := by unfold putS; rw [if_neg (by omega)]
    rw [e]
    exact (put_bad n k w h).mono fun _ _ ⟨h1, h2⟩ => ⟨h1, by rw [← h2]; exact Below.refl _ _⟩
  · obtain ⟨m, rfl⟩ := Int.eq_ofNat_of_zero_le (show 0 ≤ n by omega)
    obtain ⟨j, rfl⟩ := Int.eq_ofNat_of_zero_le (show 0 ≤ k by omega)
    unfold putS
    simp only [Int.toNat_natCast]
    by_cases h2 : m < 256 ^ j
    · rw [if_pos ⟨by omega, by omega, by omega, h2⟩]
      exact put_ok m j w (by omega) (by omega) h2
    · rw [if_neg (by omega)]
      exact (put_great m j w (by omega) (by omega) (by omega)).mono fun _ _ ⟨h1, h2⟩ => ⟨h1, by rw [← h2]; exact Below.refl _ _⟩
def getN (s : ByteArray) : Int := if 1 ≤ s.size ∧ s.size ≤ 7 then ((numL s.data.toList : Nat) : Int) else 0
def getB (s : ByteArray) : Bool := decide (1 ≤ s.size ∧ s.size ≤ 7)
end Go.Proofs.YtbgkmppngnedlabDoor
