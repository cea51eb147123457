/- What the law TopSealed does. -/
import Derived.Test.YtoobjnnbmfmchabDoorCrcBytes
import Derived.Test.YtoobjnnbmfmchabDoorNumWalks
namespace Go.Proofs.YtoobjnnbmfmchabDoor
open Go.RowKit Crc Num

def msk (z : Int) : Nat := (z % 1099511627776).toNat
theorem msk_eq (z : Int) : bits .and .i64 z 1099511627775 = (msk z : Int) := by
  have h := and_mask z 40 1099511627775 rfl (by omega)
  have e : (((2 ^ 40 : Nat)) : Int) = 1099511627776 := by decide
  rw [e] at h
  have e2 : ((1099511627775 : Nat) : Int) = 1099511627775 := rfl
  rw [e2] at h
  rw [h]; unfold msk; omega
theorem msk_lt (z : Int) : msk z < 256 ^ 6 := by
  have : msk z < 1099511627776 := by unfold msk; omega
  have : 256 ^ 6 = 281474976710656 := by decide
  omega
def enc (zs : List Int) : List UInt8 := (zs.map fun z => putL (msk z) 6).flatten
theorem enc_length : ∀ zs : List Int, (enc zs).length = 6 * zs.length
  | [] => rfl
  | z :: zs => by show (putL (msk z) 6 ++ enc zs).length = _; rw [List.length_append, putL_length, enc_length zs, List.length_cons]; omega
theorem enc_snoc (zs : List Int) (z : Int) : enc (zs ++ [z]) = enc zs ++ putL (msk z) 6 := by simp [enc]
theorem enc_at : ∀ (zs : List Int) (k : Nat) (h : k < zs.length), ((enc zs).drop (6 * k)).take 6 = putL (msk zs[k]) 6
  | z :: zs, 0, _ => by
    show List.take 6 (putL (msk z) 6 ++ enc zs) = _
    rw [List.take_left' (putL_length _ _)]; rfl
  | z :: zs, k + 1, h => by
    show List.take 6 (List.drop (6 * (k + 1)) (putL (msk z) 6 ++ enc zs)) = _
    rw [List.drop_append, List.drop_of_length_le (by rw [putL_length]; omega), List.nil_append, putL_length, show 6 * (k + 1) - 6 = 6 * k by omega]
    exact enc_at zs k (by simpa using h)

theorem get_at (st : ByteArray) (zs : List Int) (k j : Nat) (w : World) (hst : st.data.toList = enc (zs.take k)) (hsz : st.size = 6 * k) (hj : j < k) (hz : j < zs.length) :
    Calls Tryd.prog 15 #[.string (st.extract (6 * j) (6 * j + 6))] w fun e w' => e = .returned (.tuple #[.int .i64 (msk zs[j] : Int), .bool true]) ∧ w = w' := by
  have h6 : (st.extract (6 * j) (6 * j + 6)).size = 6 := by rw [ByteArray.size_extract]; omega
  have h := get_ok (st.extract (6 * j) (6 * j + 6)) w (by omega) (by omega)
  have e : (st.extract (6 * j) (6 * j + 6)).data.toList = putL (msk zs[j]) 6 := by
    rw [ByteArray.data_extract, Array.toList_extract, hst]
    have hl : j < (zs.take k).length := by rw [List.length_take]; omega
    have := enc_at (zs.take k) j hl
    rw [List.getElem_take] at this
    rw [← this]
    simp [List.extract]
  rw [e, num_put_of _ _ (msk_lt _)] at h
  exact h

theorem sum_two (s : ByteArray) (b : Nat) (w : World) (hT : Tab w) (hs : s.size ≤ maxLen) (hc : w.cell? ⟨b, 0, none⟩ = some (.string s)) (hd : w.cell? ⟨b, 1, none⟩ = some (.string ⟨#[]⟩)) :
    Calls Tryd.prog 11 #[.slice (some ⟨b, 0, none⟩) 2 2] w fun e w' => e = .returned (.int .u32 (sumI s.data.toList)) ∧ w = w' := by
  have := sum_any [s, ⟨#[]⟩] b 0 2 w hT (by simp) (by
    intro x h
    simp only [List.mem_cons, List.not_mem_nil, or_false] at h
    rcases h with rfl | rfl
    · exact hs
    · decide) (by
    intro i hi
    match i, hi with
    | 0, _ => exact hc
    | 1, _ => exact hd)
  simpa [flat] using this

theorem not_empty {st : ByteArray} (h : st.toList.isEmpty = false) : 0 < st.size := by
  by_cases h0 : st.size = 0
  · obtain rfl : st = ByteArray.empty := by
      rcases st with ⟨⟨l⟩⟩
      obtain rfl : l = [] := by simpa [ByteArray.size] using h0
      rfl
    exact absurd h (by simp)
  · omega

theorem sum_differs (l : List UInt8) (p : Nat) (hp : p < l.length) (y d : UInt8) (hd : d = l[p] ^^^ y) (hy : y ≠ 0) : (sumI (l.set p d) != sumI l) = true := by
  have h := sum_turn l p (l.length - 1 - p) hp y d hd rfl
  rw [bne_iff_ne]
  intro e
  rw [← h] at e
  unfold sumI turnI at e
  rw [bits_xor_u32] at e
  have e2 : sumW l ^^^ turnW (l.length - 1 - p) y = sumW l := BitVec.eq_of_toNat_eq (by omega)
  have e3 := congrArg (fun x => sumW l ^^^ x) e2
  simp only [← BitVec.xor_assoc, BitVec.xor_self, BitVec.zero_xor] at e3
  exact hy (turn_inj _ e3)

theorem sums_sum : sumI (flat [⟨#[49, 50, 51, 52, 53, 54, 55, 56, 57]⟩]) = 3808858755 := by decide +kernel

set_option maxHeartbeats 400000 in
theorem sums_top (w : World) (hT : Tab w) :
    Calls Tryd.prog 13 #[] w fun e w' => e = .returned (.bool true) ∧ Below w.heap.size w w' := by
  have hp := put_ok 258 2 w (by omega) (by omega) (by decide)
  have e1 : putL 258 2 = [1, 2] := by decide
  rw [e1] at hp
  have hpH := Lib.hid hp
  have hTA : ∀ wx, Below w.heap.size w wx → Tab wx := fun wx h => hT.below h
  have hTH := Lib.hid hTA
  clear hp e1 hT hTA
  go_enter Tryd.func13, Tryd.ntmps13
  go_wp2_with (go_at_call 14; refine hpH.out.mono ?_; rintro e w1 ⟨rfl, hb⟩)
  have hb2 := hb.alloc hb.size (.cells #[.string ⟨#[49, 50, 51, 52, 53, 54, 55, 56, 57]⟩] 9)
  have hS := sum_one ⟨#[49, 50, 51, 52, 53, 54, 55, 56, 57]⟩ w1.heap.size _ (hTH.out _ hb2) (by decide) (by go_simp)
  have e2 : sumI (⟨#[49, 50, 51, 52, 53, 54, 55, 56, 57]⟩ : ByteArray).data.toList = 3808858755 := sums_sum
  rw [e2] at hS
  refine hS.mono ?_
  rintro e w2 ⟨rfl, rfl⟩
  clear hS e2
  go_wp2
  go_ret
  exact ⟨rfl, hb2⟩

set_option maxRecDepth 100000 in
set_option maxHeartbeats 1000000 in
theorem sealed_any (A : Option Addr) (cap : Nat) (zs : List Int) (x : Int) (y : UInt8) (w : World) (hT : Tab w) (hzl : zs.length ≤ maxLen) (hI : IntsIn w A zs) :
    Calls Tryd.prog 8 #[.slice A zs.length cap, .int .i64 x, .int .u8 (y.toNat : Int)] w fun e w' => e = .returned (.bool true) ∧ Below w.heap.size w w' := by
  unfold maxLen at hzl
  have hTA : ∀ wx, Below w.heap.size w wx → Tab wx := fun wx h => hT.below h
  have hTH := Lib.hid hTA
  have hIH := Lib.hid hI
  clear hT hTA hI
  go_enter Tryd.func8, Tryd.ntmps8
  go_wp2_with (go_at_call 13; refine (sums_top _ (hTH.out _ ?_)).mono ?_; (first | exact Below.refl _ _ | skip); rintro e w1 ⟨rfl, hb⟩)
  go_loopw [7, 8] (fun r i wr => ∃ (k : Nat) (st : ByteArray), k ≤ 200 ∧ k ≤ zs.length ∧ i = .int .i64 (k : Int) ∧ r = .string st ∧ Hid (st.data.toList = enc (zs.take k)) ∧ Below w.heap.size w wr) (fun _ i _ => 200 - (intOf i).toNat)
  case atStart => exact ⟨0, ByteArray.empty, by omega, by omega, rfl, rfl, Lib.hid rfl, hb⟩
  case round =>
    clear hb
    obtain ⟨k, st, hk200, hkz, rfl, rfl, hst, hB⟩ := hrel
    by_cases hlt : k < zs.length ∧ k < 200
    · obtain ⟨h1, h2⟩ := hlt
      have hg1 : decide ((k : Int) < (zs.length : Int)) = true := by simp; omega
      have hg2 : decide ((k : Int) < 200) = true := by simp; omega
      obtain ⟨b, off, rfl, hlt, hc⟩ := (hIH.out.below hB).at_ h1
      have hmask := msk_eq zs[k]
      obtain ⟨t, hput, ht, ht6⟩ : ∃ t : ByteArray, Hid (Calls Tryd.prog 14 #[.int .i64 (msk zs[k] : Int), .int .i64 6] wr fun e w' => e = .returned (.string t) ∧ Below wr.heap.size wr w') ∧ Hid (t.data.toList = putL (msk zs[k]) 6) ∧ t.size ≤ 6 :=
        ⟨⟨(putL (msk zs[k]) 6).toArray⟩, Lib.hid (put_ok (msk zs[k]) 6 wr (by omega) (by omega) (msk_lt _)), Lib.hid rfl, by rw [ofList_size, putL_length]; omega⟩
      have hst12 : st.size ≤ 1200 := by
        have h := congrArg List.length hst.out
        rw [enc_length, List.length_take] at h
        have : st.data.toList.length = st.size := Array.length_toList
        omega
      have hsn := Lib.hid (show enc (zs.take (k + 1)) = enc (zs.take k) ++ putL (msk zs[k]) 6 by rw [List.take_succ_eq_append_getElem h1, enc_snoc])
      generalize zs[k] = c at hc hmask hput hsn ht
      generalize msk c = m at hmask hput hsn ht
      go_wp2_with (go_at_call 14; refine hput.out.mono ?_; rintro e w2 ⟨rfl, hb2⟩)
      have hBn := hB.trans (hb2.mono hB.size)
      go_roundw
      case rel => exact ⟨k + 1, st ++ t, by omega, by omega, by go_num, rfl, Lib.hid (by rw [hsn.out, ← hst.out, ← ht.out]; simp), hBn⟩
      case measure => simp [intOf]; omega
    · have hg2 : k < zs.length → decide ((k : Int) < 200) = false := fun h => by simp; omega
      have hsz : st.size = 6 * k := by
        have h := congrArg List.length hst.out
        rw [enc_length, List.length_take] at h
        have : st.data.toList.length = st.size := Array.length_toList
        omega
      have hszH := Lib.hid hsz
      have hst6 : st.size ≤ 1200 := by omega
      have hst7 : 6 * k ≤ st.size := by omega
      have hst8 : st.size ≤ 6 * k := by omega
      clear hsz
      have h2 : k < zs.length ∨ ¬ k < zs.length := by omega
      rcases h2 with h2 | h2
      case' inl => have hg3 := hg2 h2
      all_goals
        go_wp2
        go_loop [9] (fun i => ∃ j : Nat, j ≤ k ∧ i = .int .i64 (j : Int)) (fun i => k - (intOf i).toNat)
        case atStart => exact ⟨0, by omega, rfl⟩
        case round =>
          obtain ⟨j, hj, rfl⟩ := hrel
          by_cases hjk : j < k
          · have hjz : j < zs.length := by omega
            obtain ⟨b, off, rfl, hlt, hc⟩ := (hIH.out.below hB).at_ hjz
            have hmask := msk_eq zs[j]
            have hget := Lib.hid (get_at st zs k j wr hst.out hszH.out hjk hjz)
            generalize zs[j] = c at hc hmask hget
            generalize msk c = m at hmask hget
            go_wp2_with (go_at_call 15; refine hget.out.mono ?_; rintro e w2 ⟨rfl, rfl⟩)
            go_round
            case rel => exact ⟨j + 1, by omega, by go_num⟩
            case measure => simp [intOf]; omega
          · obtain rfl : j = k := by omega
            have hst9 : st.size ≤ maxLen := by unfold maxLen; omega
            have hcv := fun wx => run_bytes_of_string (P := Tryd.prog) wx 9 31 5 st Tryd.underlying9 Tryd.underlying31 Tryd.underlying5
            have ho1 := hB.alloc hB.size (.cells #[.string st, .string ⟨#[]⟩] 9)
            have ho2 := ho1.alloc ho1.size (.cells #[.string st] 9)
            have hS1 := Lib.hid (sum_two st wr.heap.size _ (hTH.out _ ho1) hst9 (by go_simp) (by go_simp))
            have hS2 := Lib.hid (sum_one st (wr.heap.size + 1) _ (hTH.out _ ho2) hst9 (by go_simp))
            have ho2H := Lib.hid ho2
            clear ho1 ho2 hst9 hg2
            go_upto_region 16 with fail
            rotate_right
            · have hne : st.toList.isEmpty = false ∧ ((y.toNat : Int) == 0) = false := by assumption
              have h0 := not_empty hne.1
              have hy : y ≠ 0 := by rintro rfl; exact absurd hne.2 (by decide)
              clear hS1 hS2 ho2H hne
              obtain ⟨p, hp, hplace, hp1, hp2⟩ := place x st.size h0 (by omega)
              obtain ⟨d, hx, hd⟩ : ∃ d : UInt8, bits .xor .u8 (st.data[p].toNat : Int) (y.toNat : Int) = (d.toNat : Int) ∧ Hid (d = st.data[p] ^^^ y) := ⟨_, u8_xor_bytes _ _, Lib.hid rfl⟩
              have hc0 : ∀ (wx : World) cap fr, (wx.alloc (.cells (bytesRow st cap) 5 fr)).cell? ⟨wx.heap.size, p, none⟩ = some (.int .u8 (st.data[p].toNat : Int)) := fun wx cap fr => by
                have := BytesAt.new wx st cap 5 fr p (by simpa using hp)
                simpa using this
              have hf0 : ∀ (wx : World) cap, (wx.alloc (.cells (bytesRow st cap) 5 ((bytesRow st cap).size, (bytesRow st cap).size + 1))).frozen? ⟨wx.heap.size, p, none⟩ = false := fun wx cap => by
                rw [World.frozen?_alloc_mark]
                have : p < (bytesRow st cap).size := by unfold bytesRow; simp; omega
                simp; omega
              go_upto_region 19 with fail
              clear hcv hc0 hf0 hx hplace
              refine fresh_world (fun wx => BytesAt wx wr.heap.size (st.data.toList.set p d) ∧ Below w.heap.size w wx) ?_ ?_
              · have h1 := BytesAt.new wr st (grownCap wr st.size 0 5) 5 ((bytesRow st (grownCap wr st.size 0 5)).size, (bytesRow st (grownCap wr st.size 0 5)).size + 1)
                have hz := hB.size
                refine ⟨h1.set (p := p) (by simpa using hp) d, ?_⟩
                exact ((hB.alloc hz _).drew).setCell hz _
              · rintro W2 ⟨hBy, hW⟩
                generalize grownCap wr st.size 0 5 = cap2
                generalize wr.heap.size = g at hBy ⊢
                have hlen : (st.data.toList.set p d).length = st.size := by simp
                have hts : (⟨(st.data.toList.set p d).toArray⟩ : ByteArray).size ≤ maxLen := by
                  rw [(ofList_size _).trans hlen]; unfold maxLen; omega
                have hst9 : st.size ≤ maxLen := by unfold maxLen; omega
                have b1 := fun o => (Below.refl W2.heap.size W2).alloc (Nat.le_refl _) o
                have b2 := fun o o' => (b1 o).alloc (by simp) o'
                have hcb : (convert 31 9 (.slice (some ⟨g, 0, none⟩) st.size cap2)).run Tryd.prog W2 = .ok (.string ⟨(st.data.toList.set p d).toArray⟩) W2 :=
                  back hBy hlen Tryd.underlying31 Tryd.underlying5 Tryd.underlying9
                have hcb2 : ∀ o o', (convert 31 9 (.slice (some ⟨g, 0, none⟩) st.size cap2)).run Tryd.prog ((W2.alloc o).alloc o') = .ok (.string ⟨(st.data.toList.set p d).toArray⟩) ((W2.alloc o).alloc o') := fun o o' =>
                  back (hBy.below (b2 o o')) hlen Tryd.underlying31 Tryd.underlying5 Tryd.underlying9
                have hfin := Lib.hid (sum_turn st.data.toList p (st.size - 1 - p) (by simpa using hp) y d (by have := hd.out; simpa using this) (by simp))
                have hdif := sum_differs st.data.toList p (by simpa using hp) y d (by have := hd.out; simpa using this) hy
                obtain ⟨t, ht⟩ : ∃ t : ByteArray, t = ⟨(st.data.toList.set p d).toArray⟩ := ⟨_, rfl⟩
                rw [← ht] at hcb hts
                have hcb2' : ∀ o o', (convert 31 9 (.slice (some ⟨g, 0, none⟩) st.size cap2)).run Tryd.prog ((W2.alloc o).alloc o') = .ok (.string t) ((W2.alloc o).alloc o') := fun o o' => by rw [ht]; exact hcb2 o o'
                have htl : t.data.toList = st.data.toList.set p d := by rw [ht]
                rw [← htl] at hfin hdif
                have w1' := hW.trans ((b1 (.cells #[.string t] 9)).mono hW.size)
                have w2' := w1'.alloc w1'.size (.cells #[.string st] 9)
                have w3' := w2'.alloc w2'.size (.cells #[.string t] 9)
                have w4' := w3'.alloc w3'.size (.cells #[.string st] 9)
                have s1 := Lib.hid (sum_one t W2.heap.size _ (hTH.out _ w1') hts (by go_simp))
                have s2 := Lib.hid (sum_one st (W2.heap.size + 1) _ (hTH.out _ w2') hst9 (by go_simp))
                have s3 := Lib.hid (sum_one t (W2.heap.size + 1 + 1) _ (hTH.out _ w3') hts (by go_simp))
                have s4 := Lib.hid (sum_one st (W2.heap.size + 1 + 1 + 1) _ (hTH.out _ w4') hst9 (by go_simp))
                have s5a := turn_any (st.size - 1 - p) y _ (hTH.out _ w4') (by omega)
                rw [show ((st.size - 1 - p : Nat) : Int) = (st.size : Int) - 1 - (p : Int) by omega] at s5a
                have s5 := Lib.hid s5a
                have w4H := Lib.hid w4'
                clear hBy hlen hts hst9 b1 b2 hcb2 ht htl w1' w2' w3' w4' s5a
                go_wp2_with fail
                refine s1.out.mono ?_
                rintro e w2 ⟨rfl, rfl⟩
                go_wp2_with fail
                refine s2.out.mono ?_
                rintro e w2 ⟨rfl, rfl⟩
                go_wp2_with fail
                refine s3.out.mono ?_
                rintro e w2 ⟨rfl, rfl⟩
                go_wp2_with fail
                refine s4.out.mono ?_
                rintro e w2 ⟨rfl, rfl⟩
                go_wp2_with fail
                refine s5.out.mono ?_
                rintro e w2 ⟨rfl, rfl⟩
                go_wp2_with fail
                go_ret
                exact ⟨by rw [hfin.out]; simp, w4H.out⟩
            all_goals
              refine hS1.out.mono ?_
              rintro e w2 ⟨rfl, rfl⟩
              go_wp2_with fail
              refine hS2.out.mono ?_
              rintro e w2 ⟨rfl, rfl⟩
              go_wp2
              go_ret
              exact ⟨by simp, ho2H.out⟩
end Go.Proofs.YtoobjnnbmfmchabDoor
