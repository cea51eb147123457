/- What the document's Restore does. -/
import Derived.Test.YtonoanjakfaloaaSpRes
namespace Go.Proofs.Ytonoanjakfaloaa
open Go.RowKit Sp Xor

/-- Sixty-four bytes of the call's own. -/
structure SbW (w W : World) (g : Nat) (F : Nat → UInt8) : Prop where
  by_ : ∀ j, j < 64 → W.cell? ⟨g, j, none⟩ = some (.int .u8 ((F j).toNat : Int))
  fr : ∀ j, j < 64 → W.frozen? ⟨g, j, none⟩ = false
  bw : Below w.heap.size w W
  ge : w.heap.size ≤ g
theorem SbW.set {w W : World} {g : Nat} {F G : Nat → UInt8} (h : SbW w W g F) {k : Nat} (d : UInt8) (hd : d = G k) (hk : k < 64) (hG : ∀ j, j ≠ k → G j = F j) : SbW w (W.setCell ⟨g, k, none⟩ (.int .u8 (d.toNat : Int))) g G := by
  refine ⟨fun j hj => ?_, fun j hj => by rw [World.frozen?_setCell]; exact h.fr j hj, h.bw.setCell h.ge _, h.ge⟩
  by_cases e : k = j
  · subst e
    rw [← hd]
    exact World.cell?_setCell_same' _ _ _ (by rw [h.by_ k hk]; rfl)
  · rw [hG j (fun e' => e e'.symm)]
    exact (World.cell?_setCell_other _ _ _ _ (by intro e'; injection e' with _ e'; exact e e')).trans (h.by_ j hj)
theorem SbW.drew {w W : World} {g : Nat} {F : Nat → UInt8} (h : SbW w W g F) : SbW w W.drew g F := ⟨h.by_, h.fr, h.bw.drew, h.ge⟩
theorem SbW.congr {w W : World} {g : Nat} {F G : Nat → UInt8} (h : SbW w W g F) (e : ∀ j, j < 64 → G j = F j) : SbW w W g G := ⟨fun j hj => by rw [e j hj]; exact h.by_ j hj, h.fr, h.bw, h.ge⟩
theorem SbW.back {w W : World} {g cap : Nat} {F : Nat → UInt8} (h : SbW w W g F) : (convert 91 9 (.slice (some ⟨g, 0, none⟩) 64 cap)).run Try.prog W = .ok (.string (textOf F 64)) W := by
  have hB : BytesAt W g ((List.range 64).map F) := fun j hj => by
    rw [h.by_ j (by simpa using hj)]
    simp
  exact Go.Proofs.Ytonoanjakfaloaa.back hB (by simp) Try.underlying91 Try.underlying5 Try.underlying9
theorem SbW.new {w W : World} (hb : Below w.heap.size w W) (s : ByteArray) (hs : s.size = 64) (cap : Nat) :
    SbW w (W.alloc (.cells (bytesRow s cap) 5 ((bytesRow s cap).size, (bytesRow s cap).size + 1))) W.heap.size (byteAt s) := by
  have hn := BytesAt.new W s cap 5 ((bytesRow s cap).size, (bytesRow s cap).size + 1)
  refine ⟨fun j hj => ?_, fun j hj => ?_, hb.alloc hb.size _, hb.size⟩
  · rw [hn j (by rw [Array.length_toList]; show j < s.size; omega)]
    rw [byteAt_lt (show j < s.size by omega)]
    rfl
  · have : j < (bytesRow s cap).size := by unfold bytesRow; simp; omega
    have e := World.frozen?_alloc_mark W (bytesRow s cap) 5 (bytesRow s cap).size ((bytesRow s cap).size + 1) j
    exact e.trans (by simp; omega)
/-- Those others among the first i. -/
def othU (ps : List ByteArray) (k i : Nat) : List ByteArray := (ps.take i).eraseIdx k
theorem othU_skip {ps : List ByteArray} {k : Nat} (hk : k < ps.length) : othU ps k (k + 1) = othU ps k k := by
  unfold othU
  rw [List.take_succ_eq_append_getElem hk, List.eraseIdx_append_of_length_le (by simp; omega), List.length_take, show k - min k ps.length = 0 by omega, List.eraseIdx_of_length_le (l := ps.take k) (by simp; omega)]
  simp
theorem othU_more {ps : List ByteArray} {k i : Nat} (hi : i < ps.length) (hne : ¬ i = k) : othU ps k (i + 1) = othU ps k i ++ [ps[i]] := by
  unfold othU
  rw [List.take_succ_eq_append_getElem hi]
  by_cases h : k < i
  · rw [List.eraseIdx_append_of_lt_length (by simp; omega)]
  · rw [List.eraseIdx_append_of_length_le (by simp; omega), List.eraseIdx_of_length_le (l := ps.take i) (by simp; omega), List.eraseIdx_of_length_le (by simp; omega)]
theorem othU_all {ps : List ByteArray} {k : Nat} : othU ps k ps.length = othersOf ps k := by
  unfold othU othersOf
  rw [List.take_length, List.eraseIdx_eq_take_drop_succ]
theorem othU_mem {ps : List ByteArray} {k i : Nat} (hi : i < ps.length) (hne : ¬ i = k) : ps[i] ∈ othersOf ps k := by
  unfold othersOf
  rcases Nat.lt_or_gt_of_ne hne with h | h
  · exact List.mem_append_left _ (List.mem_take_iff_getElem.2 ⟨i, by omega, rfl⟩)
  · refine List.mem_append_right _ (List.mem_drop_iff_getElem.2 ⟨i - (k + 1), by omega, ?_⟩)
    congr 1
    omega
/-- The sum so far. -/
def sumU (p : ByteArray) (O : List ByteArray) (t : Nat) : UInt8 := byteAt p t ^^^ xorAt O t
theorem sumU_more (p : ByteArray) (O : List ByteArray) (q : ByteArray) (t : Nat) : sumU p (O ++ [q]) t = sumU p O t ^^^ byteAt q t := by
  unfold sumU
  rw [xorAt_snoc, UInt8.xor_assoc]
theorem sumU_text {p : ByteArray} {O : List ByteArray} (hp : p.size = 64) (hO : ∀ q ∈ O, q.size = 64) : textOf (sumU p O) 64 = foldS [p, foldS O] := by
  have hl : longest O ≤ 64 := longest_le fun q hq => by rw [hO q hq]; exact Nat.le_refl _
  refine text_ext ?_ fun i hi => ?_
  · rw [size_textOf, size_two, size_foldS]; omega
  · rw [size_textOf] at hi
    rw [byteAt_textOf, if_pos hi, byteAt_foldS, xorAt_two, byteAt_foldS]
    rfl
def RrPost (w : World) (v : ByteArray) (c : Int) (e : Ending) (w' : World) : Prop := e = .returned (.tuple #[.string v, .int .i64 c]) ∧ Below w.heap.size w w'
set_option maxRecDepth 100000 in
set_option maxHeartbeats 4000000 in
theorem rrestore_any (p : ByteArray) (A : Option Addr) (cap : Nat) (ps : List ByteArray) (x : Int) (w : World) (hS : StrsIn w A ps) (hl : ps.length ≤ 900000) (hz : ∀ q ∈ ps, q.size ≤ maxLen) :
    Calls Try.prog 22 #[.string p, .slice A ps.length cap, .int .i64 x] w (RrPost w (resV p ps x) (resE p ps x)) := by
  have bad : ∀ (h : resBad p ps x = true), RrPost w (resV p ps x) (resE p ps x) = RrPost w ⟨#[]⟩ 1 := fun h => by rw [(res_bad h).1, (res_bad h).2]
  by_cases h0 : x < 0
  · rw [bad (by unfold resBad; rw [(elB_out (by omega)).2]; rfl)]
    clear bad hS hz
    go_enter Try.func22, Try.ntmps22
    go_wp2
    go_ret2
    exact ⟨rfl, Below.refl _ _⟩
  by_cases h1 : (ps.length : Int) ≤ x
  · rw [bad (by unfold resBad; rw [(elB_out (by omega)).2]; rfl)]
    clear bad hS hz
    go_enter Try.func22, Try.ntmps22
    go_wp2
    go_ret2
    exact ⟨rfl, Below.refl _ _⟩
  obtain ⟨k, rfl⟩ := Int.eq_ofNat_of_zero_le (show 0 ≤ x by omega)
  have hk : k < ps.length := by omega
  by_cases h2 : p.size = 64
  case neg =>
    have h2b : ¬ (p.size : Int) = 64 := by omega
    rw [bad (by unfold resBad noB; rw [decide_eq_false h2]; simp)]
    clear bad hS hz h2
    go_enter Try.func22, Try.ntmps22
    go_wp2
    go_ret2
    exact ⟨rfl, Below.refl _ _⟩
  case pos =>
    have h2b : (p.size : Int) = 64 := by omega
    have hpH := Lib.hid h2
    have hbadH := Lib.hid bad
    have hSH := Lib.hid hS
    have hzH := Lib.hid hz
    have hcv := fun wx => run_bytes_of_string (P := Try.prog) wx 9 91 5 p Try.underlying9 Try.underlying91 Try.underlying5
    have hn := (SbW.new (w := w) (W := w) (Below.refl _ _) p h2 (grownCap w 64 0 5)).drew
    rw [h2] at hcv
    have hnH := Lib.hid hn
    clear bad hS hz hn
    go_enter Try.func22, Try.ntmps22
    go_upto_region 4 with fail
    clear hcv
    refine fresh_world (fun W => SbW w W w.heap.size (byteAt p)) hnH.out ?_
    clear hnH
    generalize grownCap w 64 0 5 = cp
    obtain ⟨g, hg⟩ : ∃ g, g = w.heap.size := ⟨_, rfl⟩
    rw [← hg]
    have hgH := Lib.hid hg
    clear hg
    intro W hW
    have hWH := Lib.hid hW
    clear hW
    go_wp2_with fail
    go_loopw [9] (fun s9 wr => ∃ i : Nat, i ≤ ps.length ∧ s9 = .int .i64 (i : Int) ∧ Hid ((othU ps k i).any noB = false) ∧ SbW w wr g (sumU p (othU ps k i))) (fun s _ => ps.length - (intOf s).toNat)
    case atStart => exact ⟨0, Nat.zero_le _, rfl, Lib.hid rfl, hWH.out.congr fun j _ => by unfold sumU othU; simp [xorAt]⟩
    case round =>
      clear hWH
      obtain ⟨i, hi, rfl, hno, hS⟩ := hrel
      by_cases hlt : i < ps.length
      case neg =>
        have e : i = ps.length := by omega
        subst e
        rw [othU_all] at hno hS
        have hb : resBad p ps (k : Int) = false := by
          unfold resBad
          rw [(elB_in hk).2, Int.toNat_natCast, hno.out]
          unfold noB
          rw [decide_eq_true hpH.out]; rfl
        have hO : ∀ q ∈ othersOf ps k, q.size = 64 := fun q hq => noB_false (Bool.eq_false_iff.2 fun e => absurd (List.any_eq_true.2 ⟨q, hq, e⟩) (by rw [hno.out]; decide))
        have hcb := hS.back (cap := cp)
        rw [sumU_text hpH.out hO] at hcb
        have hF : RrPost w (resV p ps (k : Int)) (resE p ps (k : Int)) (.returned (.tuple #[.string (foldS [p, foldS (othersOf ps k)]), .int .i64 0])) wr := by
          obtain ⟨e1, e2⟩ := res_good hb
          rw [e1, e2, Int.toNat_natCast]
          exact ⟨rfl, hS.bw⟩
        have hFH := Lib.hid hF
        clear hF hS hno hb hO hbadH h2 h2b hlt hi
        go_wp2
        go_ret2
        exact hFH.out
      case pos =>
        by_cases hik : i = k
        case pos =>
          subst hik
          have hn : SbW w wr g (sumU p (othU ps i (i + 1))) := by rw [othU_skip hk]; exact hS
          have hno2 : Hid ((othU ps i (i + 1)).any noB = false) := Lib.hid (by rw [othU_skip hk]; exact hno.out)
          have hnH := Lib.hid hn
          have hw1 : IntKind.i64.wrap ((i : Int) + 1) = (i : Int) + 1 := IntWalk.i64_in _ (by omega)
          clear hS hn hno h2 h2b
          go_wp2_with fail
          go_roundw
          case rel => exact ⟨i + 1, by omega, by go_num, hno2, hnH.out⟩
          case measure => simp [intOf]; omega
        case neg =>
          have hmo := othU_more hlt hik
          have hmem := othU_mem hlt hik
          obtain ⟨b, off, rfl, hbl, hc⟩ := hSH.out.at_ hlt
          have hcw : wr.cell? ⟨b, off + i, none⟩ = some (.string ps[i]) := (hS.bw.cell (p := ⟨b, off + i, none⟩) hbl).trans hc
          have hik2 : ¬ (i : Int) = (k : Int) := by omega
          have hzi := hzH.out ps[i] (List.getElem_mem hlt)
          unfold maxLen at hzi
          obtain ⟨q, hq⟩ : ∃ q, q = ps[i] := ⟨_, rfl⟩
          rw [← hq] at hmo hmem hcw hzi hc
          have hqH := Lib.hid hq
          clear hq
          by_cases h6 : q.size = 64
          case neg =>
            have h6b : ¬ (q.size : Int) = 64 := by omega
            have hb : resBad p ps (k : Int) = true := by
              unfold resBad
              rw [Int.toNat_natCast, List.any_eq_true.2 ⟨q, hmem, by unfold noB; rw [decide_eq_false h6]; rfl⟩]
              simp
            have hF : RrPost w (resV p ps (k : Int)) (resE p ps (k : Int)) (.returned (.tuple #[.string ⟨#[]⟩, .int .i64 1])) wr := by
              rw [hbadH.out hb]
              exact ⟨rfl, hS.bw⟩
            have hFH := Lib.hid hF
            clear hF hS hno hb hbadH h2 h2b hmo hmem h6 hc
            go_wp2
            go_ret2
            exact hFH.out
          case pos =>
            have h6b : (q.size : Int) = 64 := by omega
            have hno2 : Hid ((othU ps k (i + 1)).any noB = false) := Lib.hid (by rw [hmo, List.any_append, hno.out]; unfold noB; simp [h6])
            have hsm : ∀ t, sumU p (othU ps k (i + 1)) t = sumU p (othU ps k i) t ^^^ byteAt q t := fun t => by rw [hmo, sumU_more]
            have hsmH := Lib.hid hsm
            have hSH2 := Lib.hid hS
            have h6H := Lib.hid h6
            generalize hF : sumU p (othU ps k i) = F at hSH2 hsmH
            clear hS hno hmo hmem h2 h2b hsm hc hF h6
            have hcq := Lib.hid (fun W (h : Below w.heap.size w W) => (h.cell (p := ⟨b, off + i, none⟩) hbl))
            have hc0 : w.cell? ⟨b, off + i, none⟩ = some (.string q) := (hSH2.out.bw.cell (p := ⟨b, off + i, none⟩) hbl).symm.trans hcw
            have hc0H := Lib.hid hc0
            clear hc0
            go_wp2_with fail
            obtain ⟨wo, hwo⟩ : ∃ wo, wo = wr := ⟨_, rfl⟩
            rw [← hwo] at hSH2 hcw
            go_loopw [10] (fun s wi => ∃ j : Nat, j ≤ 64 ∧ s = .int .i64 (j : Int) ∧ SbW w wi g (fun t => if t < j then F t ^^^ byteAt q t else F t)) (fun s _ => 64 - (intOf s).toNat)
            case atStart => exact ⟨0, Nat.zero_le _, rfl, by subst hwo; exact hSH2.out.congr fun j _ => by simp⟩
            case round =>
              clear hSH2 hcw hwo
              obtain ⟨j, hj, rfl, hS⟩ := hrel
              by_cases hj64 : j < 64
              case neg =>
                obtain rfl : j = 64 := by omega
                have hn : SbW w wr g (sumU p (othU ps k (i + 1))) := hS.congr fun t ht => by rw [hsmH.out t, if_pos ht]
                have hnH := Lib.hid hn
                have hw1 : IntKind.i64.wrap ((i : Int) + 1) = (i : Int) + 1 := IntWalk.i64_in _ (by omega)
                clear hS hn
                go_wp2_with fail
                go_roundw
                case rel => exact ⟨i + 1, by omega, by go_num, hno2, hnH.out⟩
                case measure => simp [intOf]; omega
              case pos =>
                have y0 := hS.by_ j hj64
                rw [if_neg (Nat.lt_irrefl j)] at y0
                have y1 := hS.fr j hj64
                have y2 := (hcq.out _ hS.bw).trans hc0H.out
                have hqj : j < q.size := by have := h6H.out; omega
                have y3 := xor_u8 (F j) q[j]
                have hqb := byteAt_lt hqj
                have hn : SbW w (wr.setCell ⟨g, j, none⟩ (.int .u8 ((F j ^^^ q[j]).toNat : Int))).drew g (fun t => if t < j + 1 then F t ^^^ byteAt q t else F t) := by
                  refine (hS.set (G := fun t => if t < j + 1 then F t ^^^ byteAt q t else F t) (F j ^^^ q[j]) ?_ hj64 fun t ht => ?_).drew
                  · rw [if_pos (Nat.lt_succ_self j), hqb]
                  · by_cases h : t < j
                    · rw [if_pos h, if_pos (by omega)]
                    · rw [if_neg h, if_neg (by omega)]
                have hnH := Lib.hid hn
                have hj1 : (j : Int) < 64 := by omega
                have hw1 : IntKind.i64.wrap ((j : Int) + 1) = (j : Int) + 1 := IntWalk.i64_in _ (by omega)
                clear hS hn hqb
                go_wp2
                go_region
                go_wp2_with fail
                go_roundw
                case rel => exact ⟨j + 1, by omega, by go_num, hnH.out⟩
                case measure => simp [intOf]; omega
end Go.Proofs.Ytonoanjakfaloaa
