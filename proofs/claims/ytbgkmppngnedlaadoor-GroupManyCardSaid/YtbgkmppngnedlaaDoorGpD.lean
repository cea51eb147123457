/- parse and cut of group. -/
import Derived.Test.YtbgkmppngnedlaaDoorGpE
namespace Go.Proofs.YtbgkmppngnedlaaDoor
open Go.RowKit Rec Crc Num Xor

def PNo (w : World) (e : Ending) (w' : World) : Prop := e = .returned (.tuple #[.int .i64 0, .slice none 0 0, .bool false]) ∧ Below w.heap.size w w'
def PYes (w : World) (s : ByteArray) (e : Ending) (w' : World) : Prop := ∃ A cap, e = .returned (.tuple #[.int .i64 (seqS s), .slice A (cnt s) cap, .bool true]) ∧ geE.Row w' w.heap.size 47 A cap (entS s (cnt s)) ∧ Below w.heap.size w w'
def PPost (w : World) (s : ByteArray) (fg : Bool) (e : Ending) (w' : World) : Prop := (fg = false ∧ PNo w e w') ∨ (fg = true ∧ PYes w s e w')
theorem parse_no1 (s : ByteArray) (w : World) (hf : headOk s = false) : Calls Tryd.prog 22 #[.string s] w (PNo w) := by
  have hBH := Lib.hid (Below.refl w.heap.size w)
  unfold headOk at hf
  unfold PNo
  by_cases h1 : s.size < 64
  · have h1' : (s.size : Int) < 64 := by omega
    clear hf
    go_enter Tryd.func22, Tryd.ntmps22
    go_wp2_with fail
    refine bodyPost_ret (v := .tuple #[.int .i64 0, .slice none 0 0, .bool false]) (by simp [results, Tryd.results22, go_sem]) rfl ⟨rfl, ?_⟩
    exact hBH.out
  have h1' : ¬ (s.size : Int) < 64 := by omega
  have h2 : 2 ≤ s.size := by omega
  have h4 : ¬ s.extract 0 2 = ⟨#[67, 71]⟩ := fun e => by
    rw [decide_eq_true (show 64 ≤ s.size by omega), decide_eq_true e] at hf
    cases hf
  have h5 : ¬ (s.extract 0 2).toList = [67, 71] := fun e => h4 (by
    rw [ByteArray.toList_eq] at e
    exact ByteArray.ext (Array.ext' e))
  have h5b : ((s.extract 0 2).toList == [67, 71]) = false := by simp [h5]
  clear hf h4
  go_enter Tryd.func22, Tryd.ntmps22
  go_wp2_with fail
  refine bodyPost_ret (v := .tuple #[.int .i64 0, .slice none 0 0, .bool false]) (by simp [results, Tryd.results22, go_sem]) rfl ⟨rfl, ?_⟩
  exact hBH.out
theorem getN_lt (s : ByteArray) (h : s.size ≤ 4) : 0 ≤ getN s ∧ getN s < 4294967296 := by
  unfold getN
  split
  · have := numL_lt s.data.toList
    rw [body_len] at this
    have h4 : 256 ^ s.size ≤ 256 ^ 4 := Nat.pow_le_pow_right (by omega) h
    omega
  · omega
set_option maxRecDepth 100000 in
set_option maxHeartbeats 4000000 in
theorem parse_rest (s : ByteArray) (w : World) (hs : s.size ≤ maxLen) (hh : headOk s = true) : Calls Tryd.prog 22 #[.string s] w (PPost w s (formG s)) := by
  have hBH := Lib.hid (Below.refl w.heap.size w)
  have hfG : Hid (formG s = (decide (permOk (seqS s) (cnt s)) && emptyB (s.extract (13 + 4 * cnt s) 64))) := Lib.hid (by unfold formG; rw [hh, Bool.true_and])
  unfold headOk at hh
  simp only [Bool.and_eq_true, decide_eq_true_eq] at hh
  obtain ⟨h64, h4⟩ := hh
  have h1' : ¬ (s.size : Int) < 64 := by omega
  have h2 : 2 ≤ s.size := by omega
  have h8 : 8 ≤ s.size := by omega
  have h8I : (8 : Int) ≤ (s.size : Int) := by omega
  have h9 : 8 < s.size := by omega
  have h9I : (8 : Int) < (s.size : Int) := by omega
  have h5 : (s.extract 0 2).toList = [67, 71] := by rw [h4, ByteArray.toList_eq]
  have h5b : ((s.extract 0 2).toList == [67, 71]) = true := by simp [h5]
  have hg1 := Lib.hid (fun W => (nget_any (s.extract 2 8) W (by rw [ByteArray.size_extract]; omega)).mono (fun e w' h => (⟨h.1, h.2.symm⟩ : _ ∧ w' = W)))
  obtain ⟨q, hq⟩ : ∃ q, seqS s = q := ⟨_, rfl⟩
  have hqH := Lib.hid hq
  rw [show getN (s.extract 2 8) = q from hq] at hg1
  generalize getB (s.extract 2 8) = gb at hg1
  have hcb : s[8] = byteAt s 8 := by
    unfold byteAt
    rw [List.getD_eq_getElem?_getD, List.getElem?_eq_getElem (by rw [body_len]; exact h9)]
    simp
    rfl
  obtain ⟨c, hc⟩ : ∃ c, cnt s = c := ⟨_, rfl⟩
  have hcc : (s[8].toNat : Int) = (c : Int) := by rw [hcb, ← hc]; rfl
  have hcH := Lib.hid hc
  have hc255 : c ≤ 255 := by rw [← hc]; unfold cnt; have := (byteAt s 8).toNat_lt; omega
  have hpe := Lib.hid (permitted_any q c)
  have hhb := Lib.hid (fun k hk W => headBytes_any k hk W)
  have hcw : IntKind.i64.wrap (c : Int) = (c : Int) := IntWalk.i64_in _ (by omega)
  rw [hq, hc] at hfG
  obtain ⟨fg, hfg⟩ : ∃ fg, formG s = fg := ⟨_, rfl⟩
  rw [hfg] at hfG
  rw [hfg]
  clear hq h4 hcb hc hfg
  by_cases hp : permOk q c
  case neg =>
    rw [decide_eq_false hp] at hpe hfG
    obtain rfl : fg = false := by rw [hfG.out]; rfl
    clear hp hfG
    go_enter Tryd.func22, Tryd.ntmps22
    go_wp2_with fail
    refine (hg1.out _).mono ?_
    rintro e w1 ⟨rfl, hww⟩
    rw [hww]
    clear hww w1
    go_wp2_with fail
    refine (hpe.out _).mono ?_
    rintro e w1 ⟨rfl, hww⟩
    rw [hww]
    clear hww w1
    go_wp2_with fail
    refine bodyPost_ret (v := .tuple #[.int .i64 0, .slice none 0 0, .bool false]) (by simp [results, Tryd.results22, go_sem]) rfl ?_
    exact Or.inl ⟨rfl, rfl, hBH.out⟩
  case pos =>
    have hc6 : 1 ≤ c ∧ c ≤ 6 := hp.2
    rw [decide_eq_true hp] at hpe hfG
    have hem := Lib.hid (fun W => (empty_any (s.extract (13 + 4 * c) 64) W (by unfold maxLen; rw [ByteArray.size_extract]; omega)).mono (fun e w' h => (⟨h.1, h.2.symm⟩ : _ ∧ w' = W)))
    have hhc := Lib.hid (fun W => hhb.out c (by omega) W)
    have ha1 : IntKind.i64.wrap (((9 + 4 * c : Nat) : Int) + 4) = ((13 + 4 * c : Nat) : Int) := by rw [IntWalk.i64_in _ (by omega)]; omega
    obtain ⟨a, ha⟩ : ∃ a, 13 + 4 * c = a := ⟨_, rfl⟩
    obtain ⟨a9, ha9⟩ : ∃ a9, 9 + 4 * c = a9 := ⟨_, rfl⟩
    rw [ha] at hem ha1 hfG
    rw [ha9] at ha1 hhc
    have hal : a ≤ 64 := by omega
    have halI : (a : Int) ≤ 64 := by omega
    have h64I : (64 : Int) ≤ (s.size : Int) := by omega
    clear hp ha ha9
    cases hee : emptyB (s.extract a 64) with
    | false =>
      rw [hee] at hem hfG
      obtain rfl : fg = false := by rw [hfG.out]; rfl
      clear hfG
      go_enter Tryd.func22, Tryd.ntmps22
      go_wp2_with fail
      refine (hg1.out _).mono ?_
      rintro e w1 ⟨rfl, hww⟩
      rw [hww]
      clear hww w1
      go_wp2_with fail
      refine (hpe.out _).mono ?_
      rintro e w1 ⟨rfl, hww⟩
      rw [hww]
      clear hww w1
      go_wp2_with fail
      refine (hhc.out _).mono ?_
      rintro e w1 ⟨rfl, hww⟩
      rw [hww]
      clear hww w1
      go_wp2_with fail
      refine (hem.out _).mono ?_
      rintro e w1 ⟨rfl, hww⟩
      rw [hww]
      clear hww w1
      go_wp2_with fail
      refine bodyPost_ret (v := .tuple #[.int .i64 0, .slice none 0 0, .bool false]) (by simp [results, Tryd.results22, go_sem]) rfl ?_
      exact Or.inl ⟨rfl, rfl, hBH.out⟩
    | true =>
      rw [hee] at hem hfG
      obtain rfl : fg = true := by rw [hfG.out]; rfl
      clear hfG
      have hR0 : Hid (geE.Row w w.heap.size 47 none 0 (entS s 0)) := Lib.hid (Enc.Row.nil _ _ _)
      go_enter Tryd.func22, Tryd.ntmps22
      go_wp2_with fail
      refine (hg1.out _).mono ?_
      rintro e w1 ⟨rfl, hww⟩
      rw [hww]
      clear hww w1
      go_wp2_with fail
      refine (hpe.out _).mono ?_
      rintro e w1 ⟨rfl, hww⟩
      rw [hww]
      clear hww w1
      go_wp2_with fail
      refine (hhc.out _).mono ?_
      rintro e w1 ⟨rfl, hww⟩
      rw [hww]
      clear hww w1
      go_wp2_with fail
      refine (hem.out _).mono ?_
      rintro e w1 ⟨rfl, hww⟩
      rw [hww]
      clear hww w1
      go_wp2_with fail
      clear hg1 hpe hhc hem h5 hcc ha1
      go_loopw [8, 43] (fun sl iv wr => ∃ (k : Nat) (A : Option Addr) (cap : Nat), k ≤ c ∧ iv = .int .i64 (k : Int) ∧ sl = .slice A k cap ∧ Hid (geE.Row wr w.heap.size 47 A cap (entS s k)) ∧ Hid (Below w.heap.size w wr)) (fun _ iv _ => c - (intOf iv).toNat)
      case atStart => exact ⟨0, none, 0, Nat.zero_le _, rfl, rfl, hR0, hBH⟩
      case round =>
        clear hR0 hBH
        obtain ⟨k, A, cap, hkc, rfl, rfl, hR, hB⟩ := hrel
        by_cases hlt : k < c
        case neg =>
          have hke : k = c := by omega
          subst hke
          have hkI : ¬ (k : Int) < (k : Int) := by omega
          go_wp2_with fail
          refine bodyPost_ret (v := .tuple #[.int .i64 q, .slice A k cap, .bool true]) (by simp [results, Tryd.results22, go_sem]) rfl ?_
          exact Or.inr ⟨rfl, A, cap, by rw [hqH.out, hcH.out], by rw [hcH.out]; exact hR.out, hB.out⟩
        case pos =>
          have hkI : (k : Int) < (c : Int) := by omega
          have hkw : IntKind.i64.wrap ((k : Int) + 1) = ((k + 1 : Nat) : Int) := by rw [IntWalk.i64_in _ (by omega)]; rfl
          have hk1 := Lib.hid (fun W => hhb.out k (by omega) W)
          have hk2 := Lib.hid (fun W => hhb.out (k + 1) (by omega) W)
          have hnum : numAt s k = getN (s.extract (9 + 4 * k) (13 + 4 * k)) := rfl
          have hgt := Lib.hid (fun W => (nget_any (s.extract (9 + 4 * k) (13 + 4 * k)) W (by rw [ByteArray.size_extract]; omega)).mono (fun e w' h => (⟨h.1, h.2.symm⟩ : _ ∧ w' = W)))
          have hnb := getN_lt (s.extract (9 + 4 * k) (13 + 4 * k)) (by rw [ByteArray.size_extract]; omega)
          rw [← hnum] at hgt hnb
          have hes := Lib.hid (entS_succ s k)
          obtain ⟨b1, hb1⟩ : ∃ b1, 9 + 4 * k = b1 := ⟨_, rfl⟩
          obtain ⟨b2, hb2⟩ : ∃ b2, 13 + 4 * k = b2 := ⟨_, rfl⟩
          rw [hb1, hb2] at hgt
          rw [hb1] at hk1
          rw [show 9 + 4 * (k + 1) = b2 by omega] at hk2
          have hbb : b1 ≤ b2 := by omega
          have hbs : b2 ≤ s.size := by omega
          have hbbI : (b1 : Int) ≤ (b2 : Int) := by omega
          have hbsI : (b2 : Int) ≤ (s.size : Int) := by omega
          generalize getB (s.extract b1 b2) = gb2 at hgt
          obtain ⟨k1, hk1e⟩ : ∃ k1, k + 1 = k1 := ⟨_, rfl⟩
          rw [hk1e] at hkw hk2 hes
          have hk1H := Lib.hid hk1e
          clear hnum hb1 hb2 hk1e
          generalize numAt s k = nn at hgt hnb hes
          have hmod : nn.tmod 2147483648 = nn % 2147483648 := Int.tmod_eq_emod_of_nonneg hnb.1
          have hmw : IntKind.i64.wrap (nn.tmod 2147483648) = nn % 2147483648 := by rw [hmod]; exact IntWalk.i64_in _ (by omega)
          have hgee : decide (nn ≥ 2147483648) = decide (2147483648 ≤ nn) := rfl
          unfold entOf at hes
          generalize hy1 : nn % 2147483648 = y1 at hmod hmw hes
          generalize hy2 : decide (2147483648 ≤ nn) = y2 at hgee hes
          have hal2 := (Below.refl wr.heap.size wr).alloc (Nat.le_refl _) (.cells #[.int .i64 y1, .bool y2] 47)
          obtain ⟨A', cap', W7, hrun, hrow, hgr, hor⟩ := (hR.out.below hal2).append (P := Tryd.prog) Tryd.underlying28 infGe (by decide) (by decide) (m := wr.heap.size) (x := (y1, y2)) (fun j hj => by
            rw [World.cell?_alloc_new]
            have h2 : j < 2 := hj
            rcases (by omega : j = 0 ∨ j = 1) with rfl | rfl <;> rfl) (by rw [entS_len]; omega) (by have := hB.out.size; have := hal2.size; omega) 28
          rw [entS_len] at hrun
          rw [← hes.out] at hrow
          have hB7 := Lib.hid (show Below w.heap.size w W7 from (hB.out.alloc hB.out.size _).trans ((hR.out.below hal2).grown hgr (by have := hB.out.size; have := hal2.size; omega)))
          have hrunH := Lib.hid hrun
          have hrowH := Lib.hid hrow
          clear hrun hrow hgr hor hal2 hB hnb hy1
          go_wp2_with fail
          refine (hk1.out _).mono ?_
          rintro e w1 ⟨rfl, hww⟩
          rw [hww]
          clear hww w1
          go_wp2_with fail
          refine (hk2.out _).mono ?_
          rintro e w1 ⟨rfl, hww⟩
          rw [hww]
          clear hww w1
          go_wp2_with fail
          refine (hgt.out _).mono ?_
          rintro e w1 ⟨rfl, hww⟩
          rw [hww]
          clear hww w1
          go_wp2_with (at_builtin; refine append_run_wp rfl _ _ _ rfl rfl rfl hrunH.out ?_; clear hrunH)
          go_roundw
          case rel => exact ⟨k1, A', cap', by have := hk1H.out; omega, by go_num, by rw [← hk1H.out], hrowH, hB7⟩
          case measure => simp only [intOf]; have := hk1H.out; omega
end Go.Proofs.YtbgkmppngnedlaaDoor
