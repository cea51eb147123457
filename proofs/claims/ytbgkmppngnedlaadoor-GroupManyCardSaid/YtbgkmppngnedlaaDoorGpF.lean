/- cut and Decode of group. -/
import Derived.Test.YtbgkmppngnedlaaDoorGpD
namespace Go.Proofs.YtbgkmppngnedlaaDoor
open Go.RowKit Rec Crc Num Xor

def sumLn (l : List (Int × Bool)) : Nat := (l.map len1).sum
theorem sumLn_cons (x : Int × Bool) (l : List (Int × Bool)) : sumLn (x :: l) = len1 x + sumLn l := by unfold sumLn; simp
theorem sumLn_blk : ∀ l : List (Int × Bool), sumLn l + 64 = 64 * blkE l
  | [] => rfl
  | x :: l => by
    have := sumLn_blk l
    rw [sumLn_cons, blkE_cons, len1_wr]
    omega
theorem cutE_len : ∀ (l : List (Int × Bool)) (d : ByteArray), (cutE l d).length = l.length
  | [], _ => rfl
  | x :: l, d => by show (cutE l _).length + 1 = l.length + 1; rw [cutE_len]
def CutPost (w : World) (l : List (Int × Bool)) (d : ByteArray) (e : Ending) (w' : World) : Prop := ∃ A cap, e = .returned (.slice A (cutE l d).length cap) ∧ stE.Row w' w.heap.size 9 A cap (cutE l d) ∧ Below w.heap.size w w'
set_option maxRecDepth 100000 in
set_option maxHeartbeats 4000000 in
theorem cut_any (w : World) (A : Option Addr) (cap : Nat) (l : List (Int × Bool)) (D : ByteArray) (hI : geE.In w A l) (hl : l.length ≤ 1000) (hD : sumLn l ≤ D.size) (hDm : D.size ≤ maxLen) : Calls Tryd.prog 24 #[.slice A l.length cap, .string D] w (CutPost w l D) := by
  have hIH := Lib.hid (fun W (hb : Below w.heap.size w W) => hI.below hb)
  have hdb := Lib.hid dataBytes_any
  have hB0 := Lib.hid (Below.refl w.heap.size w)
  have hR0 : Hid (stE.Row w w.heap.size 9 none 0 []) := Lib.hid (Enc.Row.nil _ _ _)
  clear hI
  obtain ⟨n, hn⟩ : ∃ n, l.length = n := ⟨_, rfl⟩
  have hst : Hid (cutE l D = [] ++ cutE (l.drop 0) D ∧ sumLn (l.drop 0) ≤ D.size) := Lib.hid ⟨by rw [List.drop_zero]; rfl, by rw [List.drop_zero]; exact hD⟩
  unfold CutPost
  rw [cutE_len, hn]
  rw [hn] at hl
  have hnH := Lib.hid hn
  obtain ⟨T, hT⟩ : ∃ T, cutE l D = T := ⟨_, rfl⟩
  rw [hT] at hst ⊢
  clear hn hD hT
  go_enter Tryd.func24, Tryd.ntmps24
  go_wp2_with fail
  go_loopw [1, 5, 11] (fun dv sl iv wr => ∃ (k : Nat) (d : ByteArray) (A2 : Option Addr) (c2 : Nat) (done : List ByteArray), k ≤ n ∧ iv = .int .i64 (k : Int) ∧ dv = .string d ∧ sl = .slice A2 k c2 ∧ Hid (done.length = k ∧ d.size ≤ maxLen) ∧ Hid (T = done ++ cutE (l.drop k) d ∧ sumLn (l.drop k) ≤ d.size) ∧ Hid (stE.Row wr w.heap.size 9 A2 c2 done) ∧ Hid (Below w.heap.size w wr)) (fun _ _ iv _ => n - (intOf iv).toNat)
  case atStart => exact ⟨0, D, none, 0, [], Nat.zero_le _, rfl, rfl, rfl, Lib.hid ⟨rfl, hDm⟩, hst, hR0, hB0⟩
  case round =>
    clear hst hR0 hB0
    obtain ⟨k, d, A2, c2, done, hkn, rfl, rfl, rfl, hdl, hT, hR, hB⟩ := hrel
    by_cases hlt : k < n
    case neg =>
      have hke : k = n := by omega
      subst hke
      have hkI : ¬ (k : Int) < (k : Int) := by omega
      have hTd : Hid (T = done) := Lib.hid (by have h := hT.out.1; rw [List.drop_eq_nil_of_le (by rw [hnH.out]; exact Nat.le_refl _)] at h; rw [h]; exact List.append_nil _)
      go_wp2_with fail
      go_ret
      exact ⟨A2, c2, rfl, by rw [hTd.out]; exact hR.out, hB.out⟩
    case pos =>
      have hkl : k < l.length := by rw [hnH.out]; exact hlt
      have hkI : (k : Int) < (n : Int) := by omega
      have hkw : IntKind.i64.wrap ((k : Int) + 1) = (k : Int) + 1 := IntWalk.i64_in _ (by omega)
      obtain ⟨eb, eo, rfl, hebl, e0, e1⟩ := ge_at (hIH.out wr hB.out) hkl
      have hdr : l.drop k = l[k] :: l.drop (k + 1) := List.drop_eq_getElem_cons hkl
      generalize l[k] = x at e0 e1 hdr
      have hsl := hT.out.2
      rw [hdr, sumLn_cons] at hsl
      have hT2 := hT.out.1
      rw [hdr] at hT2
      have hT3 : Hid (T = (done ++ [d.extract 0 (len1 x)]) ++ cutE (l.drop (k + 1)) (d.extract (len1 x) d.size) ∧ sumLn (l.drop (k + 1)) ≤ (d.extract (len1 x) d.size).size) := Lib.hid ⟨by rw [hT2, List.append_assoc]; rfl, by rw [ByteArray.size_extract]; omega⟩
      have hdx := Lib.hid (dataBytes_any x)
      have hsz : Hid ((d.extract (len1 x) d.size).size ≤ maxLen) := Lib.hid (by rw [ByteArray.size_extract]; have := hdl.out.2; omega)
      have hal := Lib.hid (hB.out.alloc hB.out.size (.cells #[.int .i64 x.1, .bool x.2] 47))
      have hRa := Lib.hid (hR.out.alloc (.cells #[.int .i64 x.1, .bool x.2] 47))
      have hld : len1 x ≤ d.size := by omega
      have hldI : (len1 x : Int) ≤ (d.size : Int) := by omega
      clear hdr hsl hT2 hdb
      generalize len1 x = lx at hT3 hdx hsz hld hldI
      clear hR hB
      go_upto_region 5 with fail
      clear e0 e1
      refine fresh_world (fun W => W.cell? ⟨wr.heap.size, 0, none⟩ = some (.int .i64 x.1) ∧ W.cell? ⟨wr.heap.size, 1, none⟩ = some (.bool x.2) ∧ stE.Row W w.heap.size 9 A2 c2 done ∧ Below w.heap.size w W) ⟨by go_simp, by go_simp, hRa.out, hal.out⟩ ?_
      clear hRa hal
      rintro W5 ⟨y0, y1, hR5, hB5⟩
      have hR5H := Lib.hid hR5
      have hB5H := Lib.hid hB5
      clear hR5 hB5
      go_wp2_with fail
      refine (hdx.out _).mono ?_
      rintro e w6 ⟨rfl, hb6⟩
      have hal6 := (Below.refl w6.heap.size w6).alloc (Nat.le_refl _) (.cells #[.string (d.extract 0 lx)] 9)
      have hR6 := (hR5H.out.below hb6).below hal6
      obtain ⟨A', cap', W7, hrun, hrow, hgr, hor⟩ := hR6.append (P := Tryd.prog) Tryd.underlying24 infSt (by decide) (by decide) (m := w6.heap.size) (x := d.extract 0 lx) (fun j hj => by
        rw [World.cell?_alloc_new]
        have h1 : j < 1 := hj
        obtain rfl : j = 0 := by omega
        rfl) (by rw [hdl.out.1]; omega) (by have := hB5H.out.size; have := hb6.size; simp; omega) 24
      rw [hdl.out.1] at hrun
      have hB6 := bmore hB5H.out hb6
      have hB7 := Lib.hid (show Below w.heap.size w W7 from (hB6.alloc hB6.size _).trans (hR6.grown hgr (by have := hB6.size; simp; omega)))
      have hrunH := Lib.hid hrun
      have hrowH := Lib.hid hrow
      have hdl2 : Hid ((done ++ [d.extract 0 lx]).length = k + 1) := Lib.hid (by rw [List.length_append, hdl.out.1]; rfl)
      clear hrun hrow hgr hor hR6 hal6 hB6 hb6 y0 y1 hR5H hB5H
      generalize done ++ [d.extract 0 lx] = done2 at hT3 hrowH hdl2
      go_wp2_with (at_builtin; refine append_run_wp rfl _ _ _ rfl rfl rfl hrunH.out ?_; clear hrunH)
      go_roundw
      case rel => exact ⟨k + 1, d.extract lx d.size, A', cap', done2, hlt, by go_num, rfl, by go_num, Lib.hid ⟨hdl2.out, hsz.out⟩, hT3, hrowH, hB7⟩
      case measure => simp only [intOf]; omega
end Go.Proofs.YtbgkmppngnedlaaDoor
