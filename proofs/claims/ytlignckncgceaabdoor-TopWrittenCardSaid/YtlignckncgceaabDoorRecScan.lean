/- What the record's Scan does. -/
import Derived.Test.YtlignckncgceaabDoorRecDecode
import Derived.Test.YtlignckncgceaabDoorRecRow
import Derived.Test.YtlignckncgceaabDoorRecScanM
namespace Go.Proofs.YtlignckncgceaabDoor
open Go.RowKit Rec Crc Num

theorem RRow.append {W : World} {base cap : Nat} {A : Option Addr} {rs : List Rc} {m : Nat} {r : Rc} (hr : RRow W base 29 A cap rs) (hm : RcAt W m r) (hl : rs.length ≤ 1000000) (hb : base ≤ W.heap.size) :
    ∃ A' cap' W', (Builtin.append_ #[38, 38] 38 #[.slice A rs.length cap, .slice (some ⟨m, 0, none⟩) 1 1]).run Tryd.prog W = .ok (.slice A' (rs.length + 1) cap') W' ∧ RRow W' base 29 A' cap' (rs ++ [r]) ∧
      W.grownBy W' (Value.slice A rs.length cap).ownBlock ∧ (A' = A ∨ A' = some ⟨W.heap.size, 0, none⟩) := by
  have hinfo := infoRec
  rw [Option.map_eq_some_iff] at hinfo
  obtain ⟨i, hi, he⟩ := hinfo
  simp only [Prod.mk.injEq, Option.map_eq_some_iff] at he
  obtain ⟨⟨z, hz, hzs⟩, hs, hby⟩ := he
  exact append_rec Tryd.underlying38 hi hz hs hby hzs hr hm hl hb _

set_option maxRecDepth 100000 in
set_option maxHeartbeats 8000000 in
theorem scan_any (s : ByteArray) (w : World) (hs : s.size ≤ 1000000) (hT : Tab w) :
    Calls Tryd.prog 16 #[.string s] w fun e w' => ∃ (l : List Rc) (n : Nat) (A : Option Addr) (cap : Nat), e = .returned (.tuple #[.slice A l.length cap, .int .i64 (n : Int)]) ∧ Scans s l n ∧ RRow w' w.heap.size 29 A cap l ∧ Below w.heap.size w w' := by
  have hTA := Lib.hid (fun W (h : Below w.heap.size w W) => hT.below h)
  have hdec := Lib.hid (fun (t : ByteArray) W (h : Tab W) (ht : t.size ≤ 1000000) => decode_any t W (by unfold maxLen; omega) h)
  clear hT
  go_enter Tryd.func16, Tryd.ntmps16
  go_wp2_with fail
  go_loopw [4, 5] (fun sl st wr => ∃ (l : List Rc) (total : Nat) (A : Option Addr) (cap : Nat), sl = .slice A l.length cap ∧ st = .int .i64 (total : Int) ∧ 64 * total ≤ s.size ∧ (∀ l' k', Scans (s.extract (64 * total) s.size) l' k' → Scans s (l ++ l') (total + k')) ∧ l.length ≤ total ∧ RRow wr w.heap.size 29 A cap l ∧ Below w.heap.size w wr) (fun _ i _ => s.size + 64 - 64 * (intOf i).toNat)
  case atStart => exact ⟨[], 0, none, 0, rfl, rfl, by omega, fun l' k' h => by rw [List.nil_append, Nat.zero_add]; rwa [show 64 * 0 = 0 from rfl, cut_zero] at h, Nat.le_refl _, RRow.nil _ _ _, Below.refl _ _⟩
  case round =>
    obtain ⟨l, total, A, cap, rfl, rfl, h64, hsc, hlt, hrow, hB⟩ := hrel
    have hrowH := Lib.hid hrow
    have hBH := Lib.hid hB
    have hscH := Lib.hid hsc
    have hltH := Lib.hid hlt
    clear hrow hB hsc hlt
    obtain ⟨M, hM⟩ : ∃ M, M = 64 * total := ⟨_, rfl⟩
    have hw1 : IntKind.i64.wrap ((total : Int) * 64) = (M : Int) := by rw [IntWalk.i64_in _ (by omega)]; omega
    have hMs : M ≤ s.size := by omega
    have hMs2 : (M : Int) ≤ (s.size : Int) := by omega
    have hd0 := Lib.hid (fun W (h : Tab W) => hdec.out (s.extract M s.size) W h (by rw [ByteArray.size_extract]; omega))
    by_cases hz : (dec (s.extract M s.size)).2.2 = 0
    case neg =>
      have hne : ((dec (s.extract M s.size)).2.2 != 0) = true := bne_iff_ne.2 hz
      have hfin := Lib.hid (scan_done (a := 64 * total) (by rw [← hM]; exact hz) hscH.out)
      clear hz hscH hM h64
      generalize dec (s.extract M s.size) = d at hd0 hne
      obtain ⟨r0, n0, e0⟩ := d
      dsimp only at hne hd0
      go_wp2_with (go_at_call 14; with_reducible refine (hd0.out _ (hTA.out _ hBH.out)).mono ?_; rintro e w2 ⟨rfl, hb2⟩)
      refine bodyPost_ret (v := .tuple #[.slice A l.length cap, .int .i64 (total : Int)]) (by simp [results, Tryd.results16, go_sem]) rfl ?_
      exact ⟨l, total, A, cap, rfl, hfin.out, (hrowH.out.below hb2).alloc _, hBH.out.trans ((hb2.alloc hb2.size _).mono hBH.out.size)⟩
    case pos =>
      obtain ⟨n, hdn, n1, n2, hroom⟩ := dec_ok hz
      have hsz2 : (s.extract M s.size).size = s.size - M := by rw [ByteArray.size_extract]; omega
      rw [hdn] at hd0
      clear hz
      have hnext := Lib.hid (fun l' k' (h2 : Scans (s.extract (64 * (total + n)) s.size) l' k') => scan_step (a := 64 * total) (by rw [← hM]; exact hdn) hscH.out (by rw [show 64 * total + 64 * n = 64 * (total + n) by omega]; exact h2))
      have hroom2 : 64 * (total + n) ≤ s.size := by omega
      generalize withBody (s.extract M s.size) = r at hd0 hnext
      have hw2 : IntKind.i64.wrap ((total : Int) + (n : Int)) = (total : Int) + (n : Int) := IntWalk.i64_in _ (by omega)
      have hltH2 := Lib.hid (show l.length + 1 ≤ total + n by have := hltH.out; omega)
      have hll : Hid (l.length ≤ 1000000) := Lib.hid (by have := hltH.out; omega)
      have hroomH := Lib.hid hroom2
      have hmeas := Lib.hid (show s.size + 64 - 64 * (total + n) < s.size + 64 - 64 * total by omega)
      clear hdn hscH hroom hsz2 hM h64 hltH hroom2 n1 n2
      dsimp only at hd0
      go_upto_region 6 with (go_at_call 14; with_reducible refine (hd0.out _ (hTA.out _ hBH.out)).mono ?_; rintro e w2 ⟨rfl, hb2⟩)
      have hB2 := hBH.out.trans (hb2.mono hBH.out.size)
      have hrow2 := hrowH.out.below hb2
      have hm2 : RcAt ((w2.alloc (.cells #[.int .i64 r.k, .int .i64 r.s, .int .i64 r.a, .int .i64 r.b, .int .i64 r.c, .int .i64 r.d, .string r.body] 29)).alloc (.cells #[.int .i64 r.k, .int .i64 r.s, .int .i64 r.a, .int .i64 r.b, .int .i64 r.c, .int .i64 r.d, .string r.body] 29)) (w2.heap.size + 1) r := by
        have h := RcAt.new (w2.alloc (.cells #[.int .i64 r.k, .int .i64 r.s, .int .i64 r.a, .int .i64 r.b, .int .i64 r.c, .int .i64 r.d, .string r.body] 29)) r 29
        rwa [World.size_alloc] at h
      obtain ⟨A', cap', w3, hrun, hrow3, hgr, _⟩ := ((hrow2.alloc (.cells #[.int .i64 r.k, .int .i64 r.s, .int .i64 r.a, .int .i64 r.b, .int .i64 r.c, .int .i64 r.d, .string r.body] 29)).alloc (.cells #[.int .i64 r.k, .int .i64 r.s, .int .i64 r.a, .int .i64 r.b, .int .i64 r.c, .int .i64 r.d, .string r.body] 29)).append hm2 hll.out (by have := hB2.size; simp; omega)
      have hB3 : Below w.heap.size w w3 := by
        have hs2 := hB2.size
        exact ((hB2.alloc hs2 _).alloc (by simp; omega) _).trans (((hrow2.alloc _).alloc _).grown hgr (by simp; omega))
      have hrunH := Lib.hid hrun
      have hrow3H := Lib.hid hrow3
      have hB3H := Lib.hid hB3
      clear hm2 hrun hrow3 hB3 hgr hrow2 hB2 hb2 hrowH hBH
      go_wp2_with (at_builtin; refine append_run_wp (by first | rfl | (simp [Region.wanted, yielded])) (.tmp 22) (.tmp 24) 38 rfl rfl rfl hrunH.out ?_)
      go_roundw
      case rel => exact ⟨l ++ [r], total + n, A', cap', by simp, by go_num, hroomH.out, hnext.out, by rw [List.length_append]; exact hltH2.out, hrow3H.out, hB3H.out⟩
      case measure => simp only [intOf]; have := hmeas.out; omega
end Go.Proofs.YtlignckncgceaabDoor
