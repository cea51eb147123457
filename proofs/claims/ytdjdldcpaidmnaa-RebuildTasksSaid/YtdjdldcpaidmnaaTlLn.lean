/- What Length of tail does. -/
import Derived.Test.YtdjdldcpaidmnaaTlSs
namespace Go.Proofs.Ytdjdldcpaidmnaa
open Go.RowKit Tl

theorem source_any (D Z Bk O Ac zone : Int) (A : Option Addr) (ca : Nat) (B : Option Addr) (cb : Nat) (v : Vw) (block : Int) (w : World) (h : VwIn w A B v) (hl : v.ls.length ≤ 1000000) (hnl : v.ns.length ≤ 1000000) :
    Calls Try.prog 14 #[.agg #[.int .i64 D, .int .i64 Z, .int .i64 Bk, .int .i64 O, .int .i64 Ac], .int .i64 zone, .agg #[.slice A v.ls.length ca, .int .i64 v.m, .slice B v.ns.length cb], .int .i64 block] w (SrPost w (srcV D Z Bk O Ac zone v block)) := by
  cases hp : plB D Z Bk O Ac zone block with
  | false => exact source_no D Z Bk O Ac zone A ca B cb v block w h hl (.inl hp)
  | true =>
    cases hv : okB D Bk v with
    | false => exact source_no D Z Bk O Ac zone A ca B cb v block w h hl (.inr hv)
    | true => rw [src_yes hp hv]; exact source_yes D Z Bk O Ac zone A ca B cb v block w h hl hnl hp hv
def lnP (D Z Bk O Ac zone : Int) (v : Vw) (b : Nat) : Bool := decide ((srcV D Z Bk O Ac zone v (b : Int)).1 ≠ 0)
set_option maxHeartbeats 1000000 in
theorem len1_any (D Z Bk O Ac zone : Int) (A : Option Addr) (ca : Nat) (B : Option Addr) (cb : Nat) (v : Vw) (k : Nat) (bg bz bv : Nat) (W : World) (hg : GeoAt W bg D Z Bk O Ac) (hz : W.cell? ⟨bz, 0, none⟩ = some (.int .i64 zone)) (hvw : VwB W bv A ca B cb v) (hl : v.ls.length ≤ 1000000) (hnl : v.ns.length ≤ 1000000) :
    Calls Try.prog 36 #[.int .i64 (k : Int), .pointer (some ⟨bg, 0, none⟩), .pointer (some ⟨bz, 0, none⟩), .pointer (some ⟨bv, 0, none⟩)] W fun e w' => e = .returned (.bool (lnP D Z Bk O Ac zone v k)) ∧ Below W.heap.size W w' := by
  have hs := Lib.hid (fun W (h : VwIn W A B v) => source_any D Z Bk O Ac zone A ca B cb v (k : Int) W h hl hnl)
  unfold lnP
  generalize srcV D Z Bk O Ac zone v (k : Int) = r at hs ⊢
  obtain ⟨r1, r2⟩ := r
  obtain ⟨q, hq⟩ : ∃ q, decide ((r1, r2).1 ≠ 0) = q := ⟨_, rfl⟩
  rw [hq]
  change decide (r1 ≠ 0) = q at hq
  have hqH := Lib.hid hq
  clear hq
  obtain ⟨h0, h1, h2, h3, h4, _⟩ := hg
  have c0 := hvw.c0
  have c1 := hvw.c1
  have c2 := hvw.c2
  have hi := Lib.hid hvw.i
  clear hvw hl hnl
  go_enter Try.func36, Try.ntmps36
  go_wp2_with fail
  (with_reducible refine (hs.out _ hi.out).mono ?_)
  rintro e w1 ⟨rfl, hb1⟩
  have hF := Lib.hid hb1
  clear hb1 h0 h1 h2 h3 h4 c0 c1 c2 hz
  by_cases hr : r1 = 0
  · obtain rfl : q = false := by rw [← hqH.out]; exact decide_eq_false (fun h => h hr)
    clear hqH
    subst hr
    go_wp2
    go_ret
    exact ⟨rfl, hF.out⟩
  · have hrb : (r1 != 0) = true := by rw [bne_iff_ne]; exact hr
    obtain rfl : q = true := by rw [← hqH.out]; exact decide_eq_true hr
    clear hqH
    go_wp2
    go_ret
    exact ⟨rfl, hF.out⟩
/-- The boxes of Length. -/
structure Ln3 (w W : World) (D Z Bk O Ac zone : Int) (A : Option Addr) (ca : Nat) (B : Option Addr) (cb : Nat) (v : Vw) : Prop where
  g : GeoAt W w.heap.size D Z Bk O Ac
  z : W.cell? ⟨w.heap.size + 1, 0, none⟩ = some (.int .i64 zone)
  vw : VwB W (w.heap.size + 2) A ca B cb v
  bw : Below w.heap.size w W
theorem Ln3.below {w W W' : World} {D Z Bk O Ac zone : Int} {A : Option Addr} {ca : Nat} {B : Option Addr} {cb : Nat} {v : Vw} (h : Ln3 w W D Z Bk O Ac zone A ca B cb v) (hb : Below W.heap.size W W') : Ln3 w W' D Z Bk O Ac zone A ca B cb v :=
  ⟨h.g.below hb, keepC h.z hb, h.vw.below hb, bmore h.bw hb⟩
theorem Ln3.new {w : World} (D Z Bk O Ac zone : Int) {A : Option Addr} {ca : Nat} {B : Option Addr} {cb : Nat} {v : Vw} (h : VwIn w A B v) :
    Ln3 w (((w.alloc (.cells #[.int .i64 D, .int .i64 Z, .int .i64 Bk, .int .i64 O, .int .i64 Ac] 30)).alloc (.cells #[.int .i64 zone] 3)).alloc (.cells #[.slice A v.ls.length ca, .int .i64 v.m, .slice B v.ns.length cb] 39)) D Z Bk O Ac zone A ca B cb v := by
  have s1 := World.size_alloc w (.cells #[.int .i64 D, .int .i64 Z, .int .i64 Bk, .int .i64 O, .int .i64 Ac] 30)
  have g1 := GeoAt.new w D Z Bk O Ac 30
  have b1 := (Below.refl w.heap.size w).alloc (Nat.le_refl _) (.cells #[.int .i64 D, .int .i64 Z, .int .i64 Bk, .int .i64 O, .int .i64 Ac] 30)
  generalize w.alloc (.cells #[.int .i64 D, .int .i64 Z, .int .i64 Bk, .int .i64 O, .int .i64 Ac] 30) = W1 at s1 g1 b1 ⊢
  have s2 := World.size_alloc W1 (.cells #[.int .i64 zone] 3)
  have a2 := (Below.refl W1.heap.size W1).alloc (Nat.le_refl _) (.cells #[.int .i64 zone] 3)
  have z2 := (Boxed.new W1 3 (.int .i64 zone)).cell
  rw [s1] at z2 s2
  have g2 := g1.below a2
  have b2 := bmore b1 a2
  clear a2 g1 b1
  generalize W1.alloc (.cells #[.int .i64 zone] 3) = W2 at s2 z2 g2 b2 ⊢
  have a3 := (Below.refl W2.heap.size W2).alloc (Nat.le_refl _) (.cells #[.slice A v.ls.length ca, .int .i64 v.m, .slice B v.ns.length cb] 39)
  have v3 := VwB.new (ca := ca) (cb := cb) (h.below b2) 39
  rw [s2] at v3
  exact ⟨g2.below a3, keepC z2 a3, v3, bmore b2 a3⟩
set_option maxRecDepth 100000 in
set_option maxHeartbeats 1000000 in
theorem length_any12 (D Z Bk O Ac zone : Int) (A : Option Addr) (ca : Nat) (B : Option Addr) (cb : Nat) (v : Vw) (w : World) (h : VwIn w A B v) (hl : v.ls.length ≤ 1000000) (hnl : v.ns.length ≤ 1000000) :
    Calls Try.prog 12 #[.agg #[.int .i64 D, .int .i64 Z, .int .i64 Bk, .int .i64 O, .int .i64 Ac], .int .i64 zone, .agg #[.slice A v.ls.length ca, .int .i64 v.m, .slice B v.ns.length cb]] w fun e w' => e = .returned (.int .i64 (lenV D Z Bk O Ac zone v : Int)) ∧ Below w.heap.size w w' := by
  have hV := capV_bd D Z Bk O Ac
  obtain ⟨n, hn⟩ := Int.eq_ofNat_of_zero_le hV.1
  have hlen : lenV D Z Bk O Ac zone v = lead (lnP D Z Bk O Ac zone v) n := by unfold lenV; rw [hn, Int.toNat_natCast]; rfl
  have hcp := fun W => cap_any D Z Bk O Ac W
  rw [hn] at hcp hV
  rw [hlen]
  have h1 := Lib.hid (fun k W (h : Ln3 w W D Z Bk O Ac zone A ca B cb v) => len1_any D Z Bk O Ac zone A ca B cb v k w.heap.size (w.heap.size + 1) (w.heap.size + 2) W h.g h.z h.vw hl hnl)
  generalize lnP D Z Bk O Ac zone v = p at h1 ⊢
  have hfi := Lib.hid (fun W x1 x2 x3 (R : World → Prop) (hR : ∀ W W', R W → Below W.heap.size W W' → R W') (hw : R W) hc => firstL_any n (by omega) x1 x2 x3 p R hR W hw hc)
  have hcpH := Lib.hid hcp
  have hN := Lib.hid (Ln3.new D Z Bk O Ac zone (ca := ca) (cb := cb) h)
  clear h hl hnl hV hn hlen hcp
  go_enter Try.func12, Try.ntmps12
  go_upto_region 1 with fail
  refine fresh_world (fun W => Ln3 w W D Z Bk O Ac zone A ca B cb v) hN.out ?_
  clear hN
  rintro W1 hW1
  have hW1H := Lib.hid hW1
  obtain ⟨g0, g1, g2, g3, g4, _⟩ := hW1.g
  clear hW1
  go_wp2_with fail
  (with_reducible refine (hcpH.out _).mono ?_)
  rintro e w2 ⟨rfl, hb2⟩
  have hW2H := Lib.hid (hW1H.out.below hb2)
  clear hW1H hb2 g0 g1 g2 g3 g4
  go_wp2_with fail
  (with_reducible refine (hfi.out _ _ _ _ (fun W => Ln3 w W D Z Bk O Ac zone A ca B cb v) (fun W W' h hb => h.below hb) hW2H.out (fun k _ W h => h1.out k W h)).mono ?_)
  rintro e w3 ⟨rfl, hb3⟩
  have hF := Lib.hid (bmore hW2H.out.bw hb3)
  clear hb3 hW2H
  go_wp2
  go_ret
  exact ⟨rfl, hF.out⟩
end Go.Proofs.Ytdjdldcpaidmnaa
