/- What Decide of mend does. -/
import Derived.Test.YtdnedahbghhpgaaMdV
import Derived.Test.YtdnedahbghhpgaaMdU
import Derived.Test.YtdnedahbghhpgaaNLn
namespace Go.Proofs.Ytdnedahbghhpgaa
open Go.RowKit Tl Pl Md

def DZ : Array Value := #[.int .i64 0, .int .i64 0, .int .i64 0]
/-- The boxes of Decide: the geometry's and the result's. -/
structure DcB (w W : World) (D Z B O A : Int) (k s r : Int) : Prop where
  g : GeoAt W w.heap.size D Z B O A
  z : W.heap[w.heap.size + 1]? = some (.cells #[.int .i64 k, .int .i64 s, .int .i64 r] 70 (0, 0))
  b : Below w.heap.size w W
theorem DcB.below {w W W' : World} {D Z B O A k s r : Int} (h : DcB w W D Z B O A k s r) (hb : Below W.heap.size W W') : DcB w W' D Z B O A k s r :=
  ⟨h.g.below hb, (hb.block _ (Array.getElem?_eq_some_iff.1 h.z).1).trans h.z, bmore h.b hb⟩
theorem DcB.new (w : World) (D Z B O A : Int) : DcB w ((w.alloc (.cells #[.int .i64 D, .int .i64 Z, .int .i64 B, .int .i64 O, .int .i64 A] 37)).alloc (.cells #[.int .i64 0, .int .i64 0, .int .i64 0] 70)) D Z B O A 0 0 0 := by
  have s1 := World.size_alloc w (.cells #[.int .i64 D, .int .i64 Z, .int .i64 B, .int .i64 O, .int .i64 A] 37)
  have g1 := GeoAt.new w D Z B O A 37
  have b1 := (Below.refl w.heap.size w).alloc (Nat.le_refl _) (.cells #[.int .i64 D, .int .i64 Z, .int .i64 B, .int .i64 O, .int .i64 A] 37)
  generalize w.alloc (.cells #[.int .i64 D, .int .i64 Z, .int .i64 B, .int .i64 O, .int .i64 A] 37) = W1 at s1 g1 b1 ⊢
  have a2 := (Below.refl W1.heap.size W1).alloc (Nat.le_refl _) (.cells #[.int .i64 0, .int .i64 0, .int .i64 0] 70)
  have h2 := World.alloc_heap_new W1 (.cells #[.int .i64 0, .int .i64 0, .int .i64 0] 70)
  rw [s1] at h2
  exact ⟨g1.below a2, h2, bmore b1 a2⟩
theorem GeoAt.low {W W' : World} {b k : Nat} {D Z B O A : Int} (h : GeoAt W b D Z B O A) (hb : Below k W W') (hk : b < k) : GeoAt W' b D Z B O A := by
  obtain ⟨h0, h1, h2, h3, h4, h5⟩ := h
  exact ⟨(hb.cell (p := ⟨b, 0, none⟩) hk).trans h0, (hb.cell (p := ⟨b, 1, none⟩) hk).trans h1, (hb.cell (p := ⟨b, 2, none⟩) hk).trans h2, (hb.cell (p := ⟨b, 3, none⟩) hk).trans h3, (hb.cell (p := ⟨b, 4, none⟩) hk).trans h4, Nat.lt_of_lt_of_le h5 hb.size⟩
theorem DcB.put {w W : World} {D Z B O A k s r k' s' r' : Int} (h : DcB w W D Z B O A k s r) : DcB w (((W.setCell ⟨w.heap.size + 1, 0, none⟩ (.int .i64 k')).setCell ⟨w.heap.size + 1, 1, none⟩ (.int .i64 s')).setCell ⟨w.heap.size + 1, 2, none⟩ (.int .i64 r')) D Z B O A k' s' r' := by
  have hs : ∀ W0 j v, GeoAt W0 w.heap.size D Z B O A → GeoAt (W0.setCell ⟨w.heap.size + 1, j, none⟩ v) w.heap.size D Z B O A := fun W0 j v hg => hg.low (Below.setCell (Below.refl (w.heap.size + 1) W0) (Nat.le_refl _) v) (Nat.lt_succ_self _)
  exact ⟨hs _ _ _ (hs _ _ _ (hs _ _ _ h.g)), heap_setV (heap_setV (heap_setV h.z 0 _) 1 _) 2 _, ((h.b.setCell (by show w.heap.size ≤ w.heap.size + 1; omega) _).setCell (by show w.heap.size ≤ w.heap.size + 1; omega) _).setCell (by show w.heap.size ≤ w.heap.size + 1; omega) _⟩
theorem rep_ints {W : World} {G : Nat} {l : List Int} (h : RepW W G (ints l)) : IntsIn W (some ⟨G, 0, none⟩) l := by
  refine .inr ⟨G, 0, rfl, h.lt, fun i hi => ?_⟩
  rw [Nat.zero_add, h.at_ hi, List.getD_eq_getElem?_getD, List.getElem?_eq_getElem hi]; rfl
def DcPost (w : World) (d : Dd) (er : Int) (e : Ending) (w' : World) : Prop := e = .returned (.tuple #[.agg #[.int .i64 d.k, .int .i64 d.s, .int .i64 d.r], .int .i64 er]) ∧ Below w.heap.size w w'
set_option maxRecDepth 100000 in
set_option maxHeartbeats 2000000 in
theorem dec_no (D Z B O A zone told : Int) (A2 : Option Addr) (c2 : Nat) (ls : List Int) (m : Int) (w : World) (h : lnB D Z B O A zone told = false ∨ okB D B ⟨ls, m, []⟩ = false) (hI : IntsIn w A2 ls) (hl : ls.length ≤ 1000000) :
    Calls Try.prog 24 #[.agg #[.int .i64 D, .int .i64 Z, .int .i64 B, .int .i64 O, .int .i64 A], .int .i64 zone, .int .i64 told, .slice A2 ls.length c2, .int .i64 m] w (DcPost w ⟨0, 0, 0⟩ 1) := by
  have hNH := Lib.hid (DcB.new w D Z B O A)
  have hIH := Lib.hid (fun W (hb : Below w.heap.size w W) => hI.below hb)
  have hln := Lib.hid (fun W h => lengths_no D Z B O A zone told h W)
  have hva := Lib.hid (fun W (hb : Below w.heap.size w W) => mvalid_any D Z B O A A2 c2 ls m W (hIH.out W hb) hl)
  clear hI
  cases hlb : lnB D Z B O A zone told with
  | false =>
    clear h
    go_enter Try.func24, Try.ntmps24
    go_upto_region 1 with fail
    refine fresh_world (fun W => DcB w W D Z B O A 0 0 0) hNH.out ?_
    clear hNH
    rintro W1 h1
    obtain ⟨g0, g1, g2, g3, g4, _⟩ := h1.g
    have h1H := Lib.hid h1
    clear h1
    go_wp2_with fail
    (with_reducible refine (hln.out _ hlb).mono ?_)
    rintro e w1 ⟨rfl, hb1⟩
    have h2H := Lib.hid (h1H.out.below hb1)
    clear hb1 h1H g0 g1 g2 g3 g4
    have zf : ∀ j, w1.frozen? ⟨w.heap.size + 1, j, none⟩ = false := fun j => by simp [World.frozen?, h2H.out.z]
    have z0 : w1.cell? ⟨w.heap.size + 1, 0, none⟩ = some (.int .i64 0) := cell_of_row w1 _ 0 _ _ _ h2H.out.z
    have z1 : w1.cell? ⟨w.heap.size + 1, 1, none⟩ = some (.int .i64 0) := cell_of_row w1 _ 1 _ _ _ h2H.out.z
    have z2 : w1.cell? ⟨w.heap.size + 1, 2, none⟩ = some (.int .i64 0) := cell_of_row w1 _ 2 _ _ _ h2H.out.z
    have zl := lt_of_cell z0
    go_wp2_with fail
    refine bodyPost_ret (v := .tuple #[.agg #[.int .i64 0, .int .i64 0, .int .i64 0], .int .i64 1]) (by simp [results, Try.results24, go_sem, z0, z1, z2]) rfl ⟨rfl, ?_⟩
    exact h2H.out.put.b
  | true =>
    have hok : okB D B ⟨ls, m, []⟩ = false := h.resolve_left (by rw [hlb]; decide)
    obtain ⟨wd, z, r, hD, rfl, rfl, hg, hz, hr, hw2, hw15, hr2⟩ := ln_yes hlb
    have hlg := Lib.hid (fun W => lengths_good wd z r D Z B O A hD W hg hz hr)
    have hwn : ¬ ((wd : Int) + 1) = 0 := by omega
    rw [hok] at hva
    clear h hlb hln hg hz hr hD
    go_enter Try.func24, Try.ntmps24
    go_upto_region 1 with fail
    refine fresh_world (fun W => DcB w W D Z B O A 0 0 0) hNH.out ?_
    clear hNH
    rintro W1 h1
    obtain ⟨g0, g1, g2, g3, g4, _⟩ := h1.g
    have h1H := Lib.hid h1
    clear h1
    go_wp2_with fail
    (with_reducible refine (hlg.out _).mono ?_)
    rintro e w1 ⟨G, rfl, _, _, hb1⟩
    have h2 := h1H.out.below hb1
    clear hb1 h1H g0 g1 g2 g3 g4 hlg
    obtain ⟨g0, g1, g2, g3, g4, _⟩ := h2.g
    have h2H := Lib.hid h2
    clear h2
    go_wp2_with fail
    (with_reducible refine (hva.out _ h2H.out.b).mono ?_)
    rintro e w3 ⟨rfl, hb3⟩
    have h2H := Lib.hid (h2H.out.below hb3)
    clear hb3 hva g0 g1 g2 g3 g4
    have zf : ∀ j, w3.frozen? ⟨w.heap.size + 1, j, none⟩ = false := fun j => by simp [World.frozen?, h2H.out.z]
    have z0 : w3.cell? ⟨w.heap.size + 1, 0, none⟩ = some (.int .i64 0) := cell_of_row w3 _ 0 _ _ _ h2H.out.z
    have z1 : w3.cell? ⟨w.heap.size + 1, 1, none⟩ = some (.int .i64 0) := cell_of_row w3 _ 1 _ _ _ h2H.out.z
    have z2 : w3.cell? ⟨w.heap.size + 1, 2, none⟩ = some (.int .i64 0) := cell_of_row w3 _ 2 _ _ _ h2H.out.z
    have zl := lt_of_cell z0
    go_wp2_with fail
    refine bodyPost_ret (v := .tuple #[.agg #[.int .i64 0, .int .i64 0, .int .i64 0], .int .i64 1]) (by simp [results, Try.results24, go_sem, z0, z1, z2]) rfl ⟨rfl, ?_⟩
    exact h2H.out.put.b

/-- The numbers of the last full row. -/
theorem dec_nums {wd r : Nat} {D : Int} (hD : D = (wd : Int) + 1) (hw : 2 ≤ wd) (hw15 : wd ≤ 15) (hr : r ≤ 3840) : ∃ q : Nat, r / wd = q ∧ q ≤ 3840 ∧ IntKind.i64.wrap (D - 1) = (wd : Int) ∧ wrap64 (D - 1) = (wd : Int) ∧ ¬ (wd : Int) = 0 ∧ (r : Int).tdiv (wd : Int) = (q : Int) ∧ IntKind.i64.wrap (q : Int) = (q : Int) ∧ IntKind.i64.wrap ((q : Int) - 1) = (q : Int) - 1 ∧ wrap64 ((q : Int) - 1) = (q : Int) - 1 := by
  have h3 := tdiv_nat r wd
  have h4 : r / wd ≤ r := Nat.div_le_self _ _
  obtain ⟨q, hq⟩ : ∃ q, r / wd = q := ⟨_, rfl⟩
  rw [hq] at h3 h4
  have e : D - 1 = (wd : Int) := by omega
  rw [e]
  exact ⟨q, hq, by omega, IntWalk.i64_in _ (by omega), IntWalk.wrap64_in _ (by omega), by omega, h3, IntWalk.i64_in _ (by omega), IntWalk.i64_in _ (by omega), IntWalk.wrap64_in _ (by omega)⟩
set_option maxRecDepth 100000 in
set_option maxHeartbeats 4000000 in
theorem dec_good (wd z r : Nat) (D Z B O A : Int) (hD : D = (wd : Int) + 1) (A2 : Option Addr) (c2 : Nat) (ls : List Int) (m : Int) (w : World) (hg : GoodP D Z B O A) (hz : (z : Int) ≤ Z - 4) (hr : (r : Int) ≤ (D - 1) * B) (hok : okB D B ⟨ls, m, []⟩ = true) (hI : IntsIn w A2 ls) :
    Calls Try.prog 24 #[.agg #[.int .i64 D, .int .i64 Z, .int .i64 B, .int .i64 O, .int .i64 A], .int .i64 (z : Int), .int .i64 (r : Int), .slice A2 ls.length c2, .int .i64 m] w (DcPost w (decV (lens wd z r) ls m (wd + 1) (r : Int) (((r / wd : Nat) : Int) - 1) (parV D Z B O A (z : Int) (((r / wd : Nat) : Int) - 1))) 0) := by
  have hNH := Lib.hid (DcB.new w D Z B O A)
  have hIH := Lib.hid (fun W (hb : Below w.heap.size w W) => hI.below hb)
  have hw2 : 2 ≤ wd := by have := hg.1; omega
  have hw15 : wd ≤ 15 := by have := hg.2.1; omega
  have hr3 : r ≤ 3840 := by
    have hV := capV_bd D Z B O A
    rw [capV_good hg] at hV
    omega
  have hlen : ls.length = wd + 1 := by
    have := (of_decide_eq_true hok).1
    have e : ((ls.length : Nat) : Int) = D := this
    omega
  have hva := Lib.hid (fun W (hb : Below w.heap.size w W) => mvalid_any D Z B O A A2 c2 ls m W (hIH.out W hb) (by omega))
  rw [hok] at hva
  have hlg := Lib.hid (fun W => lengths_good wd z r D Z B O A hD W hg hz hr)
  have hwl : (lens wd z r).length = wd + 1 := lens_len wd z r
  have hwb : ∀ t, t < wd + 1 → 0 ≤ (lens wd z r).getD t 0 ∧ (lens wd z r).getD t 0 ≤ 5000 := fun t ht => by
    have h1 : t < (lens wd z r).length := by rw [hwl]; exact ht
    rw [List.getD_eq_getElem?_getD, List.getElem?_eq_getElem h1, Option.getD_some, lens_at h1]
    have h2 := (len_bd wd z r (t : Int)).2
    have h3 : 0 ≤ len wd z r (t : Int) := Int.le_trans (Int.natCast_nonneg _) (len_bd wd z r (t : Int)).1
    have h4 : r / wd ≤ r := Nat.div_le_self _ _
    have h5 : ((if r % wd = 0 then 0 else 1 : Int)) ≤ 1 := by split <;> omega
    generalize len wd z r (t : Int) = L at h2 h3 ⊢
    generalize (if r % wd = 0 then 0 else 1 : Int) = c at h2 h5
    generalize r / wd = f at h2 h4
    omega
  generalize lens wd z r = want at hlg hwl hwb ⊢
  have hun := Lib.hid (fun W A1 c1 (h1 : IntsIn W A1 want) (hb : Below w.heap.size w W) => unlike_any W A1 c1 want A2 c2 ls m h1 (hIH.out W hb) (by rw [hwl, hlen]) (by omega))
  have hpa := Lib.hid (fun row W => parity_any D Z B O A (z : Int) row W)
  have hpb := fun row => parV_bd D Z B O A (z : Int) row
  obtain ⟨q, hq, hq1, d1, d2, d3, d4, d5, d6, d7⟩ := dec_nums hD hw2 hw15 hr3
  rw [hq]
  have hpq := hpb ((q : Int) - 1)
  clear hpb
  have hpa2 := Lib.hid (fun W => hpa.out ((q : Int) - 1) W)
  clear hpa
  obtain ⟨pv, hpv⟩ : ∃ pv, parV D Z B O A (z : Int) ((q : Int) - 1) = pv := ⟨_, rfl⟩
  rw [hpv] at hpa2 hpq
  rw [hpv]
  rw [hlen] at hun hva
  rw [hlen]
  obtain ⟨dd, hdd⟩ : ∃ dd, decV want ls m (wd + 1) (r : Int) ((q : Int) - 1) pv = dd := ⟨_, rfl⟩
  rw [hdd]
  unfold decV at hdd
  have hul := unl_len want ls m (wd + 1)
  have hum := Lib.hid (fun (e : unl want ls m (wd + 1) = [pv]) => unl_one_of e)
  obtain ⟨un, hun0⟩ : ∃ un, unl want ls m (wd + 1) = un := ⟨_, rfl⟩
  rw [hun0] at hun hdd hul hum
  have heq := Lib.hid (fun W A1 c1 A2 c2 (h1 : IntsIn W A1 un) (h2 : IntsIn W A2 [pv]) => (equal_any W A1 c1 un A2 c2 [pv] h1 h2 (by omega) : Calls Try.prog 66 #[.slice A1 un.length c1, .slice A2 1 c2] W fun e w' => e = .returned (.bool (decide (un = [pv]))) ∧ Below W.heap.size W w'))
  have hwbH := Lib.hid hwb
  have hddH := Lib.hid hdd
  have hqH := Lib.hid hq
  have hlenH := Lib.hid hlen
  have hwlH := Lib.hid hwl
  have hpqH := Lib.hid hpq
  have hwn : ¬ ((wd : Int) + 1) = 0 := by omega
  clear hg hz hr hok hI hdd hq hlen hwl hpv hpq hun0 hD hwb
  go_enter Try.func24, Try.ntmps24
  go_upto_region 1 with fail
  refine fresh_world (fun W => DcB w W D Z B O A 0 0 0) hNH.out ?_
  clear hNH
  rintro W1 h1
  obtain ⟨g0, g1, g2, g3, g4, _⟩ := h1.g
  have h1H := Lib.hid h1
  clear h1
  go_wp2_with fail
  (with_reducible refine (hlg.out _).mono ?_)
  rintro e w1 ⟨G, rfl, hrep, _, hb1⟩
  have h2 := h1H.out.below hb1
  have hrH := Lib.hid (fun W (hb : Below w1.heap.size w1 W) => hrep.below hb)
  clear hb1 h1H g0 g1 g2 g3 g4 hlg hrep
  obtain ⟨g0, g1, g2, g3, g4, _⟩ := h2.g
  have h2H := Lib.hid h2
  clear h2
  go_wp2_with fail
  (with_reducible refine (hva.out _ h2H.out.b).mono ?_)
  rintro e w3 ⟨rfl, hb3⟩
  have h3H := Lib.hid (h2H.out.below hb3)
  have hr3H := Lib.hid (hrH.out _ hb3)
  clear hb3 hva g0 g1 g2 g3 g4 h2H hrH
  have hwant := Lib.hid (hun.out w3 (some ⟨G, 0, none⟩) (wd + 1) (rep_ints hr3H.out) h3H.out.b)
  rw [hwlH.out] at hwant
  go_wp2_with fail
  (with_reducible refine hwant.out.mono ?_)
  rintro e w4 ⟨A4, c4, rfl, hrow4, hb4⟩
  clear hwant hun
  have h4 := h3H.out.below hb4
  have hr4H := Lib.hid (hr3H.out.below hb4)
  have hu4H := Lib.hid (fun W (hb : Below w4.heap.size w4 W) => (ints_of hrow4.in_).below hb)
  clear hb4 h3H hr3H hrow4
  obtain ⟨g0, g1, g2, g3, g4, _⟩ := h4.g
  have h4H := Lib.hid h4
  clear h4
  go_wp2_with fail
  (with_reducible refine (hpa2.out _).mono ?_)
  rintro e w5 ⟨rfl, hb5⟩
  have h5 := h4H.out.below hb5
  have hr5H := Lib.hid (hr4H.out.below hb5)
  have hu5H := Lib.hid (hu4H.out _ hb5)
  clear hb5 h4H hr4H hu4H g0 g1 g2 g3 g4 hpa2 d1 d2 d3 d4 d5 d6 d7
  have zf : ∀ j, w5.frozen? ⟨w.heap.size + 1, j, none⟩ = false := fun j => by simp [World.frozen?, h5.z]
  have z0 : w5.cell? ⟨w.heap.size + 1, 0, none⟩ = some (.int .i64 0) := cell_of_row w5 _ 0 _ _ _ h5.z
  have z1 : w5.cell? ⟨w.heap.size + 1, 1, none⟩ = some (.int .i64 0) := cell_of_row w5 _ 1 _ _ _ h5.z
  have z2 : w5.cell? ⟨w.heap.size + 1, 2, none⟩ = some (.int .i64 0) := cell_of_row w5 _ 2 _ _ _ h5.z
  have zl := lt_of_cell z0
  have h5H := Lib.hid h5
  clear h5
  by_cases hu0 : un = []
  · subst hu0
    rw [if_pos rfl] at hddH
    have e := hddH.out
    subst e
    clear hddH hum hr5H hu5H heq
    go_wp2_with fail
    refine bodyPost_ret (v := .tuple #[.agg #[.int .i64 0, .int .i64 0, .int .i64 0], .int .i64 0]) (by simp [results, Try.results24, go_sem, z0, z1, z2]) rfl ⟨rfl, ?_⟩
    exact h5H.out.put.b
  · have hun0 : ¬ (un.length : Int) = 0 := fun h => hu0 (List.eq_nil_of_length_eq_zero (by omega))
    rw [if_neg hu0] at hddH
    by_cases hr0 : (r : Int) = 0
    · rw [if_pos hr0] at hddH
      have e := hddH.out
      subst e
      have e0 : ((r : Int) == 0) = true := by rw [hr0]; rfl
      clear hddH hum hr5H hu5H heq hr0
      go_wp2_with fail
      refine bodyPost_ret (v := .tuple #[.agg #[.int .i64 3, .int .i64 0, .int .i64 0], .int .i64 0]) (by simp [results, Try.results24, go_sem, z0, z1, z2]) rfl ⟨rfl, ?_⟩
      exact h5H.out.put.b
    · rw [if_neg hr0] at hddH
      go_wp2_with fail
      by_cases hup : un = [pv]
      · obtain ⟨p, rfl, hp, -, -⟩ := hum.out hup
        have hbv : decide (un = [(p : Int)]) = true := decide_eq_true hup
        rw [hbv] at heq
        obtain ⟨bl, ol, eA2, cl⟩ := ints_at (hIH.out w5 h5H.out.b) (k := p) (by rw [hlenH.out]; exact hp)
        subst eA2
        have cw := hr5H.out.at_ (s := p) (by rw [hwlH.out]; exact hp)
        have hwp := hwbH.out p hp
        rw [Int.toNat_natCast] at hddH
        obtain ⟨x, hx⟩ : ∃ x, want.getD p 0 = x := ⟨_, rfl⟩
        obtain ⟨y, hy⟩ : ∃ y, ls.getD p 0 = y := ⟨_, rfl⟩
        rw [hx] at cw hwp hddH
        rw [hy] at cl hddH
        have xw : IntKind.i64.wrap (x - 1) = x - 1 := IntWalk.i64_in _ (by omega)
        have xw2 : wrap64 (x - 1) = x - 1 := IntWalk.wrap64_in _ (by omega)
        have hS : (w5.cell? ⟨bl, ol + p, none⟩ = some (.int .i64 y) ∧ w5.cell? ⟨G, p, none⟩ = some (.int .i64 x)) := ⟨cl, cw⟩
        have hS0 : (w5.drew.cell? ⟨bl, ol + p, none⟩ = some (.int .i64 y) ∧ w5.drew.cell? ⟨G, p, none⟩ = some (.int .i64 x)) := hS
        have hlp : p < wd + 1 := hp
        have hlp2 : p ≤ wd := by omega
        have hlp3 : (p : Int) ≤ (wd : Int) := by omega
        have hlp4 : (p : Int) < (wd : Int) + 1 := by omega
        have hlp5 : ¬ wd < p := by omega
        have hlp6 : ¬ (wd : Int) < (p : Int) := by omega
        have hlp7 : ¬ wd + 1 ≤ p := by omega
        have hupH := Lib.hid hup
        clear hum hr5H hx hy hwp hup hbv hpqH cl cw hp
        have hyx : (y = x - 1 ∧ (⟨1, (p : Int), (q : Int) - 1⟩ : Dd) = dd) ∨ (¬ y = x - 1 ∧ (⟨2, 0, 0⟩ : Dd) = dd) := by
          have h := hddH.out
          by_cases e : y = x - 1
          · left; rw [if_pos ⟨hupH.out, e⟩] at h; exact ⟨e, h⟩
          · right; rw [if_neg (fun h => e h.2)] at h; exact ⟨e, h⟩
        have hyxH := Lib.hid hyx
        clear hyx hddH zf z0 z1 z2 zl
        rcases hyxH.out with ⟨ey, hdd⟩ | ⟨ey, hdd⟩
        · have eb : (y == x - 1) = true := by rw [ey]; simp
          refine region_anyC (fun _ => true) (fun W => (W.cell? ⟨bl, ol + p, none⟩ = some (.int .i64 y) ∧ W.cell? ⟨G, p, none⟩ = some (.int .i64 x))) (by kernel_rfl) ?_
          refine anyL_take 0 (v := ?_) rfl (by kernel_rfl) (fun _ _ _ h => h) (Or.inl ⟨by rfl, ?_⟩) hS0 ?_
          rotate_left
          focus (intro W hW; go_simp; try with_reducible rfl)
          simp only [Act.put, List.setIfInBounds_toArray, List.set_cons_zero, List.set_cons_succ]
          refine anyL_take 1 (v := ?_) rfl (by kernel_rfl) (fun _ _ _ h => h) (Or.inl ⟨by rfl, ?_⟩) hS0 ?_
          rotate_left
          focus (intro W hW; go_simp; try with_reducible rfl)
          simp only [Act.put, List.setIfInBounds_toArray, List.set_cons_zero, List.set_cons_succ]
          refine anyL_one 2 rfl (by kernel_rfl) (fun K hK => ?_)
          go_simp
          have hb6 : Below w5.heap.size w5 ((w5.alloc (.cells #[.int .i64 (p : Int)] 3)).drew) := ((Below.refl w5.heap.size w5).alloc (Nat.le_refl _) _).drew
          have hp6 : ((w5.alloc (.cells #[.int .i64 (p : Int)] 3)).drew).cell? ⟨w5.heap.size, 0, none⟩ = some (.int .i64 (p : Int)) := cell_of_row (w5.alloc _) _ 0 _ _ _ (World.alloc_heap_new w5 _)
          generalize hw6 : (w5.alloc (.cells #[.int .i64 (p : Int)] 3)).drew = w6 at hb6 hp6 ⊢
          clear hw6
          have hS6 : (fun W => (W.cell? ⟨bl, ol + p, none⟩ = some (.int .i64 y) ∧ W.cell? ⟨G, p, none⟩ = some (.int .i64 x))) w6 := ⟨keepC hS.1 hb6, keepC hS.2 hb6⟩
          refine hK.out _ _ (fun _ => hS6) ?_
          clear hK K hS hS0
          try simp only [Act.put, List.setIfInBounds_toArray, List.set_cons_zero, List.set_cons_succ]
          refine anyL_one 3 rfl (by kernel_rfl) (fun K hK => ?_)
          go_simp
          refine (heq.out w6 A4 c4 (some ⟨w5.heap.size, 0, none⟩) 1 (hu5H.out.below hb6) (.inr ⟨w5.heap.size, 0, rfl, lt_of_cell hp6, fun i hi => by
            obtain rfl : i = 0 := by simpa using hi
            exact hp6⟩)).mono ?_
          rintro e' w7 ⟨rfl, hb7⟩
          have h7H := Lib.hid (h5H.out.below (bmore hb6 hb7))
          have hS7 : (fun W => (W.cell? ⟨bl, ol + p, none⟩ = some (.int .i64 y) ∧ W.cell? ⟨G, p, none⟩ = some (.int .i64 x))) w7 := ⟨keepC hS6.1 hb7, keepC hS6.2 hb7⟩
          refine hK.out _ _ (fun _ => hS7) ?_
          clear hb6 hb7 hp6 hS6 heq hu5H h5H
          clear hK K
          try simp only [Act.put, List.setIfInBounds_toArray, List.set_cons_zero, List.set_cons_succ]
          refine anyL_take 4 (v := ?_) rfl (by kernel_rfl) (fun _ _ _ h => h) (Or.inl ⟨by rfl, ?_⟩) hS7 ?_
          rotate_left
          focus (intro W hW; obtain ⟨f0, f1⟩ := hW; go_simp; try with_reducible rfl)
          simp only [Act.put, List.setIfInBounds_toArray, List.set_cons_zero, List.set_cons_succ]
          refine anyL_take 5 (v := ?_) rfl (by kernel_rfl) (fun _ _ _ h => h) (Or.inl ⟨by rfl, ?_⟩) hS7 ?_
          rotate_left
          focus (intro W hW; obtain ⟨f0, f1⟩ := hW; go_simp; try with_reducible rfl)
          simp only [Act.put, List.setIfInBounds_toArray, List.set_cons_zero, List.set_cons_succ]
          refine anyL_take 6 (v := ?_) rfl (by kernel_rfl) (fun _ _ _ h => h) (Or.inl ⟨by rfl, ?_⟩) hS7 ?_
          rotate_left
          focus (intro W hW; obtain ⟨f0, f1⟩ := hW; go_simp; try with_reducible rfl)
          simp only [Act.put, List.setIfInBounds_toArray, List.set_cons_zero, List.set_cons_succ]
          refine anyL_take 7 (v := ?_) rfl (by kernel_rfl) (fun _ _ _ h => h) (Or.inl ⟨by rfl, ?_⟩) hS7 ?_
          rotate_left
          focus (intro W hW; obtain ⟨f0, f1⟩ := hW; go_simp; try with_reducible rfl)
          simp only [Act.put, List.setIfInBounds_toArray, List.set_cons_zero, List.set_cons_succ]
          refine anyL_take 8 (v := ?_) rfl (by kernel_rfl) (fun _ _ _ h => h) (Or.inl ⟨by rfl, ?_⟩) hS7 ?_
          rotate_left
          focus (intro W hW; obtain ⟨f0, f1⟩ := hW; go_simp; try with_reducible rfl)
          simp only [Act.put, List.setIfInBounds_toArray, List.set_cons_zero, List.set_cons_succ]
          refine anyL_take 9 (v := ?_) rfl (by kernel_rfl) (fun _ _ _ h => h) (Or.inl ⟨by rfl, ?_⟩) hS7 ?_
          rotate_left
          focus (intro W hW; obtain ⟨f0, f1⟩ := hW; go_simp; try with_reducible rfl)
          simp only [Act.put, List.setIfInBounds_toArray, List.set_cons_zero, List.set_cons_succ]
          refine anyL_take 10 (v := ?_) rfl (by kernel_rfl) (fun _ _ _ h => h) (Or.inl ⟨by rfl, ?_⟩) hS7 ?_
          rotate_left
          focus (intro W hW; obtain ⟨f0, f1⟩ := hW; go_simp; try with_reducible rfl)
          simp only [Act.put, List.setIfInBounds_toArray, List.set_cons_zero, List.set_cons_succ]
          refine anyL_take 11 (v := ?_) rfl (by kernel_rfl) (fun _ _ _ h => h) (Or.inl ⟨by rfl, ?_⟩) hS7 ?_
          rotate_left
          focus (intro W hW; obtain ⟨f0, f1⟩ := hW; go_simp; try with_reducible rfl)
          simp only [Act.put, List.setIfInBounds_toArray, List.set_cons_zero, List.set_cons_succ]
          refine anyL_take 12 (v := ?_) rfl (by kernel_rfl) (fun _ _ _ h => h) (Or.inl ⟨by rfl, ?_⟩) hS7 ?_
          rotate_left
          focus (intro W hW; obtain ⟨f0, f1⟩ := hW; go_simp; try with_reducible rfl)
          simp only [Act.put, List.setIfInBounds_toArray, List.set_cons_zero, List.set_cons_succ]
          refine anyL_take 13 (v := ?_) rfl (by kernel_rfl) (fun _ _ _ h => h) (Or.inl ⟨by rfl, ?_⟩) hS7 ?_
          rotate_left
          focus (intro W hW; obtain ⟨f0, f1⟩ := hW; go_simp; try with_reducible rfl)
          simp only [Act.put, List.setIfInBounds_toArray, List.set_cons_zero, List.set_cons_succ]
          refine anyL_take 14 (v := ?_) rfl (by kernel_rfl) (fun _ _ _ h => h) (Or.inl ⟨by rfl, ?_⟩) hS7 ?_
          rotate_left
          focus (intro W hW; obtain ⟨f0, f1⟩ := hW; go_simp; try with_reducible rfl)
          simp only [Act.put, List.setIfInBounds_toArray, List.set_cons_zero, List.set_cons_succ]
          refine anyL_take 15 (v := ?_) rfl (by kernel_rfl) (fun _ _ _ h => h) (Or.inl ⟨by rfl, ?_⟩) hS7 ?_
          rotate_left
          focus (intro W hW; obtain ⟨f0, f1⟩ := hW; go_simp; try with_reducible rfl)
          simp only [Act.put, List.setIfInBounds_toArray, List.set_cons_zero, List.set_cons_succ]
          refine anyL_take 16 (v := ?_) rfl (by kernel_rfl) (fun _ _ _ h => h) (Or.inl ⟨by rfl, ?_⟩) hS7 ?_
          rotate_left
          focus (intro W hW; obtain ⟨f0, f1⟩ := hW; go_simp; try with_reducible rfl)
          simp only [Act.put, List.setIfInBounds_toArray, List.set_cons_zero, List.set_cons_succ]
          refine anyC_done (by kernel_rfl) ?_ _
          clear hS7 eb ey
          subst hdd
          have zf : ∀ j, w7.frozen? ⟨w.heap.size + 1, j, none⟩ = false := fun j => by simp [World.frozen?, h7H.out.z]
          have z0 : w7.cell? ⟨w.heap.size + 1, 0, none⟩ = some (.int .i64 0) := cell_of_row w7 _ 0 _ _ _ h7H.out.z
          have z1 : w7.cell? ⟨w.heap.size + 1, 1, none⟩ = some (.int .i64 0) := cell_of_row w7 _ 1 _ _ _ h7H.out.z
          have z2 : w7.cell? ⟨w.heap.size + 1, 2, none⟩ = some (.int .i64 0) := cell_of_row w7 _ 2 _ _ _ h7H.out.z
          have zl := lt_of_cell z0
          go_wp2_with fail
          refine bodyPost_ret (v := .tuple #[.agg #[.int .i64 1, .int .i64 (p : Int), .int .i64 ((q : Int) - 1)], .int .i64 0]) (by simp [results, Try.results24, go_sem, z0, z1, z2]) rfl ⟨rfl, ?_⟩
          exact h7H.out.put.b
        · have eb : (y == x - 1) = false := by simp [ey]
          refine region_anyC (fun _ => true) (fun W => (W.cell? ⟨bl, ol + p, none⟩ = some (.int .i64 y) ∧ W.cell? ⟨G, p, none⟩ = some (.int .i64 x))) (by kernel_rfl) ?_
          refine anyL_take 0 (v := ?_) rfl (by kernel_rfl) (fun _ _ _ h => h) (Or.inl ⟨by rfl, ?_⟩) hS0 ?_
          rotate_left
          focus (intro W hW; go_simp; try with_reducible rfl)
          simp only [Act.put, List.setIfInBounds_toArray, List.set_cons_zero, List.set_cons_succ]
          refine anyL_take 1 (v := ?_) rfl (by kernel_rfl) (fun _ _ _ h => h) (Or.inl ⟨by rfl, ?_⟩) hS0 ?_
          rotate_left
          focus (intro W hW; go_simp; try with_reducible rfl)
          simp only [Act.put, List.setIfInBounds_toArray, List.set_cons_zero, List.set_cons_succ]
          refine anyL_one 2 rfl (by kernel_rfl) (fun K hK => ?_)
          go_simp
          have hb6 : Below w5.heap.size w5 ((w5.alloc (.cells #[.int .i64 (p : Int)] 3)).drew) := ((Below.refl w5.heap.size w5).alloc (Nat.le_refl _) _).drew
          have hp6 : ((w5.alloc (.cells #[.int .i64 (p : Int)] 3)).drew).cell? ⟨w5.heap.size, 0, none⟩ = some (.int .i64 (p : Int)) := cell_of_row (w5.alloc _) _ 0 _ _ _ (World.alloc_heap_new w5 _)
          generalize hw6 : (w5.alloc (.cells #[.int .i64 (p : Int)] 3)).drew = w6 at hb6 hp6 ⊢
          clear hw6
          have hS6 : (fun W => (W.cell? ⟨bl, ol + p, none⟩ = some (.int .i64 y) ∧ W.cell? ⟨G, p, none⟩ = some (.int .i64 x))) w6 := ⟨keepC hS.1 hb6, keepC hS.2 hb6⟩
          refine hK.out _ _ (fun _ => hS6) ?_
          clear hK K hS hS0
          try simp only [Act.put, List.setIfInBounds_toArray, List.set_cons_zero, List.set_cons_succ]
          refine anyL_one 3 rfl (by kernel_rfl) (fun K hK => ?_)
          go_simp
          refine (heq.out w6 A4 c4 (some ⟨w5.heap.size, 0, none⟩) 1 (hu5H.out.below hb6) (.inr ⟨w5.heap.size, 0, rfl, lt_of_cell hp6, fun i hi => by
            obtain rfl : i = 0 := by simpa using hi
            exact hp6⟩)).mono ?_
          rintro e' w7 ⟨rfl, hb7⟩
          have h7H := Lib.hid (h5H.out.below (bmore hb6 hb7))
          have hS7 : (fun W => (W.cell? ⟨bl, ol + p, none⟩ = some (.int .i64 y) ∧ W.cell? ⟨G, p, none⟩ = some (.int .i64 x))) w7 := ⟨keepC hS6.1 hb7, keepC hS6.2 hb7⟩
          refine hK.out _ _ (fun _ => hS7) ?_
          clear hb6 hb7 hp6 hS6 heq hu5H h5H
          clear hK K
          try simp only [Act.put, List.setIfInBounds_toArray, List.set_cons_zero, List.set_cons_succ]
          refine anyL_take 4 (v := ?_) rfl (by kernel_rfl) (fun _ _ _ h => h) (Or.inl ⟨by rfl, ?_⟩) hS7 ?_
          rotate_left
          focus (intro W hW; obtain ⟨f0, f1⟩ := hW; go_simp; try with_reducible rfl)
          simp only [Act.put, List.setIfInBounds_toArray, List.set_cons_zero, List.set_cons_succ]
          refine anyL_take 5 (v := ?_) rfl (by kernel_rfl) (fun _ _ _ h => h) (Or.inl ⟨by rfl, ?_⟩) hS7 ?_
          rotate_left
          focus (intro W hW; obtain ⟨f0, f1⟩ := hW; go_simp; try with_reducible rfl)
          simp only [Act.put, List.setIfInBounds_toArray, List.set_cons_zero, List.set_cons_succ]
          refine anyL_take 6 (v := ?_) rfl (by kernel_rfl) (fun _ _ _ h => h) (Or.inl ⟨by rfl, ?_⟩) hS7 ?_
          rotate_left
          focus (intro W hW; obtain ⟨f0, f1⟩ := hW; go_simp; try with_reducible rfl)
          simp only [Act.put, List.setIfInBounds_toArray, List.set_cons_zero, List.set_cons_succ]
          refine anyL_take 7 (v := ?_) rfl (by kernel_rfl) (fun _ _ _ h => h) (Or.inl ⟨by rfl, ?_⟩) hS7 ?_
          rotate_left
          focus (intro W hW; obtain ⟨f0, f1⟩ := hW; go_simp; try with_reducible rfl)
          simp only [Act.put, List.setIfInBounds_toArray, List.set_cons_zero, List.set_cons_succ]
          refine anyL_take 8 (v := ?_) rfl (by kernel_rfl) (fun _ _ _ h => h) (Or.inl ⟨by rfl, ?_⟩) hS7 ?_
          rotate_left
          focus (intro W hW; obtain ⟨f0, f1⟩ := hW; go_simp; try with_reducible rfl)
          simp only [Act.put, List.setIfInBounds_toArray, List.set_cons_zero, List.set_cons_succ]
          refine anyL_take 9 (v := ?_) rfl (by kernel_rfl) (fun _ _ _ h => h) (Or.inl ⟨by rfl, ?_⟩) hS7 ?_
          rotate_left
          focus (intro W hW; obtain ⟨f0, f1⟩ := hW; go_simp; try with_reducible rfl)
          simp only [Act.put, List.setIfInBounds_toArray, List.set_cons_zero, List.set_cons_succ]
          refine anyL_take 10 (v := ?_) rfl (by kernel_rfl) (fun _ _ _ h => h) (Or.inl ⟨by rfl, ?_⟩) hS7 ?_
          rotate_left
          focus (intro W hW; obtain ⟨f0, f1⟩ := hW; go_simp; try with_reducible rfl)
          simp only [Act.put, List.setIfInBounds_toArray, List.set_cons_zero, List.set_cons_succ]
          refine anyL_take 11 (v := ?_) rfl (by kernel_rfl) (fun _ _ _ h => h) (Or.inl ⟨by rfl, ?_⟩) hS7 ?_
          rotate_left
          focus (intro W hW; obtain ⟨f0, f1⟩ := hW; go_simp; try with_reducible rfl)
          simp only [Act.put, List.setIfInBounds_toArray, List.set_cons_zero, List.set_cons_succ]
          refine anyL_take 12 (v := ?_) rfl (by kernel_rfl) (fun _ _ _ h => h) (Or.inl ⟨by rfl, ?_⟩) hS7 ?_
          rotate_left
          focus (intro W hW; obtain ⟨f0, f1⟩ := hW; go_simp; try with_reducible rfl)
          simp only [Act.put, List.setIfInBounds_toArray, List.set_cons_zero, List.set_cons_succ]
          refine anyL_take 13 (v := ?_) rfl (by kernel_rfl) (fun _ _ _ h => h) (Or.inl ⟨by rfl, ?_⟩) hS7 ?_
          rotate_left
          focus (intro W hW; obtain ⟨f0, f1⟩ := hW; go_simp; try with_reducible rfl)
          simp only [Act.put, List.setIfInBounds_toArray, List.set_cons_zero, List.set_cons_succ]
          refine anyL_take 14 (v := ?_) rfl (by kernel_rfl) (fun _ _ _ h => h) (Or.inl ⟨by rfl, ?_⟩) hS7 ?_
          rotate_left
          focus (intro W hW; obtain ⟨f0, f1⟩ := hW; go_simp; try with_reducible rfl)
          simp only [Act.put, List.setIfInBounds_toArray, List.set_cons_zero, List.set_cons_succ]
          refine anyL_take 15 (v := ?_) rfl (by kernel_rfl) (fun _ _ _ h => h) (Or.inl ⟨by rfl, ?_⟩) hS7 ?_
          rotate_left
          focus (intro W hW; obtain ⟨f0, f1⟩ := hW; go_simp; try with_reducible rfl)
          simp only [Act.put, List.setIfInBounds_toArray, List.set_cons_zero, List.set_cons_succ]
          refine anyL_take 16 (v := ?_) rfl (by kernel_rfl) (fun _ _ _ h => h) (Or.inl ⟨by rfl, ?_⟩) hS7 ?_
          rotate_left
          focus (intro W hW; obtain ⟨f0, f1⟩ := hW; go_simp; try with_reducible rfl)
          simp only [Act.put, List.setIfInBounds_toArray, List.set_cons_zero, List.set_cons_succ]
          refine anyC_done (by kernel_rfl) ?_ _
          clear hS7 eb ey
          subst hdd
          have zf : ∀ j, w7.frozen? ⟨w.heap.size + 1, j, none⟩ = false := fun j => by simp [World.frozen?, h7H.out.z]
          have z0 : w7.cell? ⟨w.heap.size + 1, 0, none⟩ = some (.int .i64 0) := cell_of_row w7 _ 0 _ _ _ h7H.out.z
          have z1 : w7.cell? ⟨w.heap.size + 1, 1, none⟩ = some (.int .i64 0) := cell_of_row w7 _ 1 _ _ _ h7H.out.z
          have z2 : w7.cell? ⟨w.heap.size + 1, 2, none⟩ = some (.int .i64 0) := cell_of_row w7 _ 2 _ _ _ h7H.out.z
          have zl := lt_of_cell z0
          go_wp2_with fail
          refine bodyPost_ret (v := .tuple #[.agg #[.int .i64 2, .int .i64 0, .int .i64 0], .int .i64 0]) (by simp [results, Try.results24, go_sem, z0, z1, z2]) rfl ⟨rfl, ?_⟩
          exact h7H.out.put.b
      · have hbv : decide (un = [pv]) = false := decide_eq_false hup
        rw [hbv] at heq
        rw [if_neg (fun h => hup h.1)] at hddH
        have hdd := hddH.out
        have hS0 : True := trivial
        clear hum hr5H hup hbv hpqH hddH
        refine region_anyC (fun _ => true) (fun W => True) (by kernel_rfl) ?_
        refine anyL_take 0 (v := ?_) rfl (by kernel_rfl) (fun _ _ _ h => h) (Or.inl ⟨by rfl, ?_⟩) hS0 ?_
        rotate_left
        focus (intro W hW; go_simp; try with_reducible rfl)
        simp only [Act.put, List.setIfInBounds_toArray, List.set_cons_zero, List.set_cons_succ]
        refine anyL_take 1 (v := ?_) rfl (by kernel_rfl) (fun _ _ _ h => h) (Or.inl ⟨by rfl, ?_⟩) hS0 ?_
        rotate_left
        focus (intro W hW; go_simp; try with_reducible rfl)
        simp only [Act.put, List.setIfInBounds_toArray, List.set_cons_zero, List.set_cons_succ]
        refine anyL_one 2 rfl (by kernel_rfl) (fun K hK => ?_)
        go_simp
        have hb6 : Below w5.heap.size w5 ((w5.alloc (.cells #[.int .i64 pv] 3)).drew) := ((Below.refl w5.heap.size w5).alloc (Nat.le_refl _) _).drew
        have hp6 : ((w5.alloc (.cells #[.int .i64 pv] 3)).drew).cell? ⟨w5.heap.size, 0, none⟩ = some (.int .i64 pv) := cell_of_row (w5.alloc _) _ 0 _ _ _ (World.alloc_heap_new w5 _)
        generalize hw6 : (w5.alloc (.cells #[.int .i64 pv] 3)).drew = w6 at hb6 hp6 ⊢
        clear hw6
        have hS6 : (fun W => True) w6 := trivial
        refine hK.out _ _ (fun _ => hS6) ?_
        clear hK K hS0
        try simp only [Act.put, List.setIfInBounds_toArray, List.set_cons_zero, List.set_cons_succ]
        refine anyL_one 3 rfl (by kernel_rfl) (fun K hK => ?_)
        go_simp
        refine (heq.out w6 A4 c4 (some ⟨w5.heap.size, 0, none⟩) 1 (hu5H.out.below hb6) (.inr ⟨w5.heap.size, 0, rfl, lt_of_cell hp6, fun i hi => by
          obtain rfl : i = 0 := by simpa using hi
          exact hp6⟩)).mono ?_
        rintro e' w7 ⟨rfl, hb7⟩
        have h7H := Lib.hid (h5H.out.below (bmore hb6 hb7))
        have hS7 : (fun W => True) w7 := trivial
        refine hK.out _ _ (fun _ => hS7) ?_
        clear hb6 hb7 hp6 hS6 heq hu5H h5H
        clear hK K
        try simp only [Act.put, List.setIfInBounds_toArray, List.set_cons_zero, List.set_cons_succ]
        refine anyL_take 4 (v := ?_) rfl (by kernel_rfl) (fun _ _ _ h => h) (Or.inl ⟨by rfl, ?_⟩) hS7 ?_
        rotate_left
        focus (intro W hW; go_simp; try with_reducible rfl)
        simp only [Act.put, List.setIfInBounds_toArray, List.set_cons_zero, List.set_cons_succ]
        refine anyL_take 5 (v := undef) rfl (by kernel_rfl) (fun _ _ _ h => h) (Or.inr ⟨by rfl, rfl⟩) hS7 ?_
        simp only [Act.put, List.setIfInBounds_toArray, List.set_cons_zero, List.set_cons_succ]
        refine anyL_take 6 (v := undef) rfl (by kernel_rfl) (fun _ _ _ h => h) (Or.inr ⟨by rfl, rfl⟩) hS7 ?_
        simp only [Act.put, List.setIfInBounds_toArray, List.set_cons_zero, List.set_cons_succ]
        refine anyL_take 7 (v := undef) rfl (by kernel_rfl) (fun _ _ _ h => h) (Or.inr ⟨by rfl, rfl⟩) hS7 ?_
        simp only [Act.put, List.setIfInBounds_toArray, List.set_cons_zero, List.set_cons_succ]
        refine anyL_take 8 (v := undef) rfl (by kernel_rfl) (fun _ _ _ h => h) (Or.inr ⟨by rfl, rfl⟩) hS7 ?_
        simp only [Act.put, List.setIfInBounds_toArray, List.set_cons_zero, List.set_cons_succ]
        refine anyL_take 9 (v := undef) rfl (by kernel_rfl) (fun _ _ _ h => h) (Or.inr ⟨by rfl, rfl⟩) hS7 ?_
        simp only [Act.put, List.setIfInBounds_toArray, List.set_cons_zero, List.set_cons_succ]
        refine anyL_take 10 (v := undef) rfl (by kernel_rfl) (fun _ _ _ h => h) (Or.inr ⟨by rfl, rfl⟩) hS7 ?_
        simp only [Act.put, List.setIfInBounds_toArray, List.set_cons_zero, List.set_cons_succ]
        refine anyL_take 11 (v := undef) rfl (by kernel_rfl) (fun _ _ _ h => h) (Or.inr ⟨by rfl, rfl⟩) hS7 ?_
        simp only [Act.put, List.setIfInBounds_toArray, List.set_cons_zero, List.set_cons_succ]
        refine anyL_take 12 (v := undef) rfl (by kernel_rfl) (fun _ _ _ h => h) (Or.inr ⟨by rfl, rfl⟩) hS7 ?_
        simp only [Act.put, List.setIfInBounds_toArray, List.set_cons_zero, List.set_cons_succ]
        refine anyL_take 13 (v := undef) rfl (by kernel_rfl) (fun _ _ _ h => h) (Or.inr ⟨by rfl, rfl⟩) hS7 ?_
        simp only [Act.put, List.setIfInBounds_toArray, List.set_cons_zero, List.set_cons_succ]
        refine anyL_take 14 (v := undef) rfl (by kernel_rfl) (fun _ _ _ h => h) (Or.inr ⟨by rfl, rfl⟩) hS7 ?_
        simp only [Act.put, List.setIfInBounds_toArray, List.set_cons_zero, List.set_cons_succ]
        refine anyL_take 15 (v := ?_) rfl (by kernel_rfl) (fun _ _ _ h => h) (Or.inl ⟨by rfl, ?_⟩) hS7 ?_
        rotate_left
        focus (intro W hW; go_simp; try with_reducible rfl)
        simp only [Act.put, List.setIfInBounds_toArray, List.set_cons_zero, List.set_cons_succ]
        refine anyL_take 16 (v := ?_) rfl (by kernel_rfl) (fun _ _ _ h => h) (Or.inl ⟨by rfl, ?_⟩) hS7 ?_
        rotate_left
        focus (intro W hW; go_simp; try with_reducible rfl)
        simp only [Act.put, List.setIfInBounds_toArray, List.set_cons_zero, List.set_cons_succ]
        refine anyC_done (by kernel_rfl) ?_ _
        clear hS7
        subst hdd
        have zf : ∀ j, w7.frozen? ⟨w.heap.size + 1, j, none⟩ = false := fun j => by simp [World.frozen?, h7H.out.z]
        have z0 : w7.cell? ⟨w.heap.size + 1, 0, none⟩ = some (.int .i64 0) := cell_of_row w7 _ 0 _ _ _ h7H.out.z
        have z1 : w7.cell? ⟨w.heap.size + 1, 1, none⟩ = some (.int .i64 0) := cell_of_row w7 _ 1 _ _ _ h7H.out.z
        have z2 : w7.cell? ⟨w.heap.size + 1, 2, none⟩ = some (.int .i64 0) := cell_of_row w7 _ 2 _ _ _ h7H.out.z
        have zl := lt_of_cell z0
        go_wp2_with fail
        refine bodyPost_ret (v := .tuple #[.agg #[.int .i64 2, .int .i64 0, .int .i64 0], .int .i64 0]) (by simp [results, Try.results24, go_sem, z0, z1, z2]) rfl ⟨rfl, ?_⟩
        exact h7H.out.put.b
end Go.Proofs.Ytdnedahbghhpgaa
