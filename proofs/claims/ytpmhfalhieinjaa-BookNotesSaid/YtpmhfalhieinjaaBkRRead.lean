/- The document's Read, walked. -/
import Derived.Test.YtpmhfalhieinjaaBkRM
import Derived.Test.YtpmhfalhieinjaaBkFind
import Derived.Test.YtpmhfalhieinjaaBkRP
import Derived.Test.YtpmhfalhieinjaaGeoRG
namespace Go.Proofs.Ytpmhfalhieinjaa
open Go.RowKit Rec Bk

/-- What the document's Read hands back of a good geometry. -/
def RReadP (w : World) (D Z : Int) (n m : Nat) (l : List Rc) (e : Ending) (w' : World) : Prop :=
  (SaysB D Z n m l → ∃ A1 c1 A2 c2, e = .returned (.tuple #[.agg #[.int .i64 (readB n m l).q, .slice A1 (readB n m l).zs.length c1, .slice A2 (readB n m l).ms.length c2, .int .i64 (readB n m l).sl, .int .i64 (readB n m l).cu], .int .i64 0]) ∧ RkO w' w.heap.size A1 c1 A2 c2 (readB n m l) ∧ Below w.heap.size w w') ∧
  (¬ SaysB D Z n m l → e = .returned (.tuple #[.agg #[.int .i64 0, .slice none 0 0, .slice none 0 0, .int .i64 0, .int .i64 0], .int .i64 9]) ∧ Below w.heap.size w w')
theorem rtwo_start (w : World) (D Z B O A : Int) :
    (fun W => GzAt W w.heap.size D Z B O A ∧ BkAt W (w.heap.size + 1) none 0 none 0 noB ∧ Below w.heap.size w W) ((w.alloc (.cells #[.int .i64 D, .int .i64 Z, .int .i64 B, .int .i64 O, .int .i64 A] 43)).alloc (.cells #[.int .i64 0, .slice none 0 0, .slice none 0 0, .int .i64 0, .int .i64 0] 40)) := by
  have h1 := GzAt.new w D Z B O A 43
  generalize hW1 : w.alloc _ = W1 at h1 ⊢
  have e1 : W1.heap.size = w.heap.size + 1 := by rw [← hW1, World.size_alloc]
  have hb1 : Below w.heap.size w W1 := by rw [← hW1]; exact (Below.refl _ _).alloc (Nat.le_refl _) _
  have h2 : BkAt (W1.alloc (.cells #[.int .i64 0, .slice none 0 0, .slice none 0 0, .int .i64 0, .int .i64 0] 40)) W1.heap.size none 0 none 0 noB := BkAt.new W1 none 0 none 0 noB 40
  have hb2 : Below W1.heap.size W1 (W1.alloc (.cells #[.int .i64 0, .slice none 0 0, .slice none 0 0, .int .i64 0, .int .i64 0] 40)) := (Below.refl _ _).alloc (Nat.le_refl _) _
  rw [e1] at h2
  exact ⟨h1.below hb2, h2, hb1.trans (hb2.mono hb1.size)⟩
theorem newR_start {w W : World} {D Z B O A : Int} (hg : GzAt W w.heap.size D Z B O A) (ho : BkAt W (w.heap.size + 1) none 0 none 0 noB) (hb : Below w.heap.size w W) :
    NewR w (W.alloc (.cells #[.int .i64 0, .slice none 0 0, .slice none 0 0, .int .i64 0, .int .i64 0] 40)) W.heap.size D Z B O A none 0 none 0 noB := by
  have h3 : BkAt (W.alloc (.cells #[.int .i64 0, .slice none 0 0, .slice none 0 0, .int .i64 0, .int .i64 0] 40)) W.heap.size none 0 none 0 noB := BkAt.new W none 0 none 0 noB 40
  have hb3 : Below W.heap.size W (W.alloc (.cells #[.int .i64 0, .slice none 0 0, .slice none 0 0, .int .i64 0, .int .i64 0] 40)) := (Below.refl _ _).alloc (Nat.le_refl _) _
  have hol := ho.lt
  exact ⟨hg.below hb3, ho.below hb3, ⟨h3, ⟨Enc.Row.nil _ _ _, NRow.nil _ _, (fun g e => by cases e), by decide, by decide⟩, (by intro e; cases e), (by intro e; cases e)⟩, hb.trans (hb3.mono hb.size), by omega⟩
theorem NewR.set_q {w W : World} {r : Nat} {D Z B O A : Int} {A1 A2 : Option Addr} {c1 c2 : Nat} {b : Bo} (h : NewR w W r D Z B O A A1 c1 A2 c2 b) (x : Int) : NewR w (W.setCell ⟨r, 0, none⟩ (.int .i64 x)) r D Z B O A A1 c1 A2 c2 { b with q := x } :=
  h.turned (grownBy_one W r 0 _) (fun k e => by injection e with e; omega) (h.k.set_q x)
theorem NewR.set_sl {w W : World} {r : Nat} {D Z B O A : Int} {A1 A2 : Option Addr} {c1 c2 : Nat} {b : Bo} (h : NewR w W r D Z B O A A1 c1 A2 c2 b) (x : Int) : NewR w (W.setCell ⟨r, 3, none⟩ (.int .i64 x)) r D Z B O A A1 c1 A2 c2 { b with sl := x } :=
  h.turned (grownBy_one W r 3 _) (fun k e => by injection e with e; omega) (h.k.set_sl x)
theorem NewR.set_cu {w W : World} {r : Nat} {D Z B O A : Int} {A1 A2 : Option Addr} {c1 c2 : Nat} {b : Bo} (h : NewR w W r D Z B O A A1 c1 A2 c2 b) (x : Int) : NewR w (W.setCell ⟨r, 4, none⟩ (.int .i64 x)) r D Z B O A A1 c1 A2 c2 { b with cu := x } :=
  h.turned (grownBy_one W r 4 _) (fun k e => by injection e with e; omega) (h.k.set_cu x)
/-- The zones of the first k subjects, the members. -/
def fzs (l : List Rc) (k : Nat) : List Zo := (List.range k).map (fun z : Nat => zoF (fnd l (3, (z : Int))))
def fms (l : List Rc) (k : Nat) : List Int := (List.range k).map (fun s : Nat => (fnd l (5, (s : Int))).b)
theorem fzs_len (l : List Rc) (k : Nat) : (fzs l k).length = k := by unfold fzs; simp
theorem fms_len (l : List Rc) (k : Nat) : (fms l k).length = k := by unfold fms; simp
theorem fzs_succ (l : List Rc) (k : Nat) : fzs l (k + 1) = fzs l k ++ [zoF (fnd l (3, (k : Int)))] := by unfold fzs; rw [List.range_succ, List.map_append]; rfl
theorem fms_succ (l : List Rc) (k : Nat) : fms l (k + 1) = fms l k ++ [(fnd l (5, (k : Int))).b] := by unfold fms; rw [List.range_succ, List.map_append]; rfl
/-- What Find answers. -/
theorem find_at {w : World} {A : Option Addr} {cap : Nat} {ls : List LRow} (hI : ListsIn w A ls) (hok : ListsOk ls) {kind n : Int} {u : Int × Int} (h : ∀ x, findP kind n x = about u x) :
    Calls Try.prog 26 #[.slice A ls.length cap, .int .i64 kind, .int .i64 n] w fun e w' => e = .returned (.tuple #[.agg #[.int .i64 (fnd (flatL ls) u).k, .int .i64 (fnd (flatL ls) u).s, .int .i64 (fnd (flatL ls) u).a, .int .i64 (fnd (flatL ls) u).b, .int .i64 (fnd (flatL ls) u).c, .int .i64 (fnd (flatL ls) u).d, .string (fnd (flatL ls) u).body], .bool (found (flatL ls) u).isSome]) ∧ Below w.heap.size w w' := by
  have h1 := find_any w A cap ls kind n hI hok
  rw [best_congr h] at h1
  exact h1
theorem rzo_at {w W : World} {r : Nat} {D Z B O A : Int} {A1 A2 : Option Addr} {c1 c2 : Nat} {b : Bo} (h : NewR w W r D Z B O A A1 c1 A2 c2 b) {i : Nat} (hi : i < b.zs.length) : ∃ g, A1 = some ⟨g, 0, none⟩ ∧ W.cell? ⟨g, i * 3, none⟩ = some (.int .i64 b.zs[i].p) ∧ W.cell? ⟨g, i * 3 + 1, none⟩ = some (.int .i64 b.zs[i].g) ∧ W.cell? ⟨g, i * 3 + 2, none⟩ = some (.int .i64 b.zs[i].s) := by
  obtain ⟨g, e, _, _, _, h0, h1, h2, _⟩ := zo_own h.k.o.z hi
  exact ⟨g, e, h0, h1, h2⟩
set_option maxRecDepth 100000 in
set_option maxHeartbeats 2000000 in
theorem rread_bad (w : World) (D Z B O A : Int) (A0 : Option Addr) (n0 c0 : Nat) (hg : goodB D Z B O A = false) :
    Calls Try.prog 10 #[.agg #[.int .i64 D, .int .i64 Z, .int .i64 B, .int .i64 O, .int .i64 A], .slice A0 n0 c0] w (BadP w) := by
  have hgd := Lib.hid (fun W => gref_any D Z B O A W)
  rw [hg] at hgd
  have hst := Lib.hid (rtwo_start w D Z B O A)
  clear hg
  go_enter Try.func10, Try.ntmps10
  go_wp2_with fail
  refine fresh_C (fun W => GzAt W w.heap.size D Z B O A ∧ BkAt W (w.heap.size + 1) none 0 none 0 noB ∧ Below w.heap.size w W) hst.out ?_
  clear hst
  rintro W ⟨hG, hX, hb⟩
  have hXH := Lib.hid hX
  have hbH := Lib.hid hb
  clear hG hX
  refine (hgd.out _).mono ?_
  rintro e w1 ⟨rfl, hb1⟩
  have hX1 := hXH.out.below hb1
  have hB1 := hbH.out.trans (hb1.mono hbH.out.size)
  have hpH := Lib.hid (no_put hX1 hB1)
  obtain ⟨y0, y1, y2, y3, y4, yf⟩ := hX1
  clear hB1 hb1 hb hgd
  go_wp2_with fail
  refine fresh_post (fun W => BkAt W (w.heap.size + 1) none 0 none 0 noB ∧ Below w.heap.size w W) hpH.out ?_
  rintro W10 ⟨⟨z0, z1, z2, z3, z4, _⟩, hb10⟩
  refine bodyPost_ret (v := .tuple #[.agg #[.int .i64 0, .slice none 0 0, .slice none 0 0, .int .i64 0, .int .i64 0], .int .i64 1]) (by
    have z0' : W10.cell? ⟨w.heap.size + 1, 0, none⟩ = some (.int .i64 0) := z0
    have z1' : W10.cell? ⟨w.heap.size + 1, 1, none⟩ = some (.slice none 0 0) := z1
    have z2' : W10.cell? ⟨w.heap.size + 1, 2, none⟩ = some (.slice none 0 0) := z2
    have z3' : W10.cell? ⟨w.heap.size + 1, 3, none⟩ = some (.int .i64 0) := z3
    have z4' : W10.cell? ⟨w.heap.size + 1, 4, none⟩ = some (.int .i64 0) := z4
    simp [results, Try.results10, go_sem, z0', z1', z2', z3', z4']) rfl ⟨rfl, hb10⟩
set_option maxRecDepth 100000 in
set_option maxHeartbeats 16000000 in
theorem rread_good (w : World) (Z B O A : Int) (n m : Nat) (A0 : Option Addr) (cap0 : Nat) (ls : List LRow) (hg : goodB (m : Int) Z B O A = true) (hn : Z - 3 = (n : Int)) (hI : ListsIn w A0 ls) (hok : ListsOk ls) (hpos : PosL (flatL ls)) :
    Calls Try.prog 10 #[.agg #[.int .i64 (m : Int), .int .i64 Z, .int .i64 B, .int .i64 O, .int .i64 A], .slice A0 ls.length cap0] w (RReadP w (m : Int) Z n m (flatL ls)) := by
  obtain ⟨g1, g2, g3, g4, _⟩ := goodB_iff.1 hg
  have hn61 : n ≤ 61 := by omega
  have hm16 : m ≤ 16 := by omega
  have hgd := Lib.hid (fun W => gref_any (m : Int) Z B O A W)
  rw [hg] at hgd
  have hst := Lib.hid (rtwo_start w (m : Int) Z B O A)
  have hfz := Lib.hid (fun W (hb : Below w.heap.size w W) (k : Nat) => find_at (cap := cap0) (hI.below hb) hok (findP_zone k))
  have hfm := Lib.hid (fun W (hb : Below w.heap.size w W) (k : Nat) => find_at (cap := cap0) (hI.below hb) hok (findP_mem k))
  have hfc := Lib.hid (fun W (hb : Below w.heap.size w W) => find_at (cap := cap0) (hI.below hb) hok findP_cur)
  have hIH := Lib.hid hI
  have hokH := Lib.hid hok
  have hposH := Lib.hid hpos
  have hll := hok.1
  have hZ : Z = (n : Int) + 3 := by omega
  have hZH := Lib.hid hZ
  have hgH := Lib.hid (show 5 ≤ Z ∧ Z ≤ 64 from ⟨g3, g4⟩)
  obtain ⟨l, hl⟩ : ∃ l, l = flatL ls := ⟨_, rfl⟩
  rw [← hl] at hfz hfm hfc hposH ⊢
  have hlH := Lib.hid hl
  clear hg hn hI hok hl hZ g1 g2 hpos
  go_enter Try.func10, Try.ntmps10
  obtain ⟨ff, hff⟩ : ∃ ff, ff = Try.f10 := ⟨_, rfl⟩
  rw [← hff]
  have hffH := Lib.hid hff
  clear hff
  go_wp2_with fail
  refine fresh_C (fun W => GzAt W w.heap.size (m : Int) Z B O A ∧ BkAt W (w.heap.size + 1) none 0 none 0 noB ∧ Below w.heap.size w W) hst.out ?_
  clear hst
  rintro W ⟨hG, hX, hb⟩
  have hGH := Lib.hid hG
  have hXH := Lib.hid hX
  have hbH := Lib.hid hb
  clear hG hX hb
  refine (hgd.out _).mono ?_
  rintro e w0 ⟨rfl, hb0⟩
  have hR0 := Lib.hid (newR_start (hGH.out.below hb0) (hXH.out.below hb0) (hbH.out.trans (hb0.mono hbH.out.size)))
  clear hb0 hGH hXH hbH hgd
  go_upto_region 4 with fail
  refine fresh_world (fun W => NewR w W w0.heap.size (m : Int) Z B O A none 0 none 0 noB) hR0.out ?_
  clear hR0
  generalize w0.heap.size = r
  rintro W1 hR
  have hRH := Lib.hid hR
  clear hR
  go_wp2_with fail
  go_loopw [7] (fun i wr => ∃ (k : Nat) (A1 : Option Addr) (c1 : Nat), k ≤ n ∧ i = .int .i64 (k : Int) ∧ (∀ z, z < k → someAt l (3, (z : Int))) ∧ NewR w wr r (m : Int) Z B O A A1 c1 none 0 ⟨0, fzs l k, [], 0, 0⟩) (fun i _ => n - (intOf i).toNat)
  case atStart => exact ⟨0, none, 0, Nat.zero_le _, rfl, fun z h => absurd h (Nat.not_lt_zero _), hRH.out⟩
  case round =>
    clear hRH
    obtain ⟨k, A1, c1, hk, rfl, hall, hR⟩ := hrel
    have hZn := hZH.out
    have hRH := Lib.hid hR
    obtain ⟨y0, y1, y2, y3, y4, yf⟩ := hR.g
    by_cases hlt : k < n
    case pos =>
      have hlt1 : (k : Int) < Z - 3 := by omega
      clear hZn
      have hkw : IntKind.i64.wrap ((k : Int) + 1) = (k : Int) + 1 := IntWalk.i64_in _ (by omega)
      have hf := Lib.hid (hfz.out wr hR.bw k)
      have hns := Lib.hid (fun h => not_says (D := (m : Int)) (Z := Z) (l := l) (mem_subs_zone (m := m) hlt) h)
      have hallk := Lib.hid (fun (h : someAt l (3, (k : Int))) z (hz : z < k + 1) => show someAt l (3, (z : Int)) from by
        by_cases e : z = k
        · subst e; exact h
        · exact hall z (by omega))
      have hsu := Lib.hid (fzs_succ l k)
      clear hall hR
      obtain ⟨t, ht⟩ : ∃ t, t = (found l (3, (k : Int))).isSome := ⟨_, rfl⟩
      have htH := Lib.hid ht
      rw [← ht] at hf
      clear ht
      generalize hyy : fnd l (3, (k : Int)) = y at hf hsu
      clear hyy
      go_wp2_with fail
      refine hf.out.mono ?_
      rintro e w2 ⟨rfl, hb2⟩
      have hR2 := hRH.out.below hb2
      have hR2H := Lib.hid hR2
      clear y0 y1 y2 y3 y4 yf hRH hb2 hR2 hf
      cases t with
      | false =>
        have hn2 := Lib.hid (hns.out (fun h => by unfold someAt at h; rw [← htH.out] at h; cases h))
        have hR3H := Lib.hid (hR2H.out.below (W' := w2.alloc (.cells #[.int .i64 y.k, .int .i64 y.s, .int .i64 y.a, .int .i64 y.b, .int .i64 y.c, .int .i64 y.d, .string y.body] 52)) ((Below.refl _ _).alloc (Nat.le_refl _) _))
        go_upto_region 8 with fail
        refine fresh_world (fun W => NewR w W r (m : Int) Z B O A A1 c1 none 0 ⟨0, fzs l k, [], 0, 0⟩) hR3H.out ?_
        clear hR3H hR2H
        rintro W3 hR3
        have hR3H := Lib.hid hR3
        clear hR3
        have hpH := Lib.hid (no_put hR3H.out.o hR3H.out.bw)
        obtain ⟨q0, q1, q2, q3, q4, qf⟩ := hR3H.out.o
        go_wp2_with fail
        refine fresh_post (fun W => BkAt W (w.heap.size + 1) none 0 none 0 noB ∧ Below w.heap.size w W) hpH.out ?_
        rintro W10 ⟨⟨z0, z1, z2, z3, z4, _⟩, hb10⟩
        rw [hffH.out]
        refine bodyPost_ret (v := .tuple #[.agg #[.int .i64 0, .slice none 0 0, .slice none 0 0, .int .i64 0, .int .i64 0], .int .i64 9]) (by
          have z0' : W10.cell? ⟨w.heap.size + 1, 0, none⟩ = some (.int .i64 0) := z0
          have z1' : W10.cell? ⟨w.heap.size + 1, 1, none⟩ = some (.slice none 0 0) := z1
          have z2' : W10.cell? ⟨w.heap.size + 1, 2, none⟩ = some (.slice none 0 0) := z2
          have z3' : W10.cell? ⟨w.heap.size + 1, 3, none⟩ = some (.int .i64 0) := z3
          have z4' : W10.cell? ⟨w.heap.size + 1, 4, none⟩ = some (.int .i64 0) := z4
          simp [results, Try.results10, go_sem, z0', z1', z2', z3', z4']) rfl ⟨fun h => absurd h hn2.out, fun _ => ⟨rfl, hb10⟩⟩
      | true =>
        have hal := Lib.hid (hallk.out (by unfold someAt; rw [← htH.out]))
        have hR3 := hR2H.out.below (W' := w2.alloc (.cells #[.int .i64 y.k, .int .i64 y.s, .int .i64 y.a, .int .i64 y.b, .int .i64 y.c, .int .i64 y.d, .string y.body] 52)) ((Below.refl _ _).alloc (Nat.le_refl _) _)
        have hY : RcAt (w2.alloc (.cells #[.int .i64 y.k, .int .i64 y.s, .int .i64 y.a, .int .i64 y.b, .int .i64 y.c, .int .i64 y.d, .string y.body] 52)) w2.heap.size y := RcAt.new w2 y _
        have hYH := Lib.hid (And.intro hR3 hY)
        clear hR3 hY
        go_upto_region 8 with fail
        refine fresh_world (fun W => NewR w W r (m : Int) Z B O A A1 c1 none 0 ⟨0, fzs l k, [], 0, 0⟩ ∧ RcAt W w2.heap.size y) hYH.out ?_
        clear hYH hR2H
        generalize w2.heap.size = Y
        rintro W3 ⟨hR3, hY⟩
        obtain ⟨A', cap', W4, hrun, hc1, hf1, hR4⟩ := hR3.zone (zoF y) (by show (fzs l k).length < 64; rw [fzs_len]; omega)
        have b1 := hR3.k.a.c1
        dsimp only [zoF] at hrun hc1 hR4 b1
        rw [fzs_len] at hrun hc1 hR4 b1
        have e : fzs l k ++ [⟨y.b, y.c, y.d⟩] = fzs l (k + 1) := hsu.out.symm
        rw [e] at hR4
        have hrunH := Lib.hid hrun
        have hR4H := Lib.hid hR4
        obtain ⟨x0, x1, x2, x3, x4, x5, x6⟩ := hY
        clear hrun hR4 e hR3
        go_wp2_with (at_builtin; refine append_run_wp (by first | rfl | (simp [Region.wanted, yielded])) (.tmp 43) (.tmp 51) 38 rfl rfl rfl hrunH.out ?_; clear hrunH b1 x0 x1 x2 x3 x4 x5 x6)
        go_roundw
        case rel => exact ⟨k + 1, A', cap', by omega, by go_num, hal.out, hR4H.out⟩
        case measure => simp only [intOf]; omega
    case neg =>
      have hlt1 : ¬ (k : Int) < Z - 3 := by omega
      clear hZn
      obtain rfl : k = n := by omega
      have hallZ := Lib.hid hall
      clear hall hR hlt hk
      go_wp2_with fail
      clear y0 y1 y2 y3 y4 yf
      go_loopw [10] (fun i wr => ∃ (j : Nat) (A2 : Option Addr) (c2 : Nat), j ≤ m ∧ i = .int .i64 (j : Int) ∧ (∀ s, s < j → someAt l (5, (s : Int))) ∧ NewR w wr r (m : Int) Z B O A A1 c1 A2 c2 ⟨0, fzs l k, fms l j, 0, 0⟩) (fun i _ => m - (intOf i).toNat)
      case atStart => exact ⟨0, none, 0, Nat.zero_le _, rfl, fun z h => absurd h (Nat.not_lt_zero _), hRH.out⟩
      case round =>
        clear hRH
        obtain ⟨j, A2, c2, hj, rfl, hall, hR⟩ := hrel
        have hRH := Lib.hid hR
        obtain ⟨y0, y1, y2, y3, y4, yf⟩ := hR.g
        by_cases hlt : j < m
        case pos =>
          have hlt1 : (j : Int) < (m : Int) := by omega
          have hkw : IntKind.i64.wrap ((j : Int) + 1) = (j : Int) + 1 := IntWalk.i64_in _ (by omega)
          have hf := Lib.hid (hfm.out wr hR.bw j)
          have hns := Lib.hid (fun h => not_says (D := (m : Int)) (Z := Z) (l := l) (mem_subs_mem (n := k) hlt) h)
          have hallk := Lib.hid (fun (h : someAt l (5, (j : Int))) z (hz : z < j + 1) => show someAt l (5, (z : Int)) from by
            by_cases e : z = j
            · subst e; exact h
            · exact hall z (by omega))
          have hsu := Lib.hid (fms_succ l j)
          clear hall hR
          obtain ⟨t, ht⟩ : ∃ t, t = (found l (5, (j : Int))).isSome := ⟨_, rfl⟩
          have htH := Lib.hid ht
          rw [← ht] at hf
          clear ht
          generalize hyy : fnd l (5, (j : Int)) = y at hf hsu
          clear hyy
          go_wp2_with fail
          refine hf.out.mono ?_
          rintro e w2 ⟨rfl, hb2⟩
          have hR2 := hRH.out.below hb2
          have hR2H := Lib.hid hR2
          clear y0 y1 y2 y3 y4 yf hRH hb2 hR2 hf
          cases t with
          | false =>
            have hn2 := Lib.hid (hns.out (fun h => by unfold someAt at h; rw [← htH.out] at h; cases h))
            have hR3H := Lib.hid (hR2H.out.below (W' := w2.alloc (.cells #[.int .i64 y.k, .int .i64 y.s, .int .i64 y.a, .int .i64 y.b, .int .i64 y.c, .int .i64 y.d, .string y.body] 52)) ((Below.refl _ _).alloc (Nat.le_refl _) _))
            go_upto_region 15 with fail
            refine fresh_world (fun W => NewR w W r (m : Int) Z B O A A1 c1 A2 c2 ⟨0, fzs l k, fms l j, 0, 0⟩) hR3H.out ?_
            clear hR3H hR2H
            rintro W3 hR3
            have hR3H := Lib.hid hR3
            clear hR3
            have hpH := Lib.hid (no_put hR3H.out.o hR3H.out.bw)
            obtain ⟨q0, q1, q2, q3, q4, qf⟩ := hR3H.out.o
            go_wp2_with fail
            refine fresh_post (fun W => BkAt W (w.heap.size + 1) none 0 none 0 noB ∧ Below w.heap.size w W) hpH.out ?_
            rintro W10 ⟨⟨z0, z1, z2, z3, z4, _⟩, hb10⟩
            rw [hffH.out]
            refine bodyPost_ret (v := .tuple #[.agg #[.int .i64 0, .slice none 0 0, .slice none 0 0, .int .i64 0, .int .i64 0], .int .i64 9]) (by
              have z0' : W10.cell? ⟨w.heap.size + 1, 0, none⟩ = some (.int .i64 0) := z0
              have z1' : W10.cell? ⟨w.heap.size + 1, 1, none⟩ = some (.slice none 0 0) := z1
              have z2' : W10.cell? ⟨w.heap.size + 1, 2, none⟩ = some (.slice none 0 0) := z2
              have z3' : W10.cell? ⟨w.heap.size + 1, 3, none⟩ = some (.int .i64 0) := z3
              have z4' : W10.cell? ⟨w.heap.size + 1, 4, none⟩ = some (.int .i64 0) := z4
              simp [results, Try.results10, go_sem, z0', z1', z2', z3', z4']) rfl ⟨fun h => absurd h hn2.out, fun _ => ⟨rfl, hb10⟩⟩
          | true =>
            have hal := Lib.hid (hallk.out (by unfold someAt; rw [← htH.out]))
            have hR3 := hR2H.out.below (W' := w2.alloc (.cells #[.int .i64 y.k, .int .i64 y.s, .int .i64 y.a, .int .i64 y.b, .int .i64 y.c, .int .i64 y.d, .string y.body] 52)) ((Below.refl _ _).alloc (Nat.le_refl _) _)
            have hY : RcAt (w2.alloc (.cells #[.int .i64 y.k, .int .i64 y.s, .int .i64 y.a, .int .i64 y.b, .int .i64 y.c, .int .i64 y.d, .string y.body] 52)) w2.heap.size y := RcAt.new w2 y _
            have hYH := Lib.hid (And.intro hR3 hY)
            clear hR3 hY
            go_upto_region 15 with fail
            refine fresh_world (fun W => NewR w W r (m : Int) Z B O A A1 c1 A2 c2 ⟨0, fzs l k, fms l j, 0, 0⟩ ∧ RcAt W w2.heap.size y) hYH.out ?_
            clear hYH hR2H
            generalize w2.heap.size = Y
            rintro W3 ⟨hR3, hY⟩
            obtain ⟨A', cap', W4, hrun, hc1, hf1, hR4⟩ := hR3.mem y.b (by show (fms l j).length < 64; rw [fms_len]; omega)
            have b1 := hR3.k.a.c2
            dsimp only at hrun hc1 hR4 b1
            rw [fms_len] at hrun hc1 hR4 b1
            have e : fms l j ++ [y.b] = fms l (j + 1) := hsu.out.symm
            rw [e] at hR4
            have hrunH := Lib.hid hrun
            have hR4H := Lib.hid hR4
            obtain ⟨x0, x1, x2, x3, x4, x5, x6⟩ := hY
            clear hrun hR4 e hR3
            go_wp2_with (at_builtin; refine append_run_wp (by first | rfl | (simp [Region.wanted, yielded])) (.tmp 70) (.tmp 73) 31 rfl rfl rfl hrunH.out ?_; clear hrunH b1 x0 x1 x2 x3 x4 x5 x6)
            go_roundw
            case rel => exact ⟨j + 1, A', cap', by omega, by go_num, hal.out, hR4H.out⟩
            case measure => simp only [intOf]; omega
        case neg =>
          have hlt1 : ¬ (j : Int) < (m : Int) := by omega
          obtain rfl : j = m := by omega
          have hallM := Lib.hid hall
          have hf := Lib.hid (hfc.out wr hR.bw)
          have hns := Lib.hid (fun h => not_says (D := (j : Int)) (Z := Z) (l := l) (mem_subs_cur k j) h)
          clear hall hR hlt hj
          obtain ⟨t, ht⟩ : ∃ t, t = (found l (6, 0)).isSome := ⟨_, rfl⟩
          have htH := Lib.hid ht
          rw [← ht] at hf
          clear ht
          obtain ⟨y, hyy⟩ : ∃ y, y = fnd l (6, 0) := ⟨_, rfl⟩
          have hyH := Lib.hid hyy
          rw [← hyy] at hf
          clear hyy
          go_wp2_with fail
          refine hf.out.mono ?_
          rintro e w2 ⟨rfl, hb2⟩
          have hR2 := hRH.out.below hb2
          have hR2H := Lib.hid hR2
          clear y0 y1 y2 y3 y4 yf hRH hb2 hR2 hf
          cases t with
          | false =>
            have hn2 := Lib.hid (hns.out (fun h => by unfold someAt at h; rw [← htH.out] at h; cases h))
            have hR3H := Lib.hid (hR2H.out.below (W' := w2.alloc (.cells #[.int .i64 y.k, .int .i64 y.s, .int .i64 y.a, .int .i64 y.b, .int .i64 y.c, .int .i64 y.d, .string y.body] 52)) ((Below.refl _ _).alloc (Nat.le_refl _) _))
            go_upto_region 19 with fail
            refine fresh_world (fun W => NewR w W r (j : Int) Z B O A A1 c1 A2 c2 ⟨0, fzs l k, fms l j, 0, 0⟩) hR3H.out ?_
            clear hR3H hR2H
            rintro W3 hR3
            have hR3H := Lib.hid hR3
            clear hR3
            have hpH := Lib.hid (no_put hR3H.out.o hR3H.out.bw)
            obtain ⟨q0, q1, q2, q3, q4, qf⟩ := hR3H.out.o
            go_wp2_with fail
            refine fresh_post (fun W => BkAt W (w.heap.size + 1) none 0 none 0 noB ∧ Below w.heap.size w W) hpH.out ?_
            rintro W10 ⟨⟨z0, z1, z2, z3, z4, _⟩, hb10⟩
            rw [hffH.out]
            refine bodyPost_ret (v := .tuple #[.agg #[.int .i64 0, .slice none 0 0, .slice none 0 0, .int .i64 0, .int .i64 0], .int .i64 9]) (by
              have z0' : W10.cell? ⟨w.heap.size + 1, 0, none⟩ = some (.int .i64 0) := z0
              have z1' : W10.cell? ⟨w.heap.size + 1, 1, none⟩ = some (.slice none 0 0) := z1
              have z2' : W10.cell? ⟨w.heap.size + 1, 2, none⟩ = some (.slice none 0 0) := z2
              have z3' : W10.cell? ⟨w.heap.size + 1, 3, none⟩ = some (.int .i64 0) := z3
              have z4' : W10.cell? ⟨w.heap.size + 1, 4, none⟩ = some (.int .i64 0) := z4
              simp [results, Try.results10, go_sem, z0', z1', z2', z3', z4']) rfl ⟨fun h => absurd h hn2.out, fun _ => ⟨rfl, hb10⟩⟩
          | true =>
            have hC3 := Lib.hid (show someAt l (6, 0) by unfold someAt; rw [← htH.out])
            have hR3 := hR2H.out.below (W' := w2.alloc (.cells #[.int .i64 y.k, .int .i64 y.s, .int .i64 y.a, .int .i64 y.b, .int .i64 y.c, .int .i64 y.d, .string y.body] 52)) ((Below.refl _ _).alloc (Nat.le_refl _) _)
            have hY : RcAt (w2.alloc (.cells #[.int .i64 y.k, .int .i64 y.s, .int .i64 y.a, .int .i64 y.b, .int .i64 y.c, .int .i64 y.d, .string y.body] 52)) w2.heap.size y := RcAt.new w2 y _
            have hYH := Lib.hid (And.intro hR3 hY)
            clear hR3 hY
            go_upto_region 19 with fail
            have hrY : ¬ r = w2.heap.size := by have := hR2H.out.lt; omega
            have hrY2 : ¬ w2.heap.size = r := by have := hR2H.out.lt; omega
            refine fresh_world (fun W => NewR w W r (j : Int) Z B O A A1 c1 A2 c2 ⟨0, fzs l k, fms l j, 0, 0⟩ ∧ RcAt W w2.heap.size y) hYH.out ?_
            clear hYH hR2H
            generalize w2.heap.size = Y at hrY hrY2
            rintro W3 ⟨hR3, hY⟩
            have hE : ∀ sl, sl = (if y.a = 65535 then -1 else y.a) → ({ q := 0, zs := fzs l k, ms := fms l j, sl := sl, cu := y.b } : Bo) = fullB k j l := fun sl e => by
              unfold fullB
              rw [← hyH.out, e]
              rfl
            have hEH := Lib.hid hE
            have hS1 := Lib.hid (((hR3.set_sl y.a).set_cu y.b).below (Below.refl _ _).drew)
            have hS2 := Lib.hid ((((hR3.set_sl y.a).set_cu y.b).set_sl (-1)).below (Below.refl _ _).drew)
            have b3 := hR3.k.a.c3
            have b4 := hR3.k.a.c4
            have f3 := hR3.k.a.fr 3
            have f4 := hR3.k.a.fr 4
            obtain ⟨x0, x1, x2, x3, x4, x5, x6⟩ := hY
            clear hE hR3
            go_upto_region 21 with fail
            go_region
            go_upto_if 92 with (fail)
            go_cut [93] from 90 to 93 (fun _ wx => NewR w wx r (j : Int) Z B O A A1 c1 A2 c2 (fullB k j l))
            case first =>
              by_cases ha : y.a = 65535
              · have ha' : (y.a == 65535) = true := by simp [ha]
                have hfin := Lib.hid (show NewR w _ r (j : Int) Z B O A A1 c1 A2 c2 (fullB k j l) from by rw [← hEH.out (-1) (by rw [if_pos ha])]; exact hS2.out)
                clear ha hS1 hS2
                go_wp2_with fail
                go_meet
                exact hfin.out
              · have ha' : (y.a == 65535) = false := by simp [ha]
                have hfin := Lib.hid (show NewR w _ r (j : Int) Z B O A A1 c1 A2 c2 (fullB k j l) from by rw [← hEH.out y.a (by rw [if_neg ha])]; exact hS1.out)
                clear ha hS1 hS2
                go_wp2_with fail
                go_meet
                exact hfin.out
            case rest =>
              clear hrY hrY2 b3 b4 f3 f4 x0 x1 x2 x3 x4 x5 x6 hS1 hS2 hEH
              have hRH := Lib.hid hcut
              clear hcut
              have hzl := full_zl k j l
              have hml := full_ml k j l
              have hsy := Lib.hid (says_ref (D := (j : Int)) (Z := Z) (n := k) (m := j) hposH.out (by omega) (by omega) hallZ.out hallM.out hC3.out)
              obtain ⟨F, hF⟩ : ∃ F, F = fullB k j l := ⟨_, rfl⟩
              rw [← hF] at hRH hzl hml hsy
              have hFH := Lib.hid hF
              clear hF hfc hyH
              go_wp2_with fail
              go_loopw [15] (fun i wr => ∃ (a : Nat), a ≤ k ∧ i = .int .i64 (a : Int) ∧ (∀ z, z < a → okZ Z F.zs z) ∧ NewR w wr r (j : Int) Z B O A A1 c1 A2 c2 F) (fun i _ => k - (intOf i).toNat)
              case atStart => exact ⟨0, Nat.zero_le _, rfl, fun z h => absurd h (Nat.not_lt_zero _), hRH.out⟩
              case round =>
                clear hRH
                obtain ⟨a, ha, rfl, hall, hR⟩ := hrel
                have hRH := Lib.hid hR
                have hb1 := hR.k.a.c1
                rw [hzl] at hb1
                obtain ⟨y0, y1, y2, y3, y4, yf⟩ := hR.g
                by_cases hlt : a < k
                case pos =>
                  have hlt1 : (a : Int) < (k : Int) := by omega
                  have haz : a < F.zs.length := by omega
                  have hkw : IntKind.i64.wrap ((a : Int) + 1) = (a : Int) + 1 := IntWalk.i64_in _ (by omega)
                  obtain ⟨g, e1, z0, z1, z2⟩ := rzo_at hR haz
                  subst e1
                  have hcp : k ≤ c1 := by
                    rcases hR.k.o.z.form with ⟨e, _⟩ | ⟨g', _, _, _, hc⟩
                    · cases e
                    · omega
                  have hallH := Lib.hid hall
                  have hns := Lib.hid (fun (h : ¬ okZ Z F.zs a) => show ¬ SaysB (j : Int) Z k j l from fun h2 => h ((hsy.out.1 h2).1 a))
                  clear hall hR
                  generalize hz : F.zs[a] = z at z0 z1 z2
                  have hzH := Lib.hid hz
                  clear hz
                  by_cases hz1 : 2 ≤ z.p ∧ z.p < Z ∧ z.s ≤ 2
                  case pos =>
                    obtain ⟨v1, v2, v3⟩ := hz1
                    have v1' : decide (z.p < 2) = false := decide_eq_false (by omega)
                    have v2' : decide (Z ≤ z.p) = false := decide_eq_false (by omega)
                    have v3' : decide (2 < z.s) = false := decide_eq_false (by omega)
                    go_wp2_with fail
                    go_quiet (fail)
                    go_wp2_with fail
                    refine fresh_world (fun W => NewR w W r (j : Int) Z B O A (some ⟨g, 0, none⟩) c1 A2 c2 F) (hRH.out.below (below_drewN (Below.refl _ _) _)) ?_
                    clear hRH hb1 y0 y1 y2 y3 y4 yf z0 z1 z2 v1' v2' v3'
                    rintro W5 hR
                    have hRH := Lib.hid hR
                    clear hR
                    go_loopw [16] (fun i wr => ∃ (q : Nat), q ≤ a ∧ i = .int .i64 (q : Int) ∧ (∀ x (hx : x < F.zs.length), x < q → F.zs[x].p ≠ z.p) ∧ NewR w wr r (j : Int) Z B O A (some ⟨g, 0, none⟩) c1 A2 c2 F) (fun i _ => a - (intOf i).toNat)
                    case atStart => exact ⟨0, Nat.zero_le _, rfl, fun x _ h => absurd h (Nat.not_lt_zero _), hRH.out⟩
                    case round =>
                      clear hRH
                      obtain ⟨q, hq, rfl, hneq, hR⟩ := hrel
                      have hRH := Lib.hid hR
                      have hb1 := hR.k.a.c1
                      rw [hzl] at hb1
                      by_cases hlt2 : q < a
                      case pos =>
                        have hqz : q < F.zs.length := by omega
                        have hqk : q < k := by omega
                        have hq1 : (q : Int) < (a : Int) := by omega
                        have hkw2 : IntKind.i64.wrap ((q : Int) + 1) = (q : Int) + 1 := IntWalk.i64_in _ (by omega)
                        obtain ⟨g', e1, z0, z1, z2⟩ := rzo_at hR haz
                        injection e1 with e1
                        injection e1 with e1
                        subst e1
                        rw [hzH.out] at z0
                        obtain ⟨g', e1, s0, -, -⟩ := rzo_at hR hqz
                        injection e1 with e1
                        injection e1 with e1
                        subst e1
                        have hneqH := Lib.hid (fun (h : F.zs[q].p ≠ z.p) x (hx : x < F.zs.length) (hxq : x < q + 1) => show F.zs[x].p ≠ z.p from by
                          by_cases e : x = q
                          · subst e; exact h
                          · exact hneq x hx (by omega))
                        have hbad := Lib.hid (fun (e : F.zs[q].p = z.p) => hns.out (fun hok => (hok haz).2 q hqz hlt2 (by rw [hzH.out]; exact e)))
                        clear hneq hR z1 z2
                        generalize F.zs[q].p = sp at s0 hneqH hbad
                        by_cases hsp : sp = z.p
                        case pos =>
                          have hsp' : (sp == z.p) = true := by simp [hsp]
                          have hn2 := Lib.hid (hbad.out hsp)
                          clear hsp
                          go_wp2_with fail
                          go_quiet (fail)
                          go_upto_region 33 with fail
                          refine fresh_world (fun W => NewR w W r (j : Int) Z B O A (some ⟨g, 0, none⟩) c1 A2 c2 F) (hRH.out.below (below_drewN (Below.refl _ _) _)) ?_
                          clear hRH hb1 z0 s0 hsp'
                          rintro W6 hR6
                          have hR6H := Lib.hid hR6
                          clear hR6
                          have hpH := Lib.hid (no_put hR6H.out.o hR6H.out.bw)
                          obtain ⟨q0, q1, q2, q3, q4, qf⟩ := hR6H.out.o
                          go_wp2_with fail
                          refine fresh_post (fun W => BkAt W (w.heap.size + 1) none 0 none 0 noB ∧ Below w.heap.size w W) hpH.out ?_
                          rintro W10 ⟨⟨z0, z1, z2, z3, z4, _⟩, hb10⟩
                          rw [hffH.out]
                          refine bodyPost_ret (v := .tuple #[.agg #[.int .i64 0, .slice none 0 0, .slice none 0 0, .int .i64 0, .int .i64 0], .int .i64 9]) (by
                            have z0' : W10.cell? ⟨w.heap.size + 1, 0, none⟩ = some (.int .i64 0) := z0
                            have z1' : W10.cell? ⟨w.heap.size + 1, 1, none⟩ = some (.slice none 0 0) := z1
                            have z2' : W10.cell? ⟨w.heap.size + 1, 2, none⟩ = some (.slice none 0 0) := z2
                            have z3' : W10.cell? ⟨w.heap.size + 1, 3, none⟩ = some (.int .i64 0) := z3
                            have z4' : W10.cell? ⟨w.heap.size + 1, 4, none⟩ = some (.int .i64 0) := z4
                            simp [results, Try.results10, go_sem, z0', z1', z2', z3', z4']) rfl ⟨fun h => absurd h hn2.out, fun _ => ⟨rfl, hb10⟩⟩
                        case neg =>
                          have hsp' : (sp == z.p) = false := by simp [hsp]
                          have hsH := Lib.hid hsp
                          clear hsp
                          go_wp2_with fail
                          go_quiet (fail)
                          go_wp2_with fail
                          go_roundw
                          case rel => exact ⟨q + 1, by omega, by go_num, hneqH.out hsH.out, hRH.out.below (below_drewN (Below.refl _ _) _)⟩
                          case measure => simp only [intOf]; omega
                      case neg =>
                        have hq1 : ¬ (q : Int) < (a : Int) := by omega
                        have hokz := Lib.hid (fun zz (hzz : zz < a + 1) => show okZ Z F.zs zz from by
                          by_cases e : zz = a
                          · subst e
                            intro h
                            rw [hzH.out]
                            exact ⟨⟨v1, v2, v3⟩, fun y hy hya => hneq y hy (by omega)⟩
                          · exact hallH.out zz (by omega))
                        clear hneq hR hb1
                        go_wp2_with fail
                        go_roundw
                        case rel => exact ⟨a + 1, by omega, by go_num, hokz.out, hRH.out⟩
                        case measure => simp only [intOf]; omega
                  case neg =>
                    have hn2 := Lib.hid (hns.out (fun hok => hz1 (by have := (hok haz).1; rw [hzH.out] at this; exact this)))
                    rcases (by omega : z.p < 2 ∨ (2 ≤ z.p ∧ Z ≤ z.p) ∨ (2 ≤ z.p ∧ z.p < Z ∧ 2 < z.s)) with v1 | ⟨v1, v2⟩ | ⟨v1, v2, v3⟩
                    · have v1' : decide (z.p < 2) = true := decide_eq_true v1
                      clear hz1
                      go_wp2_with fail
                      go_quiet (fail)
                      go_upto_region 28 with fail
                      refine fresh_world (fun W => NewR w W r (j : Int) Z B O A (some ⟨g, 0, none⟩) c1 A2 c2 F) (hRH.out.below (below_drewN (Below.refl _ _) _)) ?_
                      clear hRH hb1 y0 y1 y2 y3 y4 yf z0 z1 z2 v1'
                      rintro W6 hR6
                      have hR6H := Lib.hid hR6
                      clear hR6
                      have hpH := Lib.hid (no_put hR6H.out.o hR6H.out.bw)
                      obtain ⟨q0, q1, q2, q3, q4, qf⟩ := hR6H.out.o
                      go_wp2_with fail
                      refine fresh_post (fun W => BkAt W (w.heap.size + 1) none 0 none 0 noB ∧ Below w.heap.size w W) hpH.out ?_
                      rintro W10 ⟨⟨z0, z1, z2, z3, z4, _⟩, hb10⟩
                      rw [hffH.out]
                      refine bodyPost_ret (v := .tuple #[.agg #[.int .i64 0, .slice none 0 0, .slice none 0 0, .int .i64 0, .int .i64 0], .int .i64 9]) (by
                        have z0' : W10.cell? ⟨w.heap.size + 1, 0, none⟩ = some (.int .i64 0) := z0
                        have z1' : W10.cell? ⟨w.heap.size + 1, 1, none⟩ = some (.slice none 0 0) := z1
                        have z2' : W10.cell? ⟨w.heap.size + 1, 2, none⟩ = some (.slice none 0 0) := z2
                        have z3' : W10.cell? ⟨w.heap.size + 1, 3, none⟩ = some (.int .i64 0) := z3
                        have z4' : W10.cell? ⟨w.heap.size + 1, 4, none⟩ = some (.int .i64 0) := z4
                        simp [results, Try.results10, go_sem, z0', z1', z2', z3', z4']) rfl ⟨fun h => absurd h hn2.out, fun _ => ⟨rfl, hb10⟩⟩
                    · have v1' : decide (z.p < 2) = false := decide_eq_false (by omega)
                      have v2' : decide (Z ≤ z.p) = true := decide_eq_true v2
                      clear hz1
                      go_wp2_with fail
                      go_quiet (fail)
                      go_upto_region 28 with fail
                      refine fresh_world (fun W => NewR w W r (j : Int) Z B O A (some ⟨g, 0, none⟩) c1 A2 c2 F) (hRH.out.below (below_drewN (Below.refl _ _) _)) ?_
                      clear hRH hb1 y0 y1 y2 y3 y4 yf z0 z1 z2 v1'
                      rintro W6 hR6
                      have hR6H := Lib.hid hR6
                      clear hR6
                      have hpH := Lib.hid (no_put hR6H.out.o hR6H.out.bw)
                      obtain ⟨q0, q1, q2, q3, q4, qf⟩ := hR6H.out.o
                      go_wp2_with fail
                      refine fresh_post (fun W => BkAt W (w.heap.size + 1) none 0 none 0 noB ∧ Below w.heap.size w W) hpH.out ?_
                      rintro W10 ⟨⟨z0, z1, z2, z3, z4, _⟩, hb10⟩
                      rw [hffH.out]
                      refine bodyPost_ret (v := .tuple #[.agg #[.int .i64 0, .slice none 0 0, .slice none 0 0, .int .i64 0, .int .i64 0], .int .i64 9]) (by
                        have z0' : W10.cell? ⟨w.heap.size + 1, 0, none⟩ = some (.int .i64 0) := z0
                        have z1' : W10.cell? ⟨w.heap.size + 1, 1, none⟩ = some (.slice none 0 0) := z1
                        have z2' : W10.cell? ⟨w.heap.size + 1, 2, none⟩ = some (.slice none 0 0) := z2
                        have z3' : W10.cell? ⟨w.heap.size + 1, 3, none⟩ = some (.int .i64 0) := z3
                        have z4' : W10.cell? ⟨w.heap.size + 1, 4, none⟩ = some (.int .i64 0) := z4
                        simp [results, Try.results10, go_sem, z0', z1', z2', z3', z4']) rfl ⟨fun h => absurd h hn2.out, fun _ => ⟨rfl, hb10⟩⟩
                    · have v1' : decide (z.p < 2) = false := decide_eq_false (by omega)
                      have v2' : decide (Z ≤ z.p) = false := decide_eq_false (by omega)
                      have v3' : decide (2 < z.s) = true := decide_eq_true v3
                      clear hz1
                      go_wp2_with fail
                      go_quiet (fail)
                      go_upto_region 28 with fail
                      refine fresh_world (fun W => NewR w W r (j : Int) Z B O A (some ⟨g, 0, none⟩) c1 A2 c2 F) (hRH.out.below (below_drewN (Below.refl _ _) _)) ?_
                      clear hRH hb1 y0 y1 y2 y3 y4 yf z0 z1 z2 v1'
                      rintro W6 hR6
                      have hR6H := Lib.hid hR6
                      clear hR6
                      have hpH := Lib.hid (no_put hR6H.out.o hR6H.out.bw)
                      obtain ⟨q0, q1, q2, q3, q4, qf⟩ := hR6H.out.o
                      go_wp2_with fail
                      refine fresh_post (fun W => BkAt W (w.heap.size + 1) none 0 none 0 noB ∧ Below w.heap.size w W) hpH.out ?_
                      rintro W10 ⟨⟨z0, z1, z2, z3, z4, _⟩, hb10⟩
                      rw [hffH.out]
                      refine bodyPost_ret (v := .tuple #[.agg #[.int .i64 0, .slice none 0 0, .slice none 0 0, .int .i64 0, .int .i64 0], .int .i64 9]) (by
                        have z0' : W10.cell? ⟨w.heap.size + 1, 0, none⟩ = some (.int .i64 0) := z0
                        have z1' : W10.cell? ⟨w.heap.size + 1, 1, none⟩ = some (.slice none 0 0) := z1
                        have z2' : W10.cell? ⟨w.heap.size + 1, 2, none⟩ = some (.slice none 0 0) := z2
                        have z3' : W10.cell? ⟨w.heap.size + 1, 3, none⟩ = some (.int .i64 0) := z3
                        have z4' : W10.cell? ⟨w.heap.size + 1, 4, none⟩ = some (.int .i64 0) := z4
                        simp [results, Try.results10, go_sem, z0', z1', z2', z3', z4']) rfl ⟨fun h => absurd h hn2.out, fun _ => ⟨rfl, hb10⟩⟩
                case neg =>
                  have hlt1 : ¬ (a : Int) < (k : Int) := by omega
                  obtain rfl : a = k := by omega
                  have hzz := Lib.hid hall
                  clear hall hR hlt ha
                  go_wp2_with fail
                  clear y0 y1 y2 y3 y4 yf
                  go_loopw [17] (fun i wr => ∃ (q : Nat), q ≤ j ∧ i = .int .i64 (q : Int) ∧ (∀ s, s < q → okM (j : Int) F.ms s) ∧ NewR w wr r (j : Int) Z B O A A1 c1 A2 c2 F) (fun i _ => j - (intOf i).toNat)
                  case atStart => exact ⟨0, Nat.zero_le _, rfl, fun z h => absurd h (Nat.not_lt_zero _), hRH.out⟩
                  case round =>
                    clear hRH
                    obtain ⟨q, hq, rfl, hall, hR⟩ := hrel
                    have hRH := Lib.hid hR
                    have hb2 := hR.k.a.c2
                    rw [hml] at hb2
                    obtain ⟨y0, y1, y2, y3, y4, yf⟩ := hR.g
                    by_cases hlt : q < j
                    case pos =>
                      have hlt1 : (q : Int) < (j : Int) := by omega
                      have hqz : q < F.ms.length := by omega
                      have hkw : IntKind.i64.wrap ((q : Int) + 1) = (q : Int) + 1 := IntWalk.i64_in _ (by omega)
                      obtain ⟨g, e1, -, z0⟩ := hR.k.o.m.at_ hqz
                      subst e1
                      have hcp : j ≤ c2 := by
                        rcases hR.k.o.m.form with ⟨e, _⟩ | ⟨g', _, _, _, hc⟩
                        · cases e
                        · omega
                      have hallH := Lib.hid hall
                      have hns := Lib.hid (fun (h : ¬ okM (j : Int) F.ms q) => show ¬ SaysB (j : Int) Z a j l from fun h2 => h ((hsy.out.1 h2).2.1 q))
                      clear hall hR
                      generalize hz : F.ms[q] = z at z0
                      have hzH := Lib.hid hz
                      clear hz
                      by_cases hz1 : z ≤ (j : Int)
                      case pos =>
                        have v1' : decide ((j : Int) < z) = false := decide_eq_false (by omega)
                        go_wp2_with fail
                        go_quiet (fail)
                        go_wp2_with fail
                        refine fresh_world (fun W => NewR w W r (j : Int) Z B O A A1 c1 (some ⟨g, 0, none⟩) c2 F) (hRH.out.below (below_drewN (Below.refl _ _) _)) ?_
                        clear hRH hb2 y0 y1 y2 y3 y4 yf z0 v1'
                        rintro W5 hR
                        have hRH := Lib.hid hR
                        clear hR
                        go_loopw [18] (fun i wr => ∃ (p : Nat), p ≤ q ∧ i = .int .i64 (p : Int) ∧ (∀ x (hx : x < F.ms.length), x < p → F.ms[x] ≠ z) ∧ NewR w wr r (j : Int) Z B O A A1 c1 (some ⟨g, 0, none⟩) c2 F) (fun i _ => q - (intOf i).toNat)
                        case atStart => exact ⟨0, Nat.zero_le _, rfl, fun x _ h => absurd h (Nat.not_lt_zero _), hRH.out⟩
                        case round =>
                          clear hRH
                          obtain ⟨p, hp, rfl, hneq, hR⟩ := hrel
                          have hRH := Lib.hid hR
                          have hb2 := hR.k.a.c2
                          rw [hml] at hb2
                          by_cases hlt2 : p < q
                          case pos =>
                            have hpz : p < F.ms.length := by omega
                            have hpk : p < j := by omega
                            have hp1 : (p : Int) < (q : Int) := by omega
                            have hkw2 : IntKind.i64.wrap ((p : Int) + 1) = (p : Int) + 1 := IntWalk.i64_in _ (by omega)
                            obtain ⟨g', e1, -, z0⟩ := hR.k.o.m.at_ hqz
                            injection e1 with e1
                            injection e1 with e1
                            subst e1
                            rw [hzH.out] at z0
                            obtain ⟨g', e1, -, s0⟩ := hR.k.o.m.at_ hpz
                            injection e1 with e1
                            injection e1 with e1
                            subst e1
                            have hneqH := Lib.hid (fun (h : F.ms[p] ≠ z) x (hx : x < F.ms.length) (hxq : x < p + 1) => show F.ms[x] ≠ z from by
                              by_cases e : x = p
                              · subst e; exact h
                              · exact hneq x hx (by omega))
                            have hbad := Lib.hid (fun (e : F.ms[p] = z) => hns.out (fun hok => (hok hqz).2 p hpz hlt2 (by rw [hzH.out]; exact e)))
                            clear hneq hR
                            generalize F.ms[p] = sp at s0 hneqH hbad
                            by_cases hsp : sp = z
                            case pos =>
                              have hsp' : (sp == z) = true := by simp [hsp]
                              have hn2 := Lib.hid (hbad.out hsp)
                              clear hsp
                              go_wp2_with fail
                              go_quiet (fail)
                              go_upto_region 43 with fail
                              refine fresh_world (fun W => NewR w W r (j : Int) Z B O A A1 c1 (some ⟨g, 0, none⟩) c2 F) (hRH.out.below (below_drewN (Below.refl _ _) _)) ?_
                              clear hRH hb2 z0 s0 hsp'
                              rintro W6 hR6
                              have hR6H := Lib.hid hR6
                              clear hR6
                              have hpH := Lib.hid (no_put hR6H.out.o hR6H.out.bw)
                              obtain ⟨q0, q1, q2, q3, q4, qf⟩ := hR6H.out.o
                              go_wp2_with fail
                              refine fresh_post (fun W => BkAt W (w.heap.size + 1) none 0 none 0 noB ∧ Below w.heap.size w W) hpH.out ?_
                              rintro W10 ⟨⟨z0, z1, z2, z3, z4, _⟩, hb10⟩
                              rw [hffH.out]
                              refine bodyPost_ret (v := .tuple #[.agg #[.int .i64 0, .slice none 0 0, .slice none 0 0, .int .i64 0, .int .i64 0], .int .i64 9]) (by
                                have z0' : W10.cell? ⟨w.heap.size + 1, 0, none⟩ = some (.int .i64 0) := z0
                                have z1' : W10.cell? ⟨w.heap.size + 1, 1, none⟩ = some (.slice none 0 0) := z1
                                have z2' : W10.cell? ⟨w.heap.size + 1, 2, none⟩ = some (.slice none 0 0) := z2
                                have z3' : W10.cell? ⟨w.heap.size + 1, 3, none⟩ = some (.int .i64 0) := z3
                                have z4' : W10.cell? ⟨w.heap.size + 1, 4, none⟩ = some (.int .i64 0) := z4
                                simp [results, Try.results10, go_sem, z0', z1', z2', z3', z4']) rfl ⟨fun h => absurd h hn2.out, fun _ => ⟨rfl, hb10⟩⟩
                            case neg =>
                              have hsp' : (sp == z) = false := by simp [hsp]
                              have hsH := Lib.hid hsp
                              clear hsp
                              go_wp2_with fail
                              go_quiet (fail)
                              go_wp2_with fail
                              go_roundw
                              case rel => exact ⟨p + 1, by omega, by go_num, hneqH.out hsH.out, hRH.out.below (below_drewN (Below.refl _ _) _)⟩
                              case measure => simp only [intOf]; omega
                          case neg =>
                            have hp1 : ¬ (p : Int) < (q : Int) := by omega
                            have hokz := Lib.hid (fun zz (hzz : zz < q + 1) => show okM (j : Int) F.ms zz from by
                              by_cases e : zz = q
                              · subst e
                                intro h
                                rw [hzH.out]
                                exact ⟨hz1, fun y hy hya => hneq y hy (by omega)⟩
                              · exact hallH.out zz (by omega))
                            clear hneq hR hb2
                            go_wp2_with fail
                            go_roundw
                            case rel => exact ⟨q + 1, by omega, by go_num, hokz.out, hRH.out⟩
                            case measure => simp only [intOf]; omega
                      case neg =>
                        have hn2 := Lib.hid (hns.out (fun hok => hz1 (by have := (hok hqz).1; rw [hzH.out] at this; exact this)))
                        have v1' : decide ((j : Int) < z) = true := decide_eq_true (by omega)
                        clear hz1
                        go_wp2_with fail
                        go_quiet (fail)
                        go_upto_region 38 with fail
                        refine fresh_world (fun W => NewR w W r (j : Int) Z B O A A1 c1 (some ⟨g, 0, none⟩) c2 F) (hRH.out.below (below_drewN (Below.refl _ _) _)) ?_
                        clear hRH hb2 y0 y1 y2 y3 y4 yf z0 v1'
                        rintro W6 hR6
                        have hR6H := Lib.hid hR6
                        clear hR6
                        have hpH := Lib.hid (no_put hR6H.out.o hR6H.out.bw)
                        obtain ⟨q0, q1, q2, q3, q4, qf⟩ := hR6H.out.o
                        go_wp2_with fail
                        refine fresh_post (fun W => BkAt W (w.heap.size + 1) none 0 none 0 noB ∧ Below w.heap.size w W) hpH.out ?_
                        rintro W10 ⟨⟨z0, z1, z2, z3, z4, _⟩, hb10⟩
                        rw [hffH.out]
                        refine bodyPost_ret (v := .tuple #[.agg #[.int .i64 0, .slice none 0 0, .slice none 0 0, .int .i64 0, .int .i64 0], .int .i64 9]) (by
                          have z0' : W10.cell? ⟨w.heap.size + 1, 0, none⟩ = some (.int .i64 0) := z0
                          have z1' : W10.cell? ⟨w.heap.size + 1, 1, none⟩ = some (.slice none 0 0) := z1
                          have z2' : W10.cell? ⟨w.heap.size + 1, 2, none⟩ = some (.slice none 0 0) := z2
                          have z3' : W10.cell? ⟨w.heap.size + 1, 3, none⟩ = some (.int .i64 0) := z3
                          have z4' : W10.cell? ⟨w.heap.size + 1, 4, none⟩ = some (.int .i64 0) := z4
                          simp [results, Try.results10, go_sem, z0', z1', z2', z3', z4']) rfl ⟨fun h => absurd h hn2.out, fun _ => ⟨rfl, hb10⟩⟩
                    case neg =>
                      have hlt1 : ¬ (q : Int) < (j : Int) := by omega
                      obtain rfl : q = j := by omega
                      have hmm := Lib.hid hall
                      have b3 := hR.k.a.c3
                      have b4 := hR.k.a.c4
                      have hns := Lib.hid (fun (h : ¬ okC (q : Int) Z F.sl F.cu) => show ¬ SaysB (q : Int) Z a q l from fun h2 => h ((hsy.out.1 h2).2.2))
                      have hyes := Lib.hid (fun (h : okC (q : Int) Z F.sl F.cu) => hsy.out.2 ⟨fun zi h2 => hzz.out zi (by omega) h2, fun mi h2 => hmm.out mi (by omega) h2, h⟩)
                      clear hall hR hlt hq hb2
                      clear hmm hzz
                      go_upto_region 44 with fail
                      go_cut [201] from 180 to 201 (fun c wx => ∃ t : Bool, c = .bool t ∧ (t = true ↔ ¬ okC (q : Int) Z F.sl F.cu) ∧ NewR w wx r (q : Int) Z B O A A1 c1 A2 c2 F)
                      case first =>
                        have hout := Lib.hid (fun W (hb : Below wr.heap.size wr W) => hRH.out.below hb)
                        clear hns hyes hRH hsy hallZ hallM hC3
                        by_cases v1 : (q : Int) ≤ F.sl
                        · have w1 : decide ((q : Int) ≤ F.sl) = true := decide_eq_true v1
                          go_wp2_with fail
                          go_meet
                          exact ⟨true, rfl, by have hx : ¬ okC (q : Int) Z F.sl F.cu := (fun h => by unfold okC at h; omega); simp [hx], hout.out _ (Below.refl _ _)⟩
                        · have w1 : decide ((q : Int) ≤ F.sl) = false := decide_eq_false v1
                          by_cases v2 : Z < F.cu
                          · have w2 : decide (Z < F.cu) = true := decide_eq_true v2
                            go_wp2_with fail
                            go_meet
                            exact ⟨true, rfl, by have hx : ¬ okC (q : Int) Z F.sl F.cu := (fun h => by unfold okC at h; omega); simp [hx], hout.out _ (Below.refl _ _)⟩
                          · have w2 : decide (Z < F.cu) = false := decide_eq_false v2
                            by_cases v3 : F.sl < 0
                            · have w3 : decide (F.sl < 0) = true := decide_eq_true v3
                              go_wp2_with fail
                              go_meet
                              exact ⟨F.cu != 0, rfl, by have hx : okC (q : Int) Z F.sl F.cu ↔ F.cu = 0 := (by unfold okC; omega); rw [hx]; simp, hout.out _ (Below.refl _ _)⟩
                            · have w3 : decide (F.sl < 0) = false := decide_eq_false v3
                              go_wp2_with fail
                              go_meet
                              exact ⟨false, rfl, by have hx : okC (q : Int) Z F.sl F.cu := (by unfold okC; omega); simp [hx], hout.out _ (Below.refl _ _)⟩
                      case rest =>
                        obtain ⟨t, rfl, ht, hR⟩ := hcut
                        have hRH := Lib.hid hR
                        cases t with
                        | true =>
                          have hn2 := Lib.hid (hns.out (ht.1 rfl))
                          clear ht hR b3 b4 y0 y1 y2 y3 y4 yf
                          have hpH := Lib.hid (no_put hRH.out.o hRH.out.bw)
                          obtain ⟨q0, q1, q2, q3, q4, qf⟩ := hRH.out.o
                          go_wp2_with fail
                          refine fresh_post (fun W => BkAt W (w.heap.size + 1) none 0 none 0 noB ∧ Below w.heap.size w W) hpH.out ?_
                          rintro W10 ⟨⟨z0, z1, z2, z3, z4, _⟩, hb10⟩
                          rw [hffH.out]
                          refine bodyPost_ret (v := .tuple #[.agg #[.int .i64 0, .slice none 0 0, .slice none 0 0, .int .i64 0, .int .i64 0], .int .i64 9]) (by
                            have z0' : W10.cell? ⟨w.heap.size + 1, 0, none⟩ = some (.int .i64 0) := z0
                            have z1' : W10.cell? ⟨w.heap.size + 1, 1, none⟩ = some (.slice none 0 0) := z1
                            have z2' : W10.cell? ⟨w.heap.size + 1, 2, none⟩ = some (.slice none 0 0) := z2
                            have z3' : W10.cell? ⟨w.heap.size + 1, 3, none⟩ = some (.int .i64 0) := z3
                            have z4' : W10.cell? ⟨w.heap.size + 1, 4, none⟩ = some (.int .i64 0) := z4
                            simp [results, Try.results10, go_sem, z0', z1', z2', z3', z4']) rfl ⟨fun h => absurd h hn2.out, fun _ => ⟨rfl, hb10⟩⟩
                        | false =>
                          have hys := Lib.hid (hyes.out (by
                            by_cases h : okC (q : Int) Z F.sl F.cu
                            · exact h
                            · exact absurd (ht.2 h) (by decide)))
                          have hq0 : F.q = 0 := by rw [hFH.out]; rfl
                          have e0 : ({ F with q := 0 } : Bo) = F := by rw [← hq0]
                          have hRq := hR
                          rw [← e0] at hRq
                          have hRqH := Lib.hid hRq
                          clear ht hR b3 b4 y0 y1 y2 y3 y4 yf hRH hns hyes hq0 e0 hRq hsy hallZ hallM hC3 hposH
                          go_wp2_with fail
                          go_loopw [19] (fun i wr => ∃ k2 : Nat, k2 ≤ ls.length ∧ i = .int .i64 (k2 : Int) ∧ NewR w wr r (q : Int) Z B O A A1 c1 A2 c2 { F with q := mqF 0 (flatL (ls.take k2)) }) (fun i _ => ls.length - (intOf i).toNat)
                          case atStart => exact ⟨0, Nat.zero_le _, rfl, hRqH.out⟩
                          case round =>
                            clear hRqH
                            obtain ⟨k2, hk2, rfl, hR⟩ := hrel
                            have hRH := Lib.hid hR
                            by_cases hlt : k2 < ls.length
                            case pos =>
                              obtain ⟨_, _, -, -, -, hI0⟩ := hIH.out.at_ hlt
                              obtain ⟨b, off, rfl, -, -, -⟩ := (hIH.out.below hR.bw).at_ hlt
                              have hpH := Lib.hid (flatL_take hlt)
                              have hr1 := (hokH.out.2 _ (List.getElem_mem hlt)).1
                              have hI0H := Lib.hid (fun W (hb : Below w.heap.size w W) => hI0.below hb)
                              have hc := Lib.hid (fun W (hb : Below w.heap.size w W) => (by
                                obtain ⟨b', off', e, -, hc, -⟩ := (hIH.out.below hb).at_ hlt
                                injection e with e
                                injection e with e1 e2
                                subst e1
                                subst e2
                                exact hc : W.cell? ⟨b, off + k2, none⟩ = some (.slice ls[k2].A ls[k2].rs.length ls[k2].cap)))
                              clear hR hI0
                              generalize ls[k2] = rr at hc hr1 hpH hI0H
                              obtain ⟨Ar, capr, rs⟩ := rr
                              dsimp only at hc hr1 hpH hI0H
                              obtain ⟨L, hL⟩ : ∃ L, L = flatL (ls.take k2) := ⟨_, rfl⟩
                              rw [← hL] at hpH hRH
                              clear hL
                              have hk21 : (k2 : Int) < (ls.length : Int) := by omega
                              obtain ⟨wo, rfl⟩ : ∃ wo, wo = wr := ⟨_, rfl⟩
                              go_wp2_with fail
                              go_loopw [20] (fun i wr => ∃ j : Nat, j ≤ rs.length ∧ i = .int .i64 (j : Int) ∧ NewR w wr r (q : Int) Z B O A A1 c1 A2 c2 { F with q := mqF 0 (L ++ rs.take j) }) (fun i _ => rs.length - (intOf i).toNat)
                              case atStart => exact ⟨0, Nat.zero_le _, rfl, by rw [List.take_zero, List.append_nil]; exact hRH.out⟩
                              case round =>
                                clear hRH
                                obtain ⟨j, hj, rfl, hR⟩ := hrel
                                have hcc := hc.out _ hR.bw
                                by_cases hlt2 : j < rs.length
                                case pos =>
                                  obtain ⟨b2, off2, rfl, -, x0, x1, x2, x3, x4, x5, x6⟩ := (hI0H.out _ hR.bw).at_ hlt2
                                  have hst : max (mqF 0 (L ++ rs.take j)) rs[j].s = mqF 0 (L ++ rs.take (j + 1)) := by
                                    rw [← mqF_snoc, List.append_assoc, List.take_succ_eq_append_getElem hlt2]
                                  have hRn := hR.set_q rs[j].s
                                  have hq0 := hR.k.a.c0
                                  have hqf := hR.k.a.fr 0
                                  dsimp only at hq0 hRn
                                  have hstH := Lib.hid hst
                                  have hj1 : (j : Int) < (rs.length : Int) := by omega
                                  have hkw : IntKind.i64.wrap ((j : Int) + 1) = (j : Int) + 1 := IntWalk.i64_in _ (by omega)
                                  have h10 := Lib.hid (hR.below (below_drewN (Below.refl _ _) 1))
                                  have hRH := Lib.hid (show NewR w wr.drew _ _ _ _ _ _ _ _ _ _ _ from hR.below (Below.refl _ _).drew)
                                  have hccH := Lib.hid (fun W (hb : Below wr.heap.size wr W) => (hb.cell (p := ⟨b, off + k2, none⟩) (lt_of_cell hcc)).trans hcc)
                                  clear hst x0 x2 x3 x4 x5 x6
                                  have hI1 := Lib.hid (fun W (hb : Below wr.heap.size wr W) => (hb.cell (p := ⟨b2, off2 + j * 7 + 1, none⟩) (lt_of_cell x1)).trans x1)
                                  generalize hx : rs[j] = x at x1 hRn hstH hI1
                                  clear hx
                                  obtain ⟨m0, hm0⟩ : ∃ m0, m0 = mqF 0 (L ++ rs.take j) := ⟨_, rfl⟩
                                  rw [← hm0] at hq0 hstH hRH h10 hR
                                  clear hm0
                                  by_cases hgt : m0 < x.s
                                  case pos =>
                                    have hgt' : decide (m0 < x.s) = true := decide_eq_true hgt
                                    have hstp := Lib.hid (show x.s = mqF 0 (L ++ rs.take (j + 1)) by rw [← hstH.out]; omega)
                                    clear hgt hstH hRn
                                    go_wp2_with fail
                                    go_quiet (fail)
                                    go_upto_region 53 with fail
                                    refine fresh_world (fun W => NewR w W r (q : Int) Z B O A A1 c1 A2 c2 { F with q := m0 } ∧ W.cell? ⟨b, off + k2, none⟩ = some (.slice (some ⟨b2, off2, none⟩) rs.length capr) ∧ W.cell? ⟨b2, off2 + j * 7 + 1, none⟩ = some (.int .i64 x.s)) ⟨hR.below (below_drewN (Below.refl _ _) _), hccH.out _ (below_drewN (Below.refl _ _) _), hI1.out _ (below_drewN (Below.refl _ _) _)⟩ ?_
                                    clear hq0 hqf hR x1 hcc hI1 hccH hRH h10 hgt'
                                    rintro W8 ⟨hR, hcc, x1⟩
                                    have hq0 := hR.k.a.c0
                                    have hqf := hR.k.a.fr 0
                                    have hRn := hR.set_q x.s
                                    dsimp only at hRn
                                    have hRH := Lib.hid hRn
                                    clear hR hRn
                                    go_wp2_with fail
                                    go_roundw
                                    case rel => exact ⟨j + 1, by omega, by go_num, by rw [← hstp.out]; exact hRH.out⟩
                                    case measure => simp only [intOf]; omega
                                  case neg =>
                                    have hgt' : decide (m0 < x.s) = false := decide_eq_false hgt
                                    have hstp := Lib.hid (show m0 = mqF 0 (L ++ rs.take (j + 1)) by rw [← hstH.out]; omega)
                                    have hR' := Lib.hid hR
                                    clear hgt hstH hRn hR
                                    go_wp2_with fail
                                    go_quiet (fail)
                                    go_wp2_with fail
                                    go_roundw
                                    case rel => exact ⟨j + 1, by omega, by go_num, by rw [← hstp.out]; exact hR'.out.below (below_drewN (Below.refl _ _) _)⟩
                                    case measure => simp only [intOf]; omega
                                case neg =>
                                  have hje : j = rs.length := by omega
                                  rw [hje, List.take_length] at hR
                                  have hRH := Lib.hid hR
                                  have hj1 : ¬ (j : Int) < (rs.length : Int) := by omega
                                  have hkw : IntKind.i64.wrap ((k2 : Int) + 1) = (k2 : Int) + 1 := IntWalk.i64_in _ (by omega)
                                  clear hR hje
                                  go_wp2_with fail
                                  go_roundw
                                  case rel => exact ⟨k2 + 1, by omega, by go_num, by rw [hpH.out]; exact hRH.out⟩
                                  case measure => simp only [intOf]; omega
                            case neg =>
                              have hke : k2 = ls.length := by omega
                              rw [hke, List.take_length, ← hlH.out, hFH.out] at hR
                              have e : ({ fullB a q l with q := mqF 0 l } : Bo) = readB a q l := rfl
                              rw [e] at hR
                              have hk1 : ¬ (k2 : Int) < (ls.length : Int) := by omega
                              have hol := hR.o.lt
                              have hout := Lib.hid (rbook_out hR.o hR.k.o (show w.heap.size + 1 < r + 1 from by have := hR.lo; omega) (show w.heap.size ≤ w.heap.size + 1 by omega) hR.bw)
                              obtain ⟨r0, r1, r2, r3, r4, rf⟩ := hR.k.a
                              obtain ⟨q0, q1, q2, q3, q4, qf⟩ := hR.o
                              clear hR e hke hlt hRH
                              go_wp2_with fail
                              refine fresh_post (fun W => BkAt W (w.heap.size + 1) A1 c1 A2 c2 (readB a q l) ∧ RkO W w.heap.size A1 c1 A2 c2 (readB a q l) ∧ Below w.heap.size w W) hout.out ?_
                              rintro W10 ⟨⟨z0, z1, z2, z3, z4, _⟩, hO10, hb10⟩
                              rw [hffH.out]
                              refine bodyPost_ret (v := .tuple #[.agg #[.int .i64 (readB a q l).q, .slice A1 (readB a q l).zs.length c1, .slice A2 (readB a q l).ms.length c2, .int .i64 (readB a q l).sl, .int .i64 (readB a q l).cu], .int .i64 0]) (by simp [results, Try.results10 , go_sem, z0, z1, z2, z3, z4]) rfl ⟨fun _ => ⟨A1, c1, A2, c2, rfl, hO10, hb10⟩, fun h => absurd hys.out h⟩
end Go.Proofs.Ytpmhfalhieinjaa
