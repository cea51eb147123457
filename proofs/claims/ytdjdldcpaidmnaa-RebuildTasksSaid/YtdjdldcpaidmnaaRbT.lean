/- The records with the next numbers of a book. -/
import Derived.Test.YtdjdldcpaidmnaaRbS
namespace Go.Proofs.Ytdjdldcpaidmnaa
open Go.RowKit Rec Bk Rb

/-- Two slices lie in blocks that came later. -/
def NewB (n : Nat) (B1 B2 : Option Addr) : Prop := (∀ g off, B1 = some ⟨g, off, none⟩ → n ≤ g) ∧ ∀ g off, B2 = some ⟨g, off, none⟩ → n ≤ g
theorem NewB.of {W : World} {n B : Nat} {B1 B2 : Option Addr} {d1 d2 : Nat} {b : Bo} (hO : BkO W B B1 d1 B2 d2 b) (hB : n ≤ B) : NewB n B1 B2 := by
  refine ⟨fun g off e => ?_, fun g off e => ?_⟩
  · rcases hO.z.form with ⟨e', _⟩ | ⟨g', e', hge, _⟩
    · rw [e'] at e; cases e
    · rw [e'] at e; injection e with e; injection e with e; omega
  · rcases hO.m.form with ⟨e', _⟩ | ⟨g', e', hge, _⟩
    · rw [e'] at e; cases e
    · rw [e'] at e; injection e with e; injection e with e; omega
/-- What state answers: the list and the book, apart from each other and of the call's own. -/
def StPost (w : World) (b : Bo) (xs : List Rc) (e : Ending) (w' : World) : Prop := ∃ (A1 : Option Addr) (c1 : Nat) (A2 : Option Addr) (c2 : Nat) (A : Option Addr) (cap : Nat), e = .returned (.tuple #[.slice A xs.length cap, .agg #[.int .i64 (stB b xs xs.length).q, .slice A1 (stB b xs xs.length).zs.length c1, .slice A2 (stB b xs xs.length).ms.length c2, .int .i64 (stB b xs xs.length).sl, .int .i64 (stB b xs xs.length).cu]]) ∧ RRow w' w.heap.size 62 A cap (stL b xs xs.length) ∧ BkIn w' A1 c1 A2 c2 (stB b xs xs.length) ∧ (0 < xs.length → NewB w.heap.size A1 A2) ∧ Below w.heap.size w w'
/-- The book handed back. -/
theorem StW.out {w W : World} {A1 A2 A : Option Addr} {c1 c2 cap : Nat} {b : Bo} {rs : List Rc} (h : StW w W A1 c1 A2 c2 b A cap rs) :
    (BkAt (((((W.setCell ⟨w.heap.size + 1, 0, none⟩ (.int .i64 b.q)).setCell ⟨w.heap.size + 1, 1, none⟩ (.slice A1 b.zs.length c1)).setCell ⟨w.heap.size + 1, 2, none⟩ (.slice A2 b.ms.length c2)).setCell ⟨w.heap.size + 1, 3, none⟩ (.int .i64 b.sl)).setCell ⟨w.heap.size + 1, 4, none⟩ (.int .i64 b.cu)) (w.heap.size + 1) A1 c1 A2 c2 b ∧ BkIn (((((W.setCell ⟨w.heap.size + 1, 0, none⟩ (.int .i64 b.q)).setCell ⟨w.heap.size + 1, 1, none⟩ (.slice A1 b.zs.length c1)).setCell ⟨w.heap.size + 1, 2, none⟩ (.slice A2 b.ms.length c2)).setCell ⟨w.heap.size + 1, 3, none⟩ (.int .i64 b.sl)).setCell ⟨w.heap.size + 1, 4, none⟩ (.int .i64 b.cu)) A1 c1 A2 c2 b) ∧ RRow (((((W.setCell ⟨w.heap.size + 1, 0, none⟩ (.int .i64 b.q)).setCell ⟨w.heap.size + 1, 1, none⟩ (.slice A1 b.zs.length c1)).setCell ⟨w.heap.size + 1, 2, none⟩ (.slice A2 b.ms.length c2)).setCell ⟨w.heap.size + 1, 3, none⟩ (.int .i64 b.sl)).setCell ⟨w.heap.size + 1, 4, none⟩ (.int .i64 b.cu)) w.heap.size 62 A cap rs ∧ Below w.heap.size w (((((W.setCell ⟨w.heap.size + 1, 0, none⟩ (.int .i64 b.q)).setCell ⟨w.heap.size + 1, 1, none⟩ (.slice A1 b.zs.length c1)).setCell ⟨w.heap.size + 1, 2, none⟩ (.slice A2 b.ms.length c2)).setCell ⟨w.heap.size + 1, 3, none⟩ (.int .i64 b.sl)).setCell ⟨w.heap.size + 1, 4, none⟩ (.int .i64 b.cu)) := by
  have hg := grownBy_put W (w.heap.size + 1) (.int .i64 b.q) (.slice A1 b.zs.length c1) (.slice A2 b.ms.length c2) (.int .i64 b.sl) (.int .i64 b.cu)
  have hb1 : w.heap.size ≤ w.heap.size + 1 := Nat.le_succ _
  refine ⟨⟨h.o.put b, ⟨?_, ?_, h.i.n1, h.i.n2, h.i.zl, h.i.ml⟩⟩, (h.r.far hg (fun g e e' => ?_)).mono (by omega), ((((h.bw.setCell hb1 _).setCell hb1 _).setCell hb1 _).setCell hb1 _).setCell hb1 _⟩
  · rcases h.i.z with h0 | ⟨g, off, e, hgl, hc⟩
    · exact .inl h0
    · rcases h.n1 with hn | hn
      · obtain ⟨_, n2, _⟩ := hn g off e
        exact .inr ⟨g, off, e, Nat.lt_of_lt_of_le hgl hg.size, fun i hi j hj => (World.cell?_of_block (a := ⟨g, _, none⟩) (hg.block g hgl (by simpa using n2))).trans (hc i hi j hj)⟩
      · exact .inl hn
  · rcases h.i.m with h0 | ⟨g, off, e, hgl, hc⟩
    · exact .inl h0
    · rcases h.n2 with hn | hn
      · obtain ⟨_, n2, _⟩ := hn g off e
        exact .inr ⟨g, off, e, Nat.lt_of_lt_of_le hgl hg.size, fun i hi => (World.cell?_of_block (a := ⟨g, _, none⟩) (hg.block g hgl (by simpa using n2))).trans (hc i hi)⟩
      · exact .inl hn
  · injection e' with e'
    rcases h.r.form with ⟨e2, _⟩ | ⟨g2, e2, hge, _⟩
    · rw [e] at e2; cases e2
    · rw [e] at e2; injection e2 with e2; injection e2 with e2; omega
set_option maxRecDepth 100000 in
set_option maxHeartbeats 4000000 in
theorem state_any (w : World) (A1 : Option Addr) (c1 : Nat) (A2 : Option Addr) (c2 : Nat) (b : Bo) (I : Option Addr) (ci : Nat) (xs : List Rc) (h : BkIn w A1 c1 A2 c2 b) (hx : RecsAt w I xs) (hl : xs.length ≤ 8) (hq : 0 ≤ b.q ∧ b.q ≤ 4611686018427387904) :
    Calls Try.prog 57 #[.agg #[.int .i64 b.q, .slice A1 b.zs.length c1, .slice A2 b.ms.length c2, .int .i64 b.sl, .int .i64 b.cu], .slice I xs.length ci] w (StPost w b xs) := by
  have hst := Lib.hid (stW_start w A1 c1 A2 c2 b h)
  have hxH := Lib.hid (fun W (hb : Below w.heap.size w W) => hx.below hb)
  clear h hx
  go_enter Try.func57, Try.ntmps57
  go_wp2_with fail
  refine fresh_world (fun W => StW w W A1 c1 A2 c2 b none 0 []) hst.out ?_
  clear hst
  rintro W hN
  have hNH := Lib.hid hN
  clear hN
  obtain ⟨n, hn⟩ : ∃ n, xs.length = n := ⟨_, rfl⟩
  rw [hn] at hl
  rw [hn]
  have hnH := Lib.hid hn
  clear hn
  go_loopw [6, 11] (fun s i wr => ∃ (k : Nat) (A : Option Addr) (cap : Nat) (B1 : Option Addr) (d1 : Nat) (B2 : Option Addr) (d2 : Nat), k ≤ n ∧ i = .int .i64 (k : Int) ∧ s = .slice A k cap ∧ StW w wr B1 d1 B2 d2 (stB b xs k) A cap (stL b xs k) ∧ Hid (0 < k → NewB w.heap.size B1 B2)) (fun _ i _ => n - (intOf i).toNat)
  case atStart => exact ⟨0, none, 0, A1, c1, A2, c2, Nat.zero_le _, rfl, rfl, hNH.out, Lib.hid (fun h => absurd h (Nat.lt_irrefl _))⟩
  case round =>
    clear hNH
    obtain ⟨k, A, cap, B1, d1, B2, d2, hkn, rfl, rfl, hN, hnew⟩ := hrel
    by_cases hlt : k < n
    case pos =>
      have hkl : k < xs.length := by rw [hnH.out]; exact hlt
      obtain ⟨g, off, rfl, hgl, x0, x1, x2, x3, x4, x5, x6⟩ := (hxH.out wr hN.bw).at_ hkl
      have hkw : IntKind.i64.wrap ((k : Int) + 1) = (k : Int) + 1 := IntWalk.i64_in _ (by omega)
      have hgb : xs[k] = xs[k]! := (getElem!_pos xs k hkl).symm
      have hbx : stB b xs (k + 1) = noteB (stB b xs k) (nxt (stB b xs k) xs[k]!) := rfl
      have hlx : stL b xs (k + 1) = stL b xs k ++ [nxt (stB b xs k) xs[k]!] := rfl
      rw [← hgb] at hbx hlx
      have hbxH := Lib.hid hbx
      have hlxH := Lib.hid hlx
      have hlen := Lib.hid (stL_len b xs k)
      have hqk := stB_q b xs k
      have hqb : 0 ≤ (stB b xs k).q ∧ (stB b xs k).q ≤ 4611686018427387904 + 8 := by omega
      clear hqk hgb hbx hlx
      generalize xs[k] = x at x0 x1 x2 x3 x4 x5 x6 hbxH hlxH
      generalize stB b xs k = bk at hN hbxH hlxH hqb
      generalize stL b xs k = lk at hN hlxH hlen
      have hqw : IntKind.i64.wrap (bk.q + 1) = bk.q + 1 := IntWalk.i64_in _ (by omega)
      have hNH := Lib.hid hN
      clear hN hqb
      have hB0 : Hid (Below wr.heap.size wr (wr.alloc (.cells #[.int .i64 x.k, .int .i64 x.s, .int .i64 x.a, .int .i64 x.b, .int .i64 x.c, .int .i64 x.d, .string x.body] 62)) ∧ RcW (wr.alloc (.cells #[.int .i64 x.k, .int .i64 x.s, .int .i64 x.a, .int .i64 x.b, .int .i64 x.c, .int .i64 x.d, .string x.body] 62)) wr.heap.size x) := Lib.hid ⟨(Below.refl _ _).alloc (Nat.le_refl _) _, RcW.new wr x 62⟩
      go_upto_region 5 with fail
      clear x0 x1 x2 x3 x4 x5 x6 hgl
      obtain ⟨xb, hxb⟩ : ∃ xb, wr.heap.size = xb := ⟨_, rfl⟩
      rw [hxb] at hB0
      rw [hxb]
      refine fresh_world (fun W => Below xb wr W ∧ RcW W xb x) hB0.out ?_
      clear hB0
      rintro W5 ⟨hb5, hr5⟩
      have hN5 := hNH.out.below (by rw [hxb]; exact hb5)
      obtain ⟨q0, q1, q2, q3, q4, qf⟩ := hN5.a
      have hfr := hr5.fr 1
      have hy1 := hr5.at_.c1
      have hW6 : Hid (Below xb wr (W5.setCell ⟨xb, 1, none⟩ (.int .i64 (bk.q + 1))) ∧ RcW (W5.setCell ⟨xb, 1, none⟩ (.int .i64 (bk.q + 1))) xb (nxt bk x)) := Lib.hid ⟨hb5.setCell (Nat.le_refl _) _, hr5.put1 _⟩
      have hxbH := Lib.hid hxb
      clear hb5 hr5 hN5 q1 q2 q3 q4 qf hxb
      go_upto_region 6 with fail
      refine fresh_world (fun W => Below xb wr W ∧ RcW W xb (nxt bk x)) hW6.out ?_
      clear hW6 q0 hfr hy1 hqw
      rintro W6 ⟨hb6, hr6⟩
      have hN6 := hNH.out.below (by rw [hxbH.out]; exact hb6)
      have hAx0 : Hid (A ≠ some ⟨xb, 0, none⟩) := Lib.hid (fun e => by
        have h9 := hxbH.out
        rcases hNH.out.r.form with ⟨e', _⟩ | ⟨g', e', _, hl', _⟩
        · rw [e] at e'; cases e'
        · rw [e] at e'; injection e' with e'; injection e' with e'; omega)
      clear hNH
      have hx6 := hr6.at_
      have hW0 := Lib.hid (hb6.size)
      clear hr6 hb6
      generalize nxt bk x = y at hx6 hbxH hlxH
      have hAx : A ≠ some ⟨xb, 0, none⟩ := hAx0.out
      have hnt := Lib.hid (fun W (h : StW w W B1 d1 B2 d2 bk A cap lk) => h.i)
      have hsz6 : w.heap.size + 1 < W6.heap.size := hN6.o.lt
      have hx6l := hx6.lt
      have hS : (fun W' => BkAt W' w.heap.size B1 d1 B2 d2 bk ∧ RcAt W' xb y) W6.drew := ⟨hN6.a.below (Below.refl _ _).drew, hx6.below (Below.refl _ _).drew⟩
      have hN7 := (hN6.below (Below.refl _ _).drew).below ((Below.refl W6.drew.heap.size W6.drew).alloc (Nat.le_refl _) (.cells #[.int .i64 y.k, .int .i64 y.s, .int .i64 y.a, .int .i64 y.b, .int .i64 y.c, .int .i64 y.d, .string y.body] 62))
      have hm7 := RcAt.new W6.drew y 62
      have hS7 : (fun W' => BkAt W' w.heap.size B1 d1 B2 d2 bk ∧ RcAt W' xb y) (W6.drew.alloc (.cells #[.int .i64 y.k, .int .i64 y.s, .int .i64 y.a, .int .i64 y.b, .int .i64 y.c, .int .i64 y.d, .string y.body] 62)) := ⟨hN7.a, (hx6.below (Below.refl _ _).drew).below ((Below.refl W6.drew.heap.size W6.drew).alloc (Nat.le_refl _) _)⟩
      obtain ⟨A', cap', W8, hrun, hN8, hkeep, hA, hsz⟩ := hN7.app hm7 (by rw [hlen.out]; omega)
      rw [hlen.out] at hrun
      have hS8 : (fun W' => BkAt W' w.heap.size B1 d1 B2 d2 bk ∧ RcAt W' xb y) W8 := ⟨hN8.a, hS7.2.of (hkeep xb (by have := hS7.2.lt; exact this) hAx)⟩
      have hnote := note_any W8 B1 d1 B2 d2 bk y hN8.i
      have hw8 : w.heap.size + 1 < W8.heap.size := hN8.o.lt
      rw [← hbxH.out] at hnote
      rw [← hlxH.out] at hN8
      have hN8H := Lib.hid hN8
      have hnoteH := Lib.hid hnote
      clear hkeep hA hsz hN7 hm7 hN6 hx6 hx6l hsz6 hAx hnt hN8 hnote
      refine region_anyC (fun i => decide (i < 6)) (fun W' => BkAt W' w.heap.size B1 d1 B2 d2 bk ∧ RcAt W' xb y) (by kernel_rfl) ?_
      refine anyL_take 0 (v := ?_) rfl (by kernel_rfl) (fun _ _ _ h => h) (Or.inl ⟨by rfl, ?_⟩) hS ?_
      rotate_left
      focus (intro W hW; go_simp; try with_reducible rfl)
      simp only [Act.put, List.setIfInBounds_toArray, List.set_cons_zero, List.set_cons_succ]
      refine anyL_take 1 (v := ?_) rfl (by kernel_rfl) (fun _ _ _ h => h) (Or.inl ⟨by rfl, ?_⟩) hS ?_
      rotate_left
      focus (intro W hW; obtain ⟨_, ⟨f0, f1, f2, f3, f4, f5, f6⟩⟩ := hW; go_simp; try with_reducible rfl)
      simp only [Act.put, List.setIfInBounds_toArray, List.set_cons_zero, List.set_cons_succ]
      refine anyL_take 4 (v := ?_) rfl (by kernel_rfl) (fun _ _ _ h => h) (Or.inl ⟨by rfl, ?_⟩) hS ?_
      rotate_left
      focus (intro W hW; obtain ⟨⟨f0, f1, f2, f3, f4, _⟩, _⟩ := hW; go_simp; try with_reducible rfl)
      simp only [Act.put, List.setIfInBounds_toArray, List.set_cons_zero, List.set_cons_succ]
      refine anyL_take 5 (v := ?_) rfl (by kernel_rfl) (fun _ _ _ h => h) (Or.inl ⟨by rfl, ?_⟩) hS ?_
      rotate_left
      focus (intro W hW; obtain ⟨_, ⟨f0, f1, f2, f3, f4, f5, f6⟩⟩ := hW; go_simp; try with_reducible rfl)
      simp only [Act.put, List.setIfInBounds_toArray, List.set_cons_zero, List.set_cons_succ]
      refine anyL_one 2 rfl (by kernel_rfl) (fun K hK => ?_)
      go_simp
      refine hK.out _ _ (fun _ => hS7) ?_
      clear hK K
      try simp only [Act.put, List.setIfInBounds_toArray, List.set_cons_zero, List.set_cons_succ]
      refine anyL_one 3 rfl (by kernel_rfl) (fun K hK => ?_)
      refine append_run_step rfl (.tmp 19) (.tmp 21) 63 rfl rfl rfl hrun ?_
      refine hK.out _ _ (fun _ => hS8) ?_
      clear hK K hrun hS hS7
      try simp only [Act.put, List.setIfInBounds_toArray, List.set_cons_zero, List.set_cons_succ]
      refine anyL_one 6 rfl (by kernel_rfl) (fun K hK => ?_)
      go_simp
      refine hnoteH.out.mono ?_
      rintro e' w9 ⟨C1, e1, C2, e2, rfl, hO, hb9⟩
      refine hK.out _ _ (fun h => absurd h (by decide)) ?_
      clear hK K hS8 hnoteH
      have hN9 := hN8H.out.below hb9
      have hnw9 := Lib.hid (NewB.of hO (n := w.heap.size) (by omega))
      have hfin := Lib.hid (hN9.put hO hw8 (hN8H.out.apart hO (Nat.le_refl _)))
      obtain ⟨q0, q1, q2, q3, q4, qf⟩ := hN9.a
      clear hN9 hO hb9 hN8H hbxH hlxH
      try simp only [Act.put, List.setIfInBounds_toArray, List.set_cons_zero, List.set_cons_succ]
      refine anyL_one 7 rfl (by kernel_rfl) (fun K hK => ?_)
      go_simp
      refine hK.out _ _ (fun h => absurd h (by decide)) ?_
      clear hK K
      try simp only [Act.put, List.setIfInBounds_toArray, List.set_cons_zero, List.set_cons_succ]
      refine anyL_one 8 rfl (by kernel_rfl) (fun K hK => ?_)
      go_simp
      refine hK.out _ _ (fun h => absurd h (by decide)) ?_
      clear hK K
      try simp only [Act.put, List.setIfInBounds_toArray, List.set_cons_zero, List.set_cons_succ]
      refine anyC_done (by kernel_rfl) ?_ _
      clear q0 q1 q2 q3 q4 qf
      go_wp2_with fail
      go_roundw
      case rel => exact ⟨k + 1, A', cap', C1, e1, C2, e2, by omega, by go_num, rfl, hfin.out, Lib.hid (fun _ => hnw9.out)⟩
      case measure => simp only [intOf]; omega
    case neg =>
      have hke : k = n := by omega
      subst hke
      have hb9 : Hid (stB b xs xs.length = stB b xs k) := Lib.hid (by rw [hnH.out])
      have hl9 : Hid (stL b xs xs.length = stL b xs k) := Lib.hid (by rw [hnH.out])
      generalize stB b xs k = bk at hN hb9
      generalize stL b xs k = lk at hN hl9
      have hND := hN.below (Below.refl wr.heap.size wr).drew
      clear hN hxH
      have hout := Lib.hid hND.out
      have hS : (fun W' => BkAt W' w.heap.size B1 d1 B2 d2 bk) wr.drew := hND.a
      obtain ⟨p0, p1, p2, p3, p4, pf⟩ := hND.o
      clear hND
      go_upto_region 8 with fail
      refine region_anyC (fun i => decide (i < 3)) (fun W' => BkAt W' w.heap.size B1 d1 B2 d2 bk) (by kernel_rfl) ?_
      refine anyL_take 0 (v := ?_) rfl (by kernel_rfl) (fun _ _ _ h => h) (Or.inl ⟨by rfl, ?_⟩) hS ?_
      rotate_left
      focus (intro W hW; go_simp; try with_reducible rfl)
      simp only [Act.put, List.setIfInBounds_toArray, List.set_cons_zero, List.set_cons_succ]
      refine anyL_take 1 (v := ?_) rfl (by kernel_rfl) (fun _ _ _ h => h) (Or.inl ⟨by rfl, ?_⟩) hS ?_
      rotate_left
      focus (intro W hW; obtain ⟨f0, f1, f2, f3, f4, _⟩ := hW; go_simp; try with_reducible rfl)
      simp only [Act.put, List.setIfInBounds_toArray, List.set_cons_zero, List.set_cons_succ]
      refine anyL_one 2 rfl (by kernel_rfl) (fun K hK => ?_)
      go_simp
      refine hK.out _ _ (fun _ => hS) ?_
      clear hK K
      try simp only [Act.put, List.setIfInBounds_toArray, List.set_cons_zero, List.set_cons_succ]
      clear hS
      generalize wr.drew = WD at hout p0 p1 p2 p3 p4 pf ⊢
      refine anyL_one 3 rfl (by kernel_rfl) (fun K hK => ?_)
      go_simp
      refine hK.out _ _ (fun h => absurd h (by decide)) ?_
      clear hK K
      try simp only [Act.put, List.setIfInBounds_toArray, List.set_cons_zero, List.set_cons_succ]
      refine anyC_done (by kernel_rfl) ?_ _
      clear p0 p1 p2 p3 p4 pf
      go_wp2_with fail
      refine fresh_post (fun W => (BkAt W (w.heap.size + 1) B1 d1 B2 d2 bk ∧ BkIn W B1 d1 B2 d2 bk) ∧ RRow W w.heap.size 62 A cap lk ∧ Below w.heap.size w W) hout.out ?_
      rintro W10 ⟨⟨⟨z0, z1, z2, z3, z4, _⟩, hI10⟩, hR10, hb10⟩
      refine bodyPost_ret (v := .tuple #[.slice A k cap, .agg #[.int .i64 bk.q, .slice B1 bk.zs.length d1, .slice B2 bk.ms.length d2, .int .i64 bk.sl, .int .i64 bk.cu]]) (by simp [results, Try.results57, go_sem, z0, z1, z2, z3, z4]) rfl ⟨B1, d1, B2, d2, A, cap, by rw [hb9.out, hnH.out], by rw [hl9.out]; exact hR10, by rw [hb9.out]; exact hI10, fun h => hnew.out (by rw [hnH.out] at h; exact h), hb10⟩
end Go.Proofs.Ytdjdldcpaidmnaa
