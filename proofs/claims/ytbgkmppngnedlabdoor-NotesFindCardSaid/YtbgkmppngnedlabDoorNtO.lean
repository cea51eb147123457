/- What kept and Of of notes do. -/
import Derived.Test.YtbgkmppngnedlabDoorNtK
namespace Go.Proofs.YtbgkmppngnedlabDoor
open Go.RowKit Rec Go.Maps

/-- The notes of a zone's generation among records. -/
def isN (u : Int × Int) (x : Rc) : Bool := decide (x.k = 4 ∧ x.a = u.1 ∧ x.c = u.2)
def ntF (x : Rc) : Nt := ⟨x.b, x.d, x.body⟩
def notesOf (l : List Rc) (u : Int × Int) : List Nt := (l.filter (isN u)).map ntF
theorem notesOf_yes {l : List Rc} {x : Rc} {u : Int × Int} (h : isN u x = true) : notesOf (l ++ [x]) u = notesOf l u ++ [ntF x] := by
  unfold notesOf
  rw [List.filter_append, List.map_append, List.filter_cons_of_pos h]
  rfl
theorem notesOf_no {l : List Rc} {x : Rc} {u : Int × Int} (h : isN u x = false) : notesOf (l ++ [x]) u = notesOf l u := by
  unfold notesOf
  rw [List.filter_append, List.map_append, List.filter_cons_of_neg (by rw [h]; decide)]
  simp
theorem notesOf_len (l : List Rc) (u : Int × Int) : (notesOf l u).length ≤ l.length := by
  unfold notesOf
  rw [List.length_map]
  exact List.length_filter_le _ _
/-- The map and its rows. -/
structure KeptW (w W : World) (k : Nat) (l : List Rc) (f : Int × Int → Hd) : Prop where
  m : MapS W w.heap.size k f
  r : ∀ u, (f u).n = (notesOf l u).length ∧ ntE.Row W (w.heap.size + 1) 45 (f u).a (f u).c (notesOf l u)
  ap : ∀ u v g, u ≠ v → (f u).g = some g → (f v).g ≠ some g
  bw : Below w.heap.size w W
theorem KeptW.below {w W W' : World} {k : Nat} {l : List Rc} {f : Int × Int → Hd} (h : KeptW w W k l f) (hb : Below W.heap.size W W') : KeptW w W' k l f := ⟨h.m.below hb, fun u => ⟨(h.r u).1, (h.r u).2.below hb⟩, h.ap, bmore h.bw hb⟩
theorem KeptW.start (w : World) : KeptW w (w.alloc (.map #[] 0)) 0 [] (fun _ => ⟨none, 0, 0⟩) := ⟨MapS.made w, fun u => ⟨rfl, Enc.Row.nil _ _ _⟩, fun u v g _ h => (by cases h), (Below.refl _ _).alloc (Nat.le_refl _) _⟩
theorem KeptW.skip {w W : World} {k : Nat} {l : List Rc} {f : Int × Int → Hd} (h : KeptW w W k l f) {x : Rc} (hx : x.k ≠ 4) : KeptW w W (k + 1) (l ++ [x]) f := by
  have hn : ∀ u, notesOf (l ++ [x]) u = notesOf l u := fun u => notesOf_no (decide_eq_false (fun h => hx h.1))
  exact ⟨h.m.mono (Nat.le_succ k), fun u => by rw [hn]; exact h.r u, h.ap, h.bw⟩
theorem row_blk {W : World} {base : Nat} {l : List Nt} {h : Hd} (hr : ntE.Row W base 45 h.a h.c l) {g : Nat} (hg : h.g = some g) : base ≤ g ∧ g < W.heap.size := by
  rcases hr.form with ⟨e, _⟩ | ⟨g', e, hb, hl, _⟩
  · unfold Hd.a at e; rw [hg] at e; cases e
  · unfold Hd.a at e; rw [hg] at e; injection e with e; injection e with e; subst e; exact ⟨hb, hl⟩
set_option maxRecDepth 100000 in
/-- One more note. -/
theorem KeptW.step {w W : World} {k : Nat} {l : List Rc} {f : Int × Int → Hd} (h : KeptW w W k l f) (hk : k ≤ 1000000) (hl : l.length ≤ 1000000) {x : Rc} (hx : x.k = 4) (ha : WfI x.a) (hc : WfI x.c) :
    ∃ (st : Nat) (W1 : World) (A' : Option Addr) (cap' : Nat) (W2 W3 : World) (f' : Int × Int → Hd),
      (Instr.mapEntry 47 (.map (some w.heap.size)) (.agg #[.int .i64 x.a, .int .i64 x.c])).run Tryd.prog (W.alloc (.cells #[.int .i64 x.b, .int .i64 x.d, .string x.body] 45)) = .ok (.tuple #[.slice (f (x.a, x.c)).a (f (x.a, x.c)).n (f (x.a, x.c)).c, goInt st]) W1 ∧
      (Builtin.append_ #[31, 31] 31 #[.slice (f (x.a, x.c)).a (f (x.a, x.c)).n (f (x.a, x.c)).c, .slice (some ⟨W.heap.size, 0, none⟩) 1 1]).run Tryd.prog W1 = .ok (.slice A' ((f (x.a, x.c)).n + 1) cap') W2 ∧
      (Instr.entryStore 47 (.map (some w.heap.size)) (goInt st) (.slice A' ((f (x.a, x.c)).n + 1) cap')).run Tryd.prog W2 = .ok () W3 ∧
      KeptW w W3 (k + 1) (l ++ [x]) f' := by
  have hlt := h.m.lt
  have hb0 := (Below.refl W.heap.size W).alloc (Nat.le_refl _) (.cells #[.int .i64 x.b, .int .i64 x.d, .string x.body] 45)
  have hm := h.below hb0
  have hcell : ∀ j, j < 3 → (W.alloc (.cells #[.int .i64 x.b, .int .i64 x.d, .string x.body] 45)).cell? ⟨W.heap.size, j, none⟩ = (ntE.c (ntF x))[j]? := fun j hj => by
    rw [World.cell?_alloc_new]
    rcases (by omega : j = 0 ∨ j = 1 ∨ j = 2) with rfl | rfl | rfl <;> rfl
  have hsz := World.size_alloc W (.cells #[.int .i64 x.b, .int .i64 x.d, .string x.body] 45)
  generalize W.alloc (.cells #[.int .i64 x.b, .int .i64 x.d, .string x.body] 45) = Wm at hm hcell hsz ⊢
  obtain ⟨st, W1, hrun1, hg1, hsz1, hback⟩ := hm.m.entry (by unfold maxLen; omega) ha hc
  have hu := hm.r (x.a, x.c)
  have hr1 : ∀ v, ntE.Row W1 (w.heap.size + 1) 45 (f v).a (f v).c (notesOf l v) := fun v => (hm.r v).2.far hg1 (fun g e e' => by
    injection e' with e'
    have : (f v).g = some g := by unfold Hd.a at e; cases hh : (f v).g with
      | none => rw [hh] at e; cases e
      | some g2 => rw [hh] at e; injection e with e; injection e with e; rw [e]
    have := (row_blk (hm.r v).2 this).1
    omega)
  have hc1 : ∀ j, j < ntE.k → W1.cell? ⟨W.heap.size, j, none⟩ = (ntE.c (ntF x))[j]? := fun j hj => (World.cell?_of_block (a := ⟨W.heap.size, j, none⟩) (hg1.block _ (by show W.heap.size < _; omega) (by simp; omega))).trans (hcell j hj)
  obtain ⟨A', cap', W2, hrun2, hrow2, hg2, hloc⟩ := (hr1 (x.a, x.c)).append (P := Tryd.prog) Tryd.underlying31 infNt (by decide) (by decide) (m := W.heap.size) (x := ntF x) hc1 (by have := notesOf_len l (x.a, x.c); omega) (by omega) 31
  rw [← hu.1] at hrun2 hg2
  obtain ⟨u, hue⟩ : ∃ u, (x.a, x.c) = u := ⟨_, rfl⟩
  rw [hue] at hrun1 hback hu hrow2 hrun2 hg2 hloc ⊢
  have hown : ∀ k2, (Value.slice (f u).a (f u).n (f u).c).ownBlock = some k2 → (f u).g = some k2 := fun k2 e => by
    unfold Hd.a at e
    cases hh : (f u).g with
    | none => rw [hh] at e; simp [Value.ownBlock] at e
    | some g2 =>
      rw [hh] at e
      simp only [Option.map_some, Value.ownBlock, Option.some.injEq] at e
      rw [e]
  have hge : ∀ v g, (f v).g = some g → w.heap.size + 1 ≤ g ∧ g < W1.heap.size := fun v g e => row_blk (hr1 v) e
  obtain ⟨g', hg', hgl⟩ : ∃ g' : Option Nat, A' = g'.map (fun g => ⟨g, 0, none⟩) ∧ (g' = (f u).g ∨ g' = some W1.heap.size) := by
    rcases hloc with h1 | h1
    · exact ⟨(f u).g, h1, .inl rfl⟩
    · exact ⟨some W1.heap.size, h1, .inr rfl⟩
  have hgge : ∀ g, g' = some g → w.heap.size + 1 ≤ g := fun g e => by
    rcases hgl with h1 | h1
    · exact (hge u g (by rw [← h1]; exact e)).1
    · rw [h1] at e; injection e with e; omega
  have hblk2 : W2.heap[w.heap.size]? = W1.heap[w.heap.size]? := hg2.block _ (by omega) (fun e => by
    have := (hge u _ (hown _ e.symm)).1
    omega)
  obtain ⟨W3, hrun3, hm3, hg3, hsz3⟩ := hback W2 ⟨g', (f u).n + 1, cap'⟩ hblk2
  have hmapne : ∀ v g, (f v).g = some g → some w.heap.size ≠ some g := fun v g e e' => by
    have := (hge v g e).1
    injection e' with e'
    omega
  have hga : ∀ (h : Hd) g, h.a = some ⟨g, 0, none⟩ → h.g = some g := fun h g e => by
    unfold Hd.a at e
    cases hh : h.g with
    | none => rw [hh] at e; cases e
    | some g2 => rw [hh] at e; injection e with e; injection e with e; rw [e]
  have hisu : ∀ v, isN v x = decide (u = v) := fun v => by
    unfold isN
    refine decide_eq_decide.2 ⟨fun h1 => ?_, fun h1 => ?_⟩
    · rw [← hue]; exact Prod.ext h1.2.1 h1.2.2
    · rw [← hue] at h1
      obtain ⟨v1, v2⟩ := v
      injection h1 with q1 q2
      exact ⟨hx, q1, q2⟩
  refine ⟨st, W1, A', cap', W2, W3, updH f u ⟨g', (f u).n + 1, cap'⟩, hrun1, hrun2, by rw [hg']; exact hrun3, ⟨hm3, fun v => ?_, fun p q g hpq hp => ?_, ?_⟩⟩
  · unfold updH
    by_cases he : v = u
    · rw [if_pos he, notesOf_yes (by rw [hisu v]; exact decide_eq_true he.symm), he]
      refine ⟨by show (f u).n + 1 = (_ ++ [_]).length; rw [List.length_append, hu.1]; rfl, ?_⟩
      have h1 := hrow2.far hg3 (fun g e e' => by
        injection e' with e'
        rw [hg'] at e
        have := hgge g (by cases hh : g' with
          | none => rw [hh] at e; cases e
          | some g2 => rw [hh] at e; injection e with e; injection e with e; rw [e])
        omega)
      rw [hg'] at h1
      exact h1
    · rw [if_neg he, notesOf_no (by rw [hisu v]; exact decide_eq_false (fun e => he e.symm))]
      refine ⟨(hm.r v).1, ((hr1 v).far hg2 (fun g e e' => ?_)).far hg3 (fun g e e' => hmapne v g (hga _ g e) e')⟩
      exact hm.ap u v g (fun e2 => he e2.symm) (hown g e') (hga _ g e)
  · unfold updH at hp ⊢
    by_cases hpu : p = u
    · rw [if_pos hpu] at hp
      have hqu : ¬ q = u := fun e => hpq (hpu.trans e.symm)
      rw [if_neg hqu]
      intro hq
      have hp2 : g' = some g := hp
      rcases hgl with h1 | h1
      · exact hm.ap u q g (fun e => hqu e.symm) (by rw [← h1]; exact hp2) hq
      · rw [h1] at hp2; injection hp2 with hp2
        have := (hge q g hq).2
        omega
    · rw [if_neg hpu] at hp
      by_cases hqu : q = u
      · rw [if_pos hqu]
        intro hq
        have hq2 : g' = some g := hq
        rcases hgl with h1 | h1
        · exact hm.ap p u g hpu hp (by rw [← h1]; exact hq2)
        · rw [h1] at hq2; injection hq2 with hq2
          have := (hge p g hp).2
          omega
      · rw [if_neg hqu]
        exact hm.ap p q g hpq hp
  · have b1 := hm.bw.grown hg1 (by omega) (fun k2 e => by injection e with e; omega)
    have b2 := b1.grown hg2 (by omega) (fun k2 e => by have := (hge u k2 (hown k2 e)).1; omega)
    exact b2.grown hg3 (by have := hg2.size; omega) (fun k2 e => by injection e with e; omega)
def KPost (w : World) (l : List Rc) (e : Ending) (w' : World) : Prop := ∃ f, e = .returned (.map (some w.heap.size)) ∧ KeptW w w' l.length l f
set_option maxRecDepth 100000 in
set_option maxHeartbeats 4000000 in
theorem kept_any (w : World) (A : Option Addr) (cap : Nat) (l : List Rc) (hI : RecsAt w A l) (hl : l.length ≤ 1000000) (hw : ∀ x ∈ l, WfI x.a ∧ WfI x.c) :
    Calls Tryd.prog 13 #[.slice A l.length cap] w (KPost w l) := by
  have hIH := Lib.hid (fun W (hb : Below w.heap.size w W) => hI.below hb)
  have hwH := Lib.hid hw
  have hst := Lib.hid (KeptW.start w)
  have hmm := @run_makeMap Tryd.prog
  clear hI hw
  obtain ⟨n, hn⟩ : ∃ n, l.length = n := ⟨_, rfl⟩
  rw [hn] at hl
  unfold KPost
  rw [hn]
  have hnH := Lib.hid hn
  clear hn
  go_enter Tryd.func13, Tryd.ntmps13
  go_wp2_with fail
  clear hmm
  refine fresh_world (fun W => KeptW w W 0 [] (fun _ => ⟨none, 0, 0⟩)) hst.out ?_
  clear hst
  rintro W0 h0
  have h0H := Lib.hid h0
  clear h0
  go_loopw [10] (fun i wr => ∃ (k : Nat) (f : Int × Int → Hd), k ≤ n ∧ i = .int .i64 (k : Int) ∧ Hid (KeptW w wr k (l.take k) f)) (fun i _ => n - (intOf i).toNat)
  case atStart => exact ⟨0, _, Nat.zero_le _, rfl, h0H⟩
  case round =>
    clear h0H
    obtain ⟨k, f, hkn, rfl, hN⟩ := hrel
    by_cases hlt : k < n
    case pos =>
      have hkl : k < l.length := by rw [hnH.out]; exact hlt
      obtain ⟨g, off, rfl, hgl, x0, x1, x2, x3, x4, x5, x6⟩ := (hIH.out wr hN.out.bw).at_ hkl
      have hkw : IntKind.i64.wrap ((k : Int) + 1) = (k : Int) + 1 := IntWalk.i64_in _ (by omega)
      have hwx := Lib.hid (hwH.out l[k] (List.getElem_mem hkl))
      have htk := Lib.hid (List.take_succ_eq_append_getElem hkl)
      have htl : Hid ((l.take k).length ≤ 1000000) := Lib.hid (by rw [List.length_take]; omega)
      generalize l[k] = x at x0 x1 x2 x3 x4 x5 x6 hwx htk
      generalize l.take k = lk at hN htk htl
      have hB0 : Hid (KeptW w (wr.alloc (.cells #[.int .i64 x.k, .int .i64 x.s, .int .i64 x.a, .int .i64 x.b, .int .i64 x.c, .int .i64 x.d, .string x.body] 29)) k lk f ∧ RcAt (wr.alloc (.cells #[.int .i64 x.k, .int .i64 x.s, .int .i64 x.a, .int .i64 x.b, .int .i64 x.c, .int .i64 x.d, .string x.body] 29)) wr.heap.size x) := Lib.hid ⟨hN.out.below ((Below.refl _ _).alloc (Nat.le_refl _) _), RcAt.new wr x 29⟩
      clear hN
      go_upto_region 5 with fail
      clear x0 x1 x2 x3 x4 x5 x6 hgl
      generalize wr.heap.size = xb at hB0 ⊢
      refine fresh_world (fun W => KeptW w W k lk f ∧ RcAt W xb x) hB0.out ?_
      clear hB0
      rintro W5 ⟨h5, hr5⟩
      have h5H := Lib.hid h5
      have hr5H := Lib.hid hr5
      obtain ⟨x0, x1, x2, x3, x4, x5, x6⟩ := hr5
      clear h5
      by_cases hk4 : x.k = 4
      case neg =>
        have hk4b : (x.k == 4) = false := by simp [hk4]
        have hnew := Lib.hid (h5H.out.skip hk4)
        rw [← htk.out] at hnew
        clear hk4 h5H hr5H
        go_wp2_with fail
        go_roundw
        case rel => exact ⟨k + 1, f, hlt, by go_num, hnew⟩
        case measure => simp only [intOf]; omega
      case pos =>
        have hk4b : (x.k == 4) = true := by simp [hk4]
        have hk4H := Lib.hid hk4
        have hB7 : Hid (KeptW w (W5.alloc (.cells #[.int .i64 x.a, .int .i64 x.c] 50)) k lk f ∧ RcAt (W5.alloc (.cells #[.int .i64 x.a, .int .i64 x.c] 50)) xb x ∧ (W5.alloc (.cells #[.int .i64 x.a, .int .i64 x.c] 50)).cell? ⟨W5.heap.size, 0, none⟩ = some (.int .i64 x.a) ∧ (W5.alloc (.cells #[.int .i64 x.a, .int .i64 x.c] 50)).cell? ⟨W5.heap.size, 1, none⟩ = some (.int .i64 x.c)) := Lib.hid ⟨h5H.out.below ((Below.refl _ _).alloc (Nat.le_refl _) _), hr5H.out.below ((Below.refl _ _).alloc (Nat.le_refl _) _), by go_simp, by go_simp⟩
        clear hk4 h5H hr5H
        go_upto_region 7 with fail
        clear x0 x1 x2 x3 x4 x5 x6
        generalize W5.heap.size = kb at hB7 ⊢
        refine fresh_world (fun W => KeptW w W k lk f ∧ RcAt W xb x ∧ W.cell? ⟨kb, 0, none⟩ = some (.int .i64 x.a) ∧ W.cell? ⟨kb, 1, none⟩ = some (.int .i64 x.c)) hB7.out ?_
        clear hB7
        rintro W7 ⟨h7, ⟨x0, x1, x2, x3, x4, x5, x6⟩, y0, y1⟩
        obtain ⟨st, W1, A', cap', W2, W3, f', hr1, hr2, hr3, hK⟩ := h7.step (by omega) htl.out hk4H.out hwx.out.1 hwx.out.2
        rw [← htk.out] at hK
        have hKH := Lib.hid hK
        have hr2H := Lib.hid hr2
        generalize goInt st = stv at hr1 hr3
        clear hK hr2 h7
        go_wp2_with (at_builtin; refine append_run_wp rfl _ _ _ rfl rfl rfl hr2H.out ?_; clear hr2H)
        exact ⟨⟨k + 1, f', hlt, by go_num, hKH⟩, by simp only [intOf]; omega⟩
    case neg =>
      have hke : k = n := by omega
      have htake : Hid (l.take k = l) := Lib.hid (by rw [hke, ← hnH.out]; exact List.take_length)
      have hfin : Hid (KeptW w wr n l f) := Lib.hid (by rw [← htake.out, ← hke]; exact hN.out)
      clear hN hke
      go_wp2_with fail
      go_ret
      exact ⟨f, rfl, hfin.out⟩
def OfPost (w : World) (ns : List Nt) (e : Ending) (w' : World) : Prop := ∃ A cap, e = .returned (.slice A ns.length cap) ∧ ntE.Row w' w.heap.size 45 A cap ns ∧ Below w.heap.size w w'
set_option maxRecDepth 100000 in
theorem of_any14 (w : World) (A : Option Addr) (cap : Nat) (l : List Rc) (zone gen : Int) (hI : RecsAt w A l) (hl : l.length ≤ 1000000) (hw : ∀ x ∈ l, WfI x.a ∧ WfI x.c) (hz : WfI zone) (hg : WfI gen) :
    Calls Tryd.prog 7 #[.slice A l.length cap, .int .i64 zone, .int .i64 gen] w (OfPost w (notesOf l (zone, gen))) := by
  have hk := Lib.hid (kept_any w A cap l hI hl hw)
  have hzH := Lib.hid hz
  have hgH := Lib.hid hg
  clear hI hl hw hz hg
  go_enter Tryd.func7, Tryd.ntmps7
  go_wp2_with fail
  refine hk.out.mono ?_
  rintro e w1 ⟨f, rfl, hK⟩
  have hlk := hK.m.look hzH.out hgH.out
  have hr := Lib.hid (hK.r (zone, gen))
  have hb := Lib.hid hK.bw
  unfold Hd.v at hlk
  clear hK hk
  go_wp2_with fail
  go_ret
  exact ⟨(f (zone, gen)).a, (f (zone, gen)).c, by rw [← hr.out.1]; rfl, hr.out.2.mono (Nat.le_succ _), hb.out⟩
end Go.Proofs.YtbgkmppngnedlabDoor
