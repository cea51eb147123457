/- Rows of groups in memory; Scan of group. -/
import Derived.Test.YtbgkmppngnedlaaDoorGpK
import Derived.Test.YtbgkmppngnedlaaDoorTwR
namespace Go.Proofs.YtbgkmppngnedlaaDoor
open Go.RowKit Rec Crc Num Xor

/-- A group as it lies in memory. -/
structure Gv where
  q : Int
  EA : Option Addr
  ec : Nat
  es : List (Int × Bool)
  DA : Option Addr
  dc : Nat
  ds : List ByteArray
instance : Inhabited Gv := ⟨⟨0, none, 0, [], none, 0, []⟩⟩
def Gv.gp (g : Gv) : Gp := ⟨g.q, g.es, g.ds⟩
def gvE : Enc Gv := ⟨fun g => [.int .i64 g.q, .slice g.EA g.es.length g.ec, .slice g.DA g.ds.length g.dc], 3, fun _ => rfl, fun _ u hu => by
  simp only [List.mem_cons, List.not_mem_nil, or_false] at hu
  rcases hu with rfl | rfl | rfl <;> rfl⟩
def ixG : Enc Nat := ⟨fun i => [.int .i64 (i : Int)], 1, fun _ => rfl, fun x u hu => by
  simp only [List.mem_cons, List.not_mem_nil, or_false] at hu
  rcases hu with rfl
  rfl⟩
theorem infGv : Enc.Inf Tryd.prog 30 3 56 := by unfold Enc.Inf; kernel_rfl
theorem infIxG : Enc.Inf Tryd.prog 3 1 8 := by unfold Enc.Inf; kernel_rfl
theorem gv_at {W : World} {A : Option Addr} {L : List Gv} (h : gvE.In W A L) {i : Nat} (hi : i < L.length) : ∃ b off, A = some ⟨b, off, none⟩ ∧ b < W.heap.size ∧ W.cell? ⟨b, off + i * 3, none⟩ = some (.int .i64 L[i].q) ∧ W.cell? ⟨b, off + i * 3 + 1, none⟩ = some (.slice L[i].EA L[i].es.length L[i].ec) ∧ W.cell? ⟨b, off + i * 3 + 2, none⟩ = some (.slice L[i].DA L[i].ds.length L[i].dc) := by
  obtain ⟨b, off, e, hlt, h⟩ := h.at_ hi
  exact ⟨b, off, e, hlt, h 0 (by decide), h 1 (by decide), h 2 (by decide)⟩
theorem ixg_at {W : World} {A : Option Addr} {l : List Nat} (h : ixG.In W A l) {i : Nat} (hi : i < l.length) : ∃ b off, A = some ⟨b, off, none⟩ ∧ b < W.heap.size ∧ W.cell? ⟨b, off + i, none⟩ = some (.int .i64 (l[i] : Int)) := by
  obtain ⟨b, off, e, hlt, h⟩ := h.at_ hi
  have h1 := h 0 (by decide)
  rw [show off + i * ixG.k + 0 = off + i by show off + i * 1 + 0 = _; omega] at h1
  exact ⟨b, off, e, hlt, h1⟩
/-- A group's rows, apart from two others. -/
structure GvC (W : World) (base : Nat) (A B : Option Addr) (g : Gv) : Prop where
  e : geE.Row W base 47 g.EA g.ec g.es
  d : stE.Row W base 9 g.DA g.dc g.ds
  ae : ApT A g.EA
  ad : ApT A g.DA
  be : ApT B g.EA
  bd : ApT B g.DA
/-- Groups and where they begin, in rows that lie apart, with the groups' own. -/
structure GS (W : World) (base : Nat) (X : SlT Gv) (Y : SlT Nat) : Prop where
  t : TwR gvE ixG 30 3 W base X Y
  c : ∀ g ∈ X.xs, GvC W base X.A Y.A g
theorem GvC.below {W W' : World} {base : Nat} {A B : Option Addr} {g : Gv} (h : GvC W base A B g) (hb : Below W.heap.size W W') : GvC W' base A B g := ⟨h.e.below hb, h.d.below hb, h.ae, h.ad, h.be, h.bd⟩
theorem GS.below {W W' : World} {base : Nat} {X : SlT Gv} {Y : SlT Nat} (h : GS W base X Y) (hb : Below W.heap.size W W') : GS W' base X Y := ⟨h.t.below hb, fun g hg => (h.c g hg).below hb⟩
theorem GS.nil (W : World) {base : Nat} (h : base ≤ W.heap.size) : GS W base slT0 slT0 := ⟨TwR.nil W h, fun g hg => (by cases hg)⟩
/-- A row made later lies apart. -/
theorem ap_later {α β : Type} {E : Enc α} {F : Enc β} {W W' : World} {base base' c c' : Nat} {t t' : TypeId} {A B : Option Addr} {xs : List α} {ys : List β} (h : E.Row W base t A c xs) (h' : F.Row W' base' t' B c' ys) (hb : W.heap.size ≤ base') : ApT A B := fun r e e2 => by
  have h1 := row_ltT h r e
  rcases h'.form with ⟨e1, _⟩ | ⟨g, e1, h2, _⟩
  · rw [e1] at e2; cases e2
  · rw [e1] at e2; injection e2 with e2; injection e2 with e2 _ _; omega
theorem GS.pushX {W : World} {base : Nat} {X : SlT Gv} {Y : SlT Nat} (h : GS W base X Y) {m : Nat} {x : Gv} (hx : GvC W base X.A Y.A x) (hm : ∀ j, j < gvE.k → W.cell? ⟨m, j, none⟩ = (gvE.c x)[j]?) (hl : X.xs.length ≤ 1000000) :
    ∃ (s' : SlT Gv) (W' : World), (Builtin.append_ #[41, 41] 41 #[.slice X.A X.xs.length X.c, .slice (some ⟨m, 0, none⟩) 1 1]).run Tryd.prog W = .ok (.slice s'.A s'.xs.length s'.c) W' ∧ s'.xs = X.xs ++ [x] ∧ GS W' base s' Y ∧ Below base W W' := by
  obtain ⟨s', W', hrun, hxs, hrow, hb, hot, hfar⟩ := pushT_to (P := Tryd.prog) Tryd.underlying41 infGv (by decide) (by decide) h.t.rX hm hl h.t.bs
  have kY := hot ixG 3 Y h.t.ap h.t.rY
  refine ⟨s', W', hrun, hxs, ⟨⟨hrow, kY.2, kY.1, Nat.le_trans h.t.bs hb.size⟩, fun g hg => ?_⟩, hb⟩
  have hc : GvC W base X.A Y.A g := by
    rw [hxs, List.mem_append, List.mem_singleton] at hg
    rcases hg with hg | rfl
    · exact h.c g hg
    · exact hx
  have k1 := hot geE 47 ⟨g.EA, g.ec, g.es⟩ hc.ae hc.e
  have k2 := hot stE 9 ⟨g.DA, g.dc, g.ds⟩ hc.ad hc.d
  exact ⟨k1.2, k2.2, k1.1, k2.1, hc.be, hc.bd⟩
theorem GS.pushY {W : World} {base : Nat} {X : SlT Gv} {Y : SlT Nat} (h : GS W base X Y) {m : Nat} {x : Nat} (hm : ∀ j, j < ixG.k → W.cell? ⟨m, j, none⟩ = (ixG.c x)[j]?) (hl : Y.xs.length ≤ 1000000) :
    ∃ (s' : SlT Nat) (W' : World), (Builtin.append_ #[22, 22] 22 #[.slice Y.A Y.xs.length Y.c, .slice (some ⟨m, 0, none⟩) 1 1]).run Tryd.prog W = .ok (.slice s'.A s'.xs.length s'.c) W' ∧ s'.xs = Y.xs ++ [x] ∧ GS W' base X s' ∧ Below base W W' := by
  obtain ⟨s', W', hrun, hxs, hrow, hb, hot, hfar⟩ := pushT_to (P := Tryd.prog) Tryd.underlying22 infIxG (by decide) (by decide) h.t.rY hm hl h.t.bs
  have kX := hot gvE 30 X h.t.ap.symm h.t.rX
  refine ⟨s', W', hrun, hxs, ⟨⟨kX.2, hrow, kX.1.symm, Nat.le_trans h.t.bs hb.size⟩, fun g hg => ?_⟩, hb⟩
  have hc := h.c g hg
  have k1 := hot geE 47 ⟨g.EA, g.ec, g.es⟩ hc.be hc.e
  have k2 := hot stE 9 ⟨g.DA, g.dc, g.ds⟩ hc.bd hc.d
  exact ⟨k1.2, k2.2, hc.ae, hc.ad, k1.1, k2.1⟩
/-- A group, then a place. -/
theorem GS.both {W : World} {base : Nat} {X : SlT Gv} {Y : SlT Nat} (h : GS W base X Y) {x : Gv} {y : Nat} {vx : Array Value} (hvx : vx = #[.int .i64 x.q, .slice x.EA x.es.length x.ec, .slice x.DA x.ds.length x.dc]) (hx : GvC W base X.A Y.A x) (hlX : X.xs.length ≤ 1000000) (hlY : Y.xs.length ≤ 1000000) :
    ∃ (X' : SlT Gv) (Y' : SlT Nat) (W1 W2 : World), (Builtin.append_ #[41, 41] 41 #[.slice X.A X.xs.length X.c, .slice (some ⟨W.heap.size, 0, none⟩) 1 1]).run Tryd.prog (W.alloc (.cells vx 30)) = .ok (.slice X'.A X'.xs.length X'.c) W1 ∧
      (Builtin.append_ #[22, 22] 22 #[.slice Y.A Y.xs.length Y.c, .slice (some ⟨W1.heap.size, 0, none⟩) 1 1]).run Tryd.prog (W1.alloc (.cells #[.int .i64 (y : Int)] 3)) = .ok (.slice Y'.A Y'.xs.length Y'.c) W2 ∧
      X'.xs = X.xs ++ [x] ∧ Y'.xs = Y.xs ++ [y] ∧ GS W2 base X' Y' ∧ Below base W W2 := by
  subst hvx
  have hal := (Below.refl W.heap.size W).alloc (Nat.le_refl _) (.cells #[.int .i64 x.q, .slice x.EA x.es.length x.ec, .slice x.DA x.ds.length x.dc] 30)
  obtain ⟨X', W1, hr1, hx1, h1, hb1⟩ := (h.below hal).pushX (m := W.heap.size) (x := x) (hx.below hal) (fun j hj => by
    have hj3 : j < 3 := hj
    rw [World.cell?_alloc_new]
    rcases (by omega : j = 0 ∨ j = 1 ∨ j = 2) with rfl | rfl | rfl <;> rfl) hlX
  have hal2 := (Below.refl W1.heap.size W1).alloc (Nat.le_refl _) (.cells #[.int .i64 (y : Int)] 3)
  obtain ⟨Y', W2, hr2, hy2, h2, hb2⟩ := (h1.below hal2).pushY (m := W1.heap.size) (x := y) (fun j hj => by
    have hj1 : j < 1 := hj
    rw [World.cell?_alloc_new]
    obtain rfl : j = 0 := by omega
    rfl) hlY
  exact ⟨X', Y', W1, W2, hr1, hr2, hx1, hy2, h2, (((Below.refl base W).alloc h.t.bs _).trans hb1).trans (((Below.refl base W1).alloc h1.t.bs _).trans hb2)⟩
def ScanPost (w : World) (s : ByteArray) (e : Ending) (w' : World) : Prop := ∃ (X : SlT Gv) (Y : SlT Nat), e = .returned (.tuple #[.slice X.A X.xs.length X.c, .slice Y.A Y.xs.length Y.c]) ∧ GS w' w.heap.size X Y ∧ ScansG s (X.xs.map Gv.gp) Y.xs 0 ∧ Below w.heap.size w w'
set_option maxRecDepth 100000 in
set_option maxHeartbeats 8000000 in
theorem scan_anyG (s : ByteArray) (w : World) (hs : s.size ≤ 1000000) (hT : Tab w) : Calls Tryd.prog 11 #[.string s] w (ScanPost w s) := by
  have hTA := Lib.hid (fun W (h : Below w.heap.size w W) => hT.below h)
  have hB0 := Lib.hid (Below.refl w.heap.size w)
  have hG0 := Lib.hid (GS.nil w (Nat.le_refl w.heap.size))
  have hst0 : Hid (∀ l' k', ScansG (s.extract (64 * 0) s.size) l' k' 0 → ScansG s (([] : List Gv).map Gv.gp ++ l') ([] ++ k') 0) := Lib.hid (fun l' k' h => by rw [Nat.mul_zero, cutG_zero] at h; exact h)
  clear hT
  unfold ScanPost
  go_enter Tryd.func11, Tryd.ntmps11
  go_wp2_with fail
  go_loopw [4, 5, 6] (fun xv yv av wr => ∃ (a : Nat) (X : SlT Gv) (Y : SlT Nat), xv = .slice X.A X.xs.length X.c ∧ yv = .slice Y.A Y.xs.length Y.c ∧ av = .int .i64 (a : Int) ∧ 64 * a ≤ s.size ∧ Hid (X.xs.length ≤ a ∧ Y.xs.length ≤ a) ∧ Hid (GS wr w.heap.size X Y) ∧ Hid (Below w.heap.size w wr) ∧ Hid (∀ l' k', ScansG (s.extract (64 * a) s.size) l' k' a → ScansG s (X.xs.map Gv.gp ++ l') (Y.xs ++ k') 0)) (fun _ _ av _ => s.size - 64 * (Go.RowKit.intOf av).toNat)
  case atStart => exact ⟨0, slT0, slT0, rfl, rfl, rfl, by omega, Lib.hid ⟨Nat.le_refl _, Nat.le_refl _⟩, hG0, hB0, hst0⟩
  case round =>
    clear hG0 hB0 hst0
    obtain ⟨a, X, Y, rfl, rfl, rfl, has, hln, hG, hB, hst⟩ := hrel
    obtain ⟨p, hp⟩ : ∃ p, 64 * a = p := ⟨_, rfl⟩
    have hpw : IntKind.i64.wrap ((a : Int) * 64) = (p : Int) := by rw [show (a : Int) * 64 = (p : Int) by omega]; exact IntWalk.i64_in _ (by omega)
    rw [hp] at has hst
    have hpH := Lib.hid hp
    have hpI : (p : Int) ≤ (s.size : Int) := by omega
    have hrs : (s.extract p s.size).size ≤ maxLen := by rw [ByteArray.size_extract]; unfold maxLen; omega
    have hdec := Lib.hid (decode_anyG (s.extract p s.size) wr hrs (hTA.out wr hB.out))
    unfold DecPost at hdec
    have hok := Lib.hid (fun h => decG_ok (s := s.extract p s.size) h)
    clear hp hrs
    go_wp2_with fail
    refine hdec.out.mono ?_
    rintro e w5 ⟨A1, c1, A2, c2, rfl, hr1, hr2, hb5⟩
    obtain ⟨r, hd⟩ : ∃ r, decG (s.extract p s.size) = r := ⟨_, rfl⟩
    rw [hd] at hr1 hr2 ⊢
    have hdH := Lib.hid hd
    have hG5 := hG.out.below hb5
    have hB5 := Lib.hid (hB.out.trans (hb5.mono hB.out.size))
    obtain ⟨⟨rq, res, rds⟩, rn, re⟩ := r
    dsimp only at hr1 hr2 ⊢
    have hxn : Hid (GvC w5 w.heap.size X.A Y.A ⟨rq, A1, c1, res, A2, c2, rds⟩) := Lib.hid ⟨hr1.mono hB.out.size, hr2.mono hB.out.size, ap_later hG.out.t.rX hr1 (Nat.le_refl _), ap_later hG.out.t.rX hr2 (Nat.le_refl _), ap_later hG.out.t.rY hr1 (Nat.le_refl _), ap_later hG.out.t.rY hr2 (Nat.le_refl _)⟩
    have hG5H := Lib.hid hG5
    clear hd hr1 hr2 hb5 hG5 hG hB hdec
    go_upto_region 5 with fail
    have hal := (Below.refl w5.heap.size w5).alloc (Nat.le_refl _) (.cells #[.int .i64 rq, .slice A1 res.length c1, .slice A2 rds.length c2] 30)
    have hst5 := Lib.hid (And.intro (hG5H.out.below hal) (And.intro (hB5.out.trans (hal.mono hB5.out.size)) (hxn.out.below hal)))
    obtain ⟨Z, hZ⟩ : ∃ Z, w5.heap.size = Z := ⟨_, rfl⟩
    refine fresh_world (fun W => GS W w.heap.size X Y ∧ Below w.heap.size w W ∧ GvC W w.heap.size X.A Y.A ⟨rq, A1, c1, res, A2, c2, rds⟩ ∧ W.cell? ⟨w5.heap.size, 0, none⟩ = some (.int .i64 rq) ∧ W.cell? ⟨w5.heap.size, 1, none⟩ = some (.slice A1 res.length c1) ∧ W.cell? ⟨w5.heap.size, 2, none⟩ = some (.slice A2 rds.length c2)) ⟨hst5.out.1, hst5.out.2.1, hst5.out.2.2, by go_simp, by go_simp, by go_simp⟩ ?_
    rw [hZ]
    clear hst5 hal hG5H hB5 hxn hZ
    rintro W6 ⟨hG6, hB6, hx6, x0, x1, x2⟩
    have hG6H := Lib.hid hG6
    have hB6H := Lib.hid hB6
    have hx6H := Lib.hid hx6
    clear hG6 hB6 hx6
    by_cases he : re = 0
    case neg =>
      have heb : (re != 0) = true := by simp [he]
      have hfin : Hid (ScansG s (X.xs.map Gv.gp) Y.xs 0) := Lib.hid (scanG_done (a := p) (b := a) (by rw [hdH.out]; exact he) hst.out)
      clear hok hst x0 x1 x2
      go_wp2_with fail
      refine bodyPost_ret (v := .tuple #[.slice X.A X.xs.length X.c, .slice Y.A Y.xs.length Y.c]) (by simp [results, Tryd.results11, go_sem]) rfl ⟨X, Y, rfl, hG6H.out, hfin.out, hB6H.out⟩
    case pos =>
      subst he
      have heb : ((0 : Int) != 0) = false := by simp
      obtain ⟨n, hn1, hnb, hn2, hn3, hn4⟩ := hok.out (by rw [hdH.out])
      have hdd := hn1.symm.trans hdH.out
      have e1 := congrArg (fun x : Gp × Int × Int => x.2.1) hdd
      have e2 := congrArg (fun x : Gp × Int × Int => x.1) hdd
      dsimp only at e1 e2
      subst e1
      rw [ByteArray.size_extract] at hn4
      have haw : IntKind.i64.wrap ((a : Int) + (n : Int)) = ((a + n : Nat) : Int) := by rw [Int.natCast_add]; exact IntWalk.i64_in _ (by have := hpH.out; omega)
      obtain ⟨X', Y', W7, W8, hr1, hr2, hX', hY', hG8, hB8⟩ := hG6H.out.both (x := ⟨rq, A1, c1, res, A2, c2, rds⟩) (y := a) rfl hx6H.out (by have := hln.out; have := hpH.out; omega) (by have := hln.out; have := hpH.out; omega)
      have hst8 : Hid (∀ l' k', ScansG (s.extract (64 * (a + n)) s.size) l' k' (a + n) → ScansG s (X'.xs.map Gv.gp ++ l') (Y'.xs ++ k') 0) := Lib.hid (fun l' k' h => by
        rw [hX', hY', List.map_append]
        have h1 := scanG_step (s := s) (a := p) (n := n) (b := a) (g := grpS (s.extract p s.size)) (l := X.xs.map Gv.gp) (k := Y.xs) hn1 hst.out (l' := l') (k' := k') (by rw [← hpH.out, ← Nat.mul_add]; exact h)
        rw [e2] at h1
        exact h1)
      have hln8 : Hid (X'.xs.length ≤ a + n ∧ Y'.xs.length ≤ a + n) := Lib.hid (by
        rw [hX', hY', List.length_append, List.length_append]
        have := hln.out
        show _ + 1 ≤ _ ∧ _ + 1 ≤ _
        omega)
      have hms : Hid (64 * (a + n) ≤ s.size ∧ s.size - 64 * (a + n) < s.size - 64 * a) := Lib.hid (by have := hpH.out; omega)
      have hG8H := Lib.hid hG8
      have hB8H := Lib.hid (hB6H.out.trans hB8)
      obtain ⟨a2, ha2⟩ : ∃ a2, a + n = a2 := ⟨_, rfl⟩
      rw [ha2] at haw hst8 hln8 hms
      have hr2H := Lib.hid hr2
      have hr1H := Lib.hid hr1
      clear hnb hX' hY' hG8 hB8 hG6H hB6H hx6H hn1 hn2 hn3 hn4 hdd e2 hst hln hdH hok ha2 hr1 hr2
      have hrr := hr2H
      have hrr := hr1H
      clear hr1H hr2H
      go_wp2_with (at_builtin; refine append_run_wp rfl _ _ _ rfl rfl rfl hrr.out ?_; clear hrr)
      go_roundw
      case rel => exact ⟨a2, X', Y', rfl, rfl, rfl, hms.out.1, hln8, hG8H, hB8H, hst8⟩
      case measure => simp only [Go.RowKit.intOf]; exact hms.out.2
end Go.Proofs.YtbgkmppngnedlaaDoor
