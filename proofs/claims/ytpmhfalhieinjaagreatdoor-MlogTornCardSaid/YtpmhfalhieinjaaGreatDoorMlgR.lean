/- What read of a log's medium does; a log in memory, its Left and its Where. -/
import Derived.Test.YtpmhfalhieinjaaGreatDoorMlgW
import Derived.BigQuiet
namespace Go.Proofs.YtpmhfalhieinjaaGreatDoor
open Go.RowKit Zon Drv Rec

theorem quiet_back {P : Program} {f : FuncId} {args : Array Value} {w : World} {n : Nat} {v : Value}
    (h : Calls P f args (w.drewN n) fun e w' => e = .returned v ∧ w.drewN n = w') : Calls P f args (w.drewN n) fun e w'' => e = .returned v ∧ ∃ m, w'' = w.drewN m :=
  h.mono fun _ _ ⟨he, hm⟩ => ⟨he, n, hm.symm⟩
section
variable {w W : World} {K : Nat → Prop} {r n N : Nat} {d : Nat → Nat} {G : Rg} {c : Int}
/-- What a medium's read does. -/
def rdP (n : Nat) (G : Rg) (i : Nat) (z : Int) : (List UInt8 × Int) × Rg :=
  if (getM (G.D i).m z).l = 0 then (([], 0), G) else (((rgDo n G i 7 z 0 (getM (G.D i).m z).l []).1.1, (rgDo n G i 7 z 0 (getM (G.D i).m z).l []).1.2.2), (rgDo n G i 7 z 0 (getM (G.D i).m z).l []).2)
theorem mread_any (i : Nat) (z : Int) (h : Rig w W K r n N d G.D G.s) (hok : RgOk n G c) (hc : c ≤ 4611686018427380000) (hi : i < n) :
    Calls Tryz.prog 34 #[.agg #[.pointer (some ⟨r, 0, none⟩), .int .i64 (i : Int)], .int .i64 z] W fun e w' => e = .returned (.tuple #[.string ⟨(rdP n G i z).1.1.toArray⟩, .int .i64 (rdP n G i z).1.2]) ∧ MPost w W K r n N d (rdP n G i z).2 w' := by
  have hR := h.keep (.cells #[.pointer (some ⟨r, 0, none⟩), .int .i64 (i : Int)] 74)
  have hb : Below W.heap.size W (W.alloc (.cells #[.pointer (some ⟨r, 0, none⟩), .int .i64 (i : Int)] 74)) := (Below.refl _ _).alloc (Nat.le_refl _) _
  have hx0 : (W.alloc (.cells #[.pointer (some ⟨r, 0, none⟩), .int .i64 (i : Int)] 74)).cell? ⟨W.heap.size, 0, none⟩ = some (.pointer (some ⟨r, 0, none⟩)) := by simp [World.cell?_alloc_new]
  have hx1 : (W.alloc (.cells #[.pointer (some ⟨r, 0, none⟩), .int .i64 (i : Int)] 74)).cell? ⟨W.heap.size, 1, none⟩ = some (.int .i64 (i : Int)) := by simp [World.cell?_alloc_new]
  have hrl := h.lt
  have hnb := h.nb
  obtain ⟨W1, hW1⟩ : ∃ W1, W1 = W.alloc (.cells #[.pointer (some ⟨r, 0, none⟩), .int .i64 (i : Int)] 74) := ⟨_, rfl⟩
  rw [← hW1] at hR hb hx0 hx1
  have hz := Lib.hid (rzone_any i z hR hi)
  have hlt : W.heap.size < W1.heap.size := lt_of_cell hx0
  have hdo := Lib.hid (fun V (hV : Below W1.heap.size W1 V) => (mdo_any i 7 z 0 (getM (G.D i).m z).l ⟨#[]⟩ (hR.grown hV) hok (by omega) hi (by omega) (by decide)).mono fun e w' h => And.intro h.1 (h.2.trans (K := boxK W K) (fun _ hx => hx) ⟨hV.size, fun b hb _ => hV.block b hb⟩))
  rw [show (⟨#[]⟩ : ByteArray).data.toList = [] from rfl] at hdo
  have hbH := Lib.hid hb
  have hgr := Lib.hid (fun V (hV : Below W1.heap.size W1 V) => (⟨boxK W K, fun _ hx => hx, hR.grown hV, hV.size, fun b hb _ => hV.block b hb⟩ : MPost w W1 (boxK W K) r n N d G V))
  unfold rdP
  have hcl : ∀ {G' V}, MPost w W1 (boxK W K) r n N d G' V → MPost w W K r n N d G' V := fun hP => by
    obtain ⟨K', q1, q3, q4⟩ := hP
    exact ⟨K', fun x hx => q1 x (.inl hx), q3, keep_same hbH.out q4⟩
  have hclH := Lib.hid (fun G' V hP => @hcl G' V hP)
  have hxH := Lib.hid (And.intro hx0 hx1)
  clear h hok hR hb hcl
  generalize getM (G.D i).m z = y at hz hdo ⊢
  obtain ⟨ys, yl⟩ := y
  dsimp only at hz hdo ⊢
  generalize hasB (G.D i).m z = v at hz
  by_cases h0 : yl = 0
  · subst h0
    simp only [if_true]
    clear hdo
    go_enter Tryz.func34, Tryz.ntmps34
    go_upto_region 1 with fail
    rw [← hW1]
    clear hW1
    go_wp2_with fail
    refine hz.out.mono ?_
    rintro e w1 ⟨rfl, hb1⟩
    have hfin := Lib.hid (hclH.out _ _ (hgr.out _ (hb1.trans ((Below.refl w1.heap.size w1).alloc (Nat.le_refl _) (.cells #[.int .i64 ys, .int .i64 0] 118) |>.mono hb1.size))))
    clear hz hgr hclH
    go_wp2_with fail
    go_ret2
    exact ⟨rfl, hfin.out⟩
  · have h0b : (yl == 0) = false := by simp [h0]
    simp only [if_neg h0]
    generalize rgDo n G i 7 z 0 yl [] = R at hdo ⊢
    obtain ⟨⟨t, at', er⟩, G'⟩ := R
    dsimp only at hdo ⊢
    clear h0
    go_enter Tryz.func34, Tryz.ntmps34
    go_upto_region 1 with fail
    rw [← hW1]
    clear hW1
    go_wp2_with fail
    refine hz.out.mono ?_
    rintro e w1 ⟨rfl, hb1⟩
    have hb2 := hb1.trans ((Below.refl w1.heap.size w1).alloc (Nat.le_refl _) (.cells #[.int .i64 ys, .int .i64 yl] 118) |>.mono hb1.size)
    have hd2 := Lib.hid (hdo.out _ hb2)
    have y0 := (hb2.cell (p := ⟨W.heap.size, 0, none⟩) hlt).trans hxH.out.1
    have y1 := (hb2.cell (p := ⟨W.heap.size, 1, none⟩) hlt).trans hxH.out.2
    clear hz hgr hdo hx0 hx1 hb1 hb2
    go_wp2_with fail
    refine hd2.out.mono ?_
    rintro e w2 ⟨rfl, hP⟩
    have hfin := Lib.hid (hclH.out _ _ hP)
    clear hP y0 y1 hd2 hclH
    go_wp2_with fail
    go_ret2
    exact ⟨rfl, hfin.out⟩

/-- A log: its drive, its zone, its generation, the blocks used, whether it is torn. -/
structure Lg where
  i : Nat
  z : Nat
  g : Int
  u : Int
  t : Bool
structure LogAt (W : World) (p r : Nat) (L : Lg) : Prop where
  c0 : W.cell? ⟨p, 0, none⟩ = some (.pointer (some ⟨r, 0, none⟩))
  c1 : W.cell? ⟨p, 1, none⟩ = some (.int .i64 (L.i : Int))
  c2 : W.cell? ⟨p, 2, none⟩ = some (.int .i64 (L.z : Int))
  c3 : W.cell? ⟨p, 3, none⟩ = some (.int .i64 L.g)
  c4 : W.cell? ⟨p, 4, none⟩ = some (.int .i64 L.u)
  c5 : W.cell? ⟨p, 5, none⟩ = some (.bool L.t)
  fr : ∀ j, W.frozen? ⟨p, j, none⟩ = false
  ty : ∃ cs, W.heap[p]? = some (.cells cs 78 (0, 0))
theorem LogAt.lt {W : World} {p r : Nat} {L : Lg} (h : LogAt W p r L) : p < W.heap.size := lt_of_cell h.c0
theorem LogAt.same {W W' : World} {p r : Nat} {L : Lg} (h : LogAt W p r L) (hb : W'.heap[p]? = W.heap[p]?) : LogAt W' p r L :=
  ⟨(same_cell hb).trans h.c0, (same_cell hb).trans h.c1, (same_cell hb).trans h.c2, (same_cell hb).trans h.c3, (same_cell hb).trans h.c4, (same_cell hb).trans h.c5, fun j => (same_frozen hb).trans (h.fr j), by rw [hb]; exact h.ty⟩
theorem LogAt.below {W W' : World} {p r : Nat} {L : Lg} (h : LogAt W p r L) (hb : Below W.heap.size W W') : LogAt W' p r L := h.same (hb.block p h.lt)
theorem LogAt.sameK {W W' : World} {K : Nat → Prop} {p r : Nat} {L : Lg} (h : LogAt W p r L) (hk : SameK W W' K) (hp : K p) : LogAt W' p r L := h.same (hk.2 p h.lt hp)
theorem where_any {p r : Nat} {L : Lg} (h : LogAt W p r L) : Calls Tryz.prog 11 #[.pointer (some ⟨p, 0, none⟩)] W fun e w' => e = .returned (.tuple #[.int .i64 (L.z : Int), .int .i64 L.g]) ∧ Below W.heap.size W w' := by
  obtain ⟨c0, c1, c2, c3, c4, c5, fr, -⟩ := h
  go_enter Tryz.func11, Tryz.ntmps11
  go_wp2_with fail
  go_quiet (fail)
  go_wp2_with fail
  go_ret2
  exact ⟨rfl, (below_drewN (Below.refl _ _) _)⟩
theorem where_nil (w : World) : Calls Tryz.prog 11 #[.pointer none] w fun e w' => e = .returned (.tuple #[.int .i64 0, .int .i64 0]) ∧ w = w' := by
  go_enter Tryz.func11, Tryz.ntmps11
  go_wp2
  go_ret2
  exact ⟨rfl, rfl⟩
theorem left_nil (w : World) : Calls Tryz.prog 14 #[.pointer none] w fun e w' => e = .returned (.int .i64 0) ∧ w = w' := by
  go_enter Tryz.func14, Tryz.ntmps14
  go_wp2
  go_ret
  exact ⟨rfl, rfl⟩
def leftP (b : Int) (L : Lg) : Int := if L.t = true then 0 else b - L.u
theorem left_q {p : Nat} {L : Lg} (h : LogAt W p r L) (hR : Rig w W K r n N d G.D G.s) (hb : 0 ≤ G.s.bl ∧ G.s.bl ≤ 1000000) (hu : 0 ≤ L.u ∧ L.u ≤ 1000000) :
    Calls Tryz.prog 14 #[.pointer (some ⟨p, 0, none⟩)] W fun e w' => e = .returned (.int .i64 (leftP G.s.bl L)) ∧ ∃ q, w' = W.drewN q := by
  obtain ⟨c0, c1, c2, c3, c4, c5, fr, -⟩ := h
  have hbl := Lib.hid (fun V (hV : Below W.heap.size W V) => rblocks_any (hR.grown hV))
  have hbH := Lib.hid (below_drewN (Below.refl W.heap.size W) 1)
  have hw := IntWalk.i64_in (G.s.bl - L.u) (by omega)
  unfold leftP
  clear hR
  cases hL : L.t with
  | true =>
    rw [hL] at c5
    simp only [if_true]
    go_enter Tryz.func14, Tryz.ntmps14
    go_wp2_with fail
    go_ret
    exact ⟨rfl, 0, rfl⟩
  | false =>
    rw [hL] at c5
    simp only [Bool.false_eq_true, if_false]
    generalize G.s.bl = bl at *
    generalize L.u = u at *
    clear hb hu
    go_enter Tryz.func14, Tryz.ntmps14
    go_wp2_with fail
    go_quiet ((go_at_call 29; exact quiet_back (hbl.out _ (below_drewN (Below.refl _ _) _))))
    go_wp2_with fail
    go_ret
    exact ⟨rfl, _, rfl⟩
theorem left_any {p : Nat} {L : Lg} (h : LogAt W p r L) (hR : Rig w W K r n N d G.D G.s) (hb : 0 ≤ G.s.bl ∧ G.s.bl ≤ 1000000) (hu : 0 ≤ L.u ∧ L.u ≤ 1000000) :
    Calls Tryz.prog 14 #[.pointer (some ⟨p, 0, none⟩)] W fun e w' => e = .returned (.int .i64 (leftP G.s.bl L)) ∧ Below W.heap.size W w' :=
  (left_q h hR hb hu).mono fun e w' ⟨h1, q, h2⟩ => by subst h2; exact ⟨h1, below_drewN (Below.refl _ _) _⟩
end
end Go.Proofs.YtpmhfalhieinjaaGreatDoor
