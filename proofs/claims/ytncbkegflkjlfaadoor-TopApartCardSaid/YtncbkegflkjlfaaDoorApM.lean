/- A rig of three drives and three drives alone. -/
import Derived.Test.YtncbkegflkjlfaaDoorASpin
namespace Go.Proofs.YtncbkegflkjlfaaDoor
open Go.ChangeShapes Go.WideShapes Go.ChangeAt Go.RowKit Zon Drv

theorem dead_do (D : Dr) (k zz a n : Int) (t : List UInt8) : (doD D k zz a n t).2.dead = D.dead := by
  unfold doD
  split
  · rfl
  · split
    · unfold exec
      split <;> rfl
    · rfl
theorem dead_flush (D : Dr) : (flushD D).dead = D.dead := by
  unfold flushD
  split
  · rfl
  · exact (settleTo_m D _).2.2.1
theorem dead_lose (D : Dr) (ks : List Int) : (loseD D ks).dead = D.dead := (loseTo_m D ks _).2.1
theorem doM_read_zs (m : Mc) (zz a n : Int) : (doM m 7 zz a n).2.2 = m.zs := by
  unfold doM
  rw [if_neg (by omega)]
  split
  · rfl
  · show (act m 7 _ a n).2.2 = m.zs
    unfold act
    rw [if_neg (by decide), if_neg (by decide), if_neg (by decide), if_neg (by decide), if_neg (by decide), if_neg (by decide)]
    unfold rea
    split <;> rfl
theorem read_same (D : Dr) (zz a n : Int) (t : List UInt8) : (doD D 7 zz a n t).2 = D := by
  unfold doD
  split
  · rfl
  · split
    · unfold exec
      split
      · show turned D 7 _ (doM D.m 7 zz a n).2.2 t = D
        rw [doM_read_zs]
        rfl
      · rfl
    · rfl
theorem copy_ints_cap (W : World) (A : Option Addr) (cap : Nat) (zs : List Int) (hI : IntsIn W A zs) (hN : A = none → cap = 0) (hl : zs.length ≤ 17592186044416) :
    ∃ A' cap' W', (Builtin.append_ #[23, 23] 23 #[.slice (some ⟨W.heap.size, 0, none⟩) 0 0, .slice A zs.length cap]).run Tryd.prog (W.alloc (.cells #[] 3)) = .ok (.slice A' zs.length cap') W' ∧ IntsIn W' A' zs ∧ Below W.heap.size W W' ∧ (zs ≠ [] → ∀ b off, A' = some ⟨b, off, none⟩ → W.heap.size ≤ b) ∧ zs.length ≤ cap' := by
  obtain ⟨i0, hi, hz0, hz1, hz2⟩ := info_parts infoI2
  have hnew : (W.alloc (.cells #[] 3)).ownsRow W.heap.size 3 1 (.slice (some ⟨W.heap.size, 0, none⟩) 0 0) 0 [] := World.ownsRow_made W #[] 0 (Nat.le_refl _) (by unfold maxLen; omega) rfl
  have hb : Below W.heap.size W (W.alloc (.cells #[] 3)) := (Below.refl _ _).alloc (Nat.le_refl _) _
  cases A with
  | none =>
    obtain rfl := hN rfl
    have hzs : zs = [] := by
      rcases hI with h | ⟨b, off, h, _⟩
      · exact h
      · cases h
    subst hzs
    refine ⟨some ⟨W.heap.size, 0, none⟩, 0, _, ?_, .inl rfl, hb, fun h => absurd rfl h, Nat.le_refl _⟩
    exact run_append_owned_none _ W.heap.size 23 23 3 i0 1 Tryd.underlying23 hi _ _ _ hnew
  | some ad =>
    have hI' := hI.below hb
    have hcells : ∀ j u, (zs.map (Value.int .i64))[j]? = some u → (W.alloc (.cells #[] 3)).cell? (ad.add j) = some u := by
      intro j u hu
      rcases hI' with rfl | ⟨b, off, he, _, hc⟩
      · simp at hu
      · obtain rfl := Option.some.inj he
        rw [List.getElem?_map] at hu
        by_cases hj : j < zs.length
        · rw [List.getElem?_eq_getElem hj] at hu
          simp only [Option.map_some, Option.some.injEq] at hu
          rw [Go.WideShapes.add_plain, hc j hj, hu]
        · rw [List.getElem?_eq_none (by omega)] at hu
          cases hu
    obtain ⟨v', w', h1, h2, h3, h4, h5⟩ := run_append_own_at (P := Tryd.prog) (W.alloc (.cells #[] 3)) W.heap.size 23 23 3 i0 (.int .i64 0) 1 8 Tryd.underlying23 hi hz0 hz1 hz2 rfl (by decide) _ _ _ hnew ad zs.length cap (zs.map (Value.int .i64)) (by simp) hcells
      (by intro u hu; obtain ⟨p, _, rfl⟩ := List.mem_map.1 hu; rfl) (by unfold maxLen; omega) (by omega) (by simp)
    have hb2 : Below W.heap.size W w' := hb.grown h3 (by simp) (fun k hk => by simp [Value.ownBlock] at hk; omega)
    rw [Nat.zero_add, List.nil_append] at h2
    rcases h2.2 with ⟨hv, h0⟩ | ⟨g, cap', cur, hv, hg, hgg, hnc, _⟩
    · have hzs : zs = [] := List.eq_nil_of_length_eq_zero h0
      subst hzs
      exact ⟨none, 0, w', by rw [h1, hv]; rfl, .inl rfl, hb2, fun h => absurd rfl h, Nat.le_refl _⟩
    · subst hv
      refine ⟨some ⟨g, 0, none⟩, cap', w', h1, ?_, hb2, fun _ b off e => ?_, hnc⟩
      · by_cases h0 : zs = []
        · exact .inl h0
        · refine .inr ⟨g, 0, rfl, (Array.getElem?_eq_some_iff.1 hgg).1, fun j hj => ?_⟩
          rw [Nat.zero_add, h2.cellAt j (by omega), List.getElem?_map, List.getElem?_eq_getElem hj]
          rfl
      · injection e with e
        injection e with e1 _
        omega
theorem int_append (W : World) (base : Nat) (ty : TypeId) (v : Value) (xs : List Value) (hown : W.ownsRow base 3 1 v xs.length xs) (m : Nat) (y : Int) (hc : W.cell? ⟨m, 0, none⟩ = some (.int .i64 y)) (hl : xs.length < 17592186044416) (hb : base ≤ W.heap.size) :
    ∃ v' W', (Builtin.append_ #[23, 23] ty #[v, .slice (some ⟨m, 0, none⟩) 1 1]).run Tryd.prog W = .ok v' W' ∧ W'.ownsRow base 3 1 v' (xs ++ [Value.int .i64 y]).length (xs ++ [Value.int .i64 y]) ∧ W.grownBy W' v.ownBlock ∧ (v'.ownBlock = v.ownBlock ∨ v'.ownBlock = some W.heap.size) := by
  have infoI : (Tryd.prog.info? 3).map (fun i => (i.zero, i.size, i.bytes)) = some (some (.int .i64 0), 1, 8) := by kernel_rfl
  obtain ⟨i0, hi, hz0, hz1, hz2⟩ := info_parts infoI
  obtain ⟨v', w', h1, h2, h3, _, h5⟩ := run_append_own_at (P := Tryd.prog) W base 23 ty 3 i0 (.int .i64 0) 1 8 Tryd.underlying23 hi hz0 hz1 hz2 rfl (by decide) v xs.length xs hown ⟨m, 0, none⟩ 1 1 [.int .i64 y] (by simp)
    (fun j u hu => by
      match j, hu with
      | 0, hu =>
        simp only [List.getElem?_cons_zero, Option.some.injEq] at hu
        subst hu
        exact hc)
    (by intro u hu; rw [List.mem_singleton] at hu; subst hu; rfl) (by unfold maxLen; omega) (by omega) hb
  rw [show xs.length + 1 = (xs ++ [Value.int .i64 y]).length by simp] at h2
  exact ⟨v', w', h1, h2, h3, h5⟩
theorem own_ints {w : World} {B : Nat} {v : Value} {zs : List Int} (hown : w.ownsRow B 3 1 v zs.length (zs.map (Value.int .i64))) : ∃ A cap, v = .slice A zs.length cap ∧ IntsIn w A zs ∧ (zs ≠ [] → ∀ b off, A = some ⟨b, off, none⟩ → v.ownBlock = some b) := by
  rcases hown.2 with ⟨e, h0⟩ | ⟨g, cap, cur, e, hg, hgg, hnc, _⟩
  · exact ⟨none, 0, by rw [e, h0], .inl (List.eq_nil_of_length_eq_zero h0), fun h => absurd (List.eq_nil_of_length_eq_zero h0) h⟩
  · refine ⟨_, cap, e, ?_, fun _ b off e' => by injection e' with e'; injection e' with e1 _; rw [e, ← e1]; rfl⟩
    by_cases h0 : zs = []
    · exact .inl h0
    · refine .inr ⟨g, 0, rfl, (Array.getElem?_eq_some_iff.1 hgg).1, fun j hj => ?_⟩
      rw [e] at hown
      rw [Nat.zero_add, hown.cellAt j (by omega), List.getElem?_map, List.getElem?_eq_getElem hj]
      rfl
/-- A row of numbers that came in, with its reach. -/
theorem open_ints_big {H : Type} {enc : TypeId × Value → H} {P : Program} {w : World} {r : Reach} {b0 : Nat} {t e : TypeId} {v : Value} {d : DataW H} {p : List MemPlace} (ht : P.underlying t = some (.slice e)) (he : P.underlying e = some (.int .i64)) (hce : P.cellsOf e = 1) (hbe : P.bytesOf e = 8)
    (hv : Value.okWide P w r b0 t v) (h : DataW.Trod enc P w 0 (fun _ => true) true t v d p) (hsz : ∀ n ∈ d.weights P t, n ≤ reachBytes) :
    ∃ (A : Option Addr) (cap : Nat) (zs : List Int), v = .slice A zs.length cap ∧ IntsIn w A zs ∧ zs.length ≤ 17592186044416 ∧ (A = none → cap = 0) ∧ ∀ z ∈ zs, Rng z := by
  obtain ⟨a0, len, cap, rfl⟩ := okWide_slice ht hv
  obtain ⟨fuel, hf⟩ := h
  obtain ⟨q, h1, ⟨h2, h3, h4⟩, h5⟩ := open_irow ht he hce hbe hf hsz
  have h6 : Value.slice a0 len cap = Value.slice q.A q.zs.length q.cap := by
    have h7 : [Value.slice a0 len cap] = [Value.slice q.A q.zs.length q.cap] := h1
    injection h7
  exact ⟨q.A, q.cap, q.zs, h6, h2, h3, h4, h5⟩
/-- A number brought into 0 .. n - 1. -/
theorem into_mod (x : Int) (n : Nat) (h1 : 1 ≤ n) (h2 : n ≤ 100) : ∃ t : Int, ∃ j : Nat, x.tmod n = t ∧ -(n : Int) < t ∧ t < n ∧ (t + n) % (n : Int) = (j : Int) ∧ (t + n).tmod n = (j : Int) ∧ j < n := by
  have ha : -(n : Int) < x.tmod n ∧ x.tmod n < n := by
    have := Int.tmod_lt_of_pos x (show (0 : Int) < n by omega)
    have := Int.lt_tmod_of_pos x (show (0 : Int) < n by omega)
    omega
  have hb : (x.tmod n + n).tmod n = (x.tmod n + n) % (n : Int) := Int.tmod_eq_emod_of_nonneg (by omega)
  have hc := Int.emod_nonneg (x.tmod n + n) (show (n : Int) ≠ 0 by omega)
  have hd := Int.emod_lt_of_pos (x.tmod n + n) (show (0 : Int) < n by omega)
  refine ⟨_, ((x.tmod n + n) % (n : Int)).toNat, rfl, ha.1, ha.2, by omega, by rw [hb]; omega, by omega⟩
/-- A drive more, made since. -/
theorem Rig.more {w W W' : World} {K : Nat → Prop} {r n N x : Nat} {d : Nat → Nat} {D D' : Nat → Dr} {s : Rs} (h : Rig w W K r n N d D s) (hF : Fam w W' K (N + 1) (upd d N x) D') (hb : Below W.heap.size W W') : Rig w W' K r n (N + 1) (upd d N x) D' s := by
  have h2 := h.grow hb
  obtain ⟨q, q1, q2, q3, q4⟩ := h2.row
  exact ⟨hF, ⟨q, q1, q2, q3, fun i hi => by rw [upd_ne d (by have := h.nN; omega)]; exact q4 i hi⟩, h2.c1, h2.c2, h2.c3, h2.c4, h2.c5, h2.kl, h2.fr, h2.kr, h2.rb, h2.nb, by have := h.nN; omega⟩
/-- A store into a cell of another block that stays. -/
theorem Rig.setK {w W : World} {K : Nat → Prop} {r n N : Nat} {d : Nat → Nat} {D : Nat → Dr} {s : Rs} (h : Rig w W K r n N d D s) (hks : s.ks = []) {qa k : Nat} (ha : K qa) (hge : w.heap.size ≤ qa) (hne : qa ≠ r) (hk : k < n) (hnil : W.cell? ⟨qa, k, none⟩ = some (.pointer none)) (u : Value) :
    Rig w (W.setCell ⟨qa, k, none⟩ u) K r n N d D s := by
  obtain ⟨q, q1, q2, q3, q4⟩ := h.row
  have hq : qa ≠ q := fun e => by
    have h1 := q4 k hk
    rw [← e, hnil] at h1
    cases h1
  have hc : ∀ b o v, b ≠ qa → W.cell? ⟨b, o, none⟩ = some v → (W.setCell ⟨qa, k, none⟩ u).cell? ⟨b, o, none⟩ = some v := fun b o v hb hv => (World.cell?_setCell_other _ _ _ _ (by intro e; injection e with e _; exact hb e.symm)).trans hv
  obtain ⟨A, cap, a1, a2, a3, a4⟩ := h.c5
  exact ⟨h.fam.set ha hge k u, ⟨q, hc _ _ _ (Ne.symm hne) q1, q2, q3, fun i hi => hc _ _ _ (Ne.symm hq) (q4 i hi)⟩, hc _ _ _ (Ne.symm hne) h.c1, hc _ _ _ (Ne.symm hne) h.c2, hc _ _ _ (Ne.symm hne) h.c3, hc _ _ _ (Ne.symm hne) h.c4, ⟨A, cap, hc _ _ _ (Ne.symm hne) a1, .inl hks, a3, a4⟩, h.kl, fun j => by rw [World.frozen?_setCell]; exact h.fr j, h.kr, h.rb, h.nb, h.nN⟩
/-- A store into a block that stays and is no row of the rig's. -/
theorem Rig.setX {w W : World} {K : Nat → Prop} {r n N : Nat} {d : Nat → Nat} {D : Nat → Dr} {s : Rs} (h : Rig w W K r n N d D s) (hks : s.ks = []) {X : Nat} (ha : K X) (hge : w.heap.size ≤ X) (hne : X ≠ r) (hn : 0 < n) {y : Int} (hv : W.cell? ⟨X, 0, none⟩ = some (.int .i64 y)) (o : Nat) (u : Value) :
    Rig w (W.setCell ⟨X, o, none⟩ u) K r n N d D s := by
  obtain ⟨q, q1, q2, q3, q4⟩ := h.row
  have hq : X ≠ q := fun e => by
    have h1 := q4 0 hn
    rw [← e, hv] at h1
    cases h1
  have hc : ∀ b o' v, b ≠ X → W.cell? ⟨b, o', none⟩ = some v → (W.setCell ⟨X, o, none⟩ u).cell? ⟨b, o', none⟩ = some v := fun b o' v hb hv => (World.cell?_setCell_other _ _ _ _ (by intro e; injection e with e _; exact hb e.symm)).trans hv
  obtain ⟨A, cap, a1, a2, a3, a4⟩ := h.c5
  exact ⟨h.fam.set ha hge o u, ⟨q, hc _ _ _ (Ne.symm hne) q1, q2, q3, fun i hi => hc _ _ _ (Ne.symm hq) (q4 i hi)⟩, hc _ _ _ (Ne.symm hne) h.c1, hc _ _ _ (Ne.symm hne) h.c2, hc _ _ _ (Ne.symm hne) h.c3, hc _ _ _ (Ne.symm hne) h.c4, ⟨A, cap, hc _ _ _ (Ne.symm hne) a1, .inl hks, a3, a4⟩, h.kl, fun j => by rw [World.frozen?_setCell]; exact h.fr j, h.kr, h.rb, h.nb, h.nN⟩
/-- The three drives alone lie in a row; all are alive. -/
structure Ap (w W : World) (K : Nat → Prop) (r qa : Nat) (d : Nat → Nat) (D : Nat → Dr) (cnt : Int) : Prop where
  rig : Rig w W K r 3 6 d D ⟨16, cnt, 0, false, []⟩
  ok : ∀ i, i < 6 → (D i).Ok ∧ (D i).dead = false
  qa : K qa ∧ qa ≠ r ∧ ∀ i, i < 3 → W.cell? ⟨qa, i, none⟩ = some (.pointer (some ⟨d (3 + i), 0, none⟩))
section
variable {w W W' : World} {K K' : Nat → Prop} {r qa : Nat} {d : Nat → Nat} {D D' : Nat → Dr} {cnt cnt' : Int}
theorem Ap.of (h : Ap w W K r qa d D cnt) (hR : Rig w W' K' r 3 6 d D' ⟨16, cnt', 0, false, []⟩) (hK : ∀ x, K x → K' x) (hs : SameK W W' (KR K r)) (hok : ∀ i, i < 6 → (D' i).Ok ∧ (D' i).dead = false) : Ap w W' K' r qa d D' cnt' :=
  ⟨hR, hok, hK _ h.qa.1, h.qa.2.1, fun i hi => hs.cell (h.qa.2.2 i hi) ⟨h.qa.1, h.qa.2.1⟩⟩
theorem Ap.b (h : Ap w W K r qa d D cnt) : Below w.heap.size w W := h.rig.fam.b
/-- Memory has grown. -/
theorem Ap.grow (h : Ap w W K r qa d D cnt) (hb : Below W.heap.size W W') : Ap w W' K r qa d D cnt :=
  ⟨h.rig.grow hb, h.ok, h.qa.1, h.qa.2.1, fun i hi => (hb.cell (p := ⟨qa, i, none⟩) (h.rig.fam.kb _ h.qa.1)).trans (h.qa.2.2 i hi)⟩
/-- A new block is to stay. -/
theorem Ap.keep (h : Ap w W K r qa d D cnt) (hb : Below W.heap.size W W') (hK : ∀ x, K' x → K x ∨ W.heap.size ≤ x) (hl : ∀ x, K' x → x < W'.heap.size) (hK2 : ∀ x, K x → K' x) : Ap w W' K' r qa d D cnt :=
  ⟨h.rig.below hb hK hl (fun x _ hx => hK2 x hx), h.ok, hK2 _ h.qa.1, h.qa.2.1, fun i hi => (hb.cell (p := ⟨qa, i, none⟩) (h.rig.fam.kb _ h.qa.1)).trans (h.qa.2.2 i hi)⟩
theorem Ap.setX (h : Ap w W K r qa d D cnt) {X : Nat} (hX : K X) (hXr : X ≠ r) (hge : w.heap.size ≤ X) {y : Int} (hv : W.cell? ⟨X, 0, none⟩ = some (.int .i64 y)) (o : Nat) (u : Value) : Ap w (W.setCell ⟨X, o, none⟩ u) K r qa d D cnt := by
  have hXq : qa ≠ X := fun e => by
    have h1 := h.qa.2.2 0 (by decide)
    rw [e, hv] at h1
    cases h1
  exact ⟨h.rig.setX rfl hX hge hXr (by decide) hv o u, h.ok, h.qa.1, h.qa.2.1, fun i hi => (World.cell?_setCell_other _ _ _ _ (by intro e; injection e with e _; exact hXq e.symm)).trans (h.qa.2.2 i hi)⟩
/-- The command's box, set anew. -/
theorem Ap.box (h : Ap w W K r qa d D cnt) {X : Nat} (hX : K X) (hXr : X ≠ r) (hge : w.heap.size ≤ X) {k zz a n : Int} (hb : Bx w W X k zz a n) (k' zz' a' n' : Int) :
    Ap w ((((W.setCell ⟨X, 0, none⟩ (.int .i64 k')).setCell ⟨X, 1, none⟩ (.int .i64 zz')).setCell ⟨X, 2, none⟩ (.int .i64 a')).setCell ⟨X, 3, none⟩ (.int .i64 n')) K r qa d D cnt ∧
    Bx w ((((W.setCell ⟨X, 0, none⟩ (.int .i64 k')).setCell ⟨X, 1, none⟩ (.int .i64 zz')).setCell ⟨X, 2, none⟩ (.int .i64 a')).setCell ⟨X, 3, none⟩ (.int .i64 n')) X k' zz' a' n' := by
  have x0 := cell_eq hb.x0 (.int .i64 k')
  have x1 := (cell_ne W X 0 1 (.int .i64 k') (by omega)).trans hb.x1
  have x2 := (cell_ne W X 0 2 (.int .i64 k') (by omega)).trans hb.x2
  have x3 := (cell_ne W X 0 3 (.int .i64 k') (by omega)).trans hb.x3
  have h1 := h.setX hX hXr hge hb.x0 0 (.int .i64 k')
  generalize W.setCell ⟨X, 0, none⟩ (.int .i64 k') = W1 at *
  have y0 := (cell_ne W1 X 1 0 (.int .i64 zz') (by omega)).trans x0
  have y1 := cell_eq x1 (.int .i64 zz')
  have y2 := (cell_ne W1 X 1 2 (.int .i64 zz') (by omega)).trans x2
  have y3 := (cell_ne W1 X 1 3 (.int .i64 zz') (by omega)).trans x3
  have h2 := h1.setX hX hXr hge x0 1 (.int .i64 zz')
  generalize W1.setCell ⟨X, 1, none⟩ (.int .i64 zz') = W2 at *
  have z0 := (cell_ne W2 X 2 0 (.int .i64 a') (by omega)).trans y0
  have z1 := (cell_ne W2 X 2 1 (.int .i64 a') (by omega)).trans y1
  have z2 := cell_eq y2 (.int .i64 a')
  have z3 := (cell_ne W2 X 2 3 (.int .i64 a') (by omega)).trans y3
  have h3 := h2.setX hX hXr hge y0 2 (.int .i64 a')
  generalize W2.setCell ⟨X, 2, none⟩ (.int .i64 a') = W3 at *
  exact ⟨h3.setX hX hXr hge z0 3 _, ⟨(cell_ne W3 X 3 0 _ (by omega)).trans z0, (cell_ne W3 X 3 1 _ (by omega)).trans z1, (cell_ne W3 X 3 2 _ (by omega)).trans z2, cell_eq z3 _⟩⟩
theorem ok_upd (h : ∀ i, i < 6 → (D i).Ok ∧ (D i).dead = false) (j : Nat) {E : Dr} (hE : E.Ok ∧ E.dead = false) : ∀ i, i < 6 → (upd D j E i).Ok ∧ (upd D j E i).dead = false := fun i hi => by
  by_cases e : i = j
  · subst e; rw [upd_same]; exact hE
  · rw [upd_ne D e]; exact h i hi
theorem ap_do (i : Nat) (k zz a x : Int) (t : ByteArray) (h : Ap w W K r qa d D cnt) (hi : i < 3) (hk : k ≠ 7) (ha : a ≤ 9223372036854775807) (ht : t.size ≤ 9223372036854775807) (hc : 0 ≤ cnt ∧ cnt ≤ 4611686018427387904) :
    Calls Tryd.prog 11 #[.pointer (some ⟨r, 0, none⟩), .int .i64 (i : Int), .agg #[.int .i64 k, .int .i64 zz, .int .i64 a, .int .i64 x], .string t] W fun e w' => ∃ K', (∀ y, K y → K' y) ∧
      e = .returned (.tuple #[.string ⟨(doD (D i) k zz a x t.data.toList).1.1.toArray⟩, .int .i64 (doD (D i) k zz a x t.data.toList).1.2.1, .int .i64 (doD (D i) k zz a x t.data.toList).1.2.2]) ∧ Ap w w' K' r qa d (upd D i (doD (D i) k zz a x t.data.toList).2) (cnt + 1) ∧ SameK W w' (KR K r) := by
  have h1 := adm_ok i (h.rig.boxed k zz a x) hi rfl (h.ok i (by omega)).2 (show (0 : Int) ≠ 1 by decide) (show (0 : Int) ≤ 9223372036854775807 by decide) hc
  have e7 : (k != 7) = true := by simp [hk]
  have h2 := rdo_reach i k zz a x t h.rig.lt hi h.rig.nN (h.ok i (by omega)).1 ha ht (by rw [e7]; exact h1)
  refine h2.mono ?_
  rintro e w' ⟨he, K', hK, hR, hs⟩
  exact ⟨K', hK, he, h.of hR hK hs (ok_upd h.ok i ⟨doD_ok (h.ok i (by omega)).1 _ _ _ _ _, by rw [dead_do]; exact (h.ok i (by omega)).2⟩), hs⟩
theorem ap_read (i : Nat) (zz a x : Int) (t : ByteArray) (h : Ap w W K r qa d D cnt) (hi : i < 3) (ha : a ≤ 9223372036854775807) (ht : t.size ≤ 9223372036854775807) :
    Calls Tryd.prog 11 #[.pointer (some ⟨r, 0, none⟩), .int .i64 (i : Int), .agg #[.int .i64 7, .int .i64 zz, .int .i64 a, .int .i64 x], .string t] W fun e w' => ∃ K', (∀ y, K y → K' y) ∧
      e = .returned (.tuple #[.string ⟨(doD (D i) 7 zz a x t.data.toList).1.1.toArray⟩, .int .i64 (doD (D i) 7 zz a x t.data.toList).1.2.1, .int .i64 (doD (D i) 7 zz a x t.data.toList).1.2.2]) ∧ Ap w w' K' r qa d D cnt ∧ SameK W w' (KR K r) := by
  have h1 := adm_read i (h.rig.boxed 7 zz a x) hi rfl (h.ok i (by omega)).2
  have h2 := rdo_reach (s := ⟨16, cnt, 0, false, []⟩) (n := 3) (N := 6) (d := d) (D := D) i 7 zz a x t h.rig.lt hi h.rig.nN (h.ok i (by omega)).1 ha ht (h1.mono fun e w' ⟨a1, c1⟩ => by subst c1; exact ⟨a1, h.rig.boxed 7 zz a x, ⟨Nat.le_refl _, fun _ _ _ => rfl⟩⟩)
  refine h2.mono ?_
  rintro e w' ⟨he, K', hK, hR, hs⟩
  have eD : upd D i (doD (D i) 7 zz a x t.data.toList).2 = D := by
    rw [read_same]
    funext j
    unfold upd
    split
    · rename_i e; rw [e]
    · rfl
  rw [eD] at hR
  exact ⟨K', hK, he, h.of hR hK hs h.ok, hs⟩
theorem ap_flush (i : Nat) (h : Ap w W K r qa d D cnt) (hi : i < 3) (hc : 0 ≤ cnt ∧ cnt ≤ 4611686018427387904) :
    Calls Tryd.prog 8 #[.pointer (some ⟨r, 0, none⟩), .int .i64 (i : Int)] W fun e w' => e = .returned (.int .i64 0) ∧ Ap w w' K r qa d (upd D i (flushD (D i))) (cnt + 1) ∧ SameK W w' (KR K r) := by
  refine (rflush_ok i h.rig hi (h.ok i (by omega)).1 rfl (h.ok i (by omega)).2 (show (0 : Int) ≠ 1 by decide) (show (0 : Int) ≤ 9223372036854775807 by decide) hc).mono ?_
  rintro e w' ⟨he, hR, hs⟩
  exact ⟨he, h.of hR (fun _ hx => hx) hs (ok_upd h.ok i ⟨flushD_ok (h.ok i (by omega)).1, by rw [dead_flush]; exact (h.ok i (by omega)).2⟩), hs⟩
/-- One of the drives alone turned. -/
theorem Ap.turned (h : Ap w W K r qa d D cnt) (hF : Fam w W' K 6 d D') (hs : SameK W W' K) (hok : ∀ i, i < 6 → (D' i).Ok ∧ (D' i).dead = false) : Ap w W' K r qa d D' cnt :=
  h.of (h.rig.drives hF hs (fun b hb => (hF.b.block b hb).trans (h.rig.fam.b.block b hb).symm)) (fun _ hx => hx) (hs.kr r) hok
theorem al_do (i : Nat) (k zz a x : Int) (t : ByteArray) (h : Ap w W K r qa d D cnt) (hi : i < 6) (ha : a ≤ 9223372036854775807) (ht : t.size ≤ 9223372036854775807) :
    Calls Tryd.prog 12 #[.pointer (some ⟨d i, 0, none⟩), .agg #[.int .i64 k, .int .i64 zz, .int .i64 a, .int .i64 x], .string t] W fun e w' =>
      e = .returned (.tuple #[.string ⟨(doD (D i) k zz a x t.data.toList).1.1.toArray⟩, .int .i64 (doD (D i) k zz a x t.data.toList).1.2.1, .int .i64 (doD (D i) k zz a x t.data.toList).1.2.2]) ∧ Ap w w' K r qa d (upd D i (doD (D i) k zz a x t.data.toList).2) cnt ∧ SameK W w' K := by
  refine (fam_do W i k zz a x t h.rig.fam hi (h.ok i hi).1 ha ht).mono ?_
  rintro e w' ⟨he, hF, hs⟩
  exact ⟨he, h.turned hF hs (ok_upd h.ok i ⟨doD_ok (h.ok i hi).1 _ _ _ _ _, by rw [dead_do]; exact (h.ok i hi).2⟩), hs⟩
theorem al_flush (i : Nat) (h : Ap w W K r qa d D cnt) (hi : i < 6) :
    Calls Tryd.prog 9 #[.pointer (some ⟨d i, 0, none⟩)] W fun e w' => e = .returned (.int .i64 0) ∧ Ap w w' K r qa d (upd D i (flushD (D i))) cnt ∧ SameK W w' K := by
  refine (fam_flush W i h.rig.fam hi (h.ok i hi).1).mono ?_
  rintro e w' ⟨he, hF, hs⟩
  rw [(h.ok i hi).2] at he
  exact ⟨he, h.turned hF hs (ok_upd h.ok i ⟨flushD_ok (h.ok i hi).1, by rw [dead_flush]; exact (h.ok i hi).2⟩), hs⟩
theorem al_lose (i : Nat) (A : Option Addr) (cap : Nat) (ks : List Int) (h : Ap w W K r qa d D cnt) (hi : i < 6) (hI : IntsIn W A ks) (hA : ks ≠ [] → ∀ b off, A = some ⟨b, off, none⟩ → b < w.heap.size ∨ K b)
    (hq : ∀ x ∈ ks, -9223372036854775808 ≤ x ∧ x ≤ 9223372036854775807) (hl : ks.length ≤ maxLen) :
    Calls Tryd.prog 14 #[.pointer (some ⟨d i, 0, none⟩), .slice A ks.length cap] W fun e w' => e = .returned (.tuple #[]) ∧ Ap w w' K r qa d (upd D i (loseD (D i) ks)) cnt ∧ SameK W w' K := by
  refine (fam_lose W i A cap ks h.rig.fam hi (h.ok i hi).1 hI hA hq hl).mono ?_
  rintro e w' ⟨he, hF, hs⟩
  exact ⟨he, h.turned hF hs (ok_upd h.ok i ⟨loseD_ok (h.ok i hi).1 ks, by rw [dead_lose]; exact (h.ok i hi).2⟩), hs⟩
theorem ap_crash (A : Option Addr) (cap : Nat) (ks : List Int) (h : Ap w W K r qa d D cnt) (hI : IntsIn W A ks) (hA : ks ≠ [] → ∀ b off, A = some ⟨b, off, none⟩ → b < w.heap.size ∨ K b) (hc : ks.length ≤ cap) (hl : ks.length ≤ 17592186044416) (hk : ∀ x ∈ ks, Rng x) :
    Calls Tryd.prog 13 #[.pointer (some ⟨r, 0, none⟩), .slice A ks.length cap] W fun e w' => e = .returned (.tuple #[]) ∧ Ap w w' K r qa d (lostN D ks 3) cnt ∧ SameK W w' (KR K r) := by
  refine (rcrash_any h.rig (fun i hi => (h.ok i (by omega)).1) A cap ks hI hA hc hl hk).mono ?_
  rintro e w' ⟨he, hR, hs⟩
  refine ⟨he, h.of hR (fun _ hx => hx) hs (fun i hi => ?_), hs⟩
  unfold lostN
  split
  · exact ⟨loseD_ok (h.ok i hi).1 _, by rw [dead_lose]; exact (h.ok i hi).2⟩
  · exact h.ok i hi
theorem al_twin (i : Nat) (k zz a x : Int) (t : ByteArray) (E : Dr) (h : Ap w W K r qa d (upd D i E) cnt) (htw : D (3 + i) = D i) (hi : i < 3) (ha : a ≤ 9223372036854775807) (ht : t.size ≤ 9223372036854775807) :
    Calls Tryd.prog 12 #[.pointer (some ⟨d (3 + i), 0, none⟩), .agg #[.int .i64 k, .int .i64 zz, .int .i64 a, .int .i64 x], .string t] W fun e w' =>
      e = .returned (.tuple #[.string ⟨(doD (D i) k zz a x t.data.toList).1.1.toArray⟩, .int .i64 (doD (D i) k zz a x t.data.toList).1.2.1, .int .i64 (doD (D i) k zz a x t.data.toList).1.2.2]) ∧ Ap w w' K r qa d (upd (upd D i E) (3 + i) (doD (D i) k zz a x t.data.toList).2) cnt ∧ SameK W w' K := by
  have h1 := al_do (3 + i) k zz a x t h (by omega) ha ht
  rw [upd_ne D (show 3 + i ≠ i by omega), htw] at h1
  exact h1
theorem al_ftwin (i : Nat) (E : Dr) (h : Ap w W K r qa d (upd D i E) cnt) (htw : D (3 + i) = D i) (hi : i < 3) :
    Calls Tryd.prog 9 #[.pointer (some ⟨d (3 + i), 0, none⟩)] W fun e w' => e = .returned (.int .i64 0) ∧ Ap w w' K r qa d (upd (upd D i E) (3 + i) (flushD (D i))) cnt ∧ SameK W w' K := by
  have h1 := al_flush (3 + i) h (by omega)
  rw [upd_ne D (show 3 + i ≠ i by omega), htw] at h1
  exact h1
end
end Go.Proofs.YtncbkegflkjlfaaDoor
