/- Add of a map. -/
import Derived.Test.YtbgkmppngnedlaaLmG
namespace Go.Proofs.Ytbgkmppngnedlaa
open Go.RowKit

theorem grownBy_setC (w : World) (b i : Nat) (v : Value) : w.grownBy (w.setCell ⟨b, i, none⟩ v) (some b) := ⟨rfl, rfl, rfl, by simp [World.setCell], fun k _ hk => Below.heap_setCell _ _ _ _ (fun e => hk (by rw [e]))⟩
/-- The world within Add: the group's box, the map, the entries. -/
structure AdW (w W : World) (X g mb n : Nat) (m : Lm) (s : Int) (A : Option Addr) (cap : Nat) (l : List (Int × Bool)) : Prop where
  x0 : W.cell? ⟨X, 0, none⟩ = some (.int .i64 s)
  x1 : W.cell? ⟨X, 1, none⟩ = some (.slice A l.length cap)
  lm : LmAt W g mb n m
  es : geE.In W A l
  xg : X ≠ g
  xm : X ≠ mb
  eg : ∀ b off, A = some ⟨b, off, none⟩ → b ≠ g ∧ b ≠ mb
  bw : But2 w W g mb
theorem AdW.xlt {w W : World} {X g mb n : Nat} {m : Lm} {s : Int} {A : Option Addr} {cap : Nat} {l : List (Int × Bool)} (h : AdW w W X g mb n m s A cap l) : X < W.heap.size := lt_of_cell h.x0
theorem AdW.below {w W W' : World} {X g mb n : Nat} {m : Lm} {s : Int} {A : Option Addr} {cap : Nat} {l : List (Int × Bool)} (h : AdW w W X g mb n m s A cap l) (hb : Below W.heap.size W W') : AdW w W' X g mb n m s A cap l :=
  ⟨(hb.cell h.xlt).trans h.x0, (hb.cell h.xlt).trans h.x1, h.lm.below hb, h.es.below hb, h.xg, h.xm, h.eg, h.bw.trans (But2.of_below hb)⟩
theorem in_but2 {α : Type} {E : Enc α} {W W' : World} {A : Option Addr} {xs : List α} {g m : Nat} (h : E.In W A xs) (hb : But2 W W' g m) (hne : ∀ b off, A = some ⟨b, off, none⟩ → b ≠ g ∧ b ≠ m) : E.In W' A xs := by
  rcases h with h | ⟨b, off, rfl, hlt, hc⟩
  · exact .inl h
  · obtain ⟨h1, h2⟩ := hne b off rfl
    exact .inr ⟨b, off, rfl, Nat.lt_of_lt_of_le hlt hb.size, fun i hi j hj => (World.cell?_of_block (a := ⟨b, off + i * E.k + j, none⟩) (hb.block b hlt h1 h2)).trans (hc i hi j hj)⟩
theorem AdW.turn {w W W' : World} {X g mb n n' : Nat} {m m' : Lm} {s : Int} {A : Option Addr} {cap : Nat} {l : List (Int × Bool)} (h : AdW w W X g mb n m s A cap l) (hb : But2 W W' g mb) (hl : LmAt W' g mb n' m') : AdW w W' X g mb n' m' s A cap l :=
  ⟨(World.cell?_of_block (a := ⟨X, 0, none⟩) (hb.block X h.xlt h.xg h.xm)).trans h.x0, (World.cell?_of_block (a := ⟨X, 1, none⟩) (hb.block X h.xlt h.xg h.xm)).trans h.x1, hl, in_but2 h.es hb h.eg, h.xg, h.xm, h.eg, h.bw.trans hb⟩
theorem AdW.start {w : World} {g mb n : Nat} {m : Lm} {s : Int} {A DA : Option Addr} {cap dn dc : Nat} {l : List (Int × Bool)} (h : LmAt w g mb n m) (hI : geE.In w A l) (he : ∀ b off, A = some ⟨b, off, none⟩ → b ≠ g ∧ b ≠ mb) :
    AdW w (w.alloc (.cells #[.int .i64 s, .slice A l.length cap, .slice DA dn dc] 113)) w.heap.size g mb n m s A cap l := by
  have hb := (Below.refl w.heap.size w).alloc (Nat.le_refl _) (.cells #[.int .i64 s, .slice A l.length cap, .slice DA dn dc] 113)
  have h1 := h.lt.1
  have h2 := h.lt.2
  exact ⟨by go_simp, by go_simp, h.below hb, hI.below hb, by omega, by omega, he, But2.of_below hb⟩
/-- The greatest Seq stored. -/
theorem AdW.seq {w W : World} {X g mb n : Nat} {m : Lm} {s : Int} {A : Option Addr} {cap : Nat} {l : List (Int × Bool)} (h : AdW w W X g mb n m s A cap l) :
    AdW w ((W.setCell ⟨g, 1, none⟩ (.int .i64 s)).setCell ⟨g, 2, none⟩ (.bool true)) X g mb n ⟨m.f, s, true⟩ s A cap l := by
  obtain ⟨c0, c1, c2, z1, z2, mp, ne⟩ := h.lm
  have hg1 : W.grownBy (W.setCell ⟨g, 1, none⟩ (.int .i64 s)) (some g) := grownBy_setC _ _ _ _
  have hg2 : (W.setCell ⟨g, 1, none⟩ (.int .i64 s)).grownBy ((W.setCell ⟨g, 1, none⟩ (.int .i64 s)).setCell ⟨g, 2, none⟩ (.bool true)) (some g) := grownBy_setC _ _ _ _
  have hb := (But2.of_grown (m := mb) hg1 (.inl rfl)).trans (But2.of_grown (m := mb) hg2 (.inl rfl))
  have hm := (mp.kept hg1 (fun e => by injection e with e; exact ne e.symm)).kept hg2 (fun e => by injection e with e; exact ne e.symm)
  exact h.turn hb ⟨by go_simp, by go_simp, by go_simp, by go_simp, by go_simp, hm, ne⟩
/-- A box of an entry that may be written. -/
def FiveAt (W : World) (E : Nat) : Prop := (∃ u0 u1 u2 u3 u4, W.cell? ⟨E, 0, none⟩ = some u0 ∧ W.cell? ⟨E, 1, none⟩ = some u1 ∧ W.cell? ⟨E, 2, none⟩ = some u2 ∧ W.cell? ⟨E, 3, none⟩ = some u3 ∧ W.cell? ⟨E, 4, none⟩ = some u4) ∧
  W.frozen? ⟨E, 0, none⟩ = false ∧ W.frozen? ⟨E, 1, none⟩ = false ∧ W.frozen? ⟨E, 2, none⟩ = false ∧ W.frozen? ⟨E, 3, none⟩ = false ∧ W.frozen? ⟨E, 4, none⟩ = false
def setF (W : World) (E : Nat) (y : En) : World := ((((W.setCell ⟨E, 0, none⟩ (.int .i64 y.s)).setCell ⟨E, 1, none⟩ (.bool y.t)).setCell ⟨E, 2, none⟩ (.int .i64 y.z)).setCell ⟨E, 3, none⟩ (.int .i64 y.a)).setCell ⟨E, 4, none⟩ (.int .i64 y.e)
theorem FiveAt.set {W : World} {E : Nat} (h : FiveAt W E) (y : En) : (setF W E y).cell? ⟨E, 0, none⟩ = some (.int .i64 y.s) ∧ ∀ B, B ≤ E → Below B W (setF W E y) := by
  obtain ⟨⟨u0, u1, u2, u3, u4, h0, h1, h2, h3, h4⟩, _⟩ := h
  refine ⟨?_, fun B hB => ?_⟩
  · unfold setF; go_simp
  · unfold setF
    exact (((((Below.refl B W).setCell hB _).setCell hB _).setCell hB _).setCell hB _).setCell hB _
/-- The world within a round: besides the entry's box. -/
structure EnW (w W : World) (X g mb n : Nat) (m : Lm) (s : Int) (A : Option Addr) (cap : Nat) (l : List (Int × Bool)) (Y : Nat) (x : Int × Bool) : Prop where
  a : AdW w W X g mb n m s A cap l
  y0 : W.cell? ⟨Y, 0, none⟩ = some (.int .i64 x.1)
  y1 : W.cell? ⟨Y, 1, none⟩ = some (.bool x.2)
theorem AdW.mono {w W : World} {X g mb n n' : Nat} {m : Lm} {s : Int} {A : Option Addr} {cap : Nat} {l : List (Int × Bool)} (h : AdW w W X g mb n m s A cap l) (hn : n ≤ n') : AdW w W X g mb n' m s A cap l := ⟨h.x0, h.x1, h.lm.mono hn, h.es, h.xg, h.xm, h.eg, h.bw⟩
/-- What stands below a place stands, where only what is behind it has turned. -/
theorem EnW.set {w W W' : World} {X g mb n E : Nat} {m : Lm} {s : Int} {A : Option Addr} {cap : Nat} {l : List (Int × Bool)} {Y : Nat} {x : Int × Bool} (h : EnW w W X g mb n m s A cap l Y x) (hb : Below E W W') (hX : X < E) (hg : g < E) (hm : mb < E) (hY : Y < E) (hA : ∀ b off, A = some ⟨b, off, none⟩ → b < E) (hw : w.heap.size ≤ E) : EnW w W' X g mb n m s A cap l Y x := by
  obtain ⟨c0, c1, c2, z1, z2, ⟨D, ⟨es, clock, hbk, rest⟩, hD⟩, ne⟩ := h.a.lm
  refine ⟨⟨(hb.cell (p := ⟨X, 0, none⟩) hX).trans h.a.x0, (hb.cell (p := ⟨X, 1, none⟩) hX).trans h.a.x1, ⟨(hb.cell (p := ⟨g, 0, none⟩) hg).trans c0, (hb.cell (p := ⟨g, 1, none⟩) hg).trans c1, (hb.cell (p := ⟨g, 2, none⟩) hg).trans c2, (hb.frozen (p := ⟨g, 1, none⟩) hg).trans z1, (hb.frozen (p := ⟨g, 2, none⟩) hg).trans z2, ⟨D, ⟨es, clock, (hb.block mb hm).trans hbk, rest⟩, hD⟩, ne⟩, ?_, h.a.xg, h.a.xm, h.a.eg, ?_⟩, (hb.cell (p := ⟨Y, 0, none⟩) hY).trans h.y0, (hb.cell (p := ⟨Y, 1, none⟩) hY).trans h.y1⟩
  · rcases h.a.es with h0 | ⟨b, off, e, hlt, hc⟩
    · exact .inl h0
    · exact .inr ⟨b, off, e, Nat.lt_of_lt_of_le hlt hb.size, fun i hi j hj => (hb.cell (p := ⟨b, off + i * geE.k + j, none⟩) (hA b off e)).trans (hc i hi j hj)⟩
  · exact ⟨hb.os.trans h.a.bw.os, hb.tape.trans h.a.bw.tape, hb.output.trans h.a.bw.output, Nat.le_trans h.a.bw.size hb.size, fun k hk h1 h2 => (hb.block k (Nat.lt_of_lt_of_le hk hw)).trans (h.a.bw.block k hk h1 h2)⟩
/-- A store into the map. -/
theorem AdW.upd {w W W' : World} {X g mb n : Nat} {f f' : Mp} {q : Int} {s : Int} {A : Option Addr} {cap : Nat} {l : List (Int × Bool)} (h : AdW w W X g mb n ⟨f, q, true⟩ s A cap l) (hm : MapE W' mb (n + 1) f') (hg : W.grownBy W' (some mb)) : AdW w W' X g mb (n + 1) ⟨f', q, true⟩ s A cap l := by
  obtain ⟨c0, c1, c2, z1, z2, mp, ne⟩ := h.lm
  have hb := But2.of_grown (g := g) hg (.inr rfl)
  have hgb : W'.heap[g]? = W.heap[g]? := hg.block g h.lm.lt.1 (fun e => by injection e with e; exact ne e)
  have hc : ∀ o, W'.cell? ⟨g, o, none⟩ = W.cell? ⟨g, o, none⟩ := fun o => World.cell?_of_block (a := ⟨g, o, none⟩) hgb
  have hf : ∀ o, W'.frozen? ⟨g, o, none⟩ = W.frozen? ⟨g, o, none⟩ := fun o => by simp [World.frozen?, hgb]
  exact h.turn hb ⟨(hc 0).trans c0, (hc 1).trans c1, (hc 2).trans c2, (hf 1).trans z1, (hf 2).trans z2, hm, ne⟩
theorem fresh_anyC10 {P : Program} {md : Region.Mode} {ops : Array Oper} {Q : Exit → Act → World → Prop} {c : Nat → Bool} {S : World → Prop} {fuel : Nat} {listed : Array Bool} {a : Act} {W : World} (R : World → Prop) (hR : R W)
    (h : ∀ W2, R W2 → anyC P md ops Q c S fuel listed a W2) : anyC P md ops Q c S fuel listed a W := h W hR
def AddPost (w : World) (g mb n : Nat) (m : Lm) (e : Ending) (w' : World) : Prop := e = .returned (.tuple #[]) ∧ LmAt w' g mb n m ∧ But2 w w' g mb
theorem add_nil (w : World) (z a : Int) (v : Value) (hv : ∃ x y u, v = .agg #[x, y, u]) : Calls Try.prog 58 #[.pointer none, .int .i64 z, .int .i64 a, v] w fun e w' => e = .returned (.tuple #[]) ∧ Below w.heap.size w w' := by
  obtain ⟨x, y, u, rfl⟩ := hv
  have hb := (Below.refl w.heap.size w).alloc (Nat.le_refl _) (.cells #[x, y, u] 113)
  have hbH := Lib.hid hb
  clear hb
  go_enter Try.func58, Try.ntmps58
  go_wp2_with fail
  refine bodyPost_ret (results_none rfl _ _ _) rfl ?_
  exact ⟨rfl, hbH.out⟩
theorem map_nil (mb : Nat) (W : World) : (binOp .eql 119 (.map (some mb)) (.map none)).run Try.prog W = .ok (.bool false) W := by
  first | kernel_rfl | (unfold binOp; simp [go_sem])
set_option maxRecDepth 100000 in
set_option maxHeartbeats 4000000 in
theorem add_any (w : World) (g mb n : Nat) (m : Lm) (z a s : Int) (A DA : Option Addr) (cap dn dc : Nat) (l : List (Int × Bool)) (h : LmAt w g mb n m) (hI : geE.In w A l) (he : ∀ b off, A = some ⟨b, off, none⟩ → b ≠ g ∧ b ≠ mb)
    (hl : l.length ≤ 1000) (hn : n ≤ 1000000) (hw : ∀ x ∈ l, WfI x.1) :
    Calls Try.prog 58 #[.pointer (some ⟨g, 0, none⟩), .int .i64 z, .int .i64 a, .agg #[.int .i64 s, .slice A l.length cap, .slice DA dn dc]] w (AddPost w g mb (n + l.length) (m.add z a s l)) := by
  have hst := Lib.hid (AdW.start (s := s) (cap := cap) (DA := DA) (dn := dn) (dc := dc) h hI he)
  have hc0 := (AdW.start (s := s) (cap := cap) (DA := DA) (dn := dn) (dc := dc) h hI he).lm.c0
  have hwH := Lib.hid hw
  clear h hI he hw
  obtain ⟨nl, hnl⟩ : ∃ nl, l.length = nl := ⟨_, rfl⟩
  obtain ⟨f0, q0, b0⟩ := m
  rw [hnl] at hl ⊢
  have hst2 := hst
  rw [hnl] at hst2 hc0
  have hnlH := Lib.hid hnl
  clear hst hnl
  obtain ⟨post, hpost⟩ : ∃ post : Lm, post = Lm.add ⟨f0, q0, b0⟩ z a s l := ⟨_, rfl⟩
  rw [← hpost]
  have hpostH := Lib.hid hpost
  clear hpost
  unfold AddPost
  have hnil : ∀ W : World, (binOp .eql 119 (.map (some mb)) (.map none)).run Try.prog W = .ok (.bool false) W := map_nil mb
  go_enter Try.func58, Try.ntmps58
  go_upto_region 4 with fail
  clear hc0
  generalize hX : w.heap.size = X
  rw [hX] at hst2
  refine fresh_world (fun W => ∃ cp, AdW w W X g mb n ⟨f0, q0, b0⟩ s A cp l ∧ W.cell? ⟨X, 1, none⟩ = some (.slice A nl cp)) ⟨cap, hst2.out, by have h1 := hst2.out.x1; rw [hnlH.out] at h1; exact h1⟩ ?_
  clear hst2 hX
  rintro W4 ⟨cp, h4, hx1⟩
  have h4H := Lib.hid h4
  obtain ⟨x0, _, ⟨c0, c1, c2, z1, z2, _, _⟩, _, _, _, _, _⟩ := h4
  dsimp only at c1 c2
  have hS0 : (fun W => W.cell? ⟨X, 0, none⟩ = some (.int .i64 s) ∧ W.cell? ⟨g, 1, none⟩ = some (.int .i64 q0) ∧ W.cell? ⟨g, 2, none⟩ = some (.bool b0)) W4.drew := ⟨x0, c1, c2⟩
  obtain ⟨t, ht⟩ : ∃ t : Bool, t = decide (b0 = false ∨ q0 < s) := ⟨_, rfl⟩
  have htH := Lib.hid ht
  clear ht
  go_cut [36] from 23 to 36 (fun c wx => c = .bool t ∧ wx = W4.drew)
  case first =>
    refine region_anyC (fun _ => true) (fun W => W.cell? ⟨X, 0, none⟩ = some (.int .i64 s) ∧ W.cell? ⟨g, 1, none⟩ = some (.int .i64 q0) ∧ W.cell? ⟨g, 2, none⟩ = some (.bool b0)) (by kernel_rfl) ?_
    clear h4H x0 c0 c1 c2 z1 z2 hx1
    cases b0 with
    | false =>
      obtain rfl : t = true := by rw [htH.out]; simp
      refine anyL_take 0 (v := ?_) rfl (by kernel_rfl) (fun _ _ _ h => h) (Or.inl ⟨by rfl, ?_⟩) hS0 ?_
      rotate_left
      focus (intro W hW; go_simp; try with_reducible rfl)
      simp only [Act.put, List.setIfInBounds_toArray, List.set_cons_zero, List.set_cons_succ]
      refine anyL_take 1 (v := ?_) rfl (by kernel_rfl) (fun _ _ _ h => h) (Or.inl ⟨by rfl, ?_⟩) hS0 ?_
      rotate_left
      focus (intro W hW; go_simp; try with_reducible rfl)
      simp only [Act.put, List.setIfInBounds_toArray, List.set_cons_zero, List.set_cons_succ]
      refine anyL_take 2 (v := ?_) rfl (by kernel_rfl) (fun _ _ _ h => h) (Or.inl ⟨by rfl, ?_⟩) hS0 ?_
      rotate_left
      focus (intro W hW; go_simp; try with_reducible rfl)
      simp only [Act.put, List.setIfInBounds_toArray, List.set_cons_zero, List.set_cons_succ]
      refine anyL_take 3 (v := ?_) rfl (by kernel_rfl) (fun _ _ _ h => h) (Or.inl ⟨by rfl, ?_⟩) hS0 ?_
      rotate_left
      focus (intro W hW; obtain ⟨x0, c1, c2⟩ := hW; go_simp; try with_reducible rfl)
      simp only [Act.put, List.setIfInBounds_toArray, List.set_cons_zero, List.set_cons_succ]
      refine anyL_take 4 (v := ?_) rfl (by kernel_rfl) (fun _ _ _ h => h) (Or.inl ⟨by rfl, ?_⟩) hS0 ?_
      rotate_left
      focus (intro W hW; go_simp; try with_reducible rfl)
      simp only [Act.put, List.setIfInBounds_toArray, List.set_cons_zero, List.set_cons_succ]
      refine anyL_take 5 (v := ?_) rfl (by kernel_rfl) (fun _ _ _ h => h) (Or.inl ⟨by rfl, ?_⟩) hS0 ?_
      rotate_left
      focus (intro W hW; go_simp; try with_reducible rfl)
      simp only [Act.put, List.setIfInBounds_toArray, List.set_cons_zero, List.set_cons_succ]
      refine anyL_take 6 (v := undef) rfl (by kernel_rfl) (fun _ _ _ h => h) (Or.inr ⟨by rfl, rfl⟩) hS0 ?_
      simp only [Act.put, List.setIfInBounds_toArray, List.set_cons_zero, List.set_cons_succ]
      refine anyL_take 7 (v := undef) rfl (by kernel_rfl) (fun _ _ _ h => h) (Or.inr ⟨by rfl, rfl⟩) hS0 ?_
      simp only [Act.put, List.setIfInBounds_toArray, List.set_cons_zero, List.set_cons_succ]
      refine anyL_take 8 (v := undef) rfl (by kernel_rfl) (fun _ _ _ h => h) (Or.inr ⟨by rfl, rfl⟩) hS0 ?_
      simp only [Act.put, List.setIfInBounds_toArray, List.set_cons_zero, List.set_cons_succ]
      refine anyL_take 9 (v := undef) rfl (by kernel_rfl) (fun _ _ _ h => h) (Or.inr ⟨by rfl, rfl⟩) hS0 ?_
      simp only [Act.put, List.setIfInBounds_toArray, List.set_cons_zero, List.set_cons_succ]
      refine anyL_take 10 (v := undef) rfl (by kernel_rfl) (fun _ _ _ h => h) (Or.inr ⟨by rfl, rfl⟩) hS0 ?_
      simp only [Act.put, List.setIfInBounds_toArray, List.set_cons_zero, List.set_cons_succ]
      refine anyL_take 11 (v := undef) rfl (by kernel_rfl) (fun _ _ _ h => h) (Or.inr ⟨by rfl, rfl⟩) hS0 ?_
      simp only [Act.put, List.setIfInBounds_toArray, List.set_cons_zero, List.set_cons_succ]
      refine anyL_take 12 (v := undef) rfl (by kernel_rfl) (fun _ _ _ h => h) (Or.inr ⟨by rfl, rfl⟩) hS0 ?_
      simp only [Act.put, List.setIfInBounds_toArray, List.set_cons_zero, List.set_cons_succ]
      refine anyL_take 13 (v := ?_) rfl (by kernel_rfl) (fun _ _ _ h => h) (Or.inl ⟨by rfl, ?_⟩) hS0 ?_
      rotate_left
      focus (intro W hW; go_simp; try with_reducible rfl)
      simp only [Act.put, List.setIfInBounds_toArray, List.set_cons_zero, List.set_cons_succ]
      refine anyC_done (by kernel_rfl) ?_ _
      go_wp2_with fail
      go_meet
      exact ⟨rfl, rfl⟩
    | true =>
      have htd : Hid (t = decide (q0 < s)) := Lib.hid (by rw [htH.out]; simp)
      refine anyL_take 0 (v := ?_) rfl (by kernel_rfl) (fun _ _ _ h => h) (Or.inl ⟨by rfl, ?_⟩) hS0 ?_
      rotate_left
      focus (intro W hW; go_simp; try with_reducible rfl)
      simp only [Act.put, List.setIfInBounds_toArray, List.set_cons_zero, List.set_cons_succ]
      refine anyL_take 1 (v := ?_) rfl (by kernel_rfl) (fun _ _ _ h => h) (Or.inl ⟨by rfl, ?_⟩) hS0 ?_
      rotate_left
      focus (intro W hW; go_simp; try with_reducible rfl)
      simp only [Act.put, List.setIfInBounds_toArray, List.set_cons_zero, List.set_cons_succ]
      refine anyL_take 2 (v := ?_) rfl (by kernel_rfl) (fun _ _ _ h => h) (Or.inl ⟨by rfl, ?_⟩) hS0 ?_
      rotate_left
      focus (intro W hW; go_simp; try with_reducible rfl)
      simp only [Act.put, List.setIfInBounds_toArray, List.set_cons_zero, List.set_cons_succ]
      refine anyL_take 3 (v := ?_) rfl (by kernel_rfl) (fun _ _ _ h => h) (Or.inl ⟨by rfl, ?_⟩) hS0 ?_
      rotate_left
      focus (intro W hW; obtain ⟨x0, c1, c2⟩ := hW; go_simp; try with_reducible rfl)
      simp only [Act.put, List.setIfInBounds_toArray, List.set_cons_zero, List.set_cons_succ]
      refine anyL_take 4 (v := ?_) rfl (by kernel_rfl) (fun _ _ _ h => h) (Or.inl ⟨by rfl, ?_⟩) hS0 ?_
      rotate_left
      focus (intro W hW; go_simp; try with_reducible rfl)
      simp only [Act.put, List.setIfInBounds_toArray, List.set_cons_zero, List.set_cons_succ]
      refine anyL_take 5 (v := ?_) rfl (by kernel_rfl) (fun _ _ _ h => h) (Or.inl ⟨by rfl, ?_⟩) hS0 ?_
      rotate_left
      focus (intro W hW; go_simp; try with_reducible rfl)
      simp only [Act.put, List.setIfInBounds_toArray, List.set_cons_zero, List.set_cons_succ]
      refine anyL_take 6 (v := ?_) rfl (by kernel_rfl) (fun _ _ _ h => h) (Or.inl ⟨by rfl, ?_⟩) hS0 ?_
      rotate_left
      focus (intro W hW; go_simp; try with_reducible rfl)
      simp only [Act.put, List.setIfInBounds_toArray, List.set_cons_zero, List.set_cons_succ]
      refine anyL_take 7 (v := ?_) rfl (by kernel_rfl) (fun _ _ _ h => h) (Or.inl ⟨by rfl, ?_⟩) hS0 ?_
      rotate_left
      focus (intro W hW; obtain ⟨x0, c1, c2⟩ := hW; go_simp; try with_reducible rfl)
      simp only [Act.put, List.setIfInBounds_toArray, List.set_cons_zero, List.set_cons_succ]
      refine anyL_take 8 (v := ?_) rfl (by kernel_rfl) (fun _ _ _ h => h) (Or.inl ⟨by rfl, ?_⟩) hS0 ?_
      rotate_left
      focus (intro W hW; go_simp; try with_reducible rfl)
      simp only [Act.put, List.setIfInBounds_toArray, List.set_cons_zero, List.set_cons_succ]
      refine anyL_take 9 (v := ?_) rfl (by kernel_rfl) (fun _ _ _ h => h) (Or.inl ⟨by rfl, ?_⟩) hS0 ?_
      rotate_left
      focus (intro W hW; go_simp; try with_reducible rfl)
      simp only [Act.put, List.setIfInBounds_toArray, List.set_cons_zero, List.set_cons_succ]
      refine anyL_take 10 (v := ?_) rfl (by kernel_rfl) (fun _ _ _ h => h) (Or.inl ⟨by rfl, ?_⟩) hS0 ?_
      rotate_left
      focus (intro W hW; go_simp; try with_reducible rfl)
      simp only [Act.put, List.setIfInBounds_toArray, List.set_cons_zero, List.set_cons_succ]
      refine anyL_take 11 (v := ?_) rfl (by kernel_rfl) (fun _ _ _ h => h) (Or.inl ⟨by rfl, ?_⟩) hS0 ?_
      rotate_left
      focus (intro W hW; obtain ⟨x0, c1, c2⟩ := hW; go_simp; try with_reducible rfl)
      simp only [Act.put, List.setIfInBounds_toArray, List.set_cons_zero, List.set_cons_succ]
      refine anyL_take 12 (v := ?_) rfl (by kernel_rfl) (fun _ _ _ h => h) (Or.inl ⟨by rfl, ?_⟩) hS0 ?_
      rotate_left
      focus (intro W hW; go_simp; try with_reducible rfl)
      simp only [Act.put, List.setIfInBounds_toArray, List.set_cons_zero, List.set_cons_succ]
      refine anyL_take 13 (v := ?_) rfl (by kernel_rfl) (fun _ _ _ h => h) (Or.inl ⟨by rfl, ?_⟩) hS0 ?_
      rotate_left
      focus (intro W hW; go_simp; try with_reducible rfl)
      simp only [Act.put, List.setIfInBounds_toArray, List.set_cons_zero, List.set_cons_succ]
      refine anyC_done (by kernel_rfl) ?_ _
      go_wp2_with fail
      go_meet
      exact ⟨by rw [htd.out], rfl⟩
  case rest =>
    obtain ⟨rfl, rfl⟩ := hcut
    have h4d := Lib.hid (h4H.out.below (Below.refl _ _).drew)
    have hx1d : W4.drew.cell? ⟨X, 1, none⟩ = some (.slice A nl cp) := hx1
    have c1d : W4.drew.cell? ⟨g, 1, none⟩ = some (.int .i64 q0) := c1
    have c2d : W4.drew.cell? ⟨g, 2, none⟩ = some (.bool b0) := c2
    have x0d : W4.drew.cell? ⟨X, 0, none⟩ = some (.int .i64 s) := x0
    have z1d : W4.drew.frozen? ⟨g, 1, none⟩ = false := z1
    have z2d : W4.drew.frozen? ⟨g, 2, none⟩ = false := z2
    clear h4H hx1 c1 c2 x0 z1 z2 c0 hS0
    generalize W4.drew = W5 at h4d hx1d c1d c2d x0d z1d z2d ⊢
    obtain ⟨q1, hq1⟩ : ∃ q1, q1 = if b0 = false ∨ q0 < s then s else q0 := ⟨_, rfl⟩
    have hq1H := Lib.hid hq1
    clear hq1
    go_upto_if 36 with fail
    go_cut [36] from 37 to 44 (fun _ wx => ∃ cp, Hid (AdW w wx X g mb n ⟨f0, q1, true⟩ s A cp l) ∧ wx.cell? ⟨X, 1, none⟩ = some (.slice A nl cp))
    case first =>
      cases t with
      | true =>
        have hif : (b0 = false ∨ q0 < s) := of_decide_eq_true htH.out.symm
        have hsq := h4d.out.seq
        rw [show s = q1 by rw [hq1H.out, if_pos hif]] at hsq
        have hsq2 := h4d.out.seq
        have hres : Hid (AdW w ((W5.setCell ⟨g, 1, none⟩ (.int .i64 s)).setCell ⟨g, 2, none⟩ (.bool true)) X g mb n ⟨f0, q1, true⟩ s A cp l) := Lib.hid (by rw [hq1H.out, if_pos hif]; exact hsq2)
        clear hif h4d hsq hsq2
        go_wp2_with fail
        go_meet
        exact ⟨cp, hres, by have h1 := hres.out.x1; rw [hnlH.out] at h1; exact h1⟩
      | false =>
        have hif : ¬ (b0 = false ∨ q0 < s) := of_decide_eq_false htH.out.symm
        obtain rfl : b0 = true := by cases b0 with
          | true => rfl
          | false => exact absurd (Or.inl rfl) hif
        have hres : Hid (AdW w W5 X g mb n ⟨f0, q1, true⟩ s A cp l) := Lib.hid (by rw [hq1H.out, if_neg hif]; exact h4d.out)
        clear hif h4d
        go_wp2_with fail
        go_meet
        exact ⟨cp, hres, hx1d⟩
    case rest =>
      obtain ⟨cp6, h6, x1⟩ := hcut
      clear h4d hx1d c1d c2d x0d z1d z2d
      go_wp2_with fail
      clear x1
      have hqH : Hid (post = ⟨addL f0 z a s 0 l, q1, true⟩) := Lib.hid (by rw [hpostH.out, hq1H.out]; rfl)
      clear hpostH hq1H htH
      go_loopw [48] (fun i wr => ∃ (k : Nat) (cp : Nat), k ≤ nl ∧ i = .int .i64 (k : Int) ∧ Hid (AdW w wr X g mb (n + k) ⟨addL f0 z a s 0 (l.take k), q1, true⟩ s A cp l)) (fun i _ => nl - (Go.RowKit.intOf i).toNat)
      case atStart => exact ⟨0, cp6, Nat.zero_le _, rfl, h6⟩
      case round =>
        clear h6
        obtain ⟨k, cp, hkn, rfl, h7⟩ := hrel
        by_cases hlt : k < nl
        case neg =>
          have hke : l.take k = l := by rw [show k = l.length by rw [hnlH.out]; omega, List.take_length]
          have hfin : LmAt wr g mb (n + nl) post ∧ But2 w wr g mb := by
            have h8 := h7.out
            rw [hke, show n + k = n + nl by omega] at h8
            rw [hqH.out]
            exact ⟨h8.lm, h8.bw⟩
          have hfinH := Lib.hid hfin
          have hnI : ¬ (k : Int) < (nl : Int) := by omega
          clear hfin h7 hke hlt
          go_wp2_with fail
          go_end0
          exact ⟨rfl, hfinH.out.1, hfinH.out.2⟩
        case pos =>
          have hkl : k < l.length := by rw [hnlH.out]; exact hlt
          have hlI : (k : Int) < (nl : Int) := by omega
          have hkw : IntKind.i64.wrap ((k : Int) + 1) = (k : Int) + 1 := IntWalk.i64_in _ (by omega)
          obtain ⟨eb, eo, rfl, hebl, y0, y1⟩ := ge_at h7.out.es hkl
          have hwx := Lib.hid (hwH.out l[k] (List.getElem_mem hkl))
          have htk := Lib.hid (List.take_succ_eq_append_getElem hkl)
          have htl : Hid ((l.take k).length = k) := Lib.hid (by rw [List.length_take]; omega)
          generalize l[k] = x at y0 y1 hwx htk
          generalize l.take k = lk at h7 htk htl
          have hY : Hid (AdW w (wr.alloc (.cells #[.int .i64 x.1, .bool x.2] 110)) X g mb (n + k) ⟨addL f0 z a s 0 lk, q1, true⟩ s (some ⟨eb, eo, none⟩) cp l ∧ (wr.alloc (.cells #[.int .i64 x.1, .bool x.2] 110)).cell? ⟨wr.heap.size, 0, none⟩ = some (.int .i64 x.1) ∧ (wr.alloc (.cells #[.int .i64 x.1, .bool x.2] 110)).cell? ⟨wr.heap.size, 1, none⟩ = some (.bool x.2)) := Lib.hid ⟨h7.out.below ((Below.refl _ _).alloc (Nat.le_refl _) _), by go_simp, by go_simp⟩
          clear h7
          go_upto_region 9 with fail
          clear y0 y1 hebl
          generalize wr.heap.size = Y at hY ⊢
          refine fresh_world (fun W => AdW w W X g mb (n + k) ⟨addL f0 z a s 0 lk, q1, true⟩ s (some ⟨eb, eo, none⟩) cp l ∧ W.cell? ⟨Y, 0, none⟩ = some (.int .i64 x.1) ∧ W.cell? ⟨Y, 1, none⟩ = some (.bool x.2)) hY.out ?_
          clear hY
          generalize hF : addL f0 z a s 0 lk = F
          have hFH := Lib.hid hF
          clear hF
          rintro W8 ⟨h8, y0, y1⟩
          have hsp := Lib.hid (show ∀ W, Below W8.heap.size W8 W → W.cell? ⟨Y, 0, none⟩ = some (.int .i64 x.1) ∧ W.cell? ⟨g, 0, none⟩ = some (.map (some mb)) ∧ (Instr.lookup 119 (.map (some mb)) (.int .i64 x.1) true).run Try.prog W = .ok (.tuple #[enV ((F x.1).getD zE), .bool (F x.1).isSome]) W from fun W hb => ⟨(hb.cell (lt_of_cell y0)).trans y0, (h8.lm.below hb).c0, (h8.lm.below hb).mp.look hwx.out⟩)
          have h8H := Lib.hid (And.intro h8 (And.intro y0 y1))
          clear h8 y0 y1
          obtain ⟨yo, hyo⟩ : ∃ yo, F x.1 = yo := ⟨_, rfl⟩
          rw [hyo] at hsp
          have hyoH := Lib.hid hyo
          clear hyo
          obtain ⟨y, hyy⟩ : ∃ y, yo.getD zE = y := ⟨_, rfl⟩
          rw [hyy] at hsp
          have hyyH := Lib.hid hyy
          clear hyy
          obtain ⟨tt, htt⟩ : ∃ tt, yo.isSome = tt := ⟨_, rfl⟩
          rw [htt] at hsp
          have httH := Lib.hid htt
          clear htt
          unfold enV at hsp
          have hS0 : (fun W => Below W8.heap.size W8 W) W8.drew := (Below.refl _ _).drew
          refine region_anyC (fun _ => true) (fun W => Below W8.heap.size W8 W) (by kernel_rfl) ?_
          refine anyL_take 0 (v := ?_) rfl (by kernel_rfl) (fun _ _ _ h => h) (Or.inl ⟨by rfl, ?_⟩) hS0 ?_
          rotate_left
          focus (intro W hW; go_simp; try with_reducible rfl)
          simp only [Act.put, List.setIfInBounds_toArray, List.set_cons_zero, List.set_cons_succ]
          refine anyL_take 1 (v := ?_) rfl (by kernel_rfl) (fun _ _ _ h => h) (Or.inl ⟨by rfl, ?_⟩) hS0 ?_
          rotate_left
          focus (intro W hW; go_simp; try with_reducible rfl)
          simp only [Act.put, List.setIfInBounds_toArray, List.set_cons_zero, List.set_cons_succ]
          refine anyL_take 2 (v := ?_) rfl (by kernel_rfl) (fun _ _ _ h => h) (Or.inl ⟨by rfl, ?_⟩) hS0 ?_
          rotate_left
          focus (intro W hW; go_simp; try with_reducible rfl)
          simp only [Act.put, List.setIfInBounds_toArray, List.set_cons_zero, List.set_cons_succ]
          refine anyL_take 3 (v := ?_) rfl (by kernel_rfl) (fun _ _ _ h => h) (Or.inl ⟨by rfl, ?_⟩) hS0 ?_
          rotate_left
          focus (intro W hW; obtain ⟨k0, k1, k2⟩ := hsp.out W hW; go_simp; try with_reducible rfl)
          simp only [Act.put, List.setIfInBounds_toArray, List.set_cons_zero, List.set_cons_succ]
          refine anyL_take 4 (v := ?_) rfl (by kernel_rfl) (fun _ _ _ h => h) (Or.inl ⟨by rfl, ?_⟩) hS0 ?_
          rotate_left
          focus (intro W hW; go_simp; try with_reducible rfl)
          simp only [Act.put, List.setIfInBounds_toArray, List.set_cons_zero, List.set_cons_succ]
          refine anyL_take 5 (v := ?_) rfl (by kernel_rfl) (fun _ _ _ h => h) (Or.inl ⟨by rfl, ?_⟩) hS0 ?_
          rotate_left
          focus (intro W hW; obtain ⟨k0, k1, k2⟩ := hsp.out W hW; go_simp; try with_reducible rfl)
          simp only [Act.put, List.setIfInBounds_toArray, List.set_cons_zero, List.set_cons_succ]
          refine anyL_take 6 (v := ?_) rfl (by kernel_rfl) (fun _ _ _ h => h) (Or.inl ⟨by rfl, ?_⟩) hS0 ?_
          rotate_left
          focus (intro W hW; obtain ⟨k0, k1, k2⟩ := hsp.out W hW; go_simp; try with_reducible rfl)
          simp only [Act.put, List.setIfInBounds_toArray, List.set_cons_zero, List.set_cons_succ]
          refine anyL_take 7 (v := ?_) rfl (by kernel_rfl) (fun _ _ _ h => h) (Or.inl ⟨by rfl, ?_⟩) hS0 ?_
          rotate_left
          focus (intro W hW; go_simp; try with_reducible rfl)
          simp only [Act.put, List.setIfInBounds_toArray, List.set_cons_zero, List.set_cons_succ]
          refine anyL_take 8 (v := ?_) rfl (by kernel_rfl) (fun _ _ _ h => h) (Or.inl ⟨by rfl, ?_⟩) hS0 ?_
          rotate_left
          focus (intro W hW; go_simp; try with_reducible rfl)
          simp only [Act.put, List.setIfInBounds_toArray, List.set_cons_zero, List.set_cons_succ]
          refine anyL_take 9 (v := ?_) rfl (by kernel_rfl) (fun _ _ _ h => h) (Or.inl ⟨by rfl, ?_⟩) hS0 ?_
          rotate_left
          focus (intro W hW; go_simp; try with_reducible rfl)
          simp only [Act.put, List.setIfInBounds_toArray, List.set_cons_zero, List.set_cons_succ]
          generalize hwd : W8.drew = Wd at hS0 ⊢
          have h9 := Lib.hid (show AdW w Wd X g mb (n + k) ⟨F, q1, true⟩ s (some ⟨eb, eo, none⟩) cp l ∧ Wd.cell? ⟨Y, 0, none⟩ = some (.int .i64 x.1) ∧ Wd.cell? ⟨Y, 1, none⟩ = some (.bool x.2) by rw [← hwd]; exact ⟨h8H.out.1.below (Below.refl _ _).drew, h8H.out.2.1, h8H.out.2.2⟩)
          have hs8 : W8.heap.size ≤ Wd.heap.size := hS0.size
          clear hwd h8H hsp
          refine anyL_one 10 rfl (by kernel_rfl) (fun K hK => ?_)
          go_simp
          refine hK.out _ _ (fun _ => hS0.alloc hs8 _) ?_
          clear hK K
          try simp only [Act.put, List.setIfInBounds_toArray, List.set_cons_zero, List.set_cons_succ]
          have hal := (Below.refl Wd.heap.size Wd).alloc (Nat.le_refl _) (.cells #[.int .i64 0, .bool false, .int .i64 0, .int .i64 0, .int .i64 0] 117)
          have h9a : EnW w (Wd.alloc (.cells #[.int .i64 0, .bool false, .int .i64 0, .int .i64 0, .int .i64 0] 117)) X g mb (n + k) ⟨F, q1, true⟩ s (some ⟨eb, eo, none⟩) cp l Y x ∧ FiveAt (Wd.alloc (.cells #[.int .i64 0, .bool false, .int .i64 0, .int .i64 0, .int .i64 0] 117)) Wd.heap.size ∧ Wd.heap.size < (Wd.alloc (.cells #[.int .i64 0, .bool false, .int .i64 0, .int .i64 0, .int .i64 0] 117)).heap.size ∧ Below W8.heap.size W8 (Wd.alloc (.cells #[.int .i64 0, .bool false, .int .i64 0, .int .i64 0, .int .i64 0] 117)) :=
            ⟨⟨h9.out.1.below hal, (hal.cell (lt_of_cell h9.out.2.1)).trans h9.out.2.1, (hal.cell (lt_of_cell h9.out.2.2)).trans h9.out.2.2⟩, ⟨⟨_, _, _, _, _, by go_simp; rfl, by go_simp; rfl, by go_simp; rfl, by go_simp; rfl, by go_simp; rfl⟩, by go_simp, by go_simp, by go_simp, by go_simp, by go_simp⟩, by simp, hS0.alloc hs8 _⟩
          have hXE : X < Wd.heap.size := h9.out.1.xlt
          have hYE : Y < Wd.heap.size := lt_of_cell h9.out.2.1
          have hgE := h9.out.1.lm.lt
          have hebE : eb < Wd.heap.size := by
            rcases h9.out.1.es with h0 | ⟨b', o', e, hlt', _⟩
            · rw [h0] at hkl; exact absurd hkl (by simp)
            · injection e with e; injection e with e1 _ _; rw [e1]; exact hlt'
          have hwE := h9.out.1.bw.size
          clear h9 hal hS0
          generalize hEE : Wd.heap.size = E at hs8 h9a hXE hYE hgE hebE hwE ⊢
          refine fresh_anyC10 (fun W => EnW w W X g mb (n + k) ⟨F, q1, true⟩ s (some ⟨eb, eo, none⟩) cp l Y x ∧ FiveAt W E ∧ E < W.heap.size ∧ Below W8.heap.size W8 W) h9a ?_
          clear h9a hEE
          rintro Wa ⟨ha, hf, hEl, hbA⟩
          have hset := hf.set y
          have haH := Lib.hid ha
          have hbAH := Lib.hid hbA
          clear ha hbA
          obtain ⟨⟨v0, v1, v2, v3, v4, e0, e1, e2, e3, e4⟩, p0, p1, p2, p3, p4⟩ := hf
          refine anyL_one 11 rfl (by kernel_rfl) (fun K hK => ?_)
          go_simp
          obtain ⟨hse, hsb⟩ := hset
          have hset8 : Below W8.heap.size W8 (setF Wa E y) := hbAH.out.trans (hsb _ hs8)
          have hw2 : EnW w (setF Wa E y) X g mb (n + k) ⟨F, q1, true⟩ s (some ⟨eb, eo, none⟩) cp l Y x := haH.out.set (hsb E (Nat.le_refl _)) hXE hgE.1 hgE.2 hYE (fun b' o' e => by injection e with e; injection e with e1' _ _; rw [← e1']; exact hebE) hwE
          refine hK.out _ _ (fun _ => hset8) ?_
          clear hK K
          try simp only [Act.put, List.setIfInBounds_toArray, List.set_cons_zero, List.set_cons_succ]
          have hw2H := Lib.hid (show EnW w (setF Wa E y) X g mb (n + k) ⟨F, q1, true⟩ s (some ⟨eb, eo, none⟩) cp l Y x ∧ (setF Wa E y).cell? ⟨E, 0, none⟩ = some (.int .i64 y.s) ∧ Below W8.heap.size W8 (setF Wa E y) from ⟨hw2, hse, hset8⟩)
          clear hw2 hse hset8 hsb haH hbAH e0 e1 e2 e3 e4 p0 p1 p2 p3 p4
          refine fresh_anyC10 (fun W => EnW w W X g mb (n + k) ⟨F, q1, true⟩ s (some ⟨eb, eo, none⟩) cp l Y x ∧ W.cell? ⟨E, 0, none⟩ = some (.int .i64 y.s) ∧ Below W8.heap.size W8 W) hw2H.out ?_
          clear hw2H
          rintro Wb ⟨hb, hbe, hb8⟩
          have hbH := Lib.hid hb
          refine anyL_take 12 (v := ?_) rfl (by kernel_rfl) (fun _ _ _ h => h) (Or.inl ⟨by rfl, ?_⟩) hb8 ?_
          rotate_left
          focus (intro W hW; go_simp; try with_reducible rfl)
          simp only [Act.put, List.setIfInBounds_toArray, List.set_cons_zero, List.set_cons_succ]
          refine anyC_done (by kernel_rfl) ?_ _
          obtain ⟨⟨x0, _, ⟨c0, _, _, _, _, _, _⟩, _, _, _, _, _⟩, y0, y1⟩ := hb
          cases tt with
          | false =>
            obtain rfl : yo = none := by cases yo with
              | none => rfl
              | some _ => exact absurd httH.out (by simp)
            have hbeats : Hid (addE F x.1 ⟨s, x.2, z, a, (k : Int)⟩ = setE F x.1 ⟨s, x.2, z, a, (k : Int)⟩) := Lib.hid (by unfold addE; rw [if_pos]; unfold beats; rw [hyoH.out]; rfl)
            have hS1 : (fun W => W.cell? ⟨X, 0, none⟩ = some (.int .i64 s) ∧ W.cell? ⟨g, 0, none⟩ = some (.map (some mb)) ∧ W.cell? ⟨Y, 0, none⟩ = some (.int .i64 x.1) ∧ W.cell? ⟨Y, 1, none⟩ = some (.bool x.2)) Wb.drew := ⟨x0, c0, y0, y1⟩
            obtain ⟨Wc, hrun, hmp, hgr⟩ := (hbH.out.a.below (Below.refl _ _).drew).lm.mp.step (by unfold maxLen; omega) hwx.out ⟨s, x.2, z, a, (k : Int)⟩
            have hres : Hid (AdW w Wc X g mb (n + (k + 1)) ⟨addL f0 z a s 0 (l.take (k + 1)), q1, true⟩ s (some ⟨eb, eo, none⟩) cp l) := Lib.hid (by
              rw [htk.out, addL_snoc, htl.out, hFH.out, Nat.zero_add, hbeats.out]
              exact (hbH.out.a.below (Below.refl _ _).drew).upd hmp hgr)
            unfold enV at hrun
            clear hmp hgr hbeats hbH
            go_upto_region 11 with fail
            refine region_anyC (fun i => decide (i < 15)) (fun W => W.cell? ⟨X, 0, none⟩ = some (.int .i64 s) ∧ W.cell? ⟨g, 0, none⟩ = some (.map (some mb)) ∧ W.cell? ⟨Y, 0, none⟩ = some (.int .i64 x.1) ∧ W.cell? ⟨Y, 1, none⟩ = some (.bool x.2)) (by kernel_rfl) ?_
            clear x0 c0 y0 y1
            refine anyL_take 0 (v := ?_) rfl (by kernel_rfl) (fun _ _ _ h => h) (Or.inl ⟨by rfl, ?_⟩) hS1 ?_
            rotate_left
            focus (intro W hW; go_simp; try with_reducible rfl)
            simp only [Act.put, List.setIfInBounds_toArray, List.set_cons_zero, List.set_cons_succ]
            refine anyL_take 1 (v := ?_) rfl (by kernel_rfl) (fun _ _ _ h => h) (Or.inl ⟨by rfl, ?_⟩) hS1 ?_
            rotate_left
            focus (intro W hW; go_simp; try with_reducible rfl)
            simp only [Act.put, List.setIfInBounds_toArray, List.set_cons_zero, List.set_cons_succ]
            refine anyL_take 2 (v := ?_) rfl (by kernel_rfl) (fun _ _ _ h => h) (Or.inl ⟨by rfl, ?_⟩) hS1 ?_
            rotate_left
            focus (intro W hW; go_simp; try with_reducible rfl)
            simp only [Act.put, List.setIfInBounds_toArray, List.set_cons_zero, List.set_cons_succ]
            refine anyL_take 3 (v := ?_) rfl (by kernel_rfl) (fun _ _ _ h => h) (Or.inl ⟨by rfl, ?_⟩) hS1 ?_
            rotate_left
            focus (intro W hW; obtain ⟨k0, k1, k2, k3⟩ := hW; go_simp; try with_reducible rfl)
            simp only [Act.put, List.setIfInBounds_toArray, List.set_cons_zero, List.set_cons_succ]
            refine anyL_take 4 (v := ?_) rfl (by kernel_rfl) (fun _ _ _ h => h) (Or.inl ⟨by rfl, ?_⟩) hS1 ?_
            rotate_left
            focus (intro W hW; go_simp; try with_reducible rfl)
            simp only [Act.put, List.setIfInBounds_toArray, List.set_cons_zero, List.set_cons_succ]
            refine anyL_take 5 (v := ?_) rfl (by kernel_rfl) (fun _ _ _ h => h) (Or.inl ⟨by rfl, ?_⟩) hS1 ?_
            rotate_left
            focus (intro W hW; obtain ⟨k0, k1, k2, k3⟩ := hW; go_simp; try with_reducible rfl)
            simp only [Act.put, List.setIfInBounds_toArray, List.set_cons_zero, List.set_cons_succ]
            refine anyL_take 6 (v := ?_) rfl (by kernel_rfl) (fun _ _ _ h => h) (Or.inl ⟨by rfl, ?_⟩) hS1 ?_
            rotate_left
            focus (intro W hW; go_simp; try with_reducible rfl)
            simp only [Act.put, List.setIfInBounds_toArray, List.set_cons_zero, List.set_cons_succ]
            refine anyL_take 7 (v := ?_) rfl (by kernel_rfl) (fun _ _ _ h => h) (Or.inl ⟨by rfl, ?_⟩) hS1 ?_
            rotate_left
            focus (intro W hW; obtain ⟨k0, k1, k2, k3⟩ := hW; go_simp; try with_reducible rfl)
            simp only [Act.put, List.setIfInBounds_toArray, List.set_cons_zero, List.set_cons_succ]
            refine anyL_take 8 (v := ?_) rfl (by kernel_rfl) (fun _ _ _ h => h) (Or.inl ⟨by rfl, ?_⟩) hS1 ?_
            rotate_left
            focus (intro W hW; go_simp; try with_reducible rfl)
            simp only [Act.put, List.setIfInBounds_toArray, List.set_cons_zero, List.set_cons_succ]
            refine anyL_take 9 (v := ?_) rfl (by kernel_rfl) (fun _ _ _ h => h) (Or.inl ⟨by rfl, ?_⟩) hS1 ?_
            rotate_left
            focus (intro W hW; obtain ⟨k0, k1, k2, k3⟩ := hW; go_simp; try with_reducible rfl)
            simp only [Act.put, List.setIfInBounds_toArray, List.set_cons_zero, List.set_cons_succ]
            refine anyL_take 10 (v := ?_) rfl (by kernel_rfl) (fun _ _ _ h => h) (Or.inl ⟨by rfl, ?_⟩) hS1 ?_
            rotate_left
            focus (intro W hW; go_simp; try with_reducible rfl)
            simp only [Act.put, List.setIfInBounds_toArray, List.set_cons_zero, List.set_cons_succ]
            refine anyL_take 11 (v := ?_) rfl (by kernel_rfl) (fun _ _ _ h => h) (Or.inl ⟨by rfl, ?_⟩) hS1 ?_
            rotate_left
            focus (intro W hW; go_simp; try with_reducible rfl)
            simp only [Act.put, List.setIfInBounds_toArray, List.set_cons_zero, List.set_cons_succ]
            refine anyL_take 12 (v := ?_) rfl (by kernel_rfl) (fun _ _ _ h => h) (Or.inl ⟨by rfl, ?_⟩) hS1 ?_
            rotate_left
            focus (intro W hW; go_simp; try with_reducible rfl)
            simp only [Act.put, List.setIfInBounds_toArray, List.set_cons_zero, List.set_cons_succ]
            refine anyL_take 13 (v := ?_) rfl (by kernel_rfl) (fun _ _ _ h => h) (Or.inl ⟨by rfl, ?_⟩) hS1 ?_
            rotate_left
            focus (intro W hW; go_simp; try with_reducible rfl)
            simp only [Act.put, List.setIfInBounds_toArray, List.set_cons_zero, List.set_cons_succ]
            refine anyL_take 14 (v := ?_) rfl (by kernel_rfl) (fun _ _ _ h => h) (Or.inl ⟨by rfl, ?_⟩) hS1 ?_
            rotate_left
            focus (intro W hW; go_simp; try with_reducible rfl)
            simp only [Act.put, List.setIfInBounds_toArray, List.set_cons_zero, List.set_cons_succ]
            refine anyL_one 15 rfl (by kernel_rfl) (fun K hK => ?_)
            go_simp
            refine hK.out _ _ (fun h => (by cases h)) ?_
            clear hK K hrun hS1
            try simp only [Act.put, List.setIfInBounds_toArray, List.set_cons_zero, List.set_cons_succ]
            refine anyC_done (by kernel_rfl) ?_ _
            go_wp2_with fail
            go_roundw
            case rel => exact ⟨k + 1, cp, hlt, by go_num, hres⟩
            case measure => simp only [Go.RowKit.intOf]; omega
          | true =>
            obtain ⟨y', rfl⟩ : ∃ y', yo = some y' := by cases yo with
              | none => exact absurd httH.out (by simp)
              | some y' => exact ⟨y', rfl⟩
            obtain rfl : y' = y := hyyH.out
            by_cases hys : y'.s ≤ s
            case pos =>
              have hysb : decide (s ≥ y'.s) = true := by simp [hys]
              have hbeats : Hid (addE F x.1 ⟨s, x.2, z, a, (k : Int)⟩ = setE F x.1 ⟨s, x.2, z, a, (k : Int)⟩) := Lib.hid (by unfold addE; rw [if_pos]; unfold beats; rw [hyoH.out]; unfold newer; simp [hys])
              have hS1 : (fun W => W.cell? ⟨X, 0, none⟩ = some (.int .i64 s) ∧ W.cell? ⟨g, 0, none⟩ = some (.map (some mb)) ∧ W.cell? ⟨Y, 0, none⟩ = some (.int .i64 x.1) ∧ W.cell? ⟨Y, 1, none⟩ = some (.bool x.2)) Wb.drew := ⟨x0, c0, y0, y1⟩
              obtain ⟨Wc, hrun, hmp, hgr⟩ := (hbH.out.a.below (Below.refl _ _).drew).lm.mp.step (by unfold maxLen; omega) hwx.out ⟨s, x.2, z, a, (k : Int)⟩
              have hres : Hid (AdW w Wc X g mb (n + (k + 1)) ⟨addL f0 z a s 0 (l.take (k + 1)), q1, true⟩ s (some ⟨eb, eo, none⟩) cp l) := Lib.hid (by
                rw [htk.out, addL_snoc, htl.out, hFH.out, Nat.zero_add, hbeats.out]
                exact (hbH.out.a.below (Below.refl _ _).drew).upd hmp hgr)
              unfold enV at hrun
              clear hmp hgr hbeats hbH
              go_upto_region 11 with fail
              refine region_anyC (fun i => decide (i < 15)) (fun W => W.cell? ⟨X, 0, none⟩ = some (.int .i64 s) ∧ W.cell? ⟨g, 0, none⟩ = some (.map (some mb)) ∧ W.cell? ⟨Y, 0, none⟩ = some (.int .i64 x.1) ∧ W.cell? ⟨Y, 1, none⟩ = some (.bool x.2)) (by kernel_rfl) ?_
              clear x0 c0 y0 y1
              refine anyL_take 0 (v := ?_) rfl (by kernel_rfl) (fun _ _ _ h => h) (Or.inl ⟨by rfl, ?_⟩) hS1 ?_
              rotate_left
              focus (intro W hW; go_simp; try with_reducible rfl)
              simp only [Act.put, List.setIfInBounds_toArray, List.set_cons_zero, List.set_cons_succ]
              refine anyL_take 1 (v := ?_) rfl (by kernel_rfl) (fun _ _ _ h => h) (Or.inl ⟨by rfl, ?_⟩) hS1 ?_
              rotate_left
              focus (intro W hW; go_simp; try with_reducible rfl)
              simp only [Act.put, List.setIfInBounds_toArray, List.set_cons_zero, List.set_cons_succ]
              refine anyL_take 2 (v := ?_) rfl (by kernel_rfl) (fun _ _ _ h => h) (Or.inl ⟨by rfl, ?_⟩) hS1 ?_
              rotate_left
              focus (intro W hW; go_simp; try with_reducible rfl)
              simp only [Act.put, List.setIfInBounds_toArray, List.set_cons_zero, List.set_cons_succ]
              refine anyL_take 3 (v := ?_) rfl (by kernel_rfl) (fun _ _ _ h => h) (Or.inl ⟨by rfl, ?_⟩) hS1 ?_
              rotate_left
              focus (intro W hW; obtain ⟨k0, k1, k2, k3⟩ := hW; go_simp; try with_reducible rfl)
              simp only [Act.put, List.setIfInBounds_toArray, List.set_cons_zero, List.set_cons_succ]
              refine anyL_take 4 (v := ?_) rfl (by kernel_rfl) (fun _ _ _ h => h) (Or.inl ⟨by rfl, ?_⟩) hS1 ?_
              rotate_left
              focus (intro W hW; go_simp; try with_reducible rfl)
              simp only [Act.put, List.setIfInBounds_toArray, List.set_cons_zero, List.set_cons_succ]
              refine anyL_take 5 (v := ?_) rfl (by kernel_rfl) (fun _ _ _ h => h) (Or.inl ⟨by rfl, ?_⟩) hS1 ?_
              rotate_left
              focus (intro W hW; obtain ⟨k0, k1, k2, k3⟩ := hW; go_simp; try with_reducible rfl)
              simp only [Act.put, List.setIfInBounds_toArray, List.set_cons_zero, List.set_cons_succ]
              refine anyL_take 6 (v := ?_) rfl (by kernel_rfl) (fun _ _ _ h => h) (Or.inl ⟨by rfl, ?_⟩) hS1 ?_
              rotate_left
              focus (intro W hW; go_simp; try with_reducible rfl)
              simp only [Act.put, List.setIfInBounds_toArray, List.set_cons_zero, List.set_cons_succ]
              refine anyL_take 7 (v := ?_) rfl (by kernel_rfl) (fun _ _ _ h => h) (Or.inl ⟨by rfl, ?_⟩) hS1 ?_
              rotate_left
              focus (intro W hW; obtain ⟨k0, k1, k2, k3⟩ := hW; go_simp; try with_reducible rfl)
              simp only [Act.put, List.setIfInBounds_toArray, List.set_cons_zero, List.set_cons_succ]
              refine anyL_take 8 (v := ?_) rfl (by kernel_rfl) (fun _ _ _ h => h) (Or.inl ⟨by rfl, ?_⟩) hS1 ?_
              rotate_left
              focus (intro W hW; go_simp; try with_reducible rfl)
              simp only [Act.put, List.setIfInBounds_toArray, List.set_cons_zero, List.set_cons_succ]
              refine anyL_take 9 (v := ?_) rfl (by kernel_rfl) (fun _ _ _ h => h) (Or.inl ⟨by rfl, ?_⟩) hS1 ?_
              rotate_left
              focus (intro W hW; obtain ⟨k0, k1, k2, k3⟩ := hW; go_simp; try with_reducible rfl)
              simp only [Act.put, List.setIfInBounds_toArray, List.set_cons_zero, List.set_cons_succ]
              refine anyL_take 10 (v := ?_) rfl (by kernel_rfl) (fun _ _ _ h => h) (Or.inl ⟨by rfl, ?_⟩) hS1 ?_
              rotate_left
              focus (intro W hW; go_simp; try with_reducible rfl)
              simp only [Act.put, List.setIfInBounds_toArray, List.set_cons_zero, List.set_cons_succ]
              refine anyL_take 11 (v := ?_) rfl (by kernel_rfl) (fun _ _ _ h => h) (Or.inl ⟨by rfl, ?_⟩) hS1 ?_
              rotate_left
              focus (intro W hW; go_simp; try with_reducible rfl)
              simp only [Act.put, List.setIfInBounds_toArray, List.set_cons_zero, List.set_cons_succ]
              refine anyL_take 12 (v := ?_) rfl (by kernel_rfl) (fun _ _ _ h => h) (Or.inl ⟨by rfl, ?_⟩) hS1 ?_
              rotate_left
              focus (intro W hW; go_simp; try with_reducible rfl)
              simp only [Act.put, List.setIfInBounds_toArray, List.set_cons_zero, List.set_cons_succ]
              refine anyL_take 13 (v := ?_) rfl (by kernel_rfl) (fun _ _ _ h => h) (Or.inl ⟨by rfl, ?_⟩) hS1 ?_
              rotate_left
              focus (intro W hW; go_simp; try with_reducible rfl)
              simp only [Act.put, List.setIfInBounds_toArray, List.set_cons_zero, List.set_cons_succ]
              refine anyL_take 14 (v := ?_) rfl (by kernel_rfl) (fun _ _ _ h => h) (Or.inl ⟨by rfl, ?_⟩) hS1 ?_
              rotate_left
              focus (intro W hW; go_simp; try with_reducible rfl)
              simp only [Act.put, List.setIfInBounds_toArray, List.set_cons_zero, List.set_cons_succ]
              refine anyL_one 15 rfl (by kernel_rfl) (fun K hK => ?_)
              go_simp
              refine hK.out _ _ (fun h => (by cases h)) ?_
              clear hK K hrun hS1
              try simp only [Act.put, List.setIfInBounds_toArray, List.set_cons_zero, List.set_cons_succ]
              refine anyC_done (by kernel_rfl) ?_ _
              go_wp2_with fail
              go_roundw
              case rel => exact ⟨k + 1, cp, hlt, by go_num, hres⟩
              case measure => simp only [Go.RowKit.intOf]; omega
            case neg =>
              have hysb : decide (s ≥ y'.s) = false := by simp; omega
              have hbeats : addE F x.1 ⟨s, x.2, z, a, (k : Int)⟩ = F := by unfold addE; rw [if_neg]; unfold beats; rw [hyoH.out]; unfold newer; simp [hys]
              have hres : Hid (AdW w Wb X g mb (n + (k + 1)) ⟨addL f0 z a s 0 (l.take (k + 1)), q1, true⟩ s (some ⟨eb, eo, none⟩) cp l) := Lib.hid (by
                rw [htk.out, addL_snoc, htl.out, hFH.out, Nat.zero_add, hbeats]
                exact hbH.out.a.mono (by omega))
              clear hbeats hbH
              go_wp2_with fail
              go_roundw
              case rel => exact ⟨k + 1, cp, hlt, by go_num, hres⟩
              case measure => simp only [Go.RowKit.intOf]; omega

end Go.Proofs.Ytbgkmppngnedlaa
