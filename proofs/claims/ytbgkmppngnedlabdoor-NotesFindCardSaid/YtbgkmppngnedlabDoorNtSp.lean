/- Notes compared; that the laws of notes speak. -/
import Derived.Test.YtbgkmppngnedlabDoorNtMk
import Derived.Test.YtbgkmppngnedlabDoorOBase
namespace Go.Proofs.YtbgkmppngnedlabDoor
open Go.RowKit Rec Go.Maps Crc

theorem struct_threeN {P : Program} {t : TypeId} {k0 k1 k2 : TypeId × Nat × Bool} (h : (P.fieldsOf t).toList.map fKey = [k0, k1, k2]) : ∃ f0 f1 f2, (P.fieldsOf t).toList = [f0, f1, f2] ∧ fKey f0 = k0 ∧ fKey f1 = k1 ∧ fKey f2 = k2 := by
  match hl : (P.fieldsOf t).toList, h with
  | [f0, f1, f2], h => simp only [List.map_cons, List.map_nil, List.cons.injEq, and_true] at h; exact ⟨f0, f1, f2, rfl, h.1, h.2.1, h.2.2⟩
theorem infoU8n : (Tryd.prog.info? 5).map (fun i => (i.zero, i.size, i.bytes)) = some (some (.int .u8 0), 1, 1) := by kernel_rfl
theorem mk64 (W : World) : (Instr.makeSlice 43 (.int .i64 64) (.int .i64 64)).run Tryd.prog W = .ok (.slice (some ⟨W.heap.size, 0, none⟩) 64 64) (W.alloc (.cells (madeCells #[.int .u8 0] 64) 5)) := by
  obtain ⟨i0, hi, hz0, hz1, hz2⟩ := info_parts infoU8n
  have h := run_make_m (P := Tryd.prog) 43 5 i0 (.int .u8 0) Tryd.underlying43 hi hz0 .i64 .i64 64 64 (Nat.le_refl _) (by rw [hz2]; omega) (by omega) W
  rw [hz1] at h
  exact h
def eqN (x y : Nt) : Bool := x.r == y.r && (x.c == y.c && x.p.toList == y.p.toList)
theorem eqN_iff {x y : Nt} : eqN x y = true ↔ x = y := by
  constructor
  · intro h
    unfold eqN at h
    simp only [Bool.and_eq_true, beq_iff_eq, ByteArray.toList_eq] at h
    obtain ⟨h0, h1, h2⟩ := h
    cases x; cases y
    simp only at h0 h1 h2
    rw [h0, h1, ByteArray.ext (Array.ext' h2)]
  · rintro rfl
    unfold eqN
    simp
theorem eqN_self (x : Nt) : eqN x x = true := eqN_iff.2 rfl
theorem nt_eql (w : World) (x y : Nt) : (binOp .eql 45 (.agg #[.int .i64 x.r, .int .i64 x.c, .string x.p]) (.agg #[.int .i64 y.r, .int .i64 y.c, .string y.p])).run Tryd.prog w = .ok (.bool (eqN x y)) w ∧ (binOp .neq 45 (.agg #[.int .i64 x.r, .int .i64 x.c, .string x.p]) (.agg #[.int .i64 y.r, .int .i64 y.c, .string y.p])).run Tryd.prog w = .ok (.bool !(eqN x y)) w := by
  obtain ⟨f0, f1, f2, hl, h0, h1, h2⟩ := struct_threeN (P := Tryd.prog) (t := 45) (k0 := (3, 0, true)) (k1 := (3, 1, true)) (k2 := (9, 2, true)) (by kernel_rfl)
  refine eql_of (by kernel_rfl) (by kernel_rfl) ?_
  rw [hl,
    eqF_cons h0 (a := .int .i64 x.r) (b := .int .i64 y.r) (by kernel_rfl) (by kernel_rfl) (run_equalIn_int _ 9998 _ _ .i64 _ _ Tryd.underlying3),
    eqF_cons h1 (a := .int .i64 x.c) (b := .int .i64 y.c) (by kernel_rfl) (by kernel_rfl) (run_equalIn_int _ 9998 _ _ .i64 _ _ Tryd.underlying3),
    eqF_cons h2 (a := .string x.p) (b := .string y.p) (by kernel_rfl) (by kernel_rfl) (run_equalIn_string _ 9998 _ _ _ Tryd.underlying9), eqF_nil]
  unfold eqN
  cases h10 : (x.r == y.r) <;> cases h11 : (x.c == y.c) <;> (first | rfl | (cases h12 : (x.p.toList == y.p.toList) <;> rfl))
def spN (z : ByteArray) : Nt := ⟨4, 2, z⟩
def spR (z : ByteArray) : Rc := ⟨4, 9, 1, 4, 3, 2, z⟩
theorem sp_made {z : ByteArray} (hz : z.size = 64) : mkV (mkR 9 1 3 (spN z)) = (spR z, 0) := by
  unfold mkV
  rw [if_pos (Rec.good_iff.2 ⟨by show (1 ≤ (4:Int) ∧ (4:Int) ≤ 6) ∧ (0 ≤ (9:Int) ∧ (9:Int) ≤ 1099511627776) ∧ (0 ≤ (1:Int) ∧ (1:Int) ≤ 65535) ∧ (0 ≤ (4:Int) ∧ (4:Int) ≤ 65535) ∧ (0 ≤ (3:Int) ∧ (3:Int) ≤ 1099511627776) ∧ (0 ≤ (2:Int) ∧ (2:Int) ≤ 65535); omega, by show z.size = (nBlocks 4 - 1) * 64; rw [hz]; rfl⟩)]
  rfl
theorem sp_notes (z : ByteArray) : notesOf [spR z] (1, 3) = [spN z] := rfl
theorem one_recsN (W : World) (x : Rc) (t : TypeId) : RecsAt (W.alloc (.cells #[.int .i64 x.k, .int .i64 x.s, .int .i64 x.a, .int .i64 x.b, .int .i64 x.c, .int .i64 x.d, .string x.body] t)) (some ⟨W.heap.size, 0, none⟩) [x] := by
  refine .inr ⟨W.heap.size, 0, rfl, by simp, fun i hi j hj => ?_⟩
  have h1 : i < 1 := hi
  obtain rfl : i = 0 := by omega
  rcases (by omega : j = 0 ∨ j = 1 ∨ j = 2 ∨ j = 3 ∨ j = 4 ∨ j = 5 ∨ j = 6) with rfl | rfl | rfl | rfl | rfl | rfl | rfl <;> (go_simp; rfl)
structure SpA (w W : World) (z : ByteArray) (b1 : Nat) : Prop where
  c0 : W.cell? ⟨b1, 0, none⟩ = some (.int .i64 4)
  c1 : W.cell? ⟨b1, 1, none⟩ = some (.int .i64 2)
  c2 : W.cell? ⟨b1, 2, none⟩ = some (.string z)
  bw : Below w.heap.size w W
theorem SpA.below {w W W' : World} {z : ByteArray} {b1 : Nat} (h : SpA w W z b1) (hb : Below W.heap.size W W') : SpA w W' z b1 := ⟨(hb.cell (lt_of_cell h.c0)).trans h.c0, (hb.cell (lt_of_cell h.c1)).trans h.c1, (hb.cell (lt_of_cell h.c2)).trans h.c2, bmore h.bw hb⟩
set_option maxRecDepth 100000 in
set_option maxHeartbeats 4000000 in
theorem speaks14 (w : World) (hT : Tab w) : Calls Tryd.prog 5 #[] w fun e w' => e = .returned (.bool true) ∧ Below w.heap.size w w' := by
  have hmk : ∀ W, (Instr.makeSlice 43 (.int .i64 64) (.int .i64 64)).run Tryd.prog W = .ok (.slice (some ⟨W.heap.size, 0, none⟩) 64 64) (W.alloc (.cells (madeCells #[.int .u8 0] 64) 5)) := mk64
  have hcb := fun W => zeros_text W 64
  have hXs : (zeroB 64).size = 64 := zeroB_size 64
  generalize zeroB 64 = z at hcb hXs
  have hTH := Lib.hid (fun W (hb : Below w.heap.size w W) => hT.below hb)
  have hmke := Lib.hid (fun W (hb : Below w.heap.size w W) => make_any W (hTH.out W hb) 9 1 3 (spN z))
  rw [sp_made hXs] at hmke
  have hwz : ∀ x ∈ [spR z], WfI x.a ∧ WfI x.c := fun x hx => by
    rw [List.mem_singleton.1 hx]
    exact ⟨show (Lit.int .i64 1).wf = true by decide, show (Lit.int .i64 3).wf = true by decide⟩
  have hof := Lib.hid (fun W A cap (h : RecsAt W A [spR z]) => of_any14 W A cap [spR z] 1 3 h (by show 1 ≤ 1000000; omega) hwz (by unfold WfI; decide) (by unfold WfI; decide))
  rw [sp_notes] at hof
  have hsa : Hid (SpA w ((w.alloc (.cells (madeCells #[.int .u8 0] 64) 5)).alloc (.cells #[.int .i64 4, .int .i64 2, .string z] 45)) z (w.heap.size + 1)) := Lib.hid (by
    have b1 := (Below.refl w.heap.size w).alloc (Nat.le_refl _) (.cells (madeCells #[.int .u8 0] 64) 5)
    have s1 := World.size_alloc w (.cells (madeCells #[.int .u8 0] 64) 5)
    generalize w.alloc (.cells (madeCells #[.int .u8 0] 64) 5) = W1 at b1 s1 ⊢
    rw [← s1]
    exact ⟨by go_simp, by go_simp, by go_simp, bmore b1 ((Below.refl _ _).alloc (Nat.le_refl _) _)⟩)
  clear hT hXs hwz
  go_enter Tryd.func5, Tryd.ntmps5
  go_upto_region 2 with fail
  clear hmk hcb
  refine fresh_world (fun W => SpA w W z (w.heap.size + 1)) hsa.out ?_
  clear hsa
  generalize w.heap.size + 1 = b1
  rintro W2 h2
  have h2H := Lib.hid h2
  obtain ⟨c0, c1, c2, _⟩ := h2
  have hmc := Lib.hid (hmke.out W2 h2H.out.bw)
  clear hmke
  go_wp2_with fail
  refine hmc.out.mono ?_
  rintro e w3 ⟨rfl, hb3⟩
  have h3 := h2H.out.below hb3
  have hB4 : Hid (SpA w (w3.alloc (.cells #[.int .i64 (spR z).k, .int .i64 (spR z).s, .int .i64 (spR z).a, .int .i64 (spR z).b, .int .i64 (spR z).c, .int .i64 (spR z).d, .string (spR z).body] 29)) z b1 ∧ RcAt (w3.alloc (.cells #[.int .i64 (spR z).k, .int .i64 (spR z).s, .int .i64 (spR z).a, .int .i64 (spR z).b, .int .i64 (spR z).c, .int .i64 (spR z).d, .string (spR z).body] 29)) w3.heap.size (spR z)) := Lib.hid ⟨h3.below ((Below.refl _ _).alloc (Nat.le_refl _) _), RcAt.new w3 (spR z) 29⟩
  dsimp only [spR] at hB4 ⊢
  clear h2H hmc hb3 h3 c0 c1 c2
  go_upto_region 3 with fail
  generalize w3.heap.size = b2 at hB4 ⊢
  refine fresh_world (fun W => SpA w W z b1 ∧ RcAt W b2 (spR z)) hB4.out ?_
  clear hB4
  rintro W4 ⟨h4, hr4⟩
  have h4H := Lib.hid h4
  have hr4H := Lib.hid hr4
  obtain ⟨x0, x1, x2, x3, x4, x5, x6⟩ := hr4
  dsimp only [spR] at x0 x1 x2 x3 x4 x5 x6
  have hoc := Lib.hid (hof.out _ _ 1 (one_recsN W4 (spR z) 29))
  clear h4 hof
  go_wp2_with fail
  refine hoc.out.mono ?_
  rintro e w5 ⟨A, cap, rfl, hrow, hb5⟩
  have hal := (Below.refl W4.heap.size W4).alloc (Nat.le_refl _) (.cells #[.int .i64 4, .int .i64 9, .int .i64 1, .int .i64 4, .int .i64 3, .int .i64 2, .string z] 29)
  have h5 := (h4H.out.below hal).below hb5
  have hr5 := (hr4H.out.below hal).below hb5
  obtain ⟨g, off, rfl, _, n0, n1, n2⟩ := nt_at hrow.in_ (i := 0) (by show 0 < 1; omega)
  rw [Nat.zero_mul, Nat.add_zero] at n0 n1 n2
  have m0 : w5.cell? ⟨g, off, none⟩ = some (.int .i64 4) := n0
  have m1 : w5.cell? ⟨g, off + 1, none⟩ = some (.int .i64 2) := n1
  have m2 : w5.cell? ⟨g, off + 2, none⟩ = some (.string z) := n2
  have heq : ∀ W, (binOp .eql 45 (.agg #[.int .i64 4, .int .i64 2, .string z]) (.agg #[.int .i64 4, .int .i64 2, .string z])).run Tryd.prog W = .ok (.bool true) W := fun W => by
    have h1 := (nt_eql W (spN z) (spN z)).1
    rw [eqN_self] at h1
    exact h1
  have hS : (fun W => (SpA w W z b1 ∧ RcAt W b2 (spR z)) ∧ W.cell? ⟨g, off, none⟩ = some (.int .i64 4) ∧ W.cell? ⟨g, off + 1, none⟩ = some (.int .i64 2) ∧ W.cell? ⟨g, off + 2, none⟩ = some (.string z)) w5.drew := ⟨⟨h5.below (Below.refl _ _).drew, hr5.below (Below.refl _ _).drew⟩, m0, m1, m2⟩
  clear hrow hb5 hal h5 hr5 n0 n1 n2 m0 m1 m2 h4H hr4H hoc x0 x1 x2 x3 x4 x5 x6
  go_upto_region 4 with fail
  refine region_anyC (fun _ => true) (fun W => (SpA w W z b1 ∧ RcAt W b2 (spR z)) ∧ W.cell? ⟨g, off, none⟩ = some (.int .i64 4) ∧ W.cell? ⟨g, off + 1, none⟩ = some (.int .i64 2) ∧ W.cell? ⟨g, off + 2, none⟩ = some (.string z)) (by kernel_rfl) ?_
  generalize w5.drew = wd at hS ⊢
  refine anyL_take 0 (v := ?_) rfl (by kernel_rfl) (fun _ _ _ h => h) (Or.inl ⟨by rfl, ?_⟩) hS ?_
  rotate_left
  focus (intro W hW; go_simp; try with_reducible rfl)
  simp only [Act.put, List.setIfInBounds_toArray, List.set_cons_zero, List.set_cons_succ]
  refine anyL_take 1 (v := ?_) rfl (by kernel_rfl) (fun _ _ _ h => h) (Or.inl ⟨by rfl, ?_⟩) hS ?_
  rotate_left
  focus (intro W hW; go_simp; try with_reducible rfl)
  simp only [Act.put, List.setIfInBounds_toArray, List.set_cons_zero, List.set_cons_succ]
  refine anyL_take 2 (v := ?_) rfl (by kernel_rfl) (fun _ _ _ h => h) (Or.inl ⟨by rfl, ?_⟩) hS ?_
  rotate_left
  focus (intro W hW; go_simp; try with_reducible rfl)
  simp only [Act.put, List.setIfInBounds_toArray, List.set_cons_zero, List.set_cons_succ]
  refine anyL_take 3 (v := ?_) rfl (by kernel_rfl) (fun _ _ _ h => h) (Or.inl ⟨by rfl, ?_⟩) hS ?_
  rotate_left
  focus (intro W hW; go_simp; try with_reducible rfl)
  simp only [Act.put, List.setIfInBounds_toArray, List.set_cons_zero, List.set_cons_succ]
  refine anyL_take 4 (v := ?_) rfl (by kernel_rfl) (fun _ _ _ h => h) (Or.inl ⟨by rfl, ?_⟩) hS ?_
  rotate_left
  focus (intro W hW; obtain ⟨⟨⟨c0, c1, c2, _⟩, ⟨x0, x1, x2, x3, x4, x5, x6⟩⟩, m0, m1, m2⟩ := hW; dsimp only [spR] at x0 x1 x2 x3 x4 x5 x6; go_simp; try with_reducible rfl)
  simp only [Act.put, List.setIfInBounds_toArray, List.set_cons_zero, List.set_cons_succ]
  refine anyL_take 5 (v := ?_) rfl (by kernel_rfl) (fun _ _ _ h => h) (Or.inl ⟨by rfl, ?_⟩) hS ?_
  rotate_left
  focus (intro W hW; go_simp; try with_reducible rfl)
  simp only [Act.put, List.setIfInBounds_toArray, List.set_cons_zero, List.set_cons_succ]
  refine anyL_take 6 (v := ?_) rfl (by kernel_rfl) (fun _ _ _ h => h) (Or.inl ⟨by rfl, ?_⟩) hS ?_
  rotate_left
  focus (intro W hW; go_simp; try with_reducible rfl)
  simp only [Act.put, List.setIfInBounds_toArray, List.set_cons_zero, List.set_cons_succ]
  refine anyL_take 7 (v := ?_) rfl (by kernel_rfl) (fun _ _ _ h => h) (Or.inl ⟨by rfl, ?_⟩) hS ?_
  rotate_left
  focus (intro W hW; go_simp; try with_reducible rfl)
  simp only [Act.put, List.setIfInBounds_toArray, List.set_cons_zero, List.set_cons_succ]
  refine anyL_take 8 (v := ?_) rfl (by kernel_rfl) (fun _ _ _ h => h) (Or.inl ⟨by rfl, ?_⟩) hS ?_
  rotate_left
  focus (intro W hW; go_simp; try with_reducible rfl)
  simp only [Act.put, List.setIfInBounds_toArray, List.set_cons_zero, List.set_cons_succ]
  refine anyL_take 9 (v := ?_) rfl (by kernel_rfl) (fun _ _ _ h => h) (Or.inl ⟨by rfl, ?_⟩) hS ?_
  rotate_left
  focus (intro W hW; obtain ⟨⟨⟨c0, c1, c2, _⟩, ⟨x0, x1, x2, x3, x4, x5, x6⟩⟩, m0, m1, m2⟩ := hW; dsimp only [spR] at x0 x1 x2 x3 x4 x5 x6; go_simp; try with_reducible rfl)
  simp only [Act.put, List.setIfInBounds_toArray, List.set_cons_zero, List.set_cons_succ]
  refine anyL_take 10 (v := ?_) rfl (by kernel_rfl) (fun _ _ _ h => h) (Or.inl ⟨by rfl, ?_⟩) hS ?_
  rotate_left
  focus (intro W hW; go_simp; try with_reducible rfl)
  simp only [Act.put, List.setIfInBounds_toArray, List.set_cons_zero, List.set_cons_succ]
  refine anyL_take 11 (v := ?_) rfl (by kernel_rfl) (fun _ _ _ h => h) (Or.inl ⟨by rfl, ?_⟩) hS ?_
  rotate_left
  focus (intro W hW; go_simp; try with_reducible rfl)
  simp only [Act.put, List.setIfInBounds_toArray, List.set_cons_zero, List.set_cons_succ]
  refine anyL_take 12 (v := ?_) rfl (by kernel_rfl) (fun _ _ _ h => h) (Or.inl ⟨by rfl, ?_⟩) hS ?_
  rotate_left
  focus (intro W hW; go_simp; try with_reducible rfl)
  simp only [Act.put, List.setIfInBounds_toArray, List.set_cons_zero, List.set_cons_succ]
  refine anyL_take 13 (v := ?_) rfl (by kernel_rfl) (fun _ _ _ h => h) (Or.inl ⟨by rfl, ?_⟩) hS ?_
  rotate_left
  focus (intro W hW; go_simp; try with_reducible rfl)
  simp only [Act.put, List.setIfInBounds_toArray, List.set_cons_zero, List.set_cons_succ]
  refine anyL_take 14 (v := ?_) rfl (by kernel_rfl) (fun _ _ _ h => h) (Or.inl ⟨by rfl, ?_⟩) hS ?_
  rotate_left
  focus (intro W hW; go_simp; try with_reducible rfl)
  simp only [Act.put, List.setIfInBounds_toArray, List.set_cons_zero, List.set_cons_succ]
  refine anyL_take 15 (v := ?_) rfl (by kernel_rfl) (fun _ _ _ h => h) (Or.inl ⟨by rfl, ?_⟩) hS ?_
  rotate_left
  focus (intro W hW; go_simp; try with_reducible rfl)
  simp only [Act.put, List.setIfInBounds_toArray, List.set_cons_zero, List.set_cons_succ]
  refine anyL_take 16 (v := ?_) rfl (by kernel_rfl) (fun _ _ _ h => h) (Or.inl ⟨by rfl, ?_⟩) hS ?_
  rotate_left
  focus (intro W hW; go_simp; try with_reducible rfl)
  simp only [Act.put, List.setIfInBounds_toArray, List.set_cons_zero, List.set_cons_succ]
  refine anyL_take 17 (v := ?_) rfl (by kernel_rfl) (fun _ _ _ h => h) (Or.inl ⟨by rfl, ?_⟩) hS ?_
  rotate_left
  focus (intro W hW; go_simp; try with_reducible rfl)
  simp only [Act.put, List.setIfInBounds_toArray, List.set_cons_zero, List.set_cons_succ]
  refine anyL_take 18 (v := ?_) rfl (by kernel_rfl) (fun _ _ _ h => h) (Or.inl ⟨by rfl, ?_⟩) hS ?_
  rotate_left
  focus (intro W hW; go_simp; try with_reducible rfl)
  simp only [Act.put, List.setIfInBounds_toArray, List.set_cons_zero, List.set_cons_succ]
  refine anyL_take 19 (v := ?_) rfl (by kernel_rfl) (fun _ _ _ h => h) (Or.inl ⟨by rfl, ?_⟩) hS ?_
  rotate_left
  focus (intro W hW; go_simp; try with_reducible rfl)
  simp only [Act.put, List.setIfInBounds_toArray, List.set_cons_zero, List.set_cons_succ]
  refine anyL_take 20 (v := ?_) rfl (by kernel_rfl) (fun _ _ _ h => h) (Or.inl ⟨by rfl, ?_⟩) hS ?_
  rotate_left
  focus (intro W hW; obtain ⟨⟨⟨c0, c1, c2, _⟩, ⟨x0, x1, x2, x3, x4, x5, x6⟩⟩, m0, m1, m2⟩ := hW; dsimp only [spR] at x0 x1 x2 x3 x4 x5 x6; go_simp; try with_reducible rfl)
  simp only [Act.put, List.setIfInBounds_toArray, List.set_cons_zero, List.set_cons_succ]
  refine anyL_take 21 (v := ?_) rfl (by kernel_rfl) (fun _ _ _ h => h) (Or.inl ⟨by rfl, ?_⟩) hS ?_
  rotate_left
  focus (intro W hW; obtain ⟨⟨⟨c0, c1, c2, _⟩, ⟨x0, x1, x2, x3, x4, x5, x6⟩⟩, m0, m1, m2⟩ := hW; dsimp only [spR] at x0 x1 x2 x3 x4 x5 x6; go_simp; try with_reducible rfl)
  simp only [Act.put, List.setIfInBounds_toArray, List.set_cons_zero, List.set_cons_succ]
  refine anyL_take 22 (v := ?_) rfl (by kernel_rfl) (fun _ _ _ h => h) (Or.inl ⟨by rfl, ?_⟩) hS ?_
  rotate_left
  focus (intro W hW; go_simp; try with_reducible rfl)
  simp only [Act.put, List.setIfInBounds_toArray, List.set_cons_zero, List.set_cons_succ]
  refine anyL_take 23 (v := ?_) rfl (by kernel_rfl) (fun _ _ _ h => h) (Or.inl ⟨by rfl, ?_⟩) hS ?_
  rotate_left
  focus (intro W hW; go_simp; try with_reducible rfl)
  simp only [Act.put, List.setIfInBounds_toArray, List.set_cons_zero, List.set_cons_succ]
  refine anyL_one 24 rfl (by kernel_rfl) (fun K hK => ?_)
  go_simp
  refine hK.out _ _ (fun _ => hS) ?_
  clear hK K
  try simp only [Act.put, List.setIfInBounds_toArray, List.set_cons_zero, List.set_cons_succ]
  refine anyC_done (by kernel_rfl) ?_ _
  have hF := Lib.hid hS.1.1.bw
  clear hS heq
  go_wp2_with fail
  go_ret
  exact ⟨rfl, hF.out⟩
end Go.Proofs.YtbgkmppngnedlabDoor
