/- That the laws of group speak. -/
import Derived.Test.YtbgkmppngnedlaaDoorGpG
import Derived.Test.YtbgkmppngnedlaaDoorGpE
namespace Go.Proofs.YtbgkmppngnedlaaDoor
open Go.RowKit Rec Crc Num Xor

theorem infoU8g : (Tryd.prog.info? 5).map (fun i => (i.zero, i.size, i.bytes)) = some (some (.int .u8 0), 1, 1) := by kernel_rfl
theorem mk64 (W : World) : (Instr.makeSlice 44 (.int .i64 64) (.int .i64 64)).run Tryd.prog W = .ok (.slice (some ⟨W.heap.size, 0, none⟩) 64 64) (W.alloc (.cells (madeCells #[.int .u8 0] 64) 5)) := by
  obtain ⟨i0, hi, hz0, hz1, hz2⟩ := info_parts infoU8g
  have h := run_make_m (P := Tryd.prog) 44 5 i0 (.int .u8 0) Tryd.underlying44 hi hz0 .i64 .i64 64 64 (Nat.le_refl _) (by rw [hz2]; omega) (by omega) W
  rw [hz1] at h
  exact h
/-- So many noughts. -/
def zeroB (n : Nat) : ByteArray := ⟨(List.replicate n (0 : UInt8)).toArray⟩
theorem zeroB_size (n : Nat) : (zeroB n).size = n := by
  show (List.replicate n (0 : UInt8)).toArray.size = n
  simp
theorem zeros_at (W : World) (n : Nat) : BytesAt (W.alloc (.cells (madeCells #[.int .u8 0] n) 5)) W.heap.size (List.replicate n 0) := fun j hj => by
  have hj' : j < n := by simpa using hj
  rw [made_noughts W 5 _ n j hj', List.getElem_replicate]
  rfl
theorem zeros_text (W : World) (n : Nat) : (convert 44 9 (.slice (some ⟨W.heap.size, 0, none⟩) n n)).run Tryd.prog (W.alloc (.cells (madeCells #[.int .u8 0] n) 5)) = .ok (.string (zeroB n)) (W.alloc (.cells (madeCells #[.int .u8 0] n) 5)) :=
  back (zeros_at W n) (List.length_replicate ..) Tryd.underlying44 Tryd.underlying5 Tryd.underlying9
def eqGe (x y : Int × Bool) : Bool := x.1 == y.1 && x.2 == y.2
theorem eqGe_iff {x y : Int × Bool} : eqGe x y = true ↔ x = y := by
  unfold eqGe
  rw [Bool.and_eq_true, beq_iff_eq, beq_iff_eq]
  exact ⟨fun h => Prod.ext h.1 h.2, fun h => by rw [h]; exact ⟨rfl, rfl⟩⟩
theorem ge_eql (w : World) (x y : Int × Bool) : (binOp .eql 47 (.agg #[.int .i64 x.1, .bool x.2]) (.agg #[.int .i64 y.1, .bool y.2])).run Tryd.prog w = .ok (.bool (eqGe x y)) w ∧ (binOp .neq 47 (.agg #[.int .i64 x.1, .bool x.2]) (.agg #[.int .i64 y.1, .bool y.2])).run Tryd.prog w = .ok (.bool !(eqGe x y)) w := by
  obtain ⟨f0, f1, hl, h0, h1⟩ := struct_two (P := Tryd.prog) (t := 47) (k0 := (3, 0, true)) (k1 := (4, 1, true)) (by kernel_rfl)
  refine eql_of (by kernel_rfl) (by kernel_rfl) ?_
  rw [hl,
    eqF_cons h0 (a := .int .i64 x.1) (b := .int .i64 y.1) (by kernel_rfl) (by kernel_rfl) (run_equalIn_int _ 9998 _ _ .i64 _ _ Tryd.underlying3),
    eqF_cons h1 (a := .bool x.2) (b := .bool y.2) (by kernel_rfl) (by kernel_rfl) (run_equalIn_bool _ 9998 _ _ _ Tryd.underlying4), eqF_nil]
  unfold eqGe
  cases h10 : (x.1 == y.1) <;> cases h11 : (x.2 == y.2) <;> rfl
def spG (z : ByteArray) : Gp := ⟨5, [(3, false), (4, true)], [z, ⟨#[]⟩]⟩
theorem spG_good {z : ByteArray} (hz : z.size = 64) : GoodG (spG z) := by
  refine ⟨by show (0 ≤ (5:Int) ∧ (5:Int) ≤ 1099511627776) ∧ (1 ≤ 2 ∧ 2 ≤ 6); omega, fits_of rfl fun i h _ => ?_⟩
  have h2 : i < 2 := h
  rcases (by omega : i = 0 ∨ i = 1) with rfl | rfl
  · exact ⟨by show 0 ≤ (3:Int) ∧ (3:Int) < 2147483648; omega, by show z.size = 64; exact hz⟩
  · exact ⟨by show 0 ≤ (4:Int) ∧ (4:Int) < 2147483648; omega, rfl⟩
structure SpS (w W : World) (z : ByteArray) : Prop where
  c0 : W.cell? ⟨w.heap.size + 3, 0, none⟩ = some (.int .i64 5)
  c1 : W.cell? ⟨w.heap.size + 3, 1, none⟩ = some (.slice (some ⟨w.heap.size, 0, none⟩) 2 2)
  c2 : W.cell? ⟨w.heap.size + 3, 2, none⟩ = some (.slice (some ⟨w.heap.size + 2, 0, none⟩) 2 2)
  e0 : W.cell? ⟨w.heap.size, 0, none⟩ = some (.int .i64 3)
  e1 : W.cell? ⟨w.heap.size, 1, none⟩ = some (.bool false)
  e2 : W.cell? ⟨w.heap.size, 2, none⟩ = some (.int .i64 4)
  e3 : W.cell? ⟨w.heap.size, 3, none⟩ = some (.bool true)
  d0 : W.cell? ⟨w.heap.size + 2, 0, none⟩ = some (.string z)
  d1 : W.cell? ⟨w.heap.size + 2, 1, none⟩ = some (.string ⟨#[]⟩)
  bw : Below w.heap.size w W
theorem SpS.below {w W W' : World} {z : ByteArray} (h : SpS w W z) (hb : Below W.heap.size W W') : SpS w W' z := ⟨(hb.cell (lt_of_cell h.c0)).trans h.c0, (hb.cell (lt_of_cell h.c1)).trans h.c1, (hb.cell (lt_of_cell h.c2)).trans h.c2, (hb.cell (lt_of_cell h.e0)).trans h.e0, (hb.cell (lt_of_cell h.e1)).trans h.e1, (hb.cell (lt_of_cell h.e2)).trans h.e2, (hb.cell (lt_of_cell h.e3)).trans h.e3, (hb.cell (lt_of_cell h.d0)).trans h.d0, (hb.cell (lt_of_cell h.d1)).trans h.d1, bmore h.bw hb⟩
theorem SpS.gp {w W : World} {z : ByteArray} (h : SpS w W z) : GpW W (some ⟨w.heap.size, 0, none⟩) (some ⟨w.heap.size + 2, 0, none⟩) (spG z) := by
  refine ⟨.inr ⟨w.heap.size, 0, rfl, lt_of_cell h.e0, fun i hi j hj => ?_⟩, .inr ⟨w.heap.size + 2, 0, rfl, lt_of_cell h.d0, fun i hi j hj => ?_⟩⟩
  · have h2 : i < 2 := hi
    have hj2 : j < 2 := hj
    rcases (by omega : i = 0 ∨ i = 1) with rfl | rfl <;> rcases (by omega : j = 0 ∨ j = 1) with rfl | rfl
    · exact h.e0
    · exact h.e1
    · exact h.e2
    · exact h.e3
  · have h2 : i < 2 := hi
    have hj1 : j < 1 := hj
    obtain rfl : j = 0 := by omega
    rcases (by omega : i = 0 ∨ i = 1) with rfl | rfl
    · exact h.d0
    · exact h.d1
set_option maxRecDepth 100000 in
set_option maxHeartbeats 4000000 in
theorem speaks18 (w : World) (hT : Tab w) : Calls Tryd.prog 6 #[] w fun e w' => e = .returned (.bool true) ∧ Below w.heap.size w w' := by
  have hmk := mk64
  have hcb : ∀ c : Obj, (convert 44 9 (.slice (some ⟨w.heap.size + 1, 0, none⟩) 64 64)).run Tryd.prog ((w.alloc c).alloc (.cells (madeCells #[.int .u8 0] 64) 5)) = .ok (.string (zeroB 64)) ((w.alloc c).alloc (.cells (madeCells #[.int .u8 0] 64) 5)) := fun c => by
    have h := zeros_text (w.alloc c) 64
    rw [World.size_alloc] at h
    exact h
  have hXs : (zeroB 64).size = 64 := zeroB_size 64
  generalize zeroB 64 = z at hcb hXs
  have hg := spG_good hXs
  have hTH := Lib.hid (fun W (hb : Below w.heap.size w W) => hT.below hb)
  have hen := Lib.hid (fun W (h : SpS w W z) => encode_goodG W (spG z) _ _ 2 2 h.gp (Nat.le_refl _) hg (hTH.out W h.bw))
  rw [← encGS_good hg] at hen
  have hts := encGS_size hg
  have hdc := dec_encG hg [] (s := encGS (spG z)) (by rw [encGS_good hg, List.append_nil]; exact rfl)
  have hts2 : (encGS (spG z)).size = 128 := hts
  generalize encGS (spG z) = t at hen hts hdc hts2
  have hde := Lib.hid (fun W (h : SpS w W z) => decode_anyG t W (by unfold maxLen; omega) (hTH.out W h.bw))
  rw [hdc] at hde
  have htI : (t.size : Int) = 128 := by omega
  clear hT hg hXs hts hts2 hdc
  go_enter Tryd.func6, Tryd.ntmps6
  go_upto_region 2 with fail
  clear hmk hcb
  refine fresh_world (fun W => SpS w W z) ?_ ?_
  · exact ⟨by go_simp, by go_simp, by go_simp, by go_simp, by go_simp, by go_simp, by go_simp, by go_simp, by go_simp, ((((Below.refl w.heap.size w).alloc (Nat.le_refl _) _).alloc (by simp) _).alloc (by simp; omega) _).alloc (by simp; omega) _⟩
  rintro W2 h2
  have h2H := Lib.hid h2
  have c0 := h2.c0
  have c1 := h2.c1
  have c2 := h2.c2
  have hec := Lib.hid (hen.out W2 h2)
  dsimp only [spG, List.length_cons, List.length_nil, Nat.zero_add, Nat.reduceAdd] at hec
  clear hen h2
  go_wp2_with fail
  refine hec.out.mono ?_
  rintro e w3 ⟨rfl, hb3⟩
  have h3H := Lib.hid (h2H.out.below hb3)
  have hdc := Lib.hid (hde.out w3 h3H.out)
  clear hec hb3 h2H c0 c1 c2 hde
  go_wp2_with fail
  refine hdc.out.mono ?_
  rintro e w4 ⟨A1, k1, A2, k2, rfl, hr1, hr2, hb4⟩
  have h4 := h3H.out.below hb4
  obtain ⟨g, rfl, m2, m3⟩ : ∃ g, A1 = some ⟨g, 0, none⟩ ∧ w4.cell? ⟨g, 2, none⟩ = some (.int .i64 4) ∧ w4.cell? ⟨g, 3, none⟩ = some (.bool true) := by
    obtain ⟨g, off, e, _, m2, m3⟩ := ge_at hr1.in_ (i := 1) (by show 1 < 2; omega)
    rcases hr1.form with ⟨e1, _⟩ | ⟨g', e1, _⟩
    · rw [e1] at e; cases e
    · rw [e1] at e
      injection e with e
      injection e with e e2 _
      subst e e2
      exact ⟨g', e1, m2, m3⟩
  have hS : Hid ((fun W : World => SpS w W z ∧ (W.cell? ⟨w4.heap.size, 0, none⟩ = some (.int .i64 5) ∧ W.cell? ⟨w4.heap.size, 1, none⟩ = some (.slice (some ⟨g, 0, none⟩) 2 k1)) ∧ W.cell? ⟨g, 2, none⟩ = some (.int .i64 4) ∧ W.cell? ⟨g, 3, none⟩ = some (.bool true)) (w4.alloc (.cells #[.int .i64 5, .slice (some ⟨g, 0, none⟩) 2 k1, .slice A2 2 k2] 30))) := Lib.hid
    ⟨h4.below ((Below.refl _ _).alloc (Nat.le_refl _) _), ⟨by go_simp, by go_simp⟩, (World.cell?_alloc_lt w4 _ ⟨g, 2, none⟩ (lt_of_cell m2)).trans m2, (World.cell?_alloc_lt w4 _ ⟨g, 3, none⟩ (lt_of_cell m3)).trans m3⟩
  have heq : ∀ W, (binOp .eql 47 (.agg #[.int .i64 4, .bool true]) (.agg #[.int .i64 4, .bool true])).run Tryd.prog W = .ok (.bool true) W := fun W => (ge_eql W (4, true) (4, true)).1
  dsimp only [spG, List.length_cons, List.length_nil, Nat.zero_add, Nat.reduceAdd]
  clear hr1 hr2 hb4 h4 m2 m3 hdc h3H
  go_upto_region 4 with fail
  have hS := hS.out
  refine region_anyC (fun _ => true) (fun W : World => SpS w W z ∧ (W.cell? ⟨w4.heap.size, 0, none⟩ = some (.int .i64 5) ∧ W.cell? ⟨w4.heap.size, 1, none⟩ = some (.slice (some ⟨g, 0, none⟩) 2 k1)) ∧ W.cell? ⟨g, 2, none⟩ = some (.int .i64 4) ∧ W.cell? ⟨g, 3, none⟩ = some (.bool true)) (by kernel_rfl) ?_
  have hS := (And.intro (hS.1.below (Below.refl _ _).drew) hS.2 : (fun W : World => SpS w W z ∧ (W.cell? ⟨w4.heap.size, 0, none⟩ = some (.int .i64 5) ∧ W.cell? ⟨w4.heap.size, 1, none⟩ = some (.slice (some ⟨g, 0, none⟩) 2 k1)) ∧ W.cell? ⟨g, 2, none⟩ = some (.int .i64 4) ∧ W.cell? ⟨g, 3, none⟩ = some (.bool true)) (w4.alloc (.cells #[.int .i64 5, .slice (some ⟨g, 0, none⟩) 2 k1, .slice A2 2 k2] 30)).drew)
  generalize (w4.alloc (.cells #[.int .i64 5, .slice (some ⟨g, 0, none⟩) 2 k1, .slice A2 2 k2] 30)).drew = wd at hS ⊢
  refine anyL_take 0 (v := ?_) rfl (by kernel_rfl) (fun _ _ _ h => h) (Or.inl ⟨by rfl, ?_⟩) hS ?_
  rotate_left
  focus (intro W hW; go_simp; try with_reducible rfl)
  simp only [Act.put, List.setIfInBounds_toArray, List.set_cons_zero, List.set_cons_succ]
  refine anyL_take 1 (v := ?_) rfl (by kernel_rfl) (fun _ _ _ h => h) (Or.inl ⟨by rfl, ?_⟩) hS ?_
  rotate_left
  focus (intro W hW; go_simp; try with_reducible rfl)
  simp only [Act.put, List.setIfInBounds_toArray, List.set_cons_zero, List.set_cons_succ]
  refine anyL_take 2 (v := ?_) rfl (by kernel_rfl) (fun _ _ _ h => h) (Or.inl ⟨by rfl, ?_⟩) hS ?_
  rotate_left
  focus (intro W hW; go_simp; try with_reducible rfl)
  simp only [Act.put, List.setIfInBounds_toArray, List.set_cons_zero, List.set_cons_succ]
  refine anyL_take 3 (v := ?_) rfl (by kernel_rfl) (fun _ _ _ h => h) (Or.inl ⟨by rfl, ?_⟩) hS ?_
  rotate_left
  focus (intro W hW; go_simp; try with_reducible rfl)
  simp only [Act.put, List.setIfInBounds_toArray, List.set_cons_zero, List.set_cons_succ]
  refine anyL_take 4 (v := ?_) rfl (by kernel_rfl) (fun _ _ _ h => h) (Or.inl ⟨by rfl, ?_⟩) hS ?_
  rotate_left
  focus (intro W hW; go_simp; try with_reducible rfl)
  simp only [Act.put, List.setIfInBounds_toArray, List.set_cons_zero, List.set_cons_succ]
  refine anyL_take 5 (v := ?_) rfl (by kernel_rfl) (fun _ _ _ h => h) (Or.inl ⟨by rfl, ?_⟩) hS ?_
  rotate_left
  focus (intro W hW; go_simp; try with_reducible rfl)
  simp only [Act.put, List.setIfInBounds_toArray, List.set_cons_zero, List.set_cons_succ]
  refine anyL_take 6 (v := ?_) rfl (by kernel_rfl) (fun _ _ _ h => h) (Or.inl ⟨by rfl, ?_⟩) hS ?_
  rotate_left
  focus (intro W hW; go_simp; try with_reducible rfl)
  simp only [Act.put, List.setIfInBounds_toArray, List.set_cons_zero, List.set_cons_succ]
  refine anyL_take 7 (v := ?_) rfl (by kernel_rfl) (fun _ _ _ h => h) (Or.inl ⟨by rfl, ?_⟩) hS ?_
  rotate_left
  focus (intro W hW; go_simp; try with_reducible rfl)
  simp only [Act.put, List.setIfInBounds_toArray, List.set_cons_zero, List.set_cons_succ]
  refine anyL_take 8 (v := ?_) rfl (by kernel_rfl) (fun _ _ _ h => h) (Or.inl ⟨by rfl, ?_⟩) hS ?_
  rotate_left
  focus (intro W hW; go_simp; try with_reducible rfl)
  simp only [Act.put, List.setIfInBounds_toArray, List.set_cons_zero, List.set_cons_succ]
  refine anyL_take 9 (v := ?_) rfl (by kernel_rfl) (fun _ _ _ h => h) (Or.inl ⟨by rfl, ?_⟩) hS ?_
  rotate_left
  focus (intro W hW; go_simp; try with_reducible rfl)
  simp only [Act.put, List.setIfInBounds_toArray, List.set_cons_zero, List.set_cons_succ]
  refine anyL_take 10 (v := ?_) rfl (by kernel_rfl) (fun _ _ _ h => h) (Or.inl ⟨by rfl, ?_⟩) hS ?_
  rotate_left
  focus (intro W hW; go_simp; try with_reducible rfl)
  simp only [Act.put, List.setIfInBounds_toArray, List.set_cons_zero, List.set_cons_succ]
  refine anyL_take 11 (v := ?_) rfl (by kernel_rfl) (fun _ _ _ h => h) (Or.inl ⟨by rfl, ?_⟩) hS ?_
  rotate_left
  focus (intro W hW; go_simp; try with_reducible rfl)
  simp only [Act.put, List.setIfInBounds_toArray, List.set_cons_zero, List.set_cons_succ]
  refine anyL_take 12 (v := ?_) rfl (by kernel_rfl) (fun _ _ _ h => h) (Or.inl ⟨by rfl, ?_⟩) hS ?_
  rotate_left
  focus (intro W hW; go_simp; try with_reducible rfl)
  simp only [Act.put, List.setIfInBounds_toArray, List.set_cons_zero, List.set_cons_succ]
  refine anyL_take 13 (v := ?_) rfl (by kernel_rfl) (fun _ _ _ h => h) (Or.inl ⟨by rfl, ?_⟩) hS ?_
  rotate_left
  focus (intro W hW; go_simp; try with_reducible rfl)
  simp only [Act.put, List.setIfInBounds_toArray, List.set_cons_zero, List.set_cons_succ]
  refine anyL_take 14 (v := ?_) rfl (by kernel_rfl) (fun _ _ _ h => h) (Or.inl ⟨by rfl, ?_⟩) hS ?_
  rotate_left
  focus (intro W hW; go_simp; try with_reducible rfl)
  simp only [Act.put, List.setIfInBounds_toArray, List.set_cons_zero, List.set_cons_succ]
  refine anyL_take 15 (v := ?_) rfl (by kernel_rfl) (fun _ _ _ h => h) (Or.inl ⟨by rfl, ?_⟩) hS ?_
  rotate_left
  focus (intro W hW; go_simp; try with_reducible rfl)
  simp only [Act.put, List.setIfInBounds_toArray, List.set_cons_zero, List.set_cons_succ]
  refine anyL_take 16 (v := ?_) rfl (by kernel_rfl) (fun _ _ _ h => h) (Or.inl ⟨by rfl, ?_⟩) hS ?_
  rotate_left
  focus (intro W hW; go_simp; try with_reducible rfl)
  simp only [Act.put, List.setIfInBounds_toArray, List.set_cons_zero, List.set_cons_succ]
  refine anyL_take 17 (v := ?_) rfl (by kernel_rfl) (fun _ _ _ h => h) (Or.inl ⟨by rfl, ?_⟩) hS ?_
  rotate_left
  focus (intro W hW; obtain ⟨⟨c0, c1, c2, e0, e1, e2, e3, d0, d1, _⟩, ⟨y0, y1⟩, m2, m3⟩ := hW; go_simp; try with_reducible rfl)
  simp only [Act.put, List.setIfInBounds_toArray, List.set_cons_zero, List.set_cons_succ]
  refine anyL_take 18 (v := ?_) rfl (by kernel_rfl) (fun _ _ _ h => h) (Or.inl ⟨by rfl, ?_⟩) hS ?_
  rotate_left
  focus (intro W hW; go_simp; try with_reducible rfl)
  simp only [Act.put, List.setIfInBounds_toArray, List.set_cons_zero, List.set_cons_succ]
  refine anyL_take 19 (v := ?_) rfl (by kernel_rfl) (fun _ _ _ h => h) (Or.inl ⟨by rfl, ?_⟩) hS ?_
  rotate_left
  focus (intro W hW; go_simp; try with_reducible rfl)
  simp only [Act.put, List.setIfInBounds_toArray, List.set_cons_zero, List.set_cons_succ]
  refine anyL_take 20 (v := ?_) rfl (by kernel_rfl) (fun _ _ _ h => h) (Or.inl ⟨by rfl, ?_⟩) hS ?_
  rotate_left
  focus (intro W hW; go_simp; try with_reducible rfl)
  simp only [Act.put, List.setIfInBounds_toArray, List.set_cons_zero, List.set_cons_succ]
  refine anyL_take 21 (v := ?_) rfl (by kernel_rfl) (fun _ _ _ h => h) (Or.inl ⟨by rfl, ?_⟩) hS ?_
  rotate_left
  focus (intro W hW; go_simp; try with_reducible rfl)
  simp only [Act.put, List.setIfInBounds_toArray, List.set_cons_zero, List.set_cons_succ]
  refine anyL_take 22 (v := ?_) rfl (by kernel_rfl) (fun _ _ _ h => h) (Or.inl ⟨by rfl, ?_⟩) hS ?_
  rotate_left
  focus (intro W hW; obtain ⟨⟨c0, c1, c2, e0, e1, e2, e3, d0, d1, _⟩, ⟨y0, y1⟩, m2, m3⟩ := hW; go_simp; try with_reducible rfl)
  simp only [Act.put, List.setIfInBounds_toArray, List.set_cons_zero, List.set_cons_succ]
  refine anyL_take 23 (v := ?_) rfl (by kernel_rfl) (fun _ _ _ h => h) (Or.inl ⟨by rfl, ?_⟩) hS ?_
  rotate_left
  focus (intro W hW; go_simp; try with_reducible rfl)
  simp only [Act.put, List.setIfInBounds_toArray, List.set_cons_zero, List.set_cons_succ]
  refine anyL_take 24 (v := ?_) rfl (by kernel_rfl) (fun _ _ _ h => h) (Or.inl ⟨by rfl, ?_⟩) hS ?_
  rotate_left
  focus (intro W hW; go_simp; try with_reducible rfl)
  simp only [Act.put, List.setIfInBounds_toArray, List.set_cons_zero, List.set_cons_succ]
  refine anyL_take 25 (v := ?_) rfl (by kernel_rfl) (fun _ _ _ h => h) (Or.inl ⟨by rfl, ?_⟩) hS ?_
  rotate_left
  focus (intro W hW; go_simp; try with_reducible rfl)
  simp only [Act.put, List.setIfInBounds_toArray, List.set_cons_zero, List.set_cons_succ]
  refine anyL_take 26 (v := ?_) rfl (by kernel_rfl) (fun _ _ _ h => h) (Or.inl ⟨by rfl, ?_⟩) hS ?_
  rotate_left
  focus (intro W hW; go_simp; try with_reducible rfl)
  simp only [Act.put, List.setIfInBounds_toArray, List.set_cons_zero, List.set_cons_succ]
  refine anyL_take 27 (v := ?_) rfl (by kernel_rfl) (fun _ _ _ h => h) (Or.inl ⟨by rfl, ?_⟩) hS ?_
  rotate_left
  focus (intro W hW; go_simp; try with_reducible rfl)
  simp only [Act.put, List.setIfInBounds_toArray, List.set_cons_zero, List.set_cons_succ]
  refine anyL_take 28 (v := ?_) rfl (by kernel_rfl) (fun _ _ _ h => h) (Or.inl ⟨by rfl, ?_⟩) hS ?_
  rotate_left
  focus (intro W hW; obtain ⟨⟨c0, c1, c2, e0, e1, e2, e3, d0, d1, _⟩, ⟨y0, y1⟩, m2, m3⟩ := hW; go_simp; try with_reducible rfl)
  simp only [Act.put, List.setIfInBounds_toArray, List.set_cons_zero, List.set_cons_succ]
  refine anyL_take 29 (v := ?_) rfl (by kernel_rfl) (fun _ _ _ h => h) (Or.inl ⟨by rfl, ?_⟩) hS ?_
  rotate_left
  focus (intro W hW; go_simp; try with_reducible rfl)
  simp only [Act.put, List.setIfInBounds_toArray, List.set_cons_zero, List.set_cons_succ]
  refine anyL_take 30 (v := ?_) rfl (by kernel_rfl) (fun _ _ _ h => h) (Or.inl ⟨by rfl, ?_⟩) hS ?_
  rotate_left
  focus (intro W hW; obtain ⟨⟨c0, c1, c2, e0, e1, e2, e3, d0, d1, _⟩, ⟨y0, y1⟩, m2, m3⟩ := hW; go_simp; try with_reducible rfl)
  simp only [Act.put, List.setIfInBounds_toArray, List.set_cons_zero, List.set_cons_succ]
  refine anyL_take 31 (v := ?_) rfl (by kernel_rfl) (fun _ _ _ h => h) (Or.inl ⟨by rfl, ?_⟩) hS ?_
  rotate_left
  focus (intro W hW; go_simp; try with_reducible rfl)
  simp only [Act.put, List.setIfInBounds_toArray, List.set_cons_zero, List.set_cons_succ]
  refine anyL_take 32 (v := ?_) rfl (by kernel_rfl) (fun _ _ _ h => h) (Or.inl ⟨by rfl, ?_⟩) hS ?_
  rotate_left
  focus (intro W hW; obtain ⟨⟨c0, c1, c2, e0, e1, e2, e3, d0, d1, _⟩, ⟨y0, y1⟩, m2, m3⟩ := hW; go_simp; try with_reducible rfl)
  simp only [Act.put, List.setIfInBounds_toArray, List.set_cons_zero, List.set_cons_succ]
  refine anyL_take 33 (v := ?_) rfl (by kernel_rfl) (fun _ _ _ h => h) (Or.inl ⟨by rfl, ?_⟩) hS ?_
  rotate_left
  focus (intro W hW; go_simp; try with_reducible rfl)
  simp only [Act.put, List.setIfInBounds_toArray, List.set_cons_zero, List.set_cons_succ]
  refine anyL_take 34 (v := ?_) rfl (by kernel_rfl) (fun _ _ _ h => h) (Or.inl ⟨by rfl, ?_⟩) hS ?_
  rotate_left
  focus (intro W hW; obtain ⟨⟨c0, c1, c2, e0, e1, e2, e3, d0, d1, _⟩, ⟨y0, y1⟩, m2, m3⟩ := hW; go_simp; try with_reducible rfl)
  simp only [Act.put, List.setIfInBounds_toArray, List.set_cons_zero, List.set_cons_succ]
  refine anyL_take 35 (v := ?_) rfl (by kernel_rfl) (fun _ _ _ h => h) (Or.inl ⟨by rfl, ?_⟩) hS ?_
  rotate_left
  focus (intro W hW; go_simp; try with_reducible rfl)
  simp only [Act.put, List.setIfInBounds_toArray, List.set_cons_zero, List.set_cons_succ]
  refine anyL_take 36 (v := ?_) rfl (by kernel_rfl) (fun _ _ _ h => h) (Or.inl ⟨by rfl, ?_⟩) hS ?_
  rotate_left
  focus (intro W hW; go_simp; try with_reducible rfl)
  simp only [Act.put, List.setIfInBounds_toArray, List.set_cons_zero, List.set_cons_succ]
  refine anyL_one 37 rfl (by kernel_rfl) (fun K hK => ?_)
  go_simp
  refine hK.out _ _ (fun _ => hS) ?_
  clear hK K
  try simp only [Act.put, List.setIfInBounds_toArray, List.set_cons_zero, List.set_cons_succ]
  refine anyC_done (by kernel_rfl) ?_ _
  have hF := Lib.hid hS.1.bw
  clear hS heq
  go_wp2_with fail
  go_ret
  exact ⟨rfl, hF.out⟩
end Go.Proofs.YtbgkmppngnedlaaDoor
