/- The document's records of a book (by gen_bk5.py). -/
import Derived.Test.YtpmhfalhieinjaaBkRecs
namespace Go.Proofs.Ytpmhfalhieinjaa
open Go.RowKit Rec Bk

theorem infoRec6 : (Try.prog.info? 52).map (fun i => (i.zero.map (·.cells.size), i.size, i.bytes)) = some (some 7, 7, 64) := by kernel_rfl
theorem RRow.app6 {W : World} {base cap : Nat} {A : Option Addr} {rs : List Rc} (hr : RRow W base 52 A cap rs) {m : Nat} {r : Rc} (hm : RcAt W m r) (hl : rs.length ≤ 1000000) (hb : base ≤ W.heap.size) :
    ∃ A' cap' W', (Builtin.append_ #[49, 49] 49 #[.slice A rs.length cap, .slice (some ⟨m, 0, none⟩) 1 1]).run Try.prog W = .ok (.slice A' (rs.length + 1) cap') W' ∧ RRow W' base 52 A' cap' (rs ++ [r]) ∧
      W.grownBy W' (Value.slice A rs.length cap).ownBlock ∧ (A' = A ∨ A' = some ⟨W.heap.size, 0, none⟩) := by
  have hinfo := infoRec6
  rw [Option.map_eq_some_iff] at hinfo
  obtain ⟨i, hi, he⟩ := hinfo
  simp only [Prod.mk.injEq, Option.map_eq_some_iff] at he
  obtain ⟨⟨z0, hz, hzs⟩, hs, hby⟩ := he
  exact append_rec (P := Try.prog) Try.underlying49 hi hz hs hby hzs hr hm hl hb 49
/-- The world within Records. -/
structure RecV (w W : World) (A1 : Option Addr) (c1 : Nat) (A2 : Option Addr) (c2 : Nat) (b : Bo) (A : Option Addr) (cap : Nat) (rs : List Rc) : Prop where
  a : BkAt W w.heap.size A1 c1 A2 c2 b
  i : BkIn W A1 c1 A2 c2 b
  r : RRow W (w.heap.size + 1) 52 A cap rs
  n1 : ∀ g off, A1 = some ⟨g, off, none⟩ → g < w.heap.size ∨ b.zs = []
  n2 : ∀ g off, A2 = some ⟨g, off, none⟩ → g < w.heap.size ∨ b.ms = []
  bw : Below w.heap.size w W
theorem RecV.below {w W W' : World} {A1 : Option Addr} {c1 : Nat} {A2 : Option Addr} {c2 : Nat} {b : Bo} {A : Option Addr} {cap : Nat} {rs : List Rc} (h : RecV w W A1 c1 A2 c2 b A cap rs) (hb : Below W.heap.size W W') : RecV w W' A1 c1 A2 c2 b A cap rs :=
  ⟨h.a.below hb, h.i.below hb, h.r.below hb, h.n1, h.n2, h.bw.trans (hb.mono h.bw.size)⟩
theorem RecV.app {w W : World} {A1 : Option Addr} {c1 : Nat} {A2 : Option Addr} {c2 : Nat} {b : Bo} {A : Option Addr} {cap : Nat} {rs : List Rc} (h : RecV w W A1 c1 A2 c2 b A cap rs) (x : Rc) (hl : rs.length ≤ 1000) :
    ∃ A' cap' W2, (Builtin.append_ #[49, 49] 49 #[.slice A rs.length cap, .slice (some ⟨W.heap.size, 0, none⟩) 1 1]).run Try.prog (W.alloc (.cells #[.int .i64 x.k, .int .i64 x.s, .int .i64 x.a, .int .i64 x.b, .int .i64 x.c, .int .i64 x.d, .string x.body] 52)) = .ok (.slice A' (rs.length + 1) cap') W2 ∧
      RecV w W2 A1 c1 A2 c2 b A' cap' (rs ++ [x]) := by
  have hlt := h.a.lt
  have h1 := h.below (W' := W.alloc (.cells #[.int .i64 x.k, .int .i64 x.s, .int .i64 x.a, .int .i64 x.b, .int .i64 x.c, .int .i64 x.d, .string x.body] 52)) ((Below.refl _ _).alloc (Nat.le_refl _) _)
  obtain ⟨A', cap', W2, hrun, hrow, hg, hA⟩ := h1.r.app6 (RcAt.new W x _) (by omega) (by simp; omega)
  have hw := h.bw.size
  have hkeep : ∀ k, k < w.heap.size + 1 → W2.heap[k]? = (W.alloc (.cells #[.int .i64 x.k, .int .i64 x.s, .int .i64 x.a, .int .i64 x.b, .int .i64 x.c, .int .i64 x.d, .string x.body] 52)).heap[k]? := fun k hk => by
    refine hg.block k (by simp; omega) (fun e => ?_)
    have := (h1.r.cell e.symm).1
    omega
  have hz : zoE.In W2 A1 b.zs := by
    rcases h1.i.z with h0 | ⟨g, off, e, hgl, hc⟩
    · exact .inl h0
    · rcases h1.n1 g off e with hn | hn
      · exact .inr ⟨g, off, e, Nat.lt_of_lt_of_le hgl hg.size, fun i hi j hj => (World.cell?_of_block (a := ⟨g, _, none⟩) (hkeep g (by omega))).trans (hc i hi j hj)⟩
      · exact .inl hn
  have hm : IntsIn W2 A2 b.ms := by
    rcases h1.i.m with h0 | ⟨g, off, e, hgl, hc⟩
    · exact .inl h0
    · rcases h1.n2 g off e with hn | hn
      · exact .inr ⟨g, off, e, Nat.lt_of_lt_of_le hgl hg.size, fun i hi => (World.cell?_of_block (a := ⟨g, _, none⟩) (hkeep g (by omega))).trans (hc i hi)⟩
      · exact .inl hn
  exact ⟨A', cap', W2, hrun, h1.a.of (hkeep _ (by omega)), ⟨hz, hm, h1.i.n1, h1.i.n2, h1.i.zl, h1.i.ml⟩, hrow, h1.n1, h1.n2, ⟨hg.os.trans h1.bw.os, hg.tape.trans h1.bw.tape, hg.output.trans h1.bw.output, Nat.le_trans h1.bw.size hg.size, fun k hk => (hkeep k (by omega)).trans (h1.bw.block k hk)⟩⟩
theorem recV_start (w : World) (A1 : Option Addr) (c1 : Nat) (A2 : Option Addr) (c2 : Nat) (b : Bo) (h : BkIn w A1 c1 A2 c2 b) :
    RecV w (w.alloc (.cells #[.int .i64 b.q, .slice A1 b.zs.length c1, .slice A2 b.ms.length c2, .int .i64 b.sl, .int .i64 b.cu] 40)) A1 c1 A2 c2 b none 0 [] := by
  have h1 := BkAt.new w A1 c1 A2 c2 b 40
  generalize hW1 : w.alloc _ = W1 at h1 ⊢
  have hb1 : Below w.heap.size w W1 := by rw [← hW1]; exact (Below.refl _ _).alloc (Nat.le_refl _) _
  refine ⟨h1, h.below hb1, RRow.nil _ _ _, fun g off e => ?_, fun g off e => ?_, hb1⟩
  · rcases h.z with h0 | ⟨g', off', e', hl, _⟩
    · exact .inr h0
    · rw [e] at e'; injection e' with e'; injection e' with e'; exact .inl (by omega)
  · rcases h.m with h0 | ⟨g', off', e', hl, _⟩
    · exact .inr h0
    · rw [e] at e'; injection e' with e'; injection e' with e'; exact .inl (by omega)
theorem RecV.set_s {w W : World} {A1 : Option Addr} {c1 : Nat} {A2 : Option Addr} {c2 : Nat} {b : Bo} {cap g : Nat} {rs : List Rc} (h : RecV w W A1 c1 A2 c2 b (some ⟨g, 0, none⟩) cap rs) {i : Nat} (hi : i < rs.length) (v : Int) : RecV w (W.setCell ⟨g, i * 7 + 1, none⟩ (.int .i64 v)) A1 c1 A2 c2 b (some ⟨g, 0, none⟩) cap (rs.set i { rs[i] with s := v }) := by
  have hg := grownBy_one W g (i * 7 + 1) (.int .i64 v)
  have hlt := h.a.lt
  have hgw : w.heap.size + 1 ≤ g := by
    rcases h.r.form with ⟨e, _⟩ | ⟨g', e, hb, _⟩
    · cases e
    · injection e with e; injection e with e; omega
  have hkeep : ∀ k, k < w.heap.size + 1 → (W.setCell ⟨g, i * 7 + 1, none⟩ (.int .i64 v)).heap[k]? = W.heap[k]? := fun k hk => hg.block k (by omega) (by simp; omega)
  refine ⟨h.a.of (hkeep _ (by omega)), ⟨?_, ?_, h.i.n1, h.i.n2, h.i.zl, h.i.ml⟩, h.r.set_s hi v, h.n1, h.n2, h.bw.setCell (by show w.heap.size ≤ g; omega) _⟩
  · rcases h.i.z with h0 | ⟨g2, off, e, hgl, hc⟩
    · exact .inl h0
    · rcases h.n1 g2 off e with hn | hn
      · exact .inr ⟨g2, off, e, Nat.lt_of_lt_of_le hgl hg.size, fun i hi j hj => (World.cell?_of_block (a := ⟨g2, _, none⟩) (hkeep g2 (by omega))).trans (hc i hi j hj)⟩
      · exact .inl hn
  · rcases h.i.m with h0 | ⟨g2, off, e, hgl, hc⟩
    · exact .inl h0
    · rcases h.n2 g2 off e with hn | hn
      · exact .inr ⟨g2, off, e, Nat.lt_of_lt_of_le hgl hg.size, fun i hi => (World.cell?_of_block (a := ⟨g2, _, none⟩) (hkeep g2 (by omega))).trans (hc i hi)⟩
      · exact .inl hn
/-- The document's records. -/
def rcur (b : Bo) : Rc := ⟨6, 0, if b.sl < 0 then 65535 else b.sl, b.cu, 0, 0, ⟨#[]⟩⟩
def recsR (b : Bo) : List Rc := Bk.numb b.q (mems 0 b.ms ++ maps 0 b.zs ++ [rcur b])
theorem recsR_recsB {b : Bo} (h : b.sl < 0 → b.cu = 0) : recsR b = recsB b := by
  have e : rcur b = curR b := by
    unfold rcur curR
    by_cases hs : b.sl < 0
    · rw [if_pos hs, if_pos hs, h hs]
    · rw [if_neg hs, if_neg hs]
  unfold recsR recsB bare
  rw [e]
def RecRPost (w : World) (b : Bo) (e : Ending) (w' : World) : Prop := ∃ A cap, e = .returned (.slice A (recsR b).length cap) ∧ RRow w' w.heap.size 52 A cap (recsR b) ∧ Below w.heap.size w w'
set_option maxRecDepth 100000 in
set_option maxHeartbeats 4000000 in
theorem rrecords_any (w : World) (A1 : Option Addr) (c1 : Nat) (A2 : Option Addr) (c2 : Nat) (b : Bo) (h : BkIn w A1 c1 A2 c2 b) (hq : 0 ≤ b.q ∧ b.q ≤ 4611686018427387904) :
    Calls Try.prog 13 #[.agg #[.int .i64 b.q, .slice A1 b.zs.length c1, .slice A2 b.ms.length c2, .int .i64 b.sl, .int .i64 b.cu]] w (RecRPost w b) := by
  have hst := Lib.hid (recV_start w A1 c1 A2 c2 b h)
  have hzl := h.zl
  have hml := h.ml
  clear h
  go_enter Try.func13, Try.ntmps13
  go_wp2_with fail
  refine fresh_world (fun W => RecV w W A1 c1 A2 c2 b none 0 []) hst.out ?_
  clear hst
  rintro W hN
  have hNH := Lib.hid hN
  clear hN
  go_loopw [3, 4] (fun s i wr => ∃ (k : Nat) (A : Option Addr) (cap : Nat), k ≤ b.ms.length ∧ i = .int .i64 (k : Int) ∧ s = .slice A k cap ∧ RecV w wr A1 c1 A2 c2 b A cap (mems 0 (b.ms.take k))) (fun _ i _ => b.ms.length - (intOf i).toNat)
  case atStart => exact ⟨0, none, 0, Nat.zero_le _, rfl, rfl, hNH.out⟩
  case round =>
    clear hNH
    obtain ⟨k, A, cap, hkn, rfl, rfl, hN⟩ := hrel
    have hlen : (mems 0 (b.ms.take k)).length = k := by rw [mems_len, List.length_take]; omega
    obtain ⟨b0, b1, b2, b3, b4, bf⟩ := hN.a
    by_cases hlt : k < b.ms.length
    case pos =>
      obtain ⟨g, off, rfl, hgl, hc⟩ := hN.i.m.at_ hlt
      obtain ⟨A', cap', W2, hrun, hN'⟩ := hN.app ⟨5, 0, (k : Int), b.ms[k], 0, 0, ⟨#[]⟩⟩ (by omega)
      dsimp only at hrun
      rw [hlen] at hrun
      rw [← mems_take hlt] at hN'
      have hrunH := Lib.hid hrun
      have hNH := Lib.hid hN'
      have hkw : IntKind.i64.wrap ((k : Int) + 1) = (k : Int) + 1 := IntWalk.i64_in _ (by omega)
      clear hrun hN' hN hlen
      go_wp2_with (at_builtin; refine append_run_wp (by first | rfl | (simp [Region.wanted, yielded])) (.tmp 15) (.tmp 23) 49 rfl rfl rfl hrunH.out ?_; clear hrunH)
      go_roundw
      case rel => exact ⟨k + 1, A', cap', by omega, by go_num, rfl, hNH.out⟩
      case measure => simp only [intOf]; omega
    case neg =>
      have hke : k = b.ms.length := by omega
      rw [hke, List.take_length] at hN
      have hNH := Lib.hid hN
      clear hN hlen
      go_wp2_with fail
      clear b0 b1 b2 b3 b4 bf
      have hkH := Lib.hid hke
      clear hke hkn hlt
      go_loopw [3, 5] (fun s i wr => ∃ (j n : Nat) (A : Option Addr) (cap : Nat), j ≤ b.zs.length ∧ n = k + j ∧ i = .int .i64 (j : Int) ∧ s = .slice A n cap ∧ RecV w wr A1 c1 A2 c2 b A cap (mems 0 b.ms ++ maps 0 (b.zs.take j))) (fun _ i _ => b.zs.length - (intOf i).toNat)
      case atStart => exact ⟨0, k, A, cap, Nat.zero_le _, rfl, rfl, rfl, by rw [List.take_zero]; show RecV w _ A1 c1 A2 c2 b A cap (mems 0 b.ms ++ []); rw [List.append_nil]; exact hNH.out⟩
      case round =>
        clear hNH
        obtain ⟨j, n, A, cap, hjn, hn, rfl, rfl, hN⟩ := hrel
        have hlen : (mems 0 b.ms ++ maps 0 (b.zs.take j)).length = n := by rw [List.length_append, mems_len, maps_len, List.length_take, ← hkH.out]; omega
        have hn128 : n ≤ 128 := by have := hkH.out; omega
        obtain ⟨b0, b1, b2, b3, b4, bf⟩ := hN.a
        by_cases hlt : j < b.zs.length
        case pos =>
          obtain ⟨g, off, rfl, hgl, z0, z1, z2⟩ := zo_at hN.i.z hlt
          have happ := Lib.hid (fun W (hb : Below wr.heap.size wr W) => (hN.below hb).app ⟨3, 0, (j : Int), b.zs[j].p, b.zs[j].g, b.zs[j].s, ⟨#[]⟩⟩ (by omega))
          have hlenH := Lib.hid hlen
          have hmt := Lib.hid (maps_take hlt)
          have hkw : IntKind.i64.wrap ((j : Int) + 1) = (j : Int) + 1 := IntWalk.i64_in _ (by omega)
          have hnH := Lib.hid hn
          clear hN hlen hn
          have hj1 : (j : Int) < (b.zs.length : Int) := by omega
          have hjL := Lib.hid hlt
          generalize hz : b.zs[j] = z at z0 z1 z2 happ hmt
          clear hz
          go_upto_region 9 with fail
          have hf := Lib.hid (fun W (hb : Below wr.heap.size wr W) => (⟨(hb.cell (p := ⟨w.heap.size, 1, none⟩) (lt_of_cell b1)).trans b1, (hb.cell (p := ⟨g, off + j * 3, none⟩) hgl).trans z0, (hb.cell (p := ⟨g, off + j * 3 + 1, none⟩) hgl).trans z1, (hb.cell (p := ⟨g, off + j * 3 + 2, none⟩) hgl).trans z2⟩ : W.cell? ⟨w.heap.size, 1, none⟩ = some (.slice (some ⟨g, off, none⟩) b.zs.length c1) ∧ W.cell? ⟨g, off + j * 3, none⟩ = some (.int .i64 z.p) ∧ W.cell? ⟨g, off + j * 3 + 1, none⟩ = some (.int .i64 z.g) ∧ W.cell? ⟨g, off + j * 3 + 2, none⟩ = some (.int .i64 z.s)))
          clear b0 b1 b2 b3 b4 bf z0 z1 z2
          refine region_anyC (fun i => decide (i < 22)) (fun W' => Below wr.heap.size wr W') (by kernel_rfl) ?_
          have hS : Below wr.heap.size wr wr.drew := (Below.refl _ _).drew
          refine anyL_take 0 (v := ?_) rfl (by kernel_rfl) (fun _ _ _ h => h) (Or.inl ⟨by rfl, ?_⟩) hS ?_
          rotate_left
          focus (intro W hW; obtain ⟨f0, f1, f2, f3⟩ := hf.out W hW; go_simp; try with_reducible rfl)
          simp only [Act.put, List.setIfInBounds_toArray, List.set_cons_zero, List.set_cons_succ]
          refine anyL_take 1 (v := ?_) rfl (by kernel_rfl) (fun _ _ _ h => h) (Or.inl ⟨by rfl, ?_⟩) hS ?_
          rotate_left
          focus (intro W hW; obtain ⟨f0, f1, f2, f3⟩ := hf.out W hW; go_simp; try with_reducible rfl)
          simp only [Act.put, List.setIfInBounds_toArray, List.set_cons_zero, List.set_cons_succ]
          refine anyL_take 2 (v := ?_) rfl (by kernel_rfl) (fun _ _ _ h => h) (Or.inl ⟨by rfl, ?_⟩) hS ?_
          rotate_left
          focus (intro W hW; obtain ⟨f0, f1, f2, f3⟩ := hf.out W hW; go_simp; try with_reducible rfl)
          simp only [Act.put, List.setIfInBounds_toArray, List.set_cons_zero, List.set_cons_succ]
          refine anyL_take 3 (v := ?_) rfl (by kernel_rfl) (fun _ _ _ h => h) (Or.inl ⟨by rfl, ?_⟩) hS ?_
          rotate_left
          focus (intro W hW; obtain ⟨f0, f1, f2, f3⟩ := hf.out W hW; go_simp; try with_reducible rfl)
          simp only [Act.put, List.setIfInBounds_toArray, List.set_cons_zero, List.set_cons_succ]
          refine anyL_take 4 (v := ?_) rfl (by kernel_rfl) (fun _ _ _ h => h) (Or.inl ⟨by rfl, ?_⟩) hS ?_
          rotate_left
          focus (intro W hW; obtain ⟨f0, f1, f2, f3⟩ := hf.out W hW; go_simp; try with_reducible rfl)
          simp only [Act.put, List.setIfInBounds_toArray, List.set_cons_zero, List.set_cons_succ]
          refine anyL_take 5 (v := ?_) rfl (by kernel_rfl) (fun _ _ _ h => h) (Or.inl ⟨by rfl, ?_⟩) hS ?_
          rotate_left
          focus (intro W hW; obtain ⟨f0, f1, f2, f3⟩ := hf.out W hW; go_simp; try with_reducible rfl)
          simp only [Act.put, List.setIfInBounds_toArray, List.set_cons_zero, List.set_cons_succ]
          refine anyL_take 6 (v := ?_) rfl (by kernel_rfl) (fun _ _ _ h => h) (Or.inl ⟨by rfl, ?_⟩) hS ?_
          rotate_left
          focus (intro W hW; obtain ⟨f0, f1, f2, f3⟩ := hf.out W hW; go_simp; try with_reducible rfl)
          simp only [Act.put, List.setIfInBounds_toArray, List.set_cons_zero, List.set_cons_succ]
          refine anyL_take 7 (v := ?_) rfl (by kernel_rfl) (fun _ _ _ h => h) (Or.inl ⟨by rfl, ?_⟩) hS ?_
          rotate_left
          focus (intro W hW; obtain ⟨f0, f1, f2, f3⟩ := hf.out W hW; go_simp; try with_reducible rfl)
          simp only [Act.put, List.setIfInBounds_toArray, List.set_cons_zero, List.set_cons_succ]
          refine anyL_take 8 (v := ?_) rfl (by kernel_rfl) (fun _ _ _ h => h) (Or.inl ⟨by rfl, ?_⟩) hS ?_
          rotate_left
          focus (intro W hW; obtain ⟨f0, f1, f2, f3⟩ := hf.out W hW; go_simp; try with_reducible rfl)
          simp only [Act.put, List.setIfInBounds_toArray, List.set_cons_zero, List.set_cons_succ]
          refine anyL_take 9 (v := ?_) rfl (by kernel_rfl) (fun _ _ _ h => h) (Or.inl ⟨by rfl, ?_⟩) hS ?_
          rotate_left
          focus (intro W hW; obtain ⟨f0, f1, f2, f3⟩ := hf.out W hW; go_simp; try with_reducible rfl)
          simp only [Act.put, List.setIfInBounds_toArray, List.set_cons_zero, List.set_cons_succ]
          refine anyL_take 10 (v := ?_) rfl (by kernel_rfl) (fun _ _ _ h => h) (Or.inl ⟨by rfl, ?_⟩) hS ?_
          rotate_left
          focus (intro W hW; obtain ⟨f0, f1, f2, f3⟩ := hf.out W hW; go_simp; try with_reducible rfl)
          simp only [Act.put, List.setIfInBounds_toArray, List.set_cons_zero, List.set_cons_succ]
          refine anyL_take 11 (v := ?_) rfl (by kernel_rfl) (fun _ _ _ h => h) (Or.inl ⟨by rfl, ?_⟩) hS ?_
          rotate_left
          focus (intro W hW; obtain ⟨f0, f1, f2, f3⟩ := hf.out W hW; go_simp; try with_reducible rfl)
          simp only [Act.put, List.setIfInBounds_toArray, List.set_cons_zero, List.set_cons_succ]
          refine anyL_take 12 (v := ?_) rfl (by kernel_rfl) (fun _ _ _ h => h) (Or.inl ⟨by rfl, ?_⟩) hS ?_
          rotate_left
          focus (intro W hW; obtain ⟨f0, f1, f2, f3⟩ := hf.out W hW; go_simp; try with_reducible rfl)
          simp only [Act.put, List.setIfInBounds_toArray, List.set_cons_zero, List.set_cons_succ]
          refine anyL_take 13 (v := ?_) rfl (by kernel_rfl) (fun _ _ _ h => h) (Or.inl ⟨by rfl, ?_⟩) hS ?_
          rotate_left
          focus (intro W hW; obtain ⟨f0, f1, f2, f3⟩ := hf.out W hW; go_simp; try with_reducible rfl)
          simp only [Act.put, List.setIfInBounds_toArray, List.set_cons_zero, List.set_cons_succ]
          refine anyL_take 14 (v := ?_) rfl (by kernel_rfl) (fun _ _ _ h => h) (Or.inl ⟨by rfl, ?_⟩) hS ?_
          rotate_left
          focus (intro W hW; obtain ⟨f0, f1, f2, f3⟩ := hf.out W hW; go_simp; try with_reducible rfl)
          simp only [Act.put, List.setIfInBounds_toArray, List.set_cons_zero, List.set_cons_succ]
          refine anyL_take 15 (v := ?_) rfl (by kernel_rfl) (fun _ _ _ h => h) (Or.inl ⟨by rfl, ?_⟩) hS ?_
          rotate_left
          focus (intro W hW; obtain ⟨f0, f1, f2, f3⟩ := hf.out W hW; go_simp; try with_reducible rfl)
          simp only [Act.put, List.setIfInBounds_toArray, List.set_cons_zero, List.set_cons_succ]
          refine anyL_take 16 (v := ?_) rfl (by kernel_rfl) (fun _ _ _ h => h) (Or.inl ⟨by rfl, ?_⟩) hS ?_
          rotate_left
          focus (intro W hW; obtain ⟨f0, f1, f2, f3⟩ := hf.out W hW; go_simp; try with_reducible rfl)
          simp only [Act.put, List.setIfInBounds_toArray, List.set_cons_zero, List.set_cons_succ]
          refine anyL_take 17 (v := ?_) rfl (by kernel_rfl) (fun _ _ _ h => h) (Or.inl ⟨by rfl, ?_⟩) hS ?_
          rotate_left
          focus (intro W hW; obtain ⟨f0, f1, f2, f3⟩ := hf.out W hW; go_simp; try with_reducible rfl)
          simp only [Act.put, List.setIfInBounds_toArray, List.set_cons_zero, List.set_cons_succ]
          refine anyL_take 18 (v := ?_) rfl (by kernel_rfl) (fun _ _ _ h => h) (Or.inl ⟨by rfl, ?_⟩) hS ?_
          rotate_left
          focus (intro W hW; obtain ⟨f0, f1, f2, f3⟩ := hf.out W hW; go_simp; try with_reducible rfl)
          simp only [Act.put, List.setIfInBounds_toArray, List.set_cons_zero, List.set_cons_succ]
          refine anyL_take 19 (v := ?_) rfl (by kernel_rfl) (fun _ _ _ h => h) (Or.inl ⟨by rfl, ?_⟩) hS ?_
          rotate_left
          focus (intro W hW; obtain ⟨f0, f1, f2, f3⟩ := hf.out W hW; go_simp; try with_reducible rfl)
          simp only [Act.put, List.setIfInBounds_toArray, List.set_cons_zero, List.set_cons_succ]
          refine anyL_take 20 (v := ?_) rfl (by kernel_rfl) (fun _ _ _ h => h) (Or.inl ⟨by rfl, ?_⟩) hS ?_
          rotate_left
          focus (intro W hW; obtain ⟨f0, f1, f2, f3⟩ := hf.out W hW; go_simp; try with_reducible rfl)
          simp only [Act.put, List.setIfInBounds_toArray, List.set_cons_zero, List.set_cons_succ]
          obtain ⟨A', cap', W2, hrun, hN'⟩ := happ.out wr.drew hS
          dsimp only at hrun
          rw [hlenH.out] at hrun
          rw [List.append_assoc, ← hmt.out] at hN'
          have hrunH := Lib.hid hrun
          have hNH := Lib.hid hN'
          clear hN' happ
          refine anyL_one 21 rfl (by kernel_rfl) (fun K hK => ?_)
          go_simp
          refine hK.out _ _ (fun _ => hS.alloc (Nat.le_refl _) _) ?_
          clear hK K
          try simp only [Act.put, List.setIfInBounds_toArray, List.set_cons_zero, List.set_cons_succ]
          refine anyL_one 22 rfl (by kernel_rfl) (fun K hK => ?_)
          refine append_run_step rfl (.tmp 32) (.tmp 53) 49 rfl rfl rfl hrun ?_
          refine hK.out _ _ (fun h => absurd h (by decide)) ?_
          clear hK K hrun
          try simp only [Act.put, List.setIfInBounds_toArray, List.set_cons_zero, List.set_cons_succ]
          refine anyL_one 23 rfl (by kernel_rfl) (fun K hK => ?_)
          go_simp
          refine hK.out _ _ (fun h => absurd h (by decide)) ?_
          clear hK K
          try simp only [Act.put, List.setIfInBounds_toArray, List.set_cons_zero, List.set_cons_succ]
          refine anyC_done (by kernel_rfl) ?_ _
          go_wp2_with fail
          go_roundw
          case rel => exact ⟨j + 1, n + 1, A', cap', by have := hjL.out; omega, by have := hnH.out; omega, by go_num, rfl, hNH.out⟩
          case measure => simp only [intOf]; omega
        case neg =>
          have hje : j = b.zs.length := by omega
          rw [hje, List.take_length] at hN hlen
          have hNH := Lib.hid hN
          have hlenH := Lib.hid hlen
          have hnH := Lib.hid hn
          have hj1 : ¬ (j : Int) < (b.zs.length : Int) := by omega
          clear hN hlen hje hn hjn hlt
          go_upto_if 58 with (fail)
          go_cut [6] from 57 to 58 (fun s wx => s = .int .i64 (rcur b).a ∧ wx = wr)
          case first =>
            by_cases hs : b.sl < 0
            · have hs' : decide (b.sl < 0) = true := decide_eq_true hs
              have ha := Lib.hid (show (rcur b).a = 65535 from if_pos hs)
              go_wp2_with fail
              go_meet
              exact ⟨by rw [ha.out], rfl⟩
            · have hs' : decide (b.sl < 0) = false := decide_eq_false hs
              have ha := Lib.hid (show (rcur b).a = b.sl from if_neg hs)
              go_wp2_with fail
              go_meet
              exact ⟨by rw [ha.out], rfl⟩
          case rest =>
            obtain ⟨rfl, rfl⟩ := hcut
            obtain ⟨x, hx⟩ : ∃ x, x = rcur b := ⟨_, rfl⟩
            have hxa : (rcur b).a = x.a := by rw [hx]
            rw [hxa]
            have hx0 : x = ⟨6, 0, x.a, b.cu, 0, 0, ⟨#[]⟩⟩ := by rw [hx]; rfl
            obtain ⟨A', cap', W2, hrun, hN2⟩ := hNH.out.app ⟨6, 0, x.a, b.cu, 0, 0, ⟨#[]⟩⟩ (by rw [hlenH.out]; omega)
            rw [hlenH.out] at hrun
            rw [← hx0] at hN2
            dsimp only at hrun
            have hrunH := Lib.hid hrun
            have hN2H := Lib.hid hN2
            have hxH := Lib.hid hx
            generalize x.a = xa at hrunH ⊢
            clear hrun hN2 hNH hx hxa hx0
            go_wp2_with (at_builtin; refine append_run_wp (by first | rfl | (simp [Region.wanted, yielded])) (.tmp 59) (.tmp 64) 49 rfl rfl rfl hrunH.out ?_; clear hrunH)
            clear b0 b1 b2 b3 b4 bf
            obtain ⟨L, hL⟩ : ∃ L, L = mems 0 b.ms ++ maps 0 b.zs ++ [x] := ⟨_, rfl⟩
            rw [← hL] at hN2H
            have hLn : L.length = n + 1 := by rw [hL, List.length_append, hlenH.out]; rfl
            have hLb : numb b.q L = recsR b := by rw [hL, hxH.out]; rfl
            have hLnH := Lib.hid hLn
            have hLbH := Lib.hid hLb
            clear hL hLn hLb hlenH hxH
            go_loopw [7] (fun i wr => ∃ j : Nat, j ≤ n + 1 ∧ i = .int .i64 (j : Int) ∧ RecV w wr A1 c1 A2 c2 b A' cap' (nst b.q L j)) (fun i _ => n + 1 - (intOf i).toNat)
            case atStart => exact ⟨0, Nat.zero_le _, rfl, by rw [nst_zero]; exact hN2H.out⟩
            case round =>
              clear hN2H
              obtain ⟨j2, hj2, rfl, hR⟩ := hrel
              have hnl := nst_len b.q L j2
              rw [hLnH.out] at hnl
              obtain ⟨g, rfl, hgb, hgl, hcap⟩ : ∃ g, A' = some ⟨g, 0, none⟩ ∧ w.heap.size + 1 ≤ g ∧ g < wr.heap.size ∧ n + 1 ≤ cap' := by
                rcases hR.r.form with ⟨_, _, e⟩ | ⟨g, e, h1, h2, h3⟩
                · rw [e] at hnl; simp at hnl
                · exact ⟨g, e, h1, h2, by omega⟩
              obtain ⟨b0, b1, b2, b3, b4, bf⟩ := hR.a
              by_cases hlt : j2 < n + 1
              case pos =>
                have hjl : j2 < (nst b.q L j2).length := by rw [hnl]; exact hlt
                have hfin2 := hR.set_s hjl (b.q + 1 + j2)
                have hst2 : (nst b.q L j2).set j2 { (nst b.q L j2)[j2] with s := b.q + 1 + j2 } = nst b.q L (j2 + 1) := by
                  rw [nst_at b.q L j2 (by rw [hLnH.out]; exact hlt), show b.q + 1 + (j2 : Int) = b.q + j2 + 1 by omega]
                  exact nst_step b.q L j2 (by rw [hLnH.out]; exact hlt)
                rw [hst2] at hfin2
                obtain ⟨g', e', -, -, d1, -, -, -, -, -⟩ := hR.r.recs.at_ hjl
                injection e' with e'
                injection e' with e'
                subst e'
                have hfg := World.ownsRow.frozenAt hR.r (j2 * 7 + 1)
                have hng : ¬ w.heap.size = g := by omega
                have hng2 : ¬ g = w.heap.size := by omega
                have hl1 : (j2 : Int) < ((n + 1 : Nat) : Int) := by omega
                have hkw : IntKind.i64.wrap ((j2 : Int) + 1) = (j2 : Int) + 1 := IntWalk.i64_in _ (by omega)
                have hkw1 : IntKind.i64.wrap (b.q + 1) = b.q + 1 := IntWalk.i64_in _ (by omega)
                have hkw2 : IntKind.i64.wrap (b.q + 1 + (j2 : Int)) = b.q + 1 + (j2 : Int) := IntWalk.i64_in _ (by omega)
                generalize (nst b.q L j2)[j2].s = sv at d1
                have hfH := Lib.hid hfin2
                clear hfin2 hst2 hR hjl hnl
                go_wp2_with fail
                go_roundw
                case rel => exact ⟨j2 + 1, by omega, by go_num, hfH.out⟩
                case measure => simp only [intOf]; omega
              case neg =>
                have hje : j2 = n + 1 := by omega
                have e1 : nst b.q L j2 = recsR b := by rw [hje, ← hLnH.out, nst_all, hLbH.out]
                rw [e1] at hR hnl
                have hl1 : ¬ (j2 : Int) < ((n + 1 : Nat) : Int) := by omega
                have hRH := Lib.hid hR
                have hnlH := Lib.hid hnl
                clear hR e1 hnl hje hlt hj2
                go_wp2_with fail
                refine bodyPost_ret (v := .slice (some ⟨g, 0, none⟩) (n + 1) cap') (by simp [results, Try.results13, go_sem]) rfl ⟨_, _, by rw [hnlH.out], hRH.out.r.mono (by omega), hRH.out.bw⟩
end Go.Proofs.Ytpmhfalhieinjaa
