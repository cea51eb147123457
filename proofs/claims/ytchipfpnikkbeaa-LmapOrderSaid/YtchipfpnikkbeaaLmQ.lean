/- The group that LmapOrder adds. -/
import Derived.Test.YtchipfpnikkbeaaLmE
import Derived.Test.YtchipfpnikkbeaaLmP
namespace Go.Proofs.Ytchipfpnikkbeaa
open Go.RowKit

def esO (c : GA) (k : Nat) : List (Int × Bool) := (c.ks.zs.take k).map fun b => (b % 16, false)
theorem esO_succ (c : GA) {k : Nat} (h : k < c.ks.zs.length) : esO c (k + 1) = esO c k ++ [(c.ks.zs[k] % 16, false)] := by unfold esO; rw [List.take_succ_eq_append_getElem h, List.map_append]; rfl
theorem esO_len (c : GA) {k : Nat} (h : k ≤ c.ks.zs.length) : (esO c k).length = k := by unfold esO; rw [List.length_map, List.length_take]; omega
theorem esO_wf (c : GA) (k : Nat) : ∀ x ∈ esO c k, WfI x.1 := fun x hx => by
  unfold esO at hx
  obtain ⟨b, _, rfl⟩ := List.mem_map.1 hx
  exact wfI_of (by simp only; omega)
/-- The world within add: the group's box, its entries' row. -/
structure AoW (w W : World) (G : Nat) (s : Int) (B : Option Addr) (nb cb : Nat) (l : List (Int × Bool)) : Prop where
  c0 : W.cell? ⟨G, 0, none⟩ = some (.int .i64 s)
  c1 : W.cell? ⟨G, 1, none⟩ = some (.slice B nb cb)
  c2 : W.cell? ⟨G, 2, none⟩ = some (.slice none 0 0)
  z1 : W.frozen? ⟨G, 1, none⟩ = false
  r : geE.Row W (w.heap.size + 1) 50 B cb l
  gb : G = w.heap.size
  bw : Below w.heap.size w W
theorem AoW.lt {w W : World} {G : Nat} {s : Int} {B : Option Addr} {nb cb : Nat} {l : List (Int × Bool)} (h : AoW w W G s B nb cb l) : G < W.heap.size := lt_of_cell h.c0
theorem AoW.below {w W W' : World} {G : Nat} {s : Int} {B : Option Addr} {nb cb : Nat} {l : List (Int × Bool)} (h : AoW w W G s B nb cb l) (hb : Below W.heap.size W W') : AoW w W' G s B nb cb l :=
  ⟨(hb.cell h.lt).trans h.c0, (hb.cell h.lt).trans h.c1, (hb.cell h.lt).trans h.c2, (hb.frozen h.lt).trans h.z1, h.r.below hb, h.gb, bmore h.bw hb⟩
theorem AoW.start (w : World) (s : Int) : AoW w (w.alloc (.cells #[.int .i64 s, .slice none 0 0, .slice none 0 0] 54)) w.heap.size s none 0 0 [] :=
  ⟨by go_simp, by go_simp, by go_simp, by go_simp, Enc.Row.nil _ _ _, rfl, (Below.refl _ _).alloc (Nat.le_refl _) _⟩
/-- One entry more. -/
theorem AoW.push {w W : World} {G : Nat} {s : Int} {B : Option Addr} {nb cb : Nat} {l : List (Int × Bool)} (h : AoW w W G s B nb cb l) (hnb : nb = l.length) (hl : nb ≤ 1000) {m : Nat} {x : Int × Bool} (hx : ∀ j, j < 2 → W.cell? ⟨m, j, none⟩ = (geE.c x)[j]?) :
    ∃ B' cb' W1, (Builtin.append_ #[51, 51] 51 #[.slice B nb cb, .slice (some ⟨m, 0, none⟩) 1 1]).run Try.prog W = .ok (.slice B' (nb + 1) cb') W1 ∧ Below (w.heap.size + 1) W W1 ∧ W1.cell? ⟨G, 1, none⟩ = some (.slice B nb cb) ∧ W1.frozen? ⟨G, 1, none⟩ = false ∧
      AoW w (W1.setCell ⟨G, 1, none⟩ (.slice B' (nb + 1) cb')) G s B' (nb + 1) cb' (l ++ [x]) := by
  subst hnb
  have hgl := h.lt
  have hgb := h.gb
  obtain ⟨B', cb', W1, hrun, hrow, hgr, hor⟩ := h.r.append (P := Try.prog) Try.underlying51 infGe (by decide) (by decide) (m := m) (x := x) hx (by omega) (by omega) 51
  have hb1 : Below (w.heap.size + 1) W W1 := h.r.grown hgr (by omega)
  have hg1 : G < w.heap.size + 1 := by omega
  have d0 := (hb1.cell (p := ⟨G, 0, none⟩) hg1).trans h.c0
  have d1 := (hb1.cell (p := ⟨G, 1, none⟩) hg1).trans h.c1
  have d2 := (hb1.cell (p := ⟨G, 2, none⟩) hg1).trans h.c2
  have z1 := (hb1.frozen (p := ⟨G, 1, none⟩) hg1).trans h.z1
  refine ⟨B', cb', W1, hrun, hb1, d1, z1, ?_⟩
  have hs : geE.Row (W1.setCell ⟨G, 1, none⟩ (.slice B' (l.length + 1) cb')) (w.heap.size + 1) 50 B' cb' (l ++ [x]) := hrow.far (grownBy_setC _ _ _ _) (fun g e e2 => by
    injection e2 with e2
    rcases hrow.form with ⟨e3, _⟩ | ⟨g', e3, hb, _⟩
    · rw [e3] at e; cases e
    · rw [e3] at e; injection e with e; injection e with e _ _; omega)
  have hbw := (h.bw.trans (hb1.mono (Nat.le_succ _))).setCell (p := ⟨G, 1, none⟩) (Nat.le_of_eq hgb.symm) (.slice B' (l.length + 1) cb')
  have hgbH := Lib.hid hgb
  clear hgb
  exact ⟨by go_simp, by go_simp, by go_simp, by go_simp, hs, hgbH.out, hbw⟩
set_option maxRecDepth 100000 in
set_option maxHeartbeats 4000000 in
theorem addO_any (w : World) (g mb n : Nat) (m : Lm) (A : Option Addr) (cap : Nat) (l : List GA) (i : Nat) (h : LmAt w g mb n m) (hI : GActsIn w A l) (hi : i < l.length) (hl : l.length ≤ 40) (hn : n ≤ 100000) :
    Calls Try.prog 16 #[.pointer (some ⟨g, 0, none⟩), .slice A l.length cap, .int .i64 (i : Int)] w (AddPost w g mb (n + 10) (m.add (l[i].z % 4) (i : Int) (7 * (i : Int) + 3) (esO l[i] 10))) := by
  obtain ⟨b, off, rfl, hbl, hat, hks⟩ := hI.at_ hi
  obtain ⟨nl, hnl⟩ : ∃ nl, l.length = nl := ⟨_, rfl⟩
  rw [hnl] at hi hl ⊢
  clear hnl hI
  generalize l[i] = c at hat hks ⊢
  have hfc := Lib.hid (fun W (hb : Below w.heap.size w W) => (⟨hat.below hb hbl, hks.1.below hb⟩ : GA.At W b (off + i * 4) c ∧ IntsIn W c.ks.A c.ks.zs))
  have hkl : Hid (c.ks.zs.length ≤ 17592186044416) := Lib.hid hks.2.1
  clear hat hks hbl
  obtain ⟨s, hs⟩ : ∃ s : Int, 7 * (i : Int) + 3 = s := ⟨_, rfl⟩
  have hw7 : IntKind.i64.wrap (7 * (i : Int)) = 7 * (i : Int) := IntWalk.i64_in _ (by omega)
  have hws : IntKind.i64.wrap (7 * (i : Int) + 3) = s := by rw [hs]; exact IntWalk.i64_in _ (by omega)
  rw [hs]
  clear hs
  have hiI : (i : Int) < (nl : Int) := by omega
  have hst := Lib.hid (AoW.start w s)
  have hLmH := Lib.hid (fun W (hb : Below w.heap.size w W) => h.below hb)
  have hgm := Lib.hid h.lt
  clear h
  unfold AddPost
  go_enter Try.func16, Try.ntmps16
  go_wp2_with fail
  clear hw7 hws
  obtain ⟨kn, hkn⟩ : ∃ kn, c.ks.zs.length = kn := ⟨_, rfl⟩
  have hknH := Lib.hid hkn
  clear hkn
  go_loopw [7] (fun iv wr => ∃ (k nb : Nat) (B : Option Addr) (cb : Nat), k ≤ kn ∧ k ≤ 10 ∧ iv = .int .i64 (k : Int) ∧ Hid (nb = k) ∧ Hid (AoW w wr w.heap.size s B nb cb (esO c k))) (fun iv _ => 10 - (Go.RowKit.intOf iv).toNat)
  case atStart => exact ⟨0, 0, none, 0, Nat.zero_le _, Nat.zero_le _, rfl, Lib.hid rfl, hst⟩
  case round =>
    clear hst
    obtain ⟨k, nb, B, cb, hk1, hk2, rfl, hnb, hA⟩ := hrel
    obtain ⟨c0, c1, c2, z1, _, _, _⟩ := hA.out
    obtain ⟨a0, a1, a2, a3⟩ := (hfc.out wr hA.out.bw).1
    rw [hknH.out] at a3
    have hkw : IntKind.i64.wrap ((k : Int) + 1) = (k : Int) + 1 := IntWalk.i64_in _ (by omega)
    by_cases hlt : k < kn ∧ k < 10
    case neg =>
      have hee : esO c k = esO c 10 := by
        unfold esO
        congr 1
        have := hknH.out
        by_cases h10 : k = 10
        · rw [h10]
        · rw [List.take_of_length_le (by omega), List.take_of_length_le (by omega)]
      have hAF := hA.out
      rw [hee] at hAF
      have hln : Hid ((esO c 10).length = nb) := Lib.hid (by rw [← hee, hnb.out]; exact esO_len c (by have := hknH.out; omega))
      have hAFH := Lib.hid hAF
      clear hAF hee hA
      by_cases hk : k < kn
      case neg =>
        have hnI : ¬ (k : Int) < (kn : Int) := by omega
        clear hlt hk
        go_upto_region 5 with fail
        have hS0 : (fun W : World => W.cell? ⟨w.heap.size, 0, none⟩ = some (.int .i64 s) ∧ W.cell? ⟨w.heap.size, 1, none⟩ = some (.slice B nb cb) ∧ W.cell? ⟨w.heap.size, 2, none⟩ = some (.slice none 0 0) ∧ W.cell? ⟨b, off + i * 4, none⟩ = some (.int .i64 c.z)) wr.drew := ⟨c0, c1, c2, a0⟩
        have hand : bits .and .i64 c.z 3 = c.z % 4 := and_mask2 c.z 2 3 rfl (by omega)
        have h5 := hAFH.out.below (Below.refl _ _).drew
        have hcall := add_any wr.drew g mb n m (c.z % 4) (i : Int) s B none cb 0 0 (esO c 10) ((hLmH.out _ h5.bw)) h5.r.in_ (fun b' off' e => by
          rcases h5.r.form with ⟨e3, _⟩ | ⟨g', e3, hb, _⟩
          · rw [e3] at e; cases e
          · rw [e3] at e
            injection e with e
            injection e with e _ _
            have := hgm.out
            omega) (by rw [hln.out, hnb.out]; omega) (by omega) (esO_wf c 10)
        rw [hln.out] at hcall
        have hcallH := Lib.hid hcall
        have hbwH := Lib.hid h5.bw
        clear c0 c1 c2 a0 a1 a2 a3 z1 hcall h5 hAFH
        refine region_anyC (fun i => decide (i < 9)) (fun W => W.cell? ⟨w.heap.size, 0, none⟩ = some (.int .i64 s) ∧ W.cell? ⟨w.heap.size, 1, none⟩ = some (.slice B nb cb) ∧ W.cell? ⟨w.heap.size, 2, none⟩ = some (.slice none 0 0) ∧ W.cell? ⟨b, off + i * 4, none⟩ = some (.int .i64 c.z)) (by kernel_rfl) ?_
        refine anyL_take 0 (v := ?_) rfl (by kernel_rfl) (fun _ _ _ h => h) (Or.inl ⟨by rfl, ?_⟩) hS0 ?_
        rotate_left
        focus (intro W hW; go_simp; try with_reducible rfl)
        simp only [Act.put, List.setIfInBounds_toArray, List.set_cons_zero, List.set_cons_succ]
        refine anyL_take 1 (v := ?_) rfl (by kernel_rfl) (fun _ _ _ h => h) (Or.inl ⟨by rfl, ?_⟩) hS0 ?_
        rotate_left
        focus (intro W hW; go_simp; try with_reducible rfl)
        simp only [Act.put, List.setIfInBounds_toArray, List.set_cons_zero, List.set_cons_succ]
        refine anyL_take 2 (v := ?_) rfl (by kernel_rfl) (fun _ _ _ h => h) (Or.inl ⟨by rfl, ?_⟩) hS0 ?_
        rotate_left
        focus (intro W hW; go_simp; try with_reducible rfl)
        simp only [Act.put, List.setIfInBounds_toArray, List.set_cons_zero, List.set_cons_succ]
        refine anyL_take 3 (v := ?_) rfl (by kernel_rfl) (fun _ _ _ h => h) (Or.inl ⟨by rfl, ?_⟩) hS0 ?_
        rotate_left
        focus (intro W hW; go_simp; try with_reducible rfl)
        simp only [Act.put, List.setIfInBounds_toArray, List.set_cons_zero, List.set_cons_succ]
        refine anyL_take 4 (v := ?_) rfl (by kernel_rfl) (fun _ _ _ h => h) (Or.inl ⟨by rfl, ?_⟩) hS0 ?_
        rotate_left
        focus (intro W hW; go_simp; try with_reducible rfl)
        simp only [Act.put, List.setIfInBounds_toArray, List.set_cons_zero, List.set_cons_succ]
        refine anyL_take 5 (v := ?_) rfl (by kernel_rfl) (fun _ _ _ h => h) (Or.inl ⟨by rfl, ?_⟩) hS0 ?_
        rotate_left
        focus (intro W hW; obtain ⟨c0, c1, c2, a0⟩ := hW; go_simp; try with_reducible rfl)
        simp only [Act.put, List.setIfInBounds_toArray, List.set_cons_zero, List.set_cons_succ]
        refine anyL_take 6 (v := ?_) rfl (by kernel_rfl) (fun _ _ _ h => h) (Or.inl ⟨by rfl, ?_⟩) hS0 ?_
        rotate_left
        focus (intro W hW; go_simp; try with_reducible rfl)
        simp only [Act.put, List.setIfInBounds_toArray, List.set_cons_zero, List.set_cons_succ]
        refine anyL_take 7 (v := ?_) rfl (by kernel_rfl) (fun _ _ _ h => h) (Or.inl ⟨by rfl, ?_⟩) hS0 ?_
        rotate_left
        focus (intro W hW; go_simp; try with_reducible rfl)
        simp only [Act.put, List.setIfInBounds_toArray, List.set_cons_zero, List.set_cons_succ]
        refine anyL_take 8 (v := ?_) rfl (by kernel_rfl) (fun _ _ _ h => h) (Or.inl ⟨by rfl, ?_⟩) hS0 ?_
        rotate_left
        focus (intro W hW; obtain ⟨c0, c1, c2, a0⟩ := hW; go_simp; try with_reducible rfl)
        simp only [Act.put, List.setIfInBounds_toArray, List.set_cons_zero, List.set_cons_succ]
        generalize wr.drew = Wd at hS0 hcallH hbwH ⊢
        refine anyL_one 9 rfl (by kernel_rfl) (fun K hK => ?_)
        go_simp
        refine hcallH.out.mono ?_
        rintro e' w6 ⟨rfl, h6, h7⟩
        refine hK.out _ _ (fun h => absurd h (by decide)) ?_
        clear hK K hS0 hcallH
        try simp only [Act.put, List.setIfInBounds_toArray, List.set_cons_zero, List.set_cons_succ]
        refine anyC_done (by kernel_rfl) ?_ _
        have hfin := Lib.hid (show LmAt w6 g mb (n + 10) (m.add (c.z % 4) (i : Int) s (esO c 10)) ∧ But2 w w6 g mb from ⟨h6.mono (by have := hnb.out; omega), (But2.of_below hbwH.out).trans h7⟩)
        clear h6 h7 hbwH
        go_wp2_with fail
        go_end0
        exact ⟨rfl, hfin.out.1, hfin.out.2⟩
      case pos =>
        have hlI : (k : Int) < (kn : Int) := by omega
        have hn10 : ¬ (k : Int) < 10 := by omega
        clear hlt hk
        go_upto_region 5 with fail
        have hS0 : (fun W : World => W.cell? ⟨w.heap.size, 0, none⟩ = some (.int .i64 s) ∧ W.cell? ⟨w.heap.size, 1, none⟩ = some (.slice B nb cb) ∧ W.cell? ⟨w.heap.size, 2, none⟩ = some (.slice none 0 0) ∧ W.cell? ⟨b, off + i * 4, none⟩ = some (.int .i64 c.z)) wr.drew := ⟨c0, c1, c2, a0⟩
        have hand : bits .and .i64 c.z 3 = c.z % 4 := and_mask2 c.z 2 3 rfl (by omega)
        have h5 := hAFH.out.below (Below.refl _ _).drew
        have hcall := add_any wr.drew g mb n m (c.z % 4) (i : Int) s B none cb 0 0 (esO c 10) ((hLmH.out _ h5.bw)) h5.r.in_ (fun b' off' e => by
          rcases h5.r.form with ⟨e3, _⟩ | ⟨g', e3, hb, _⟩
          · rw [e3] at e; cases e
          · rw [e3] at e
            injection e with e
            injection e with e _ _
            have := hgm.out
            omega) (by rw [hln.out, hnb.out]; omega) (by omega) (esO_wf c 10)
        rw [hln.out] at hcall
        have hcallH := Lib.hid hcall
        have hbwH := Lib.hid h5.bw
        clear c0 c1 c2 a0 a1 a2 a3 z1 hcall h5 hAFH
        refine region_anyC (fun i => decide (i < 9)) (fun W => W.cell? ⟨w.heap.size, 0, none⟩ = some (.int .i64 s) ∧ W.cell? ⟨w.heap.size, 1, none⟩ = some (.slice B nb cb) ∧ W.cell? ⟨w.heap.size, 2, none⟩ = some (.slice none 0 0) ∧ W.cell? ⟨b, off + i * 4, none⟩ = some (.int .i64 c.z)) (by kernel_rfl) ?_
        refine anyL_take 0 (v := ?_) rfl (by kernel_rfl) (fun _ _ _ h => h) (Or.inl ⟨by rfl, ?_⟩) hS0 ?_
        rotate_left
        focus (intro W hW; go_simp; try with_reducible rfl)
        simp only [Act.put, List.setIfInBounds_toArray, List.set_cons_zero, List.set_cons_succ]
        refine anyL_take 1 (v := ?_) rfl (by kernel_rfl) (fun _ _ _ h => h) (Or.inl ⟨by rfl, ?_⟩) hS0 ?_
        rotate_left
        focus (intro W hW; go_simp; try with_reducible rfl)
        simp only [Act.put, List.setIfInBounds_toArray, List.set_cons_zero, List.set_cons_succ]
        refine anyL_take 2 (v := ?_) rfl (by kernel_rfl) (fun _ _ _ h => h) (Or.inl ⟨by rfl, ?_⟩) hS0 ?_
        rotate_left
        focus (intro W hW; go_simp; try with_reducible rfl)
        simp only [Act.put, List.setIfInBounds_toArray, List.set_cons_zero, List.set_cons_succ]
        refine anyL_take 3 (v := ?_) rfl (by kernel_rfl) (fun _ _ _ h => h) (Or.inl ⟨by rfl, ?_⟩) hS0 ?_
        rotate_left
        focus (intro W hW; go_simp; try with_reducible rfl)
        simp only [Act.put, List.setIfInBounds_toArray, List.set_cons_zero, List.set_cons_succ]
        refine anyL_take 4 (v := ?_) rfl (by kernel_rfl) (fun _ _ _ h => h) (Or.inl ⟨by rfl, ?_⟩) hS0 ?_
        rotate_left
        focus (intro W hW; go_simp; try with_reducible rfl)
        simp only [Act.put, List.setIfInBounds_toArray, List.set_cons_zero, List.set_cons_succ]
        refine anyL_take 5 (v := ?_) rfl (by kernel_rfl) (fun _ _ _ h => h) (Or.inl ⟨by rfl, ?_⟩) hS0 ?_
        rotate_left
        focus (intro W hW; obtain ⟨c0, c1, c2, a0⟩ := hW; go_simp; try with_reducible rfl)
        simp only [Act.put, List.setIfInBounds_toArray, List.set_cons_zero, List.set_cons_succ]
        refine anyL_take 6 (v := ?_) rfl (by kernel_rfl) (fun _ _ _ h => h) (Or.inl ⟨by rfl, ?_⟩) hS0 ?_
        rotate_left
        focus (intro W hW; go_simp; try with_reducible rfl)
        simp only [Act.put, List.setIfInBounds_toArray, List.set_cons_zero, List.set_cons_succ]
        refine anyL_take 7 (v := ?_) rfl (by kernel_rfl) (fun _ _ _ h => h) (Or.inl ⟨by rfl, ?_⟩) hS0 ?_
        rotate_left
        focus (intro W hW; go_simp; try with_reducible rfl)
        simp only [Act.put, List.setIfInBounds_toArray, List.set_cons_zero, List.set_cons_succ]
        refine anyL_take 8 (v := ?_) rfl (by kernel_rfl) (fun _ _ _ h => h) (Or.inl ⟨by rfl, ?_⟩) hS0 ?_
        rotate_left
        focus (intro W hW; obtain ⟨c0, c1, c2, a0⟩ := hW; go_simp; try with_reducible rfl)
        simp only [Act.put, List.setIfInBounds_toArray, List.set_cons_zero, List.set_cons_succ]
        generalize wr.drew = Wd at hS0 hcallH hbwH ⊢
        refine anyL_one 9 rfl (by kernel_rfl) (fun K hK => ?_)
        go_simp
        refine hcallH.out.mono ?_
        rintro e' w6 ⟨rfl, h6, h7⟩
        refine hK.out _ _ (fun h => absurd h (by decide)) ?_
        clear hK K hS0 hcallH
        try simp only [Act.put, List.setIfInBounds_toArray, List.set_cons_zero, List.set_cons_succ]
        refine anyC_done (by kernel_rfl) ?_ _
        have hfin := Lib.hid (show LmAt w6 g mb (n + 10) (m.add (c.z % 4) (i : Int) s (esO c 10)) ∧ But2 w w6 g mb from ⟨h6.mono (by have := hnb.out; omega), (But2.of_below hbwH.out).trans h7⟩)
        clear h6 h7 hbwH
        go_wp2_with fail
        go_end0
        exact ⟨rfl, hfin.out.1, hfin.out.2⟩
    case pos =>
      have hl1 : (k : Int) < (kn : Int) := by omega
      have hl2 : (k : Int) < 10 := by omega
      have hkz : k < c.ks.zs.length := by rw [hknH.out]; exact hlt.1
      obtain ⟨kb, ko, hkA, _, _⟩ := (hfc.out wr hA.out.bw).2.at_ hkz
      have hcell : Hid (∀ W, Below w.heap.size w W → W.cell? ⟨kb, ko + k, none⟩ = some (.int .i64 c.ks.zs[k])) := Lib.hid (fun W hb => by
        obtain ⟨b', o', e, _, h1⟩ := (hfc.out W hb).2.at_ hkz
        rw [hkA] at e
        injection e with e
        injection e with e1 e2 _
        rw [e1, e2]
        exact h1)
      have hsu := Lib.hid (esO_succ c hkz)
      rw [hkA] at a3
      have hks3 : Hid (∀ W, Below w.heap.size w W → W.cell? ⟨b, off + i * 4 + 3, none⟩ = some (.slice (some ⟨kb, ko, none⟩) kn c.ks.cap)) := Lib.hid (fun W hb => by
        have h1 := (hfc.out W hb).1.ks
        rw [hknH.out, hkA] at h1
        exact h1)
      generalize c.ks.zs[k] = bk at hcell hsu
      have hand : bits .and .i64 bk 15 = bk % 16 := and_mask2 bk 4 15 rfl (by omega)
      have hS0 : (fun W : World => W.cell? ⟨w.heap.size, 1, none⟩ = some (.slice B nb cb) ∧ W.frozen? ⟨w.heap.size, 1, none⟩ = false ∧ Below w.heap.size w W) wr.drew := ⟨c1, z1, hA.out.bw.drew⟩
      have hA5 := Lib.hid (hA.out.below (Below.refl _ _).drew)
      have hmeas := Lib.hid hlt
      clear hlt hA hkA
      go_upto_region 4 with fail
      clear a0 a1 a2 a3 c0 c1 c2 z1
      refine region_anyC (fun i => decide (i < 15)) (fun W => W.cell? ⟨w.heap.size, 1, none⟩ = some (.slice B nb cb) ∧ W.frozen? ⟨w.heap.size, 1, none⟩ = false ∧ Below w.heap.size w W) (by kernel_rfl) ?_
      refine anyL_take 0 (v := ?_) rfl (by kernel_rfl) (fun _ _ _ h => h) (Or.inl ⟨by rfl, ?_⟩) hS0 ?_
      rotate_left
      focus (intro W hW; go_simp; try with_reducible rfl)
      simp only [Act.put, List.setIfInBounds_toArray, List.set_cons_zero, List.set_cons_succ]
      refine anyL_take 1 (v := ?_) rfl (by kernel_rfl) (fun _ _ _ h => h) (Or.inl ⟨by rfl, ?_⟩) hS0 ?_
      rotate_left
      focus (intro W hW; obtain ⟨d1, _, _⟩ := hW; go_simp; try with_reducible rfl)
      simp only [Act.put, List.setIfInBounds_toArray, List.set_cons_zero, List.set_cons_succ]
      refine anyL_take 2 (v := ?_) rfl (by kernel_rfl) (fun _ _ _ h => h) (Or.inl ⟨by rfl, ?_⟩) hS0 ?_
      rotate_left
      focus (intro W hW; go_simp; try with_reducible rfl)
      simp only [Act.put, List.setIfInBounds_toArray, List.set_cons_zero, List.set_cons_succ]
      refine anyL_take 3 (v := ?_) rfl (by kernel_rfl) (fun _ _ _ h => h) (Or.inl ⟨by rfl, ?_⟩) hS0 ?_
      rotate_left
      focus (intro W hW; go_simp; try with_reducible rfl)
      simp only [Act.put, List.setIfInBounds_toArray, List.set_cons_zero, List.set_cons_succ]
      refine anyL_take 4 (v := ?_) rfl (by kernel_rfl) (fun _ _ _ h => h) (Or.inl ⟨by rfl, ?_⟩) hS0 ?_
      rotate_left
      focus (intro W hW; go_simp; try with_reducible rfl)
      simp only [Act.put, List.setIfInBounds_toArray, List.set_cons_zero, List.set_cons_succ]
      refine anyL_take 5 (v := ?_) rfl (by kernel_rfl) (fun _ _ _ h => h) (Or.inl ⟨by rfl, ?_⟩) hS0 ?_
      rotate_left
      focus (intro W hW; go_simp; try with_reducible rfl)
      simp only [Act.put, List.setIfInBounds_toArray, List.set_cons_zero, List.set_cons_succ]
      refine anyL_take 6 (v := ?_) rfl (by kernel_rfl) (fun _ _ _ h => h) (Or.inl ⟨by rfl, ?_⟩) hS0 ?_
      rotate_left
      focus (intro W hW; have f3 := hks3.out W hW.2.2; go_simp; try with_reducible rfl)
      simp only [Act.put, List.setIfInBounds_toArray, List.set_cons_zero, List.set_cons_succ]
      refine anyL_take 7 (v := ?_) rfl (by kernel_rfl) (fun _ _ _ h => h) (Or.inl ⟨by rfl, ?_⟩) hS0 ?_
      rotate_left
      focus (intro W hW; go_simp; try with_reducible rfl)
      simp only [Act.put, List.setIfInBounds_toArray, List.set_cons_zero, List.set_cons_succ]
      refine anyL_take 8 (v := ?_) rfl (by kernel_rfl) (fun _ _ _ h => h) (Or.inl ⟨by rfl, ?_⟩) hS0 ?_
      rotate_left
      focus (intro W hW; go_simp; try with_reducible rfl)
      simp only [Act.put, List.setIfInBounds_toArray, List.set_cons_zero, List.set_cons_succ]
      refine anyL_take 9 (v := ?_) rfl (by kernel_rfl) (fun _ _ _ h => h) (Or.inl ⟨by rfl, ?_⟩) hS0 ?_
      rotate_left
      focus (intro W hW; have f9 := hcell.out W hW.2.2; go_simp; try with_reducible rfl)
      simp only [Act.put, List.setIfInBounds_toArray, List.set_cons_zero, List.set_cons_succ]
      refine anyL_take 10 (v := ?_) rfl (by kernel_rfl) (fun _ _ _ h => h) (Or.inl ⟨by rfl, ?_⟩) hS0 ?_
      rotate_left
      focus (intro W hW; go_simp; try with_reducible rfl)
      simp only [Act.put, List.setIfInBounds_toArray, List.set_cons_zero, List.set_cons_succ]
      refine anyL_take 11 (v := ?_) rfl (by kernel_rfl) (fun _ _ _ h => h) (Or.inl ⟨by rfl, ?_⟩) hS0 ?_
      rotate_left
      focus (intro W hW; go_simp; try with_reducible rfl)
      simp only [Act.put, List.setIfInBounds_toArray, List.set_cons_zero, List.set_cons_succ]
      generalize wr.drew = Wd at hS0 hA5 ⊢
      have hal := (Below.refl Wd.heap.size Wd).alloc (Nat.le_refl _) (.cells #[.int .i64 (bk % 16), .bool false] 50)
      refine anyL_one 12 rfl (by kernel_rfl) (fun K hK => ?_)
      go_simp
      have hA6 := hA5.out.below hal
      have hS1 : (fun W : World => W.cell? ⟨w.heap.size, 1, none⟩ = some (.slice B nb cb) ∧ W.frozen? ⟨w.heap.size, 1, none⟩ = false ∧ Below w.heap.size w W) (Wd.alloc (.cells #[.int .i64 (bk % 16), .bool false] 50)) := ⟨hA6.c1, hA6.z1, hA6.bw⟩
      refine hK.out _ _ (fun _ => hS1) ?_
      clear hK K hS0 hA5
      try simp only [Act.put, List.setIfInBounds_toArray, List.set_cons_zero, List.set_cons_succ]
      obtain ⟨B', cb', W1, hrun, hb1, d1, y1, hA7⟩ := hA6.push (by rw [hnb.out]; exact (esO_len c (by have := hknH.out; have := hmeas.out; omega)).symm) (by rw [hnb.out]; omega) (m := Wd.heap.size) (x := (bk % 16, false)) (fun j hj => by
        rw [World.cell?_alloc_new]
        rcases (by omega : j = 0 ∨ j = 1) with rfl | rfl <;> rfl)
      rw [← hsu.out] at hA7
      have hA7H := Lib.hid hA7
      have hS2 : (fun W : World => W.cell? ⟨w.heap.size, 1, none⟩ = some (.slice B nb cb) ∧ W.frozen? ⟨w.heap.size, 1, none⟩ = false ∧ Below w.heap.size w W) W1 := ⟨d1, y1, hA6.bw.trans (hb1.mono (Nat.le_succ _))⟩
      clear hA6 hA7 hS1 hal hb1
      refine anyL_one 13 rfl (by kernel_rfl) (fun K hK => ?_)
      refine append_run_step rfl (.tmp 27) (.tmp 38) 51 rfl rfl rfl hrun ?_
      refine hK.out _ _ (fun _ => hS2) ?_
      clear hK K hrun
      try simp only [Act.put, List.setIfInBounds_toArray, List.set_cons_zero, List.set_cons_succ]
      refine anyL_take 14 (v := ?_) rfl (by kernel_rfl) (fun _ _ _ h => h) (Or.inl ⟨by rfl, ?_⟩) hS2 ?_
      rotate_left
      focus (intro W hW; go_simp; try with_reducible rfl)
      simp only [Act.put, List.setIfInBounds_toArray, List.set_cons_zero, List.set_cons_succ]
      refine anyL_one 15 rfl (by kernel_rfl) (fun K hK => ?_)
      go_simp
      refine hK.out _ _ (fun h => absurd h (by decide)) ?_
      clear hK K hS2 d1 y1
      try simp only [Act.put, List.setIfInBounds_toArray, List.set_cons_zero, List.set_cons_succ]
      refine anyC_done (by kernel_rfl) ?_ _
      go_wp2_with fail
      go_roundw
      case rel => exact ⟨k + 1, nb + 1, B', cb', hmeas.out.1, hmeas.out.2, by go_num, Lib.hid (by rw [hnb.out]), hA7H⟩
      case measure => simp only [Go.RowKit.intOf]; omega
end Go.Proofs.Ytchipfpnikkbeaa
