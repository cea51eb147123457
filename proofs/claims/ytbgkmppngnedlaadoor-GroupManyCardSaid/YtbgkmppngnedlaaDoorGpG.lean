/- Decode of group. -/
import Derived.Test.YtbgkmppngnedlaaDoorGpF
namespace Go.Proofs.YtbgkmppngnedlaaDoor
open Go.RowKit Rec Crc Num Xor

def FreeG (W : World) (X : Nat) : Prop := (∃ u0 u1 u2, W.cell? ⟨X, 0, none⟩ = some u0 ∧ W.cell? ⟨X, 1, none⟩ = some u1 ∧ W.cell? ⟨X, 2, none⟩ = some u2) ∧ W.frozen? ⟨X, 0, none⟩ = false ∧ W.frozen? ⟨X, 1, none⟩ = false ∧ W.frozen? ⟨X, 2, none⟩ = false
def SetG (w W : World) (X : Nat) (q : Int) (A1 : Option Addr) (n1 c1 : Nat) (A2 : Option Addr) (n2 c2 : Nat) : Prop := W.cell? ⟨X, 0, none⟩ = some (.int .i64 q) ∧ W.cell? ⟨X, 1, none⟩ = some (.slice A1 n1 c1) ∧ W.cell? ⟨X, 2, none⟩ = some (.slice A2 n2 c2) ∧ Below w.heap.size w W
theorem FreeG.set {w W : World} {X : Nat} (h : FreeG W X) (hb : Below w.heap.size w W) (hX : w.heap.size ≤ X) (q : Int) (A1 : Option Addr) (n1 c1 : Nat) (A2 : Option Addr) (n2 c2 : Nat) :
    SetG w (((W.setCell ⟨X, 0, none⟩ (.int .i64 q)).setCell ⟨X, 1, none⟩ (.slice A1 n1 c1)).setCell ⟨X, 2, none⟩ (.slice A2 n2 c2)) X q A1 n1 c1 A2 n2 c2 := by
  obtain ⟨⟨u0, u1, u2, h0, h1, h2⟩, z0, z1, z2⟩ := h
  exact ⟨by go_simp, by go_simp, by go_simp, ((hb.setCell hX _).setCell hX _).setCell hX _⟩
theorem FreeG.below {W W' : World} {X : Nat} (h : FreeG W X) (hb : Below W.heap.size W W') : FreeG W' X := by
  obtain ⟨⟨u0, u1, u2, h0, h1, h2⟩, z0, z1, z2⟩ := h
  have hl := lt_of_cell h0
  exact ⟨⟨u0, u1, u2, (hb.cell hl).trans h0, (hb.cell hl).trans h1, (hb.cell hl).trans h2⟩, (hb.frozen hl).trans z0, (hb.frozen hl).trans z1, (hb.frozen hl).trans z2⟩
theorem grownBy_setG (w : World) (b i : Nat) (v : Value) : w.grownBy (w.setCell ⟨b, i, none⟩ v) (some b) := ⟨rfl, rfl, rfl, by simp [World.setCell], fun k _ hk => Below.heap_setCell _ _ _ _ (fun e => hk (by rw [e]))⟩
theorem row_setG {α : Type} {E : Enc α} {W : World} {base cap : Nat} {t : TypeId} {A : Option Addr} {xs : List α} {X : Nat} (h : E.Row W base t A cap xs) (hX : X < base) (a b c : Value) : E.Row (((W.setCell ⟨X, 0, none⟩ a).setCell ⟨X, 1, none⟩ b).setCell ⟨X, 2, none⟩ c) base t A cap xs := by
  have hne : ∀ g, A = some ⟨g, 0, none⟩ → some X ≠ some g := fun g e e2 => by
    rcases h.form with ⟨e1, _⟩ | ⟨g', e1, hb, _⟩
    · rw [e1] at e; cases e
    · rw [e1] at e; injection e with e; injection e with e _ _; injection e2 with e2; omega
  exact ((h.far (grownBy_setG _ _ _ _) hne).far (grownBy_setG _ _ _ _) hne).far (grownBy_setG _ _ _ _) hne
theorem fresh_postG {P : Program} {f : Func} {Q : Ending → World → Prop} {x : Exit} {a : Act} {W : World} (R : World → Prop) (hR : R W) (h : ∀ W2, R W2 → bodyPost P f Q x a W2) : bodyPost P f Q x a W := h W hR
def DecPost (w : World) (r : Gp × Int × Int) (e : Ending) (w' : World) : Prop := ∃ (A1 : Option Addr) (c1 : Nat) (A2 : Option Addr) (c2 : Nat), e = .returned (.tuple #[.agg #[.int .i64 r.1.q, .slice A1 r.1.es.length c1, .slice A2 r.1.ds.length c2], .int .i64 r.2.1, .int .i64 r.2.2]) ∧
  geE.Row w' w.heap.size 47 A1 c1 r.1.es ∧ stE.Row w' w.heap.size 9 A2 c2 r.1.ds ∧ Below w.heap.size w w'
theorem dec_fail (w : World) (err : Int) : ∀ W, Below w.heap.size w W → DecPost w (zG, 0, err) (.returned (.tuple #[.agg #[.int .i64 0, .slice none 0 0, .slice none 0 0], .int .i64 0, .int .i64 err])) W := fun _ hb => ⟨none, 0, none, 0, rfl, Enc.Row.nil _ _ _, Enc.Row.nil _ _ _, hb⟩
theorem checksum_sumS (h b : ByteArray) (w : World) (hT : Tab w) (hh : h.size ≤ 4096) (hb : b.size ≤ 4096) : Calls Tryd.prog 18 #[.string h, .string b] w fun e w' => e = .returned (.string (sumS h b)) ∧ Below w.heap.size w w' := checksumG_any h b w hT hh hb
set_option maxRecDepth 100000 in
set_option maxHeartbeats 8000000 in
theorem decode_anyG (s : ByteArray) (w : World) (hs : s.size ≤ maxLen) (hT : Tab w) : Calls Tryd.prog 12 #[.string s] w (DecPost w (decG s)) := by
  have hB1 := (Below.refl w.heap.size w).alloc (Nat.le_refl _) (.cells #[.int .i64 0, .slice none 0 0, .slice none 0 0] 30)
  have hF1 : FreeG (w.alloc (.cells #[.int .i64 0, .slice none 0 0, .slice none 0 0] 30)) w.heap.size := ⟨⟨_, _, _, by go_simp; rfl, by go_simp; rfl, by go_simp; rfl⟩, by go_simp, by go_simp, by go_simp⟩
  have hst := Lib.hid (And.intro hF1 hB1)
  have hs1 : w.heap.size < (w.alloc (.cells #[.int .i64 0, .slice none 0 0, .slice none 0 0] 30)).heap.size := by simp
  have hs1H := Lib.hid hs1
  clear hF1 hs1
  unfold decG
  by_cases he : s = ⟨#[]⟩
  case pos =>
    rw [if_pos he, he]
    have hset := Lib.hid (hst.out.1.set hst.out.2 (Nat.le_refl _) 0 none 0 0 none 0 0)
    have hfin := Lib.hid (dec_fail w 13)
    have hbb := Lib.hid hB1
    clear he hs hT hB1
    go_enter Tryd.func12, Tryd.ntmps12
    go_wp2_with fail
    refine bodyPost_ret (v := .tuple #[.agg #[.int .i64 0, .slice none 0 0, .slice none 0 0], .int .i64 0, .int .i64 13]) (by simp [results, Tryd.results12, go_sem]) rfl ?_
    exact hfin.out _ hbb.out
  rw [if_neg he]
  obtain ⟨he1, he2⟩ := not_empty_of (full_of he)
  clear he
  have hTA := Lib.hid (fun W (hb : Below w.heap.size w W) => hT.below hb)
  have hpar : ∀ W, Calls Tryd.prog 22 #[.string s] W (PPost W s (formG s)) := fun W => by
    cases hh : headOk s with
    | false =>
      have hf : formG s = false := by unfold formG; rw [hh]; rfl
      rw [hf]
      exact (parse_no1 s W hh).mono fun e w' h => Or.inl ⟨rfl, h⟩
    | true => exact parse_rest s W hs hh
  cases hf : formG s with
  | false =>
    rw [if_pos rfl]
    rw [hf] at hpar
    have hparH := Lib.hid (fun W => (hpar W).mono (fun e w' h => (h.resolve_right (fun h2 => (by cases h2.1))).2))
    have hfin := Lib.hid (dec_fail w 10)
    clear hpar hf hs hT hB1
    unfold PNo at hparH
    go_enter Tryd.func12, Tryd.ntmps12
    go_wp2_with fail
    refine (hparH.out _).mono ?_
    rintro e w1 ⟨rfl, hb1⟩
    have hFr := Lib.hid (show FreeG w1 w.heap.size ∧ Below w.heap.size w w1 from ⟨hst.out.1.below hb1, bmore hst.out.2 hb1⟩)
    have hset := Lib.hid (hFr.out.1.set hFr.out.2 (Nat.le_refl _) 0 none 0 0 none 0 0)
    obtain ⟨⟨u0, u1, u2, x0, x1, x2⟩, z0, z1, z2⟩ := hFr.out.1
    clear hb1 hst hparH
    go_wp2_with fail
    refine fresh_postG (fun W => SetG w W w.heap.size 0 none 0 0 none 0 0) hset.out ?_
    rintro W9 ⟨k0, k1, k2, hb9⟩
    have hb9H := Lib.hid hb9
    clear hb9 hset
    refine bodyPost_ret (v := .tuple #[.agg #[.int .i64 0, .slice none 0 0, .slice none 0 0], .int .i64 0, .int .i64 10]) (by simp [results, Tryd.results12, go_sem, k0, k1, k2]) rfl ?_
    exact hfin.out _ hb9H.out
  | true =>
    rw [hf] at hpar
    rw [if_neg (by simp)]
    have hparH := Lib.hid (fun W => (hpar W).mono (fun e w' h => (h.resolve_left (fun h2 => (by cases h2.1))).2))
    unfold PYes at hparH
    have hform := hf
    unfold formG headOk at hform
    simp only [Bool.and_eq_true, decide_eq_true_eq] at hform
    obtain ⟨⟨h64, _⟩, hpm, _⟩ := hform
    have hc6 := hpm.2
    have hel := entS_len s (cnt s)
    have hble := blkE_le (entS s (cnt s))
    rw [hel] at hble
    have hsub := sumLn_blk (entS s (cnt s))
    unfold grpS datS
    generalize entS s (cnt s) = es at hparH hel hble hsub ⊢
    generalize seqS s = q at hparH ⊢
    generalize cnt s = c at hparH hc6 hel hble hpm ⊢
    have hblk := Lib.hid (fun W A cap (h : geE.In W A es) => by
      have h1 := blocks_anyG W A cap es h (by omega)
      rw [hel] at h1
      exact h1)
    obtain ⟨nb, hnb⟩ : ∃ nb, blkE es = nb := ⟨_, rfl⟩
    rw [hnb] at hble hsub hblk ⊢
    have hw64 : IntKind.i64.wrap ((nb : Int) * 64) = ((64 * nb : Nat) : Int) := by rw [IntWalk.i64_in _ (by omega)]; omega
    obtain ⟨m, hm⟩ : ∃ m, 64 * nb = m := ⟨_, rfl⟩
    rw [hm] at hw64 hsub ⊢
    have hm64 : 64 ≤ m := by omega
    have hmb : m ≤ 448 := by omega
    have hparE := hparH
    clear hpar hf hpm hnb
    by_cases hsz : s.size < m
    case pos =>
      rw [if_pos hsz]
      have hszI : (s.size : Int) < (m : Int) := by omega
      have hfin := Lib.hid (dec_fail w 10)
      clear hs hT hB1 hsz
      go_enter Tryd.func12, Tryd.ntmps12
      go_wp2_with fail
      refine (hparH.out _).mono ?_
      rintro e w1 ⟨A1, c1, rfl, hr1, hb1⟩
      have hFr := Lib.hid (show FreeG w1 w.heap.size ∧ Below w.heap.size w w1 from ⟨hst.out.1.below hb1, bmore hst.out.2 hb1⟩)
      have hbl := Lib.hid (hblk.out w1 A1 c1 hr1.in_)
      clear hr1 hb1 hst hparH
      go_wp2_with fail
      refine hbl.out.mono ?_
      rintro e w2 ⟨rfl, hb2⟩
      have hFr2 := Lib.hid (show FreeG w2 w.heap.size ∧ Below w.heap.size w w2 from ⟨hFr.out.1.below hb2, bmore hFr.out.2 hb2⟩)
      have hset := Lib.hid (hFr2.out.1.set hFr2.out.2 (Nat.le_refl _) 0 none 0 0 none 0 0)
      obtain ⟨⟨u0, u1, u2, x0, x1, x2⟩, z0, z1, z2⟩ := hFr2.out.1
      clear hb2 hbl hFr
      go_wp2_with fail
      refine fresh_postG (fun W => SetG w W w.heap.size 0 none 0 0 none 0 0) hset.out ?_
      rintro W9 ⟨k0, k1, k2, hb9⟩
      have hb9H := Lib.hid hb9
      clear hb9 hset
      refine bodyPost_ret (v := .tuple #[.agg #[.int .i64 0, .slice none 0 0, .slice none 0 0], .int .i64 0, .int .i64 10]) (by simp [results, Tryd.results12, go_sem, k0, k1, k2]) rfl ?_
      exact hfin.out _ hb9H.out
    case neg =>
      rw [if_neg hsz]
      have hszI : ¬ (s.size : Int) < (m : Int) := by omega
      have hms : m ≤ s.size := by omega
      have hmsI : (m : Int) ≤ (s.size : Int) := by omega
      have hm64I : (64 : Int) ≤ (m : Int) := by omega
      have hhb := Lib.hid (fun W => headBytes_any c (by omega) W)
      have ha4 : IntKind.i64.wrap (((9 + 4 * c : Nat) : Int) + 4) = ((13 + 4 * c : Nat) : Int) := by rw [IntWalk.i64_in _ (by omega)]; omega
      have hck := Lib.hid (fun W (hb : Below w.heap.size w W) => checksum_sumS (s.extract 0 (9 + 4 * c)) (s.extract 64 m) W (hTA.out W hb) (by rw [ByteArray.size_extract]; omega) (by rw [ByteArray.size_extract]; omega))
      have hds : Hid ((s.extract 64 m).size + 64 = m ∧ sumLn es ≤ (s.extract 64 m).size ∧ (s.extract 64 m).size ≤ maxLen) := Lib.hid ⟨by rw [ByteArray.size_extract]; omega, by rw [ByteArray.size_extract]; omega, by rw [ByteArray.size_extract]; unfold maxLen; omega⟩
      generalize sumS (s.extract 0 (9 + 4 * c)) (s.extract 64 m) = cs at hck ⊢
      obtain ⟨b1, hb1e⟩ : ∃ b1, 9 + 4 * c = b1 := ⟨_, rfl⟩
      obtain ⟨b2, hb2e⟩ : ∃ b2, 13 + 4 * c = b2 := ⟨_, rfl⟩
      rw [hb1e] at hhb ha4 hck ⊢
      rw [hb2e] at ha4 ⊢
      have hbb : b1 ≤ b2 := by omega
      have hbbI : (b1 : Int) ≤ (b2 : Int) := by omega
      have hb2s : b2 ≤ s.size := by omega
      have hb2sI : (b2 : Int) ≤ (s.size : Int) := by omega
      have hb1s : b1 ≤ s.size := by omega
      have hb1sI : (b1 : Int) ≤ (s.size : Int) := by omega
      obtain ⟨res, hres⟩ : ∃ res, (if s.extract b1 b2 = cs then ((⟨q, es, cutE es (s.extract 64 m)⟩ : Gp), (nb : Int), (0 : Int)) else (zG, 0, 11)) = res := ⟨_, rfl⟩
      rw [hres]
      have hresH := Lib.hid hres
      have helH := Lib.hid hel
      clear hres hb1e hb2e hs hT hB1 hsz hel hble hsub
      go_enter Tryd.func12, Tryd.ntmps12
      go_wp2_with fail
      refine (hparH.out _).mono ?_
      rintro e w1 ⟨A1, c1, rfl, hr1, hb1⟩
      have hFr0 := Lib.hid (show FreeG w1 w.heap.size ∧ Below w.heap.size w w1 from ⟨hst.out.1.below hb1, bmore hst.out.2 hb1⟩)
      have hbl := Lib.hid (hblk.out w1 A1 c1 hr1.in_)
      have hr1H := Lib.hid (hr1.mono (show w.heap.size + 1 ≤ _ from hs1H.out))
      clear hr1 hb1 hst hparH hparE hblk
      go_wp2_with fail
      refine hbl.out.mono ?_
      rintro e w2 ⟨rfl, hb2⟩
      have hFr := Lib.hid (show FreeG w2 w.heap.size ∧ Below w.heap.size w w2 from ⟨hFr0.out.1.below hb2, bmore hFr0.out.2 hb2⟩)
      have hr2H := Lib.hid (hr1H.out.below hb2)
      clear hb2 hbl hFr0 hr1H
      go_wp2_with fail
      refine (hhb.out _).mono ?_
      rintro e w3 ⟨rfl, hww⟩
      rw [hww]
      clear hww w3
      obtain ⟨t, ht⟩ : ∃ t : Bool, ((s.extract b1 b2).toList == cs.toList) = t := ⟨_, rfl⟩
      have hte : Hid (t = true ↔ s.extract b1 b2 = cs) := Lib.hid (by
        rw [← ht, beq_iff_eq, ByteArray.toList_eq, ByteArray.toList_eq]
        exact ⟨fun h => ByteArray.ext (Array.ext' h), fun h => by rw [h]⟩)
      have hS0 : (fun W : World => Below w2.heap.size w2 W) w2.drew := (Below.refl _ _).drew
      go_upto_region 11 with fail
      go_cut [48] from 38 to 48 (fun c wx => c = .bool (!t) ∧ Below w2.heap.size w2 wx)
      case first =>
        refine region_anyC (fun _ => true) (fun W : World => Below w2.heap.size w2 W) (by kernel_rfl) ?_
        refine anyL_take 0 (v := ?_) rfl (by kernel_rfl) (fun _ _ _ h => h) (Or.inl ⟨by rfl, ?_⟩) hS0 ?_
        rotate_left
        focus (intro W hW; go_simp; try with_reducible rfl)
        simp only [Act.put, List.setIfInBounds_toArray, List.set_cons_zero, List.set_cons_succ]
        refine anyL_take 1 (v := ?_) rfl (by kernel_rfl) (fun _ _ _ h => h) (Or.inl ⟨by rfl, ?_⟩) hS0 ?_
        rotate_left
        focus (intro W hW; go_simp; try with_reducible rfl)
        simp only [Act.put, List.setIfInBounds_toArray, List.set_cons_zero, List.set_cons_succ]
        refine anyL_take 2 (v := ?_) rfl (by kernel_rfl) (fun _ _ _ h => h) (Or.inl ⟨by rfl, ?_⟩) hS0 ?_
        rotate_left
        focus (intro W hW; go_simp; try with_reducible rfl)
        simp only [Act.put, List.setIfInBounds_toArray, List.set_cons_zero, List.set_cons_succ]
        refine anyL_take 3 (v := ?_) rfl (by kernel_rfl) (fun _ _ _ h => h) (Or.inl ⟨by rfl, ?_⟩) hS0 ?_
        rotate_left
        focus (intro W hW; go_simp; try with_reducible rfl)
        simp only [Act.put, List.setIfInBounds_toArray, List.set_cons_zero, List.set_cons_succ]
        refine anyL_take 4 (v := ?_) rfl (by kernel_rfl) (fun _ _ _ h => h) (Or.inl ⟨by rfl, ?_⟩) hS0 ?_
        rotate_left
        focus (intro W hW; go_simp; try with_reducible rfl)
        simp only [Act.put, List.setIfInBounds_toArray, List.set_cons_zero, List.set_cons_succ]
        refine anyL_take 5 (v := ?_) rfl (by kernel_rfl) (fun _ _ _ h => h) (Or.inl ⟨by rfl, ?_⟩) hS0 ?_
        rotate_left
        focus (intro W hW; go_simp; try with_reducible rfl)
        simp only [Act.put, List.setIfInBounds_toArray, List.set_cons_zero, List.set_cons_succ]
        refine anyL_take 6 (v := ?_) rfl (by kernel_rfl) (fun _ _ _ h => h) (Or.inl ⟨by rfl, ?_⟩) hS0 ?_
        rotate_left
        focus (intro W hW; go_simp; try with_reducible rfl)
        simp only [Act.put, List.setIfInBounds_toArray, List.set_cons_zero, List.set_cons_succ]
        refine anyL_take 7 (v := ?_) rfl (by kernel_rfl) (fun _ _ _ h => h) (Or.inl ⟨by rfl, ?_⟩) hS0 ?_
        rotate_left
        focus (intro W hW; go_simp; try with_reducible rfl)
        simp only [Act.put, List.setIfInBounds_toArray, List.set_cons_zero, List.set_cons_succ]
        refine anyL_take 8 (v := ?_) rfl (by kernel_rfl) (fun _ _ _ h => h) (Or.inl ⟨by rfl, ?_⟩) hS0 ?_
        rotate_left
        focus (intro W hW; go_simp; try with_reducible rfl)
        simp only [Act.put, List.setIfInBounds_toArray, List.set_cons_zero, List.set_cons_succ]
        refine anyL_one 9 rfl (by kernel_rfl) (fun K hK => ?_)
        go_simp
        refine (hck.out _ (bmore hFr.out.2 hS0)).mono ?_
        rintro e' w6 ⟨rfl, hb6⟩
        dsimp only
        refine hK.out _ _ (fun _ => bmore hS0 hb6) ?_
        clear hK K
        try simp only [Act.put, List.setIfInBounds_toArray, List.set_cons_zero, List.set_cons_succ]
        have hS1 := bmore hS0 hb6
        refine anyL_take 10 (v := ?_) rfl (by kernel_rfl) (fun _ _ _ h => h) (Or.inl ⟨by rfl, ?_⟩) hS1 ?_
        rotate_left
        focus (intro W hW; go_simp; try with_reducible rfl)
        simp only [Act.put, List.setIfInBounds_toArray, List.set_cons_zero, List.set_cons_succ]
        refine anyC_done (by kernel_rfl) ?_ _
        go_wp2_with fail
        go_meet
        exact ⟨rfl, hS1⟩
      case rest =>
        obtain ⟨rfl, hbx⟩ := hcut
        have hFr3 := Lib.hid (show FreeG wc w.heap.size ∧ Below w.heap.size w wc from ⟨hFr.out.1.below hbx, bmore hFr.out.2 hbx⟩)
        have hr3H := Lib.hid (hr2H.out.below hbx)
        clear hbx hFr hr2H hS0 ht hck
        cases t with
        | false =>
          have hrs : Hid (res = (zG, 0, 11)) := Lib.hid (by rw [← hresH.out, if_neg (fun h => by have := hte.out.2 h; cases this)])
          have hfin := Lib.hid (show ∀ W, Below w.heap.size w W → DecPost w res (.returned (.tuple #[.agg #[.int .i64 0, .slice none 0 0, .slice none 0 0], .int .i64 0, .int .i64 11])) W by rw [hrs.out]; exact dec_fail w 11)
          have hset := Lib.hid (hFr3.out.1.set hFr3.out.2 (Nat.le_refl _) 0 none 0 0 none 0 0)
          obtain ⟨⟨u0, u1, u2, x0, x1, x2⟩, z0, z1, z2⟩ := hFr3.out.1
          clear hFr3 hr3H hresH
          go_wp2_with fail
          refine fresh_postG (fun W => SetG w W w.heap.size 0 none 0 0 none 0 0) hset.out ?_
          rintro W9 ⟨k0, k1, k2, hb9⟩
          have hb9H := Lib.hid hb9
          clear hb9 hset
          refine bodyPost_ret (v := .tuple #[.agg #[.int .i64 0, .slice none 0 0, .slice none 0 0], .int .i64 0, .int .i64 11]) (by simp [results, Tryd.results12, go_sem, k0, k1, k2]) rfl ?_
          exact hfin.out _ hb9H.out
        | true =>
          have hrs : Hid (res = (⟨q, es, cutE es (s.extract 64 m)⟩, (nb : Int), 0)) := Lib.hid (by rw [← hresH.out, if_pos (hte.out.1 rfl)])
          have hcu := cut_any wc A1 c1 es (s.extract 64 m) hr3H.out.in_ (by rw [helH.out]; omega) hds.out.2.1 hds.out.2.2
          rw [helH.out] at hcu
          have hcuH := Lib.hid hcu
          clear hcu hresH hte
          go_wp2_with fail
          refine hcuH.out.mono ?_
          rintro e w5 ⟨A2, c2, rfl, hr5, hb5⟩
          have hFr5 := Lib.hid (show FreeG w5 w.heap.size ∧ Below w.heap.size w w5 from ⟨hFr3.out.1.below hb5, bmore hFr3.out.2 hb5⟩)
          have hE5 := Lib.hid (hr3H.out.below hb5)
          have hD5 := Lib.hid (hr5.mono (show w.heap.size + 1 ≤ wc.heap.size by have := lt_of_cell (Classical.choose_spec (Classical.choose_spec (Classical.choose_spec hFr3.out.1.1))).1; omega))
          have hcl : Hid ((cutE es (s.extract 64 m)).length = c) := Lib.hid (by rw [cutE_len]; exact helH.out)
          have hset := Lib.hid (hFr5.out.1.set hFr5.out.2 (Nat.le_refl _) q A1 c c1 A2 (cutE es (s.extract 64 m)).length c2)
          have hE9 := row_setG hE5.out (Nat.lt_succ_self _) (.int .i64 q) (.slice A1 c c1) (.slice A2 (cutE es (s.extract 64 m)).length c2)
          have hD9 := row_setG hD5.out (Nat.lt_succ_self _) (.int .i64 q) (.slice A1 c c1) (.slice A2 (cutE es (s.extract 64 m)).length c2)
          have hall := Lib.hid (And.intro hset.out (And.intro hE9 hD9))
          obtain ⟨⟨u0, u1, u2, x0, x1, x2⟩, z0, z1, z2⟩ := hFr5.out.1
          have hfin : Hid (∀ W, geE.Row W (w.heap.size + 1) 47 A1 c1 es → stE.Row W (w.heap.size + 1) 9 A2 c2 (cutE es (s.extract 64 m)) → Below w.heap.size w W → DecPost w res (.returned (.tuple #[.agg #[.int .i64 q, .slice A1 c c1, .slice A2 (cutE es (s.extract 64 m)).length c2], .int .i64 (nb : Int), .int .i64 0])) W) := Lib.hid (fun W h1 h2 h3 => by
            rw [hrs.out]
            exact ⟨A1, c1, A2, c2, by dsimp only; rw [helH.out], h1.mono (Nat.le_succ _), h2.mono (Nat.le_succ _), h3⟩)
          clear hFr3 hFr5 hE5 hD5 hE9 hD9 hset hcl hr5 hb5 hr3H hcuH
          generalize hdd : cutE es (s.extract 64 m) = dd at hall hfin
          have hddH := Lib.hid hdd
          clear hdd
          go_wp2_with fail
          refine fresh_postG (fun W => SetG w W w.heap.size q A1 c c1 A2 dd.length c2 ∧ geE.Row W (w.heap.size + 1) 47 A1 c1 es ∧ stE.Row W (w.heap.size + 1) 9 A2 c2 dd) hall.out ?_
          rintro W9 ⟨⟨k0, k1, k2, hb9⟩, hE9, hD9⟩
          have hb9H := Lib.hid (And.intro hb9 (And.intro hE9 hD9))
          clear hb9 hE9 hD9 hall
          refine bodyPost_ret (v := .tuple #[.agg #[.int .i64 q, .slice A1 c c1, .slice A2 dd.length c2], .int .i64 (nb : Int), .int .i64 0]) (by simp [results, Tryd.results12, go_sem, k0, k1, k2]) rfl ?_
          exact hfin.out _ hb9H.out.2.1 hb9H.out.2.2 hb9H.out.1
end Go.Proofs.YtbgkmppngnedlaaDoor
