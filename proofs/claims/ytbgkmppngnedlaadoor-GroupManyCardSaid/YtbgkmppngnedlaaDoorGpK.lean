/- given of group's laws, walked. -/
import Derived.Test.YtbgkmppngnedlaaDoorGpI
namespace Go.Proofs.YtbgkmppngnedlaaDoor
open Go.RowKit Rec Crc Num Xor

theorem getD_at {α : Type} {l : List α} {i : Nat} {d : α} (h : i < l.length) : l.getD i d = l[i] := by simp [List.getD, h]
def gE (bl : List Int) (tr : List Bool) (k : Nat) : List (Int × Bool) := (List.range k).map fun i => (bl.getD i 0, tr.getD i false)
def gB (bl : List Int) (k : Nat) : List Int := (List.range k).map fun i => bl.getD i 0
def gT (tr : List Bool) (k : Nat) : List Bool := (List.range k).map fun i => tr.getD i false
theorem gE_succ (bl : List Int) (tr : List Bool) (k : Nat) : gE bl tr (k + 1) = gE bl tr k ++ [(bl.getD k 0, tr.getD k false)] := by unfold gE; rw [List.range_succ, List.map_append]; rfl
theorem gB_succ (bl : List Int) (k : Nat) : gB bl (k + 1) = gB bl k ++ [bl.getD k 0] := by unfold gB; rw [List.range_succ, List.map_append]; rfl
theorem gT_succ (tr : List Bool) (k : Nat) : gT tr (k + 1) = gT tr k ++ [tr.getD k false] := by unfold gT; rw [List.range_succ, List.map_append]; rfl
theorem gE_len (bl : List Int) (tr : List Bool) (k : Nat) : (gE bl tr k).length = k := by unfold gE; simp
theorem gB_len (bl : List Int) (k : Nat) : (gB bl k).length = k := by unfold gB; simp
theorem gT_len (tr : List Bool) (k : Nat) : (gT tr k).length = k := by unfold gT; simp
/-- A piece of data, of the right length as a rule. -/
def dPad (d : ByteArray) : ByteArray := if d.size < 60 ∧ d ≠ ⟨#[]⟩ then (d ++ zeroB 64).extract 0 64 else d
def dFix (d : ByteArray) : ByteArray := (dPad d).extract 0 (min (dPad d).size 70)
def gD (ds : List ByteArray) (k : Nat) : List ByteArray := (List.range k).map fun i => dFix (ds.getD i ⟨#[]⟩)
theorem gD_succ (ds : List ByteArray) (k : Nat) : gD ds (k + 1) = gD ds k ++ [dFix (ds.getD k ⟨#[]⟩)] := by unfold gD; rw [List.range_succ, List.map_append]; rfl
theorem gD_len (ds : List ByteArray) (k : Nat) : (gD ds k).length = k := by unfold gD; simp
def givG (q : Int) (bl : List Int) (tr : List Bool) (ds : List ByteArray) : Gp := ⟨q, gE bl tr (min bl.length 9), gD ds (min ds.length 9)⟩
/-- What given answers: the two groups, each in rows of its own. -/
def GivPost (w : World) (q : Int) (bl : List Int) (tr : List Bool) (ds : List ByteArray) (e : Ending) (w' : World) : Prop :=
  ∃ (E : Sl (Int × Bool)) (B : Sl Int) (T : Sl Bool) (D F : Sl ByteArray), e = .returned (.tuple #[.agg #[.int .i64 q, .slice E.A E.xs.length E.c, .slice D.A D.xs.length D.c], .agg #[.int .i64 q, .slice B.A B.xs.length B.c, .slice T.A T.xs.length T.c, .slice F.A F.xs.length F.c]]) ∧
    (E.xs = gE bl tr (min bl.length 9) ∧ B.xs = gB bl (min bl.length 9) ∧ T.xs = gT tr (min bl.length 9) ∧ D.xs = gD ds (min ds.length 9) ∧ F.xs = gD ds (min ds.length 9)) ∧ GvR w' (w.heap.size + 5) E B T D F ∧ Below w.heap.size w w'
structure GIn (w : World) (AB : Option Addr) (bl : List Int) (AT : Option Addr) (tr : List Bool) (AD : Option Addr) (ds : List ByteArray) : Prop where
  b : inE.In w AB bl
  t : boE.In w AT tr
  d : stE.In w AD ds
def vzG (q : Int) (AB : Option Addr) (nb cb : Nat) (AT : Option Addr) (nt ct : Nat) (AD : Option Addr) (nd cd : Nat) : Nat → Value
  | 0 => .int .i64 q
  | 1 => .slice AB nb cb
  | 2 => .slice AT nt ct
  | _ => .slice AD nd cd
theorem fresh_any {P : Program} {md : Region.Mode} {ops : Array Oper} {Q : Exit → Act → World → Prop} {c : Nat → Bool} {S : World → Prop} {fuel : Nat} {listed : Array Bool} {a : Act} {W : World} (R : World → Prop) (hR : R W) (h : ∀ W2, R W2 → anyC P md ops Q c S fuel listed a W2) : anyC P md ops Q c S fuel listed a W := h W hR
theorem post_sets {P : Program} {c : Code} {Q : Exit → Act → World → Prop} {a : Act} {W : World} (R : World → Prop) (hR : R W) (h : ∀ W2, R W2 → Code.wp P c Q a W2) : Code.wp P c Q a W := h W hR
set_option maxRecDepth 100000 in
set_option maxHeartbeats 16000000 in
theorem given18 (w : World) (q : Int) (AB : Option Addr) (cb : Nat) (bl : List Int) (AT : Option Addr) (ct : Nat) (tr : List Bool) (AD : Option Addr) (cd : Nat) (ds : List ByteArray) (hI : GIn w AB bl AT tr AD ds) (hds : ∀ d ∈ ds, d.size ≤ maxLen) :
    Calls Tryd.prog 7 #[.agg #[.int .i64 q, .slice AB bl.length cb, .slice AT tr.length ct, .slice AD ds.length cd]] w (GivPost w q bl tr ds) := by
  have hIH := Lib.hid (show ∀ W, Below w.heap.size w W → GIn W AB bl AT tr AD ds from fun W hb => ⟨hI.b.below hb, hI.t.below hb, hI.d.below hb⟩)
  have hdsH := Lib.hid hds
  have hmk := mk64
  have hcb := fun W => zeros_text W 64
  have hXs : (zeroB 64).size = 64 := zeroB_size 64
  obtain ⟨nb, hnb⟩ : ∃ nb, bl.length = nb := ⟨_, rfl⟩
  obtain ⟨nt, hnt⟩ : ∃ nt, tr.length = nt := ⟨_, rfl⟩
  obtain ⟨nd, hnd⟩ : ∃ nd, ds.length = nd := ⟨_, rfl⟩
  have hPH : Hid (∀ e w', (∃ (E : Sl (Int × Bool)) (B : Sl Int) (T : Sl Bool) (D F : Sl ByteArray), e = .returned (.tuple #[.agg #[.int .i64 q, .slice E.A E.xs.length E.c, .slice D.A D.xs.length D.c], .agg #[.int .i64 q, .slice B.A B.xs.length B.c, .slice T.A T.xs.length T.c, .slice F.A F.xs.length F.c]]) ∧ (E.xs = gE bl tr (min nb 9) ∧ B.xs = gB bl (min nb 9) ∧ T.xs = gT tr (min nb 9) ∧ D.xs = gD ds (min nd 9) ∧ F.xs = gD ds (min nd 9)) ∧ GvR w' (w.heap.size + 5) E B T D F ∧ Below w.heap.size w w') → GivPost w q bl tr ds e w') := Lib.hid (fun e w' h => by unfold GivPost; rw [hnb, hnd]; exact h)
  rw [hnb, hnt, hnd]
  have hlnH := Lib.hid (And.intro hnb (And.intro hnt hnd))
  clear hI hds hnb hnt hnd
  go_enter Tryd.func7, Tryd.ntmps7
  go_upto_region 3 with fail
  refine fresh_world (fun W => GvR W (w.heap.size + 5) sl0 sl0 sl0 sl0 sl0 ∧ GvX w W w.heap.size (vzG q AB nb cb AT nt ct AD nd cd) q sl0 sl0 sl0 sl0 sl0) ?_ ?_
  · have hap : Ap none none := fun r e => by cases e
    refine ⟨⟨Enc.Row.nil _ _ _, Enc.Row.nil _ _ _, Enc.Row.nil _ _ _, Enc.Row.nil _ _ _, Enc.Row.nil _ _ _, hap, hap, hap, hap, hap, hap, hap, hap, hap, hap, by simp⟩, ?_⟩
    constructor
    case bw => exact (((((Below.refl w.heap.size w).alloc (Nat.le_refl _) _).alloc (by simp) _).alloc (by simp; omega) _).alloc (by simp; omega) _).alloc (by simp; omega) _
    case nn => rfl
    all_goals ((try simp only [sl0, vzG, List.length_nil]); go_simp; try rfl)
  rintro W3 hRX
  have hRXH := Lib.hid hRX
  clear hRX
  obtain ⟨n9, hn9⟩ : ∃ n9, min nb 9 = n9 := ⟨_, rfl⟩
  rw [hn9] at hPH
  have hn1 : n9 ≤ nb ∧ n9 ≤ 9 ∧ (n9 = nb ∨ n9 = 9) := by omega
  have hn9H := Lib.hid hn1
  clear hn9 hn1
  go_wp2_with fail
  go_loopw [6, 7] (fun iv tv wr => ∃ (k : Nat) (E : Sl (Int × Bool)) (B : Sl Int) (T : Sl Bool), k ≤ n9 ∧ iv = .int .i64 (k : Int) ∧ Hid (E.xs = gE bl tr k ∧ B.xs = gB bl k ∧ T.xs = gT tr k) ∧ Hid (GvR wr (w.heap.size + 5) E B T sl0 sl0 ∧ GvX w wr w.heap.size (vzG q AB nb cb AT nt ct AD nd cd) q E B T sl0 sl0)) (fun iv _ _ => n9 - (Go.RowKit.intOf iv).toNat)
  case atStart => exact ⟨0, sl0, sl0, sl0, Nat.zero_le _, rfl, Lib.hid ⟨rfl, rfl, rfl⟩, hRXH⟩
  case round =>
    clear hRXH
    obtain ⟨k, E, B, T, hkn, rfl, hxs, hRX⟩ := hrel
    have hkw : IntKind.i64.wrap ((k : Int) + 1) = (k : Int) + 1 := IntWalk.i64_in _ (by have := hn9H.out; omega)
    have hz1 : wr.cell? ⟨w.heap.size, 1, none⟩ = some (.slice AB nb cb) := hRX.out.2.z1
    obtain ⟨bb, hbb⟩ : ∃ bb : Bool, decide (k < n9) = bb := ⟨_, rfl⟩
    go_upto_region 4 with fail
    go_cut [24] from 16 to 24 (fun c wx => c = .bool bb ∧ wx = wr)
    case first =>
      have hcs : ¬ (k : Int) < (nb : Int) ∨ ((k : Int) < (nb : Int) ∧ (k : Int) < 9) ∨ ((k : Int) < (nb : Int) ∧ ¬ (k : Int) < 9) := by omega
      rcases hcs with g1 | ⟨g1, g2⟩ | ⟨g1, g2⟩
      · have e1 : bb = false := by rw [← hbb]; exact decide_eq_false (by have := hn9H.out; omega)
        subst e1
        go_wp2_with fail
        go_meet
        exact ⟨rfl, rfl⟩
      · have e1 : bb = true := by rw [← hbb]; exact decide_eq_true (by have := hn9H.out; omega)
        subst e1
        go_wp2_with fail
        go_meet
        exact ⟨rfl, rfl⟩
      · have e1 : bb = false := by rw [← hbb]; exact decide_eq_false (by have := hn9H.out; omega)
        subst e1
        go_wp2_with fail
        go_meet
        exact ⟨rfl, rfl⟩
    obtain ⟨rfl, hwx⟩ := hcut
    rw [hwx]
    clear hwx
    clear hz1
    by_cases hlt : k < n9
    case pos =>
      have e1 : bb = true := by rw [← hbb]; exact decide_eq_true hlt
      subst e1
      clear hbb
      have hkI : (k : Int) < (nb : Int) := by have := hn9H.out; omega
      have hk9 : (k : Int) < 9 := by have := hn9H.out; omega
      have hkb : k < bl.length := by have := hn9H.out; have := hlnH.out.1; omega
      obtain ⟨bb, bo, hAB, hbl, hx⟩ := one_at rfl (hIH.out w (Below.refl _ _)).b hkb
      have hsrc : Hid (∀ W, Below w.heap.size w W → W.cell? ⟨bb, bo + k, none⟩ = some (.int .i64 (bl.getD k 0))) := Lib.hid (fun W hb => by
        rw [hb.cell (p := ⟨bb, bo + k, none⟩) hbl, hx, getD_at hkb]
        rfl)
      have hbl' := Lib.hid hbl
      subst hAB
      have hgs := Lib.hid (And.intro (gE_succ bl tr k) (And.intro (gB_succ bl k) (gT_succ tr k)))
      have hlen : E.xs.length = k ∧ B.xs.length = k ∧ T.xs.length = k := by rw [hxs.out.1, hxs.out.2.1, hxs.out.2.2]; exact ⟨gE_len _ _ _, gB_len _ _, gT_len _ _⟩
      have hlenH := Lib.hid (show E.xs.length ≤ 9 ∧ B.xs.length ≤ 9 ∧ T.xs.length ≤ 9 by have := hn9H.out; omega)
      have hT : (k < nt ∧ ∃ b2 o2, AT = some ⟨b2, o2, none⟩ ∧ wr.cell? ⟨b2, o2 + k, none⟩ = some (.bool (tr.getD k false))) ∨ (¬ k < nt ∧ tr.getD k false = false) := by
        by_cases h : k < nt
        · have h2 : k < tr.length := by rw [hlnH.out.2.1]; exact h
          obtain ⟨b2, o2, e, _, hy⟩ := one_at rfl (hIH.out wr hRX.out.2.bw).t h2
          exact .inl ⟨h, b2, o2, e, by rw [hy, getD_at h2]; rfl⟩
        · exact .inr ⟨h, by rw [List.getD_eq_getElem?_getD, List.getElem?_eq_none (by rw [hlnH.out.2.1]; omega)]; rfl⟩
      have hltH := Lib.hid hlt
      have hz1 : wr.cell? ⟨w.heap.size, 1, none⟩ = some (.slice (some ⟨bb, bo, none⟩) nb cb) := hRX.out.2.z1
      have hz2 : wr.cell? ⟨w.heap.size, 2, none⟩ = some (.slice AT nt ct) := hRX.out.2.z2
      clear hx hbl hkb hlen hlt hkn
      generalize bl.getD k 0 = z at hsrc hgs
      generalize tr.getD k false = tb at hT hgs
      rcases hT with ⟨h2, b2, o2, rfl, hy⟩ | ⟨h2, rfl⟩
      · have h2I : (k : Int) < (nt : Int) := by omega
        clear h2
        go_upto_region 7 with fail
        clear hz1 hz2 hy
        have hS := (show SG w wr.drew w.heap.size (vzG q (some ⟨bb, bo, none⟩) nb cb (some ⟨b2, o2, none⟩) nt ct AD nd cd) q E B T sl0 sl0 bb (bo + k) (.int .i64 z) from ⟨(hRX.out.2.keep ((Below.refl _ _).drew)), hsrc.out _ hRX.out.2.bw.drew, hbl'.out⟩)
        have hR := hRX.out.1.below (Below.refl _ _).drew
        clear hRX
        refine region_anyC (fun i => decide (i < 12)) (fun W => SG w W w.heap.size (vzG q (some ⟨bb, bo, none⟩) nb cb (some ⟨b2, o2, none⟩) nt ct AD nd cd) q E B T sl0 sl0 bb (bo + k) (.int .i64 z)) (by kernel_rfl) ?_
        generalize wr.drew = Wd at hS hR ⊢
        refine anyL_take 0 (v := ?_) rfl (by kernel_rfl) (fun _ _ _ h => h) (Or.inl ⟨by rfl, ?_⟩) hS ?_
        rotate_left
        focus (intro W hW; go_simp; try with_reducible rfl)
        simp only [Act.put, List.setIfInBounds_toArray, List.set_cons_zero, List.set_cons_succ]
        refine anyL_take 1 (v := ?_) rfl (by kernel_rfl) (fun _ _ _ h => h) (Or.inl ⟨by rfl, ?_⟩) hS ?_
        rotate_left
        focus (intro W hW; have y1 := hW.1.xE; go_simp; try with_reducible rfl)
        simp only [Act.put, List.setIfInBounds_toArray, List.set_cons_zero, List.set_cons_succ]
        refine anyL_take 2 (v := ?_) rfl (by kernel_rfl) (fun _ _ _ h => h) (Or.inl ⟨by rfl, ?_⟩) hS ?_
        rotate_left
        focus (intro W hW; go_simp; try with_reducible rfl)
        simp only [Act.put, List.setIfInBounds_toArray, List.set_cons_zero, List.set_cons_succ]
        refine anyL_take 3 (v := ?_) rfl (by kernel_rfl) (fun _ _ _ h => h) (Or.inl ⟨by rfl, ?_⟩) hS ?_
        rotate_left
        focus (intro W hW; have y1 : W.cell? ⟨w.heap.size, 1, none⟩ = some (.slice (some ⟨bb, bo, none⟩) nb cb) := hW.1.z1; go_simp; try with_reducible rfl)
        simp only [Act.put, List.setIfInBounds_toArray, List.set_cons_zero, List.set_cons_succ]
        refine anyL_take 4 (v := ?_) rfl (by kernel_rfl) (fun _ _ _ h => h) (Or.inl ⟨by rfl, ?_⟩) hS ?_
        rotate_left
        focus (intro W hW; go_simp; try with_reducible rfl)
        simp only [Act.put, List.setIfInBounds_toArray, List.set_cons_zero, List.set_cons_succ]
        refine anyL_take 5 (v := ?_) rfl (by kernel_rfl) (fun _ _ _ h => h) (Or.inl ⟨by rfl, ?_⟩) hS ?_
        rotate_left
        focus (intro W hW; go_simp; try with_reducible rfl)
        simp only [Act.put, List.setIfInBounds_toArray, List.set_cons_zero, List.set_cons_succ]
        refine anyL_take 6 (v := ?_) rfl (by kernel_rfl) (fun _ _ _ h => h) (Or.inl ⟨by rfl, ?_⟩) hS ?_
        rotate_left
        focus (intro W hW; have y1 := hW.2.1; go_simp; try with_reducible rfl)
        simp only [Act.put, List.setIfInBounds_toArray, List.set_cons_zero, List.set_cons_succ]
        refine anyL_take 7 (v := ?_) rfl (by kernel_rfl) (fun _ _ _ h => h) (Or.inl ⟨by rfl, ?_⟩) hS ?_
        rotate_left
        focus (intro W hW; go_simp; try with_reducible rfl)
        simp only [Act.put, List.setIfInBounds_toArray, List.set_cons_zero, List.set_cons_succ]
        refine anyL_take 8 (v := ?_) rfl (by kernel_rfl) (fun _ _ _ h => h) (Or.inl ⟨by rfl, ?_⟩) hS ?_
        rotate_left
        focus (intro W hW; go_simp; try with_reducible rfl)
        simp only [Act.put, List.setIfInBounds_toArray, List.set_cons_zero, List.set_cons_succ]
        refine anyL_one 9 rfl (by kernel_rfl) (fun K hK => ?_)
        have hal := (Below.refl Wd.heap.size Wd).alloc (Nat.le_refl _) (.cells #[.int .i64 z, .bool tb] 47)
        go_simp
        refine hK.out _ _ (fun _ => hS.keep (hal.mono hR.bs)) ?_
        clear hK K
        try simp only [Act.put, List.setIfInBounds_toArray, List.set_cons_zero, List.set_cons_succ]
        skip
        have hqE : Wd.heap.size < (Wd.alloc (.cells #[.int .i64 z, .bool tb] 47)).heap.size := by rw [World.size_alloc]; omega
        replace hS := hS.keep (hal.mono hR.bs)
        replace hR := hR.below hal
        have hmE : (Wd.alloc (.cells #[.int .i64 z, .bool tb] 47)).cell? ⟨Wd.heap.size, 0, none⟩ = some (.int .i64 z) := by go_simp
        have hmE2 : (Wd.alloc (.cells #[.int .i64 z, .bool tb] 47)).cell? ⟨Wd.heap.size, 1, none⟩ = some (.bool tb) := by go_simp
        clear hal
        generalize (Wd.alloc (.cells #[.int .i64 z, .bool tb] 47)) = Wd1 at hS hR hqE hmE hmE2 ⊢
        generalize Wd.heap.size = mE at hqE hmE hmE2 ⊢
        have hlE := hlenH.out.1
        refine anyL_one 10 rfl (by kernel_rfl) (fun K hK => ?_)
        obtain ⟨sE, Wd2, hrun, hxE, hR', hb', hfar⟩ := hR.pushE (m := mE) (x := (z, tb)) (fun j hj => by have h1 : j < 2 := hj; rcases (by omega : j = 0 ∨ j = 1) with rfl | rfl; exact hmE; exact hmE2) (by omega)
        refine append_run_step rfl (.tmp 40) (.tmp 48) 28 rfl rfl rfl hrun ?_
        refine hK.out _ _ (fun _ => hS.keep hb') ?_
        clear hK K hrun
        try simp only [Act.put, List.setIfInBounds_toArray, List.set_cons_zero, List.set_cons_succ]
        replace hS := hS.keep hb'
        replace hR := hR'
        replace hxE := Lib.hid hxE
        clear hR' hb' hfar
        refine anyL_one 11 rfl (by kernel_rfl) (fun K hK => ?_)
        go_simp
        refine hK.out _ _ (fun _ => hS) ?_
        clear hK K
        try simp only [Act.put, List.setIfInBounds_toArray, List.set_cons_zero, List.set_cons_succ]
        refine anyL_one 12 rfl (by kernel_rfl) (fun K hK => ?_)
        have y1 := hS.1.xE
        have y2 := hS.1.f31
        go_simp
        refine hK.out _ _ (fun h => absurd h (by decide)) ?_
        clear hK K y1 y2
        try simp only [Act.put, List.setIfInBounds_toArray, List.set_cons_zero, List.set_cons_succ]
        replace hS := (show SG w (Wd2.setCell ⟨w.heap.size + 3, 1, none⟩ (.slice sE.A sE.xs.length sE.c)) w.heap.size (vzG q (some ⟨bb, bo, none⟩) nb cb (some ⟨b2, o2, none⟩) nt ct AD nd cd) q sE B T sl0 sl0 bb (bo + k) (.int .i64 z) from ⟨hS.1.setE sE, by rw [World.cell?_setCell_other _ _ _ _ (by intro e; injection e with e1 e2; have := hbl'.out; omega)]; exact hS.2.1, hS.2.2⟩)
        replace hR := hR.set (X := w.heap.size + 3) (by omega) 1 (.slice sE.A sE.xs.length sE.c)
        refine fresh_any (fun W => SG w W w.heap.size (vzG q (some ⟨bb, bo, none⟩) nb cb (some ⟨b2, o2, none⟩) nt ct AD nd cd) q sE B T sl0 sl0 bb (bo + k) (.int .i64 z) ∧ GvR W (w.heap.size + 5) sE B T sl0 sl0) ⟨hS, hR⟩ ?_
        clear hS hR hlE hqE hmE hmE2
        rintro W7 hSR
        refine anyC_done (by kernel_rfl) ?_ _
        replace hSR := Lib.hid hSR
        go_upto_region 8 with fail
        have hS := hSR.out.1.keep (Below.refl _ _).drew
        have hR := hSR.out.2.below (Below.refl _ _).drew
        clear hSR
        refine region_anyC (fun i => decide (i < 15)) (fun W => SG w W w.heap.size (vzG q (some ⟨bb, bo, none⟩) nb cb (some ⟨b2, o2, none⟩) nt ct AD nd cd) q sE B T sl0 sl0 bb (bo + k) (.int .i64 z)) (by kernel_rfl) ?_
        generalize W7.drew = Wd at hS hR ⊢
        refine anyL_take 0 (v := ?_) rfl (by kernel_rfl) (fun _ _ _ h => h) (Or.inl ⟨by rfl, ?_⟩) hS ?_
        rotate_left
        focus (intro W hW; go_simp; try with_reducible rfl)
        simp only [Act.put, List.setIfInBounds_toArray, List.set_cons_zero, List.set_cons_succ]
        refine anyL_take 1 (v := ?_) rfl (by kernel_rfl) (fun _ _ _ h => h) (Or.inl ⟨by rfl, ?_⟩) hS ?_
        rotate_left
        focus (intro W hW; have y1 := hW.1.yB; go_simp; try with_reducible rfl)
        simp only [Act.put, List.setIfInBounds_toArray, List.set_cons_zero, List.set_cons_succ]
        refine anyL_take 2 (v := ?_) rfl (by kernel_rfl) (fun _ _ _ h => h) (Or.inl ⟨by rfl, ?_⟩) hS ?_
        rotate_left
        focus (intro W hW; go_simp; try with_reducible rfl)
        simp only [Act.put, List.setIfInBounds_toArray, List.set_cons_zero, List.set_cons_succ]
        refine anyL_take 3 (v := ?_) rfl (by kernel_rfl) (fun _ _ _ h => h) (Or.inl ⟨by rfl, ?_⟩) hS ?_
        rotate_left
        focus (intro W hW; have y1 : W.cell? ⟨w.heap.size, 1, none⟩ = some (.slice (some ⟨bb, bo, none⟩) nb cb) := hW.1.z1; go_simp; try with_reducible rfl)
        simp only [Act.put, List.setIfInBounds_toArray, List.set_cons_zero, List.set_cons_succ]
        refine anyL_take 4 (v := ?_) rfl (by kernel_rfl) (fun _ _ _ h => h) (Or.inl ⟨by rfl, ?_⟩) hS ?_
        rotate_left
        focus (intro W hW; go_simp; try with_reducible rfl)
        simp only [Act.put, List.setIfInBounds_toArray, List.set_cons_zero, List.set_cons_succ]
        refine anyL_take 5 (v := ?_) rfl (by kernel_rfl) (fun _ _ _ h => h) (Or.inl ⟨by rfl, ?_⟩) hS ?_
        rotate_left
        focus (intro W hW; go_simp; try with_reducible rfl)
        simp only [Act.put, List.setIfInBounds_toArray, List.set_cons_zero, List.set_cons_succ]
        refine anyL_take 6 (v := ?_) rfl (by kernel_rfl) (fun _ _ _ h => h) (Or.inl ⟨by rfl, ?_⟩) hS ?_
        rotate_left
        focus (intro W hW; have y1 := hW.2.1; go_simp; try with_reducible rfl)
        simp only [Act.put, List.setIfInBounds_toArray, List.set_cons_zero, List.set_cons_succ]
        refine anyL_take 9 (v := ?_) rfl (by kernel_rfl) (fun _ _ _ h => h) (Or.inl ⟨by rfl, ?_⟩) hS ?_
        rotate_left
        focus (intro W hW; go_simp; try with_reducible rfl)
        simp only [Act.put, List.setIfInBounds_toArray, List.set_cons_zero, List.set_cons_succ]
        refine anyL_take 10 (v := ?_) rfl (by kernel_rfl) (fun _ _ _ h => h) (Or.inl ⟨by rfl, ?_⟩) hS ?_
        rotate_left
        focus (intro W hW; have y1 := hW.1.yT; go_simp; try with_reducible rfl)
        simp only [Act.put, List.setIfInBounds_toArray, List.set_cons_zero, List.set_cons_succ]
        refine anyL_take 11 (v := ?_) rfl (by kernel_rfl) (fun _ _ _ h => h) (Or.inl ⟨by rfl, ?_⟩) hS ?_
        rotate_left
        focus (intro W hW; go_simp; try with_reducible rfl)
        simp only [Act.put, List.setIfInBounds_toArray, List.set_cons_zero, List.set_cons_succ]
        have hlB0 := hlenH.out.2.1
        have hlT0 := hlenH.out.2.2
        refine anyL_two 7 12 rfl rfl (by kernel_rfl) (fun K hK => ?_) (fun K hK => ?_)
        ·
          as_aux_lemma =>
            have hal := (Below.refl Wd.heap.size Wd).alloc (Nat.le_refl _) (.cells #[.int .i64 z] 3)
            go_simp
            refine hK.out _ _ (fun _ => hS.keep (hal.mono hR.bs)) ?_
            clear hK K
            try simp only [Act.put, List.setIfInBounds_toArray, List.set_cons_zero, List.set_cons_succ]
            skip
            have hqB : Wd.heap.size < (Wd.alloc (.cells #[.int .i64 z] 3)).heap.size := by rw [World.size_alloc]; omega
            replace hS := hS.keep (hal.mono hR.bs)
            replace hR := hR.below hal
            have hmB : (Wd.alloc (.cells #[.int .i64 z] 3)).cell? ⟨Wd.heap.size, 0, none⟩ = some (.int .i64 z) := by go_simp
            clear hal
            generalize (Wd.alloc (.cells #[.int .i64 z] 3)) = Wx at hS hR hqB hmB ⊢
            generalize Wd.heap.size = mB at hqB hmB ⊢
            refine anyL_two 8 12 rfl rfl (by kernel_rfl) (fun K hK => ?_) (fun K hK => ?_)
            ·
              obtain ⟨sB, Wxx, hrun, hxB, hR', hb', hfar⟩ := hR.pushB (m := mB) (x := z) (fun j hj => by have h1 : j < 1 := hj; obtain rfl : j = 0 := (by omega); exact hmB) (by omega)
              refine append_run_step rfl (.tmp 52) (.tmp 58) 22 rfl rfl rfl hrun ?_
              refine hK.out _ _ (fun _ => hS.keep hb') ?_
              clear hK K hrun
              try simp only [Act.put, List.setIfInBounds_toArray, List.set_cons_zero, List.set_cons_succ]
              replace hS := hS.keep hb'
              replace hR := hR'
              replace hxB := Lib.hid hxB
              clear hR' hb' hfar
              refine anyL_take 14 (v := ?_) rfl (by kernel_rfl) (fun _ _ _ h => h) (Or.inl ⟨by rfl, ?_⟩) hS ?_
              rotate_left
              focus (intro W hW; go_simp; try with_reducible rfl)
              simp only [Act.put, List.setIfInBounds_toArray, List.set_cons_zero, List.set_cons_succ]
              refine anyL_one 12 rfl (by kernel_rfl) (fun K hK => ?_)
              have hal := (Below.refl Wxx.heap.size Wxx).alloc (Nat.le_refl _) (.cells #[.bool tb] 4)
              go_simp
              refine hK.out _ _ (fun _ => hS.keep (hal.mono hR.bs)) ?_
              clear hK K
              try simp only [Act.put, List.setIfInBounds_toArray, List.set_cons_zero, List.set_cons_succ]
              skip
              have hqT : Wxx.heap.size < (Wxx.alloc (.cells #[.bool tb] 4)).heap.size := by rw [World.size_alloc]; omega
              replace hS := hS.keep (hal.mono hR.bs)
              replace hR := hR.below hal
              have hmT : (Wxx.alloc (.cells #[.bool tb] 4)).cell? ⟨Wxx.heap.size, 0, none⟩ = some (.bool tb) := by go_simp
              clear hal
              generalize (Wxx.alloc (.cells #[.bool tb] 4)) = Wxy at hS hR hqT hmT ⊢
              generalize Wxx.heap.size = mT at hqT hmT ⊢
              refine anyL_one 13 rfl (by kernel_rfl) (fun K hK => ?_)
              obtain ⟨sT, Wf, hrun, hxT, hR', hb', hfar⟩ := hR.pushT (m := mT) (x := tb) (fun j hj => by have h1 : j < 1 := hj; obtain rfl : j = 0 := (by omega); exact hmT) (by omega)
              refine append_run_step rfl (.tmp 61) (.tmp 63) 23 rfl rfl rfl hrun ?_
              refine hK.out _ _ (fun _ => hS.keep hb') ?_
              clear hK K hrun
              try simp only [Act.put, List.setIfInBounds_toArray, List.set_cons_zero, List.set_cons_succ]
              replace hS := hS.keep hb'
              replace hR := hR'
              replace hxT := Lib.hid hxT
              clear hR' hb' hfar
              refine anyL_one 15 rfl (by kernel_rfl) (fun K hK => ?_)
              have y1 := hS.1.yB
              have y2 := hS.1.f41
              go_simp
              refine hK.out _ _ (fun h => absurd h (by decide)) ?_
              clear hK K y1 y2
              try simp only [Act.put, List.setIfInBounds_toArray, List.set_cons_zero, List.set_cons_succ]
              have hX := hS.1.setB sB
              replace hR := hR.set (X := w.heap.size + 4) (by omega) 1 (.slice sB.A sB.xs.length sB.c)
              refine fresh_any (fun W => GvX w W w.heap.size (vzG q (some ⟨bb, bo, none⟩) nb cb (some ⟨b2, o2, none⟩) nt ct AD nd cd) q sE sB T sl0 sl0 ∧ GvR W (w.heap.size + 5) sE sB sT sl0 sl0) ⟨hX, hR⟩ ?_
              clear hS hX hR
              rintro W8 ⟨hX, hR⟩
              refine anyL_one 16 rfl (by kernel_rfl) (fun K hK => ?_)
              go_simp
              refine hK.out _ _ (fun h => absurd h (by decide)) ?_
              clear hK K
              try simp only [Act.put, List.setIfInBounds_toArray, List.set_cons_zero, List.set_cons_succ]
              refine anyL_one 17 rfl (by kernel_rfl) (fun K hK => ?_)
              have y1 := hX.yT
              have y2 := hX.f42
              go_simp
              refine hK.out _ _ (fun h => absurd h (by decide)) ?_
              clear hK K y1 y2
              try simp only [Act.put, List.setIfInBounds_toArray, List.set_cons_zero, List.set_cons_succ]
              replace hX := hX.setT sT
              replace hR := hR.set (X := w.heap.size + 4) (by omega) 2 (.slice sT.A sT.xs.length sT.c)
              refine fresh_any (fun W => GvX w W w.heap.size (vzG q (some ⟨bb, bo, none⟩) nb cb (some ⟨b2, o2, none⟩) nt ct AD nd cd) q sE sB sT sl0 sl0 ∧ GvR W (w.heap.size + 5) sE sB sT sl0 sl0) ⟨hX, hR⟩ ?_
              clear hX hR
              rintro W9 ⟨hX, hR⟩
              refine anyC_done (by kernel_rfl) ?_ _
              have hxs' : Hid (sE.xs = gE bl tr (k + 1) ∧ sB.xs = gB bl (k + 1) ∧ sT.xs = gT tr (k + 1)) := Lib.hid ⟨by rw [hxE.out, hxs.out.1, hgs.out.1], by rw [hxB.out, hxs.out.2.1, hgs.out.2.1], by rw [hxT.out, hxs.out.2.2, hgs.out.2.2]⟩
              have hRX := Lib.hid (And.intro hR hX)
              clear hR hX hxE hxB hxT
              go_wp2_with fail
              go_roundw
              case rel => exact ⟨k + 1, sE, sB, sT, hltH.out, by go_num, hxs', hRX⟩
              case measure => simp only [Go.RowKit.intOf]; have := hltH.out; omega
            ·
              have hal := (Below.refl Wx.heap.size Wx).alloc (Nat.le_refl _) (.cells #[.bool tb] 4)
              go_simp
              refine hK.out _ _ (fun _ => hS.keep (hal.mono hR.bs)) ?_
              clear hK K
              try simp only [Act.put, List.setIfInBounds_toArray, List.set_cons_zero, List.set_cons_succ]
              have hlT := fun r (e : B.A = some ⟨r, 0, none⟩) => row_lt hR.rB r e
              have hqT : Wx.heap.size < (Wx.alloc (.cells #[.bool tb] 4)).heap.size := by rw [World.size_alloc]; omega
              replace hS := hS.keep (hal.mono hR.bs)
              replace hR := hR.below hal
              replace hmB := (hal.cell (lt_of_cell hmB)).trans hmB
              have hmT : (Wx.alloc (.cells #[.bool tb] 4)).cell? ⟨Wx.heap.size, 0, none⟩ = some (.bool tb) := by go_simp
              clear hal
              generalize (Wx.alloc (.cells #[.bool tb] 4)) = Wxy at hS hR hqT hmT hmB ⊢
              generalize Wx.heap.size = mT at hqT hmT hlT ⊢
              replace hqB : mB < Wxy.heap.size := lt_of_cell hmB
              refine anyL_one 8 rfl (by kernel_rfl) (fun K hK => ?_)
              obtain ⟨sB, Wxx, hrun, hxB, hR', hb', hfar⟩ := hR.pushB (m := mB) (x := z) (fun j hj => by have h1 : j < 1 := hj; obtain rfl : j = 0 := (by omega); exact hmB) (by omega)
              refine append_run_step rfl (.tmp 52) (.tmp 58) 22 rfl rfl rfl hrun ?_
              refine hK.out _ _ (fun _ => hS.keep hb') ?_
              clear hK K hrun
              try simp only [Act.put, List.setIfInBounds_toArray, List.set_cons_zero, List.set_cons_succ]
              replace hS := hS.keep hb'
              replace hmT := (hfar mT (by omega) hlT 0).trans hmT
              replace hqT : mT < Wxx.heap.size := lt_of_cell hmT
              replace hR := hR'
              replace hxB := Lib.hid hxB
              clear hR' hb' hfar
              refine anyL_take 14 (v := ?_) rfl (by kernel_rfl) (fun _ _ _ h => h) (Or.inl ⟨by rfl, ?_⟩) hS ?_
              rotate_left
              focus (intro W hW; go_simp; try with_reducible rfl)
              simp only [Act.put, List.setIfInBounds_toArray, List.set_cons_zero, List.set_cons_succ]
              refine anyL_one 13 rfl (by kernel_rfl) (fun K hK => ?_)
              obtain ⟨sT, Wf, hrun, hxT, hR', hb', hfar⟩ := hR.pushT (m := mT) (x := tb) (fun j hj => by have h1 : j < 1 := hj; obtain rfl : j = 0 := (by omega); exact hmT) (by omega)
              refine append_run_step rfl (.tmp 61) (.tmp 63) 23 rfl rfl rfl hrun ?_
              refine hK.out _ _ (fun _ => hS.keep hb') ?_
              clear hK K hrun
              try simp only [Act.put, List.setIfInBounds_toArray, List.set_cons_zero, List.set_cons_succ]
              replace hS := hS.keep hb'
              replace hR := hR'
              replace hxT := Lib.hid hxT
              clear hR' hb' hfar
              refine anyL_one 15 rfl (by kernel_rfl) (fun K hK => ?_)
              have y1 := hS.1.yB
              have y2 := hS.1.f41
              go_simp
              refine hK.out _ _ (fun h => absurd h (by decide)) ?_
              clear hK K y1 y2
              try simp only [Act.put, List.setIfInBounds_toArray, List.set_cons_zero, List.set_cons_succ]
              have hX := hS.1.setB sB
              replace hR := hR.set (X := w.heap.size + 4) (by omega) 1 (.slice sB.A sB.xs.length sB.c)
              refine fresh_any (fun W => GvX w W w.heap.size (vzG q (some ⟨bb, bo, none⟩) nb cb (some ⟨b2, o2, none⟩) nt ct AD nd cd) q sE sB T sl0 sl0 ∧ GvR W (w.heap.size + 5) sE sB sT sl0 sl0) ⟨hX, hR⟩ ?_
              clear hS hX hR
              rintro W8 ⟨hX, hR⟩
              refine anyL_one 16 rfl (by kernel_rfl) (fun K hK => ?_)
              go_simp
              refine hK.out _ _ (fun h => absurd h (by decide)) ?_
              clear hK K
              try simp only [Act.put, List.setIfInBounds_toArray, List.set_cons_zero, List.set_cons_succ]
              refine anyL_one 17 rfl (by kernel_rfl) (fun K hK => ?_)
              have y1 := hX.yT
              have y2 := hX.f42
              go_simp
              refine hK.out _ _ (fun h => absurd h (by decide)) ?_
              clear hK K y1 y2
              try simp only [Act.put, List.setIfInBounds_toArray, List.set_cons_zero, List.set_cons_succ]
              replace hX := hX.setT sT
              replace hR := hR.set (X := w.heap.size + 4) (by omega) 2 (.slice sT.A sT.xs.length sT.c)
              refine fresh_any (fun W => GvX w W w.heap.size (vzG q (some ⟨bb, bo, none⟩) nb cb (some ⟨b2, o2, none⟩) nt ct AD nd cd) q sE sB sT sl0 sl0 ∧ GvR W (w.heap.size + 5) sE sB sT sl0 sl0) ⟨hX, hR⟩ ?_
              clear hX hR
              rintro W9 ⟨hX, hR⟩
              refine anyC_done (by kernel_rfl) ?_ _
              have hxs' : Hid (sE.xs = gE bl tr (k + 1) ∧ sB.xs = gB bl (k + 1) ∧ sT.xs = gT tr (k + 1)) := Lib.hid ⟨by rw [hxE.out, hxs.out.1, hgs.out.1], by rw [hxB.out, hxs.out.2.1, hgs.out.2.1], by rw [hxT.out, hxs.out.2.2, hgs.out.2.2]⟩
              have hRX := Lib.hid (And.intro hR hX)
              clear hR hX hxE hxB hxT
              go_wp2_with fail
              go_roundw
              case rel => exact ⟨k + 1, sE, sB, sT, hltH.out, by go_num, hxs', hRX⟩
              case measure => simp only [Go.RowKit.intOf]; have := hltH.out; omega
        ·
          as_aux_lemma =>
            have hal := (Below.refl Wd.heap.size Wd).alloc (Nat.le_refl _) (.cells #[.bool tb] 4)
            go_simp
            refine hK.out _ _ (fun _ => hS.keep (hal.mono hR.bs)) ?_
            clear hK K
            try simp only [Act.put, List.setIfInBounds_toArray, List.set_cons_zero, List.set_cons_succ]
            have hlT := fun r (e : B.A = some ⟨r, 0, none⟩) => row_lt hR.rB r e
            have hqT : Wd.heap.size < (Wd.alloc (.cells #[.bool tb] 4)).heap.size := by rw [World.size_alloc]; omega
            replace hS := hS.keep (hal.mono hR.bs)
            replace hR := hR.below hal
            have hmT : (Wd.alloc (.cells #[.bool tb] 4)).cell? ⟨Wd.heap.size, 0, none⟩ = some (.bool tb) := by go_simp
            clear hal
            generalize (Wd.alloc (.cells #[.bool tb] 4)) = Wy at hS hR hqT hmT ⊢
            generalize Wd.heap.size = mT at hqT hmT hlT ⊢
            refine anyL_one 7 rfl (by kernel_rfl) (fun K hK => ?_)
            have hal := (Below.refl Wy.heap.size Wy).alloc (Nat.le_refl _) (.cells #[.int .i64 z] 3)
            go_simp
            refine hK.out _ _ (fun _ => hS.keep (hal.mono hR.bs)) ?_
            clear hK K
            try simp only [Act.put, List.setIfInBounds_toArray, List.set_cons_zero, List.set_cons_succ]
            skip
            have hqB : Wy.heap.size < (Wy.alloc (.cells #[.int .i64 z] 3)).heap.size := by rw [World.size_alloc]; omega
            replace hS := hS.keep (hal.mono hR.bs)
            replace hR := hR.below hal
            replace hmT := (hal.cell (lt_of_cell hmT)).trans hmT
            have hmB : (Wy.alloc (.cells #[.int .i64 z] 3)).cell? ⟨Wy.heap.size, 0, none⟩ = some (.int .i64 z) := by go_simp
            clear hal
            generalize (Wy.alloc (.cells #[.int .i64 z] 3)) = Wxy at hS hR hqB hmB hmT ⊢
            generalize Wy.heap.size = mB at hqB hmB ⊢
            replace hqT : mT < Wxy.heap.size := lt_of_cell hmT
            refine anyL_one 8 rfl (by kernel_rfl) (fun K hK => ?_)
            obtain ⟨sB, Wxx, hrun, hxB, hR', hb', hfar⟩ := hR.pushB (m := mB) (x := z) (fun j hj => by have h1 : j < 1 := hj; obtain rfl : j = 0 := (by omega); exact hmB) (by omega)
            refine append_run_step rfl (.tmp 52) (.tmp 58) 22 rfl rfl rfl hrun ?_
            refine hK.out _ _ (fun _ => hS.keep hb') ?_
            clear hK K hrun
            try simp only [Act.put, List.setIfInBounds_toArray, List.set_cons_zero, List.set_cons_succ]
            replace hS := hS.keep hb'
            replace hmT := (hfar mT (by omega) hlT 0).trans hmT
            replace hqT : mT < Wxx.heap.size := lt_of_cell hmT
            replace hR := hR'
            replace hxB := Lib.hid hxB
            clear hR' hb' hfar
            refine anyL_take 14 (v := ?_) rfl (by kernel_rfl) (fun _ _ _ h => h) (Or.inl ⟨by rfl, ?_⟩) hS ?_
            rotate_left
            focus (intro W hW; go_simp; try with_reducible rfl)
            simp only [Act.put, List.setIfInBounds_toArray, List.set_cons_zero, List.set_cons_succ]
            refine anyL_one 13 rfl (by kernel_rfl) (fun K hK => ?_)
            obtain ⟨sT, Wf, hrun, hxT, hR', hb', hfar⟩ := hR.pushT (m := mT) (x := tb) (fun j hj => by have h1 : j < 1 := hj; obtain rfl : j = 0 := (by omega); exact hmT) (by omega)
            refine append_run_step rfl (.tmp 61) (.tmp 63) 23 rfl rfl rfl hrun ?_
            refine hK.out _ _ (fun _ => hS.keep hb') ?_
            clear hK K hrun
            try simp only [Act.put, List.setIfInBounds_toArray, List.set_cons_zero, List.set_cons_succ]
            replace hS := hS.keep hb'
            replace hR := hR'
            replace hxT := Lib.hid hxT
            clear hR' hb' hfar
            refine anyL_one 15 rfl (by kernel_rfl) (fun K hK => ?_)
            have y1 := hS.1.yB
            have y2 := hS.1.f41
            go_simp
            refine hK.out _ _ (fun h => absurd h (by decide)) ?_
            clear hK K y1 y2
            try simp only [Act.put, List.setIfInBounds_toArray, List.set_cons_zero, List.set_cons_succ]
            have hX := hS.1.setB sB
            replace hR := hR.set (X := w.heap.size + 4) (by omega) 1 (.slice sB.A sB.xs.length sB.c)
            refine fresh_any (fun W => GvX w W w.heap.size (vzG q (some ⟨bb, bo, none⟩) nb cb (some ⟨b2, o2, none⟩) nt ct AD nd cd) q sE sB T sl0 sl0 ∧ GvR W (w.heap.size + 5) sE sB sT sl0 sl0) ⟨hX, hR⟩ ?_
            clear hS hX hR
            rintro W8 ⟨hX, hR⟩
            refine anyL_one 16 rfl (by kernel_rfl) (fun K hK => ?_)
            go_simp
            refine hK.out _ _ (fun h => absurd h (by decide)) ?_
            clear hK K
            try simp only [Act.put, List.setIfInBounds_toArray, List.set_cons_zero, List.set_cons_succ]
            refine anyL_one 17 rfl (by kernel_rfl) (fun K hK => ?_)
            have y1 := hX.yT
            have y2 := hX.f42
            go_simp
            refine hK.out _ _ (fun h => absurd h (by decide)) ?_
            clear hK K y1 y2
            try simp only [Act.put, List.setIfInBounds_toArray, List.set_cons_zero, List.set_cons_succ]
            replace hX := hX.setT sT
            replace hR := hR.set (X := w.heap.size + 4) (by omega) 2 (.slice sT.A sT.xs.length sT.c)
            refine fresh_any (fun W => GvX w W w.heap.size (vzG q (some ⟨bb, bo, none⟩) nb cb (some ⟨b2, o2, none⟩) nt ct AD nd cd) q sE sB sT sl0 sl0 ∧ GvR W (w.heap.size + 5) sE sB sT sl0 sl0) ⟨hX, hR⟩ ?_
            clear hX hR
            rintro W9 ⟨hX, hR⟩
            refine anyC_done (by kernel_rfl) ?_ _
            have hxs' : Hid (sE.xs = gE bl tr (k + 1) ∧ sB.xs = gB bl (k + 1) ∧ sT.xs = gT tr (k + 1)) := Lib.hid ⟨by rw [hxE.out, hxs.out.1, hgs.out.1], by rw [hxB.out, hxs.out.2.1, hgs.out.2.1], by rw [hxT.out, hxs.out.2.2, hgs.out.2.2]⟩
            have hRX := Lib.hid (And.intro hR hX)
            clear hR hX hxE hxB hxT
            go_wp2_with fail
            go_roundw
            case rel => exact ⟨k + 1, sE, sB, sT, hltH.out, by go_num, hxs', hRX⟩
            case measure => simp only [Go.RowKit.intOf]; have := hltH.out; omega
      · have h2I : ¬ (k : Int) < (nt : Int) := by omega
        clear h2
        go_upto_region 7 with fail
        clear hz1 hz2
        have hS := (show SG w wr.drew w.heap.size (vzG q (some ⟨bb, bo, none⟩) nb cb AT nt ct AD nd cd) q E B T sl0 sl0 bb (bo + k) (.int .i64 z) from ⟨(hRX.out.2.keep ((Below.refl _ _).drew)), hsrc.out _ hRX.out.2.bw.drew, hbl'.out⟩)
        have hR := hRX.out.1.below (Below.refl _ _).drew
        clear hRX
        refine region_anyC (fun i => decide (i < 12)) (fun W => SG w W w.heap.size (vzG q (some ⟨bb, bo, none⟩) nb cb AT nt ct AD nd cd) q E B T sl0 sl0 bb (bo + k) (.int .i64 z)) (by kernel_rfl) ?_
        generalize wr.drew = Wd at hS hR ⊢
        refine anyL_take 0 (v := ?_) rfl (by kernel_rfl) (fun _ _ _ h => h) (Or.inl ⟨by rfl, ?_⟩) hS ?_
        rotate_left
        focus (intro W hW; go_simp; try with_reducible rfl)
        simp only [Act.put, List.setIfInBounds_toArray, List.set_cons_zero, List.set_cons_succ]
        refine anyL_take 1 (v := ?_) rfl (by kernel_rfl) (fun _ _ _ h => h) (Or.inl ⟨by rfl, ?_⟩) hS ?_
        rotate_left
        focus (intro W hW; have y1 := hW.1.xE; go_simp; try with_reducible rfl)
        simp only [Act.put, List.setIfInBounds_toArray, List.set_cons_zero, List.set_cons_succ]
        refine anyL_take 2 (v := ?_) rfl (by kernel_rfl) (fun _ _ _ h => h) (Or.inl ⟨by rfl, ?_⟩) hS ?_
        rotate_left
        focus (intro W hW; go_simp; try with_reducible rfl)
        simp only [Act.put, List.setIfInBounds_toArray, List.set_cons_zero, List.set_cons_succ]
        refine anyL_take 3 (v := ?_) rfl (by kernel_rfl) (fun _ _ _ h => h) (Or.inl ⟨by rfl, ?_⟩) hS ?_
        rotate_left
        focus (intro W hW; have y1 : W.cell? ⟨w.heap.size, 1, none⟩ = some (.slice (some ⟨bb, bo, none⟩) nb cb) := hW.1.z1; go_simp; try with_reducible rfl)
        simp only [Act.put, List.setIfInBounds_toArray, List.set_cons_zero, List.set_cons_succ]
        refine anyL_take 4 (v := ?_) rfl (by kernel_rfl) (fun _ _ _ h => h) (Or.inl ⟨by rfl, ?_⟩) hS ?_
        rotate_left
        focus (intro W hW; go_simp; try with_reducible rfl)
        simp only [Act.put, List.setIfInBounds_toArray, List.set_cons_zero, List.set_cons_succ]
        refine anyL_take 5 (v := ?_) rfl (by kernel_rfl) (fun _ _ _ h => h) (Or.inl ⟨by rfl, ?_⟩) hS ?_
        rotate_left
        focus (intro W hW; go_simp; try with_reducible rfl)
        simp only [Act.put, List.setIfInBounds_toArray, List.set_cons_zero, List.set_cons_succ]
        refine anyL_take 6 (v := ?_) rfl (by kernel_rfl) (fun _ _ _ h => h) (Or.inl ⟨by rfl, ?_⟩) hS ?_
        rotate_left
        focus (intro W hW; have y1 := hW.2.1; go_simp; try with_reducible rfl)
        simp only [Act.put, List.setIfInBounds_toArray, List.set_cons_zero, List.set_cons_succ]
        refine anyL_take 7 (v := ?_) rfl (by kernel_rfl) (fun _ _ _ h => h) (Or.inl ⟨by rfl, ?_⟩) hS ?_
        rotate_left
        focus (intro W hW; go_simp; try with_reducible rfl)
        simp only [Act.put, List.setIfInBounds_toArray, List.set_cons_zero, List.set_cons_succ]
        refine anyL_take 8 (v := ?_) rfl (by kernel_rfl) (fun _ _ _ h => h) (Or.inl ⟨by rfl, ?_⟩) hS ?_
        rotate_left
        focus (intro W hW; go_simp; try with_reducible rfl)
        simp only [Act.put, List.setIfInBounds_toArray, List.set_cons_zero, List.set_cons_succ]
        refine anyL_one 9 rfl (by kernel_rfl) (fun K hK => ?_)
        have hal := (Below.refl Wd.heap.size Wd).alloc (Nat.le_refl _) (.cells #[.int .i64 z, .bool false] 47)
        go_simp
        refine hK.out _ _ (fun _ => hS.keep (hal.mono hR.bs)) ?_
        clear hK K
        try simp only [Act.put, List.setIfInBounds_toArray, List.set_cons_zero, List.set_cons_succ]
        skip
        have hqE : Wd.heap.size < (Wd.alloc (.cells #[.int .i64 z, .bool false] 47)).heap.size := by rw [World.size_alloc]; omega
        replace hS := hS.keep (hal.mono hR.bs)
        replace hR := hR.below hal
        have hmE : (Wd.alloc (.cells #[.int .i64 z, .bool false] 47)).cell? ⟨Wd.heap.size, 0, none⟩ = some (.int .i64 z) := by go_simp
        have hmE2 : (Wd.alloc (.cells #[.int .i64 z, .bool false] 47)).cell? ⟨Wd.heap.size, 1, none⟩ = some (.bool false) := by go_simp
        clear hal
        generalize (Wd.alloc (.cells #[.int .i64 z, .bool false] 47)) = Wd1 at hS hR hqE hmE hmE2 ⊢
        generalize Wd.heap.size = mE at hqE hmE hmE2 ⊢
        have hlE := hlenH.out.1
        refine anyL_one 10 rfl (by kernel_rfl) (fun K hK => ?_)
        obtain ⟨sE, Wd2, hrun, hxE, hR', hb', hfar⟩ := hR.pushE (m := mE) (x := (z, false)) (fun j hj => by have h1 : j < 2 := hj; rcases (by omega : j = 0 ∨ j = 1) with rfl | rfl; exact hmE; exact hmE2) (by omega)
        refine append_run_step rfl (.tmp 40) (.tmp 48) 28 rfl rfl rfl hrun ?_
        refine hK.out _ _ (fun _ => hS.keep hb') ?_
        clear hK K hrun
        try simp only [Act.put, List.setIfInBounds_toArray, List.set_cons_zero, List.set_cons_succ]
        replace hS := hS.keep hb'
        replace hR := hR'
        replace hxE := Lib.hid hxE
        clear hR' hb' hfar
        refine anyL_one 11 rfl (by kernel_rfl) (fun K hK => ?_)
        go_simp
        refine hK.out _ _ (fun _ => hS) ?_
        clear hK K
        try simp only [Act.put, List.setIfInBounds_toArray, List.set_cons_zero, List.set_cons_succ]
        refine anyL_one 12 rfl (by kernel_rfl) (fun K hK => ?_)
        have y1 := hS.1.xE
        have y2 := hS.1.f31
        go_simp
        refine hK.out _ _ (fun h => absurd h (by decide)) ?_
        clear hK K y1 y2
        try simp only [Act.put, List.setIfInBounds_toArray, List.set_cons_zero, List.set_cons_succ]
        replace hS := (show SG w (Wd2.setCell ⟨w.heap.size + 3, 1, none⟩ (.slice sE.A sE.xs.length sE.c)) w.heap.size (vzG q (some ⟨bb, bo, none⟩) nb cb AT nt ct AD nd cd) q sE B T sl0 sl0 bb (bo + k) (.int .i64 z) from ⟨hS.1.setE sE, by rw [World.cell?_setCell_other _ _ _ _ (by intro e; injection e with e1 e2; have := hbl'.out; omega)]; exact hS.2.1, hS.2.2⟩)
        replace hR := hR.set (X := w.heap.size + 3) (by omega) 1 (.slice sE.A sE.xs.length sE.c)
        refine fresh_any (fun W => SG w W w.heap.size (vzG q (some ⟨bb, bo, none⟩) nb cb AT nt ct AD nd cd) q sE B T sl0 sl0 bb (bo + k) (.int .i64 z) ∧ GvR W (w.heap.size + 5) sE B T sl0 sl0) ⟨hS, hR⟩ ?_
        clear hS hR hlE hqE hmE hmE2
        rintro W7 hSR
        refine anyC_done (by kernel_rfl) ?_ _
        replace hSR := Lib.hid hSR
        go_upto_region 8 with fail
        have hS := hSR.out.1.keep (Below.refl _ _).drew
        have hR := hSR.out.2.below (Below.refl _ _).drew
        clear hSR
        refine region_anyC (fun i => decide (i < 15)) (fun W => SG w W w.heap.size (vzG q (some ⟨bb, bo, none⟩) nb cb AT nt ct AD nd cd) q sE B T sl0 sl0 bb (bo + k) (.int .i64 z)) (by kernel_rfl) ?_
        generalize W7.drew = Wd at hS hR ⊢
        refine anyL_take 0 (v := ?_) rfl (by kernel_rfl) (fun _ _ _ h => h) (Or.inl ⟨by rfl, ?_⟩) hS ?_
        rotate_left
        focus (intro W hW; go_simp; try with_reducible rfl)
        simp only [Act.put, List.setIfInBounds_toArray, List.set_cons_zero, List.set_cons_succ]
        refine anyL_take 1 (v := ?_) rfl (by kernel_rfl) (fun _ _ _ h => h) (Or.inl ⟨by rfl, ?_⟩) hS ?_
        rotate_left
        focus (intro W hW; have y1 := hW.1.yB; go_simp; try with_reducible rfl)
        simp only [Act.put, List.setIfInBounds_toArray, List.set_cons_zero, List.set_cons_succ]
        refine anyL_take 2 (v := ?_) rfl (by kernel_rfl) (fun _ _ _ h => h) (Or.inl ⟨by rfl, ?_⟩) hS ?_
        rotate_left
        focus (intro W hW; go_simp; try with_reducible rfl)
        simp only [Act.put, List.setIfInBounds_toArray, List.set_cons_zero, List.set_cons_succ]
        refine anyL_take 3 (v := ?_) rfl (by kernel_rfl) (fun _ _ _ h => h) (Or.inl ⟨by rfl, ?_⟩) hS ?_
        rotate_left
        focus (intro W hW; have y1 : W.cell? ⟨w.heap.size, 1, none⟩ = some (.slice (some ⟨bb, bo, none⟩) nb cb) := hW.1.z1; go_simp; try with_reducible rfl)
        simp only [Act.put, List.setIfInBounds_toArray, List.set_cons_zero, List.set_cons_succ]
        refine anyL_take 4 (v := ?_) rfl (by kernel_rfl) (fun _ _ _ h => h) (Or.inl ⟨by rfl, ?_⟩) hS ?_
        rotate_left
        focus (intro W hW; go_simp; try with_reducible rfl)
        simp only [Act.put, List.setIfInBounds_toArray, List.set_cons_zero, List.set_cons_succ]
        refine anyL_take 5 (v := ?_) rfl (by kernel_rfl) (fun _ _ _ h => h) (Or.inl ⟨by rfl, ?_⟩) hS ?_
        rotate_left
        focus (intro W hW; go_simp; try with_reducible rfl)
        simp only [Act.put, List.setIfInBounds_toArray, List.set_cons_zero, List.set_cons_succ]
        refine anyL_take 6 (v := ?_) rfl (by kernel_rfl) (fun _ _ _ h => h) (Or.inl ⟨by rfl, ?_⟩) hS ?_
        rotate_left
        focus (intro W hW; have y1 := hW.2.1; go_simp; try with_reducible rfl)
        simp only [Act.put, List.setIfInBounds_toArray, List.set_cons_zero, List.set_cons_succ]
        refine anyL_take 9 (v := ?_) rfl (by kernel_rfl) (fun _ _ _ h => h) (Or.inl ⟨by rfl, ?_⟩) hS ?_
        rotate_left
        focus (intro W hW; go_simp; try with_reducible rfl)
        simp only [Act.put, List.setIfInBounds_toArray, List.set_cons_zero, List.set_cons_succ]
        refine anyL_take 10 (v := ?_) rfl (by kernel_rfl) (fun _ _ _ h => h) (Or.inl ⟨by rfl, ?_⟩) hS ?_
        rotate_left
        focus (intro W hW; have y1 := hW.1.yT; go_simp; try with_reducible rfl)
        simp only [Act.put, List.setIfInBounds_toArray, List.set_cons_zero, List.set_cons_succ]
        refine anyL_take 11 (v := ?_) rfl (by kernel_rfl) (fun _ _ _ h => h) (Or.inl ⟨by rfl, ?_⟩) hS ?_
        rotate_left
        focus (intro W hW; go_simp; try with_reducible rfl)
        simp only [Act.put, List.setIfInBounds_toArray, List.set_cons_zero, List.set_cons_succ]
        have hlB0 := hlenH.out.2.1
        have hlT0 := hlenH.out.2.2
        refine anyL_two 7 12 rfl rfl (by kernel_rfl) (fun K hK => ?_) (fun K hK => ?_)
        ·
          as_aux_lemma =>
            have hal := (Below.refl Wd.heap.size Wd).alloc (Nat.le_refl _) (.cells #[.int .i64 z] 3)
            go_simp
            refine hK.out _ _ (fun _ => hS.keep (hal.mono hR.bs)) ?_
            clear hK K
            try simp only [Act.put, List.setIfInBounds_toArray, List.set_cons_zero, List.set_cons_succ]
            skip
            have hqB : Wd.heap.size < (Wd.alloc (.cells #[.int .i64 z] 3)).heap.size := by rw [World.size_alloc]; omega
            replace hS := hS.keep (hal.mono hR.bs)
            replace hR := hR.below hal
            have hmB : (Wd.alloc (.cells #[.int .i64 z] 3)).cell? ⟨Wd.heap.size, 0, none⟩ = some (.int .i64 z) := by go_simp
            clear hal
            generalize (Wd.alloc (.cells #[.int .i64 z] 3)) = Wx at hS hR hqB hmB ⊢
            generalize Wd.heap.size = mB at hqB hmB ⊢
            refine anyL_two 8 12 rfl rfl (by kernel_rfl) (fun K hK => ?_) (fun K hK => ?_)
            ·
              obtain ⟨sB, Wxx, hrun, hxB, hR', hb', hfar⟩ := hR.pushB (m := mB) (x := z) (fun j hj => by have h1 : j < 1 := hj; obtain rfl : j = 0 := (by omega); exact hmB) (by omega)
              refine append_run_step rfl (.tmp 52) (.tmp 58) 22 rfl rfl rfl hrun ?_
              refine hK.out _ _ (fun _ => hS.keep hb') ?_
              clear hK K hrun
              try simp only [Act.put, List.setIfInBounds_toArray, List.set_cons_zero, List.set_cons_succ]
              replace hS := hS.keep hb'
              replace hR := hR'
              replace hxB := Lib.hid hxB
              clear hR' hb' hfar
              refine anyL_take 14 (v := ?_) rfl (by kernel_rfl) (fun _ _ _ h => h) (Or.inl ⟨by rfl, ?_⟩) hS ?_
              rotate_left
              focus (intro W hW; go_simp; try with_reducible rfl)
              simp only [Act.put, List.setIfInBounds_toArray, List.set_cons_zero, List.set_cons_succ]
              refine anyL_one 12 rfl (by kernel_rfl) (fun K hK => ?_)
              have hal := (Below.refl Wxx.heap.size Wxx).alloc (Nat.le_refl _) (.cells #[.bool false] 4)
              go_simp
              refine hK.out _ _ (fun _ => hS.keep (hal.mono hR.bs)) ?_
              clear hK K
              try simp only [Act.put, List.setIfInBounds_toArray, List.set_cons_zero, List.set_cons_succ]
              skip
              have hqT : Wxx.heap.size < (Wxx.alloc (.cells #[.bool false] 4)).heap.size := by rw [World.size_alloc]; omega
              replace hS := hS.keep (hal.mono hR.bs)
              replace hR := hR.below hal
              have hmT : (Wxx.alloc (.cells #[.bool false] 4)).cell? ⟨Wxx.heap.size, 0, none⟩ = some (.bool false) := by go_simp
              clear hal
              generalize (Wxx.alloc (.cells #[.bool false] 4)) = Wxy at hS hR hqT hmT ⊢
              generalize Wxx.heap.size = mT at hqT hmT ⊢
              refine anyL_one 13 rfl (by kernel_rfl) (fun K hK => ?_)
              obtain ⟨sT, Wf, hrun, hxT, hR', hb', hfar⟩ := hR.pushT (m := mT) (x := false) (fun j hj => by have h1 : j < 1 := hj; obtain rfl : j = 0 := (by omega); exact hmT) (by omega)
              refine append_run_step rfl (.tmp 61) (.tmp 63) 23 rfl rfl rfl hrun ?_
              refine hK.out _ _ (fun _ => hS.keep hb') ?_
              clear hK K hrun
              try simp only [Act.put, List.setIfInBounds_toArray, List.set_cons_zero, List.set_cons_succ]
              replace hS := hS.keep hb'
              replace hR := hR'
              replace hxT := Lib.hid hxT
              clear hR' hb' hfar
              refine anyL_one 15 rfl (by kernel_rfl) (fun K hK => ?_)
              have y1 := hS.1.yB
              have y2 := hS.1.f41
              go_simp
              refine hK.out _ _ (fun h => absurd h (by decide)) ?_
              clear hK K y1 y2
              try simp only [Act.put, List.setIfInBounds_toArray, List.set_cons_zero, List.set_cons_succ]
              have hX := hS.1.setB sB
              replace hR := hR.set (X := w.heap.size + 4) (by omega) 1 (.slice sB.A sB.xs.length sB.c)
              refine fresh_any (fun W => GvX w W w.heap.size (vzG q (some ⟨bb, bo, none⟩) nb cb AT nt ct AD nd cd) q sE sB T sl0 sl0 ∧ GvR W (w.heap.size + 5) sE sB sT sl0 sl0) ⟨hX, hR⟩ ?_
              clear hS hX hR
              rintro W8 ⟨hX, hR⟩
              refine anyL_one 16 rfl (by kernel_rfl) (fun K hK => ?_)
              go_simp
              refine hK.out _ _ (fun h => absurd h (by decide)) ?_
              clear hK K
              try simp only [Act.put, List.setIfInBounds_toArray, List.set_cons_zero, List.set_cons_succ]
              refine anyL_one 17 rfl (by kernel_rfl) (fun K hK => ?_)
              have y1 := hX.yT
              have y2 := hX.f42
              go_simp
              refine hK.out _ _ (fun h => absurd h (by decide)) ?_
              clear hK K y1 y2
              try simp only [Act.put, List.setIfInBounds_toArray, List.set_cons_zero, List.set_cons_succ]
              replace hX := hX.setT sT
              replace hR := hR.set (X := w.heap.size + 4) (by omega) 2 (.slice sT.A sT.xs.length sT.c)
              refine fresh_any (fun W => GvX w W w.heap.size (vzG q (some ⟨bb, bo, none⟩) nb cb AT nt ct AD nd cd) q sE sB sT sl0 sl0 ∧ GvR W (w.heap.size + 5) sE sB sT sl0 sl0) ⟨hX, hR⟩ ?_
              clear hX hR
              rintro W9 ⟨hX, hR⟩
              refine anyC_done (by kernel_rfl) ?_ _
              have hxs' : Hid (sE.xs = gE bl tr (k + 1) ∧ sB.xs = gB bl (k + 1) ∧ sT.xs = gT tr (k + 1)) := Lib.hid ⟨by rw [hxE.out, hxs.out.1, hgs.out.1], by rw [hxB.out, hxs.out.2.1, hgs.out.2.1], by rw [hxT.out, hxs.out.2.2, hgs.out.2.2]⟩
              have hRX := Lib.hid (And.intro hR hX)
              clear hR hX hxE hxB hxT
              go_wp2_with fail
              go_roundw
              case rel => exact ⟨k + 1, sE, sB, sT, hltH.out, by go_num, hxs', hRX⟩
              case measure => simp only [Go.RowKit.intOf]; have := hltH.out; omega
            ·
              have hal := (Below.refl Wx.heap.size Wx).alloc (Nat.le_refl _) (.cells #[.bool false] 4)
              go_simp
              refine hK.out _ _ (fun _ => hS.keep (hal.mono hR.bs)) ?_
              clear hK K
              try simp only [Act.put, List.setIfInBounds_toArray, List.set_cons_zero, List.set_cons_succ]
              have hlT := fun r (e : B.A = some ⟨r, 0, none⟩) => row_lt hR.rB r e
              have hqT : Wx.heap.size < (Wx.alloc (.cells #[.bool false] 4)).heap.size := by rw [World.size_alloc]; omega
              replace hS := hS.keep (hal.mono hR.bs)
              replace hR := hR.below hal
              replace hmB := (hal.cell (lt_of_cell hmB)).trans hmB
              have hmT : (Wx.alloc (.cells #[.bool false] 4)).cell? ⟨Wx.heap.size, 0, none⟩ = some (.bool false) := by go_simp
              clear hal
              generalize (Wx.alloc (.cells #[.bool false] 4)) = Wxy at hS hR hqT hmT hmB ⊢
              generalize Wx.heap.size = mT at hqT hmT hlT ⊢
              replace hqB : mB < Wxy.heap.size := lt_of_cell hmB
              refine anyL_one 8 rfl (by kernel_rfl) (fun K hK => ?_)
              obtain ⟨sB, Wxx, hrun, hxB, hR', hb', hfar⟩ := hR.pushB (m := mB) (x := z) (fun j hj => by have h1 : j < 1 := hj; obtain rfl : j = 0 := (by omega); exact hmB) (by omega)
              refine append_run_step rfl (.tmp 52) (.tmp 58) 22 rfl rfl rfl hrun ?_
              refine hK.out _ _ (fun _ => hS.keep hb') ?_
              clear hK K hrun
              try simp only [Act.put, List.setIfInBounds_toArray, List.set_cons_zero, List.set_cons_succ]
              replace hS := hS.keep hb'
              replace hmT := (hfar mT (by omega) hlT 0).trans hmT
              replace hqT : mT < Wxx.heap.size := lt_of_cell hmT
              replace hR := hR'
              replace hxB := Lib.hid hxB
              clear hR' hb' hfar
              refine anyL_take 14 (v := ?_) rfl (by kernel_rfl) (fun _ _ _ h => h) (Or.inl ⟨by rfl, ?_⟩) hS ?_
              rotate_left
              focus (intro W hW; go_simp; try with_reducible rfl)
              simp only [Act.put, List.setIfInBounds_toArray, List.set_cons_zero, List.set_cons_succ]
              refine anyL_one 13 rfl (by kernel_rfl) (fun K hK => ?_)
              obtain ⟨sT, Wf, hrun, hxT, hR', hb', hfar⟩ := hR.pushT (m := mT) (x := false) (fun j hj => by have h1 : j < 1 := hj; obtain rfl : j = 0 := (by omega); exact hmT) (by omega)
              refine append_run_step rfl (.tmp 61) (.tmp 63) 23 rfl rfl rfl hrun ?_
              refine hK.out _ _ (fun _ => hS.keep hb') ?_
              clear hK K hrun
              try simp only [Act.put, List.setIfInBounds_toArray, List.set_cons_zero, List.set_cons_succ]
              replace hS := hS.keep hb'
              replace hR := hR'
              replace hxT := Lib.hid hxT
              clear hR' hb' hfar
              refine anyL_one 15 rfl (by kernel_rfl) (fun K hK => ?_)
              have y1 := hS.1.yB
              have y2 := hS.1.f41
              go_simp
              refine hK.out _ _ (fun h => absurd h (by decide)) ?_
              clear hK K y1 y2
              try simp only [Act.put, List.setIfInBounds_toArray, List.set_cons_zero, List.set_cons_succ]
              have hX := hS.1.setB sB
              replace hR := hR.set (X := w.heap.size + 4) (by omega) 1 (.slice sB.A sB.xs.length sB.c)
              refine fresh_any (fun W => GvX w W w.heap.size (vzG q (some ⟨bb, bo, none⟩) nb cb AT nt ct AD nd cd) q sE sB T sl0 sl0 ∧ GvR W (w.heap.size + 5) sE sB sT sl0 sl0) ⟨hX, hR⟩ ?_
              clear hS hX hR
              rintro W8 ⟨hX, hR⟩
              refine anyL_one 16 rfl (by kernel_rfl) (fun K hK => ?_)
              go_simp
              refine hK.out _ _ (fun h => absurd h (by decide)) ?_
              clear hK K
              try simp only [Act.put, List.setIfInBounds_toArray, List.set_cons_zero, List.set_cons_succ]
              refine anyL_one 17 rfl (by kernel_rfl) (fun K hK => ?_)
              have y1 := hX.yT
              have y2 := hX.f42
              go_simp
              refine hK.out _ _ (fun h => absurd h (by decide)) ?_
              clear hK K y1 y2
              try simp only [Act.put, List.setIfInBounds_toArray, List.set_cons_zero, List.set_cons_succ]
              replace hX := hX.setT sT
              replace hR := hR.set (X := w.heap.size + 4) (by omega) 2 (.slice sT.A sT.xs.length sT.c)
              refine fresh_any (fun W => GvX w W w.heap.size (vzG q (some ⟨bb, bo, none⟩) nb cb AT nt ct AD nd cd) q sE sB sT sl0 sl0 ∧ GvR W (w.heap.size + 5) sE sB sT sl0 sl0) ⟨hX, hR⟩ ?_
              clear hX hR
              rintro W9 ⟨hX, hR⟩
              refine anyC_done (by kernel_rfl) ?_ _
              have hxs' : Hid (sE.xs = gE bl tr (k + 1) ∧ sB.xs = gB bl (k + 1) ∧ sT.xs = gT tr (k + 1)) := Lib.hid ⟨by rw [hxE.out, hxs.out.1, hgs.out.1], by rw [hxB.out, hxs.out.2.1, hgs.out.2.1], by rw [hxT.out, hxs.out.2.2, hgs.out.2.2]⟩
              have hRX := Lib.hid (And.intro hR hX)
              clear hR hX hxE hxB hxT
              go_wp2_with fail
              go_roundw
              case rel => exact ⟨k + 1, sE, sB, sT, hltH.out, by go_num, hxs', hRX⟩
              case measure => simp only [Go.RowKit.intOf]; have := hltH.out; omega
        ·
          as_aux_lemma =>
            have hal := (Below.refl Wd.heap.size Wd).alloc (Nat.le_refl _) (.cells #[.bool false] 4)
            go_simp
            refine hK.out _ _ (fun _ => hS.keep (hal.mono hR.bs)) ?_
            clear hK K
            try simp only [Act.put, List.setIfInBounds_toArray, List.set_cons_zero, List.set_cons_succ]
            have hlT := fun r (e : B.A = some ⟨r, 0, none⟩) => row_lt hR.rB r e
            have hqT : Wd.heap.size < (Wd.alloc (.cells #[.bool false] 4)).heap.size := by rw [World.size_alloc]; omega
            replace hS := hS.keep (hal.mono hR.bs)
            replace hR := hR.below hal
            have hmT : (Wd.alloc (.cells #[.bool false] 4)).cell? ⟨Wd.heap.size, 0, none⟩ = some (.bool false) := by go_simp
            clear hal
            generalize (Wd.alloc (.cells #[.bool false] 4)) = Wy at hS hR hqT hmT ⊢
            generalize Wd.heap.size = mT at hqT hmT hlT ⊢
            refine anyL_one 7 rfl (by kernel_rfl) (fun K hK => ?_)
            have hal := (Below.refl Wy.heap.size Wy).alloc (Nat.le_refl _) (.cells #[.int .i64 z] 3)
            go_simp
            refine hK.out _ _ (fun _ => hS.keep (hal.mono hR.bs)) ?_
            clear hK K
            try simp only [Act.put, List.setIfInBounds_toArray, List.set_cons_zero, List.set_cons_succ]
            skip
            have hqB : Wy.heap.size < (Wy.alloc (.cells #[.int .i64 z] 3)).heap.size := by rw [World.size_alloc]; omega
            replace hS := hS.keep (hal.mono hR.bs)
            replace hR := hR.below hal
            replace hmT := (hal.cell (lt_of_cell hmT)).trans hmT
            have hmB : (Wy.alloc (.cells #[.int .i64 z] 3)).cell? ⟨Wy.heap.size, 0, none⟩ = some (.int .i64 z) := by go_simp
            clear hal
            generalize (Wy.alloc (.cells #[.int .i64 z] 3)) = Wxy at hS hR hqB hmB hmT ⊢
            generalize Wy.heap.size = mB at hqB hmB ⊢
            replace hqT : mT < Wxy.heap.size := lt_of_cell hmT
            refine anyL_one 8 rfl (by kernel_rfl) (fun K hK => ?_)
            obtain ⟨sB, Wxx, hrun, hxB, hR', hb', hfar⟩ := hR.pushB (m := mB) (x := z) (fun j hj => by have h1 : j < 1 := hj; obtain rfl : j = 0 := (by omega); exact hmB) (by omega)
            refine append_run_step rfl (.tmp 52) (.tmp 58) 22 rfl rfl rfl hrun ?_
            refine hK.out _ _ (fun _ => hS.keep hb') ?_
            clear hK K hrun
            try simp only [Act.put, List.setIfInBounds_toArray, List.set_cons_zero, List.set_cons_succ]
            replace hS := hS.keep hb'
            replace hmT := (hfar mT (by omega) hlT 0).trans hmT
            replace hqT : mT < Wxx.heap.size := lt_of_cell hmT
            replace hR := hR'
            replace hxB := Lib.hid hxB
            clear hR' hb' hfar
            refine anyL_take 14 (v := ?_) rfl (by kernel_rfl) (fun _ _ _ h => h) (Or.inl ⟨by rfl, ?_⟩) hS ?_
            rotate_left
            focus (intro W hW; go_simp; try with_reducible rfl)
            simp only [Act.put, List.setIfInBounds_toArray, List.set_cons_zero, List.set_cons_succ]
            refine anyL_one 13 rfl (by kernel_rfl) (fun K hK => ?_)
            obtain ⟨sT, Wf, hrun, hxT, hR', hb', hfar⟩ := hR.pushT (m := mT) (x := false) (fun j hj => by have h1 : j < 1 := hj; obtain rfl : j = 0 := (by omega); exact hmT) (by omega)
            refine append_run_step rfl (.tmp 61) (.tmp 63) 23 rfl rfl rfl hrun ?_
            refine hK.out _ _ (fun _ => hS.keep hb') ?_
            clear hK K hrun
            try simp only [Act.put, List.setIfInBounds_toArray, List.set_cons_zero, List.set_cons_succ]
            replace hS := hS.keep hb'
            replace hR := hR'
            replace hxT := Lib.hid hxT
            clear hR' hb' hfar
            refine anyL_one 15 rfl (by kernel_rfl) (fun K hK => ?_)
            have y1 := hS.1.yB
            have y2 := hS.1.f41
            go_simp
            refine hK.out _ _ (fun h => absurd h (by decide)) ?_
            clear hK K y1 y2
            try simp only [Act.put, List.setIfInBounds_toArray, List.set_cons_zero, List.set_cons_succ]
            have hX := hS.1.setB sB
            replace hR := hR.set (X := w.heap.size + 4) (by omega) 1 (.slice sB.A sB.xs.length sB.c)
            refine fresh_any (fun W => GvX w W w.heap.size (vzG q (some ⟨bb, bo, none⟩) nb cb AT nt ct AD nd cd) q sE sB T sl0 sl0 ∧ GvR W (w.heap.size + 5) sE sB sT sl0 sl0) ⟨hX, hR⟩ ?_
            clear hS hX hR
            rintro W8 ⟨hX, hR⟩
            refine anyL_one 16 rfl (by kernel_rfl) (fun K hK => ?_)
            go_simp
            refine hK.out _ _ (fun h => absurd h (by decide)) ?_
            clear hK K
            try simp only [Act.put, List.setIfInBounds_toArray, List.set_cons_zero, List.set_cons_succ]
            refine anyL_one 17 rfl (by kernel_rfl) (fun K hK => ?_)
            have y1 := hX.yT
            have y2 := hX.f42
            go_simp
            refine hK.out _ _ (fun h => absurd h (by decide)) ?_
            clear hK K y1 y2
            try simp only [Act.put, List.setIfInBounds_toArray, List.set_cons_zero, List.set_cons_succ]
            replace hX := hX.setT sT
            replace hR := hR.set (X := w.heap.size + 4) (by omega) 2 (.slice sT.A sT.xs.length sT.c)
            refine fresh_any (fun W => GvX w W w.heap.size (vzG q (some ⟨bb, bo, none⟩) nb cb AT nt ct AD nd cd) q sE sB sT sl0 sl0 ∧ GvR W (w.heap.size + 5) sE sB sT sl0 sl0) ⟨hX, hR⟩ ?_
            clear hX hR
            rintro W9 ⟨hX, hR⟩
            refine anyC_done (by kernel_rfl) ?_ _
            have hxs' : Hid (sE.xs = gE bl tr (k + 1) ∧ sB.xs = gB bl (k + 1) ∧ sT.xs = gT tr (k + 1)) := Lib.hid ⟨by rw [hxE.out, hxs.out.1, hgs.out.1], by rw [hxB.out, hxs.out.2.1, hgs.out.2.1], by rw [hxT.out, hxs.out.2.2, hgs.out.2.2]⟩
            have hRX := Lib.hid (And.intro hR hX)
            clear hR hX hxE hxB hxT
            go_wp2_with fail
            go_roundw
            case rel => exact ⟨k + 1, sE, sB, sT, hltH.out, by go_num, hxs', hRX⟩
            case measure => simp only [Go.RowKit.intOf]; have := hltH.out; omega
    case neg =>
      have hke : k = n9 := by omega
      have hxsE : Hid (E.xs = gE bl tr n9 ∧ B.xs = gB bl n9 ∧ T.xs = gT tr n9) := Lib.hid (by rw [← hke]; exact hxs.out)
      have e1 : bb = false := by rw [← hbb]; exact decide_eq_false hlt
      subst e1
      clear hbb
      obtain ⟨m9, hm9⟩ : ∃ m9, min nd 9 = m9 := ⟨_, rfl⟩
      rw [hm9] at hPH
      have hm9H : Hid (m9 ≤ nd ∧ m9 ≤ 9 ∧ (m9 = nd ∨ m9 = 9)) := Lib.hid (by omega)
      clear hxs hkw hlt hke hkn hm9
      ·
        go_upto_region 9 with fail
        go_wp2_with fail
        go_loopw [8, 9] (fun jv dv wr2 => ∃ (j : Nat) (D F : Sl ByteArray), j ≤ m9 ∧ jv = .int .i64 (j : Int) ∧ Hid (D.xs = gD ds j ∧ F.xs = gD ds j) ∧ Hid (GvR wr2 (w.heap.size + 5) E B T D F ∧ GvX w wr2 w.heap.size (vzG q AB nb cb AT nt ct AD nd cd) q E B T D F)) (fun jv _ _ => m9 - (Go.RowKit.intOf jv).toNat)
        case atStart => exact ⟨0, sl0, sl0, Nat.zero_le _, rfl, Lib.hid ⟨rfl, rfl⟩, hRX⟩
        case round =>
          clear hRX
          obtain ⟨j, D, F, hjn, rfl, hds2, hRX⟩ := hrel
          have hjw : IntKind.i64.wrap ((j : Int) + 1) = (j : Int) + 1 := IntWalk.i64_in _ (by have := hm9H.out; omega)
          have hz3 : wr.cell? ⟨w.heap.size, 3, none⟩ = some (.slice AD nd cd) := hRX.out.2.z3
          obtain ⟨cc, hcc⟩ : ∃ cc : Bool, decide (j < m9) = cc := ⟨_, rfl⟩
          go_upto_region 10 with fail
          go_cut [75] from 67 to 75 (fun c wx => c = .bool cc ∧ wx = wr)
          case first =>
            have hcs : ¬ (j : Int) < (nd : Int) ∨ ((j : Int) < (nd : Int) ∧ (j : Int) < 9) ∨ ((j : Int) < (nd : Int) ∧ ¬ (j : Int) < 9) := by omega
            rcases hcs with g1 | ⟨g1, g2⟩ | ⟨g1, g2⟩
            · have e1 : cc = false := by rw [← hcc]; exact decide_eq_false (by have := hm9H.out; omega)
              subst e1
              go_wp2_with fail
              go_meet
              exact ⟨rfl, rfl⟩
            · have e1 : cc = true := by rw [← hcc]; exact decide_eq_true (by have := hm9H.out; omega)
              subst e1
              go_wp2_with fail
              go_meet
              exact ⟨rfl, rfl⟩
            · have e1 : cc = false := by rw [← hcc]; exact decide_eq_false (by have := hm9H.out; omega)
              subst e1
              go_wp2_with fail
              go_meet
              exact ⟨rfl, rfl⟩
          obtain ⟨rfl, hwx⟩ := hcut
          rw [hwx]
          clear hwx
          clear hz3
          by_cases hlt : j < m9
          case pos =>
            have e2 : cc = true := by rw [← hcc]; exact decide_eq_true hlt
            subst e2
            clear hcc
            have hjI : (j : Int) < (nd : Int) := by have := hm9H.out; omega
            have hj9 : (j : Int) < 9 := by have := hm9H.out; omega
            have hjb : j < ds.length := by have := hm9H.out; have := hlnH.out.2.2; omega
            obtain ⟨bb, bo, hAD, hbl, hx⟩ := one_at rfl (hIH.out w (Below.refl _ _)).d hjb
            have hsrc : wr.cell? ⟨bb, bo + j, none⟩ = some (.string (ds.getD j ⟨#[]⟩)) := by
              rw [hRX.out.2.bw.cell (p := ⟨bb, bo + j, none⟩) hbl, hx, getD_at hjb]
              rfl
            have hdm : (ds.getD j ⟨#[]⟩).size ≤ maxLen := by rw [getD_at hjb]; exact hdsH.out _ (List.getElem_mem hjb)
            subst hAD
            have hgs := Lib.hid (gD_succ ds j)
            have hlen : D.xs.length = j ∧ F.xs.length = j := by rw [hds2.out.1, hds2.out.2]; exact ⟨gD_len _ _, gD_len _ _⟩
            have hlenH := Lib.hid (show D.xs.length ≤ 9 ∧ F.xs.length ≤ 9 by have := hm9H.out; omega)
            have hltH := Lib.hid hlt
            have hz3 : wr.cell? ⟨w.heap.size, 3, none⟩ = some (.slice (some ⟨bb, bo, none⟩) nd cd) := hRX.out.2.z3
            clear hx hbl hjb hlen hlt hjn
            generalize ds.getD j ⟨#[]⟩ = d at hsrc hgs hdm
            by_cases hp : d.size < 60 ∧ d ≠ ⟨#[]⟩
            case pos =>
              obtain ⟨p, hpe⟩ : ∃ p, (d ++ zeroB 64).extract 0 64 = p := ⟨_, rfl⟩
              have hps : 64 ≤ (d ++ zeroB 64).size := by rw [ByteArray.size_append, hXs]; omega
              have hpsI : (64 : Int) ≤ ((d ++ zeroB 64).size : Int) := by omega
              have hpd : Hid (dPad d = p) := Lib.hid (by unfold dPad; rw [if_pos hp, hpe])
              have hd60 : (d.size : Int) < 60 := by have := hp.1; omega
              have hdne : d.toList.isEmpty = false := by
                cases h : d.toList.isEmpty with
                | false => rfl
                | true => exact absurd (ByteArray.ext (Array.ext' (by rw [← ByteArray.toList_eq]; exact List.isEmpty_iff.1 h))) hp.2
              clear hp
              go_upto_region 15 with fail
              try rw [hpe]
              refine fresh_world (fun W => GvR W (w.heap.size + 5) E B T D F ∧ GvX w W w.heap.size (vzG q AB nb cb AT nt ct (some ⟨bb, bo, none⟩) nd cd) q E B T D F) ⟨hRX.out.1.below ((Below.refl _ _).alloc (Nat.le_refl _) _), hRX.out.2.keep (((Below.refl _ _).alloc (Nat.le_refl _) _).mono hRX.out.1.bs)⟩ ?_
              clear hsrc hz3 hRX
              rintro Wa hRX'
              have hRX := Lib.hid hRX'
              clear hRX'
              have hyd : Hid (p.extract 0 (min p.size 70) = dFix d) := Lib.hid (by unfold dFix; rw [hpd.out])
              go_upto_region 16 with fail
              rw [show min (p.size : Int) 70 = ((min p.size 70 : Nat) : Int) by omega, Int.toNat_natCast, hyd.out]
              generalize dFix d = y at hgs ⊢
              clear hyd hpd
              have hS := hRX.out.2.keep (Below.refl _ _).drew
              have hR := hRX.out.1.below (Below.refl _ _).drew
              clear hRX
              refine region_anyC (fun i => decide (i < 11)) (fun W => GvX w W w.heap.size (vzG q AB nb cb AT nt ct (some ⟨bb, bo, none⟩) nd cd) q E B T D F) (by kernel_rfl) ?_
              generalize Wa.drew = Wd at hS hR ⊢
              refine anyL_take 0 (v := ?_) rfl (by kernel_rfl) (fun _ _ _ h => h) (Or.inl ⟨by rfl, ?_⟩) hS ?_
              rotate_left
              focus (intro W hW; go_simp; try with_reducible rfl)
              simp only [Act.put, List.setIfInBounds_toArray, List.set_cons_zero, List.set_cons_succ]
              refine anyL_take 1 (v := ?_) rfl (by kernel_rfl) (fun _ _ _ h => h) (Or.inl ⟨by rfl, ?_⟩) hS ?_
              rotate_left
              focus (intro W hW; have y1 := hW.xD; go_simp; try with_reducible rfl)
              simp only [Act.put, List.setIfInBounds_toArray, List.set_cons_zero, List.set_cons_succ]
              refine anyL_take 2 (v := ?_) rfl (by kernel_rfl) (fun _ _ _ h => h) (Or.inl ⟨by rfl, ?_⟩) hS ?_
              rotate_left
              focus (intro W hW; go_simp; try with_reducible rfl)
              simp only [Act.put, List.setIfInBounds_toArray, List.set_cons_zero, List.set_cons_succ]
              refine anyL_take 5 (v := ?_) rfl (by kernel_rfl) (fun _ _ _ h => h) (Or.inl ⟨by rfl, ?_⟩) hS ?_
              rotate_left
              focus (intro W hW; go_simp; try with_reducible rfl)
              simp only [Act.put, List.setIfInBounds_toArray, List.set_cons_zero, List.set_cons_succ]
              refine anyL_take 6 (v := ?_) rfl (by kernel_rfl) (fun _ _ _ h => h) (Or.inl ⟨by rfl, ?_⟩) hS ?_
              rotate_left
              focus (intro W hW; have y1 := hW.yF; go_simp; try with_reducible rfl)
              simp only [Act.put, List.setIfInBounds_toArray, List.set_cons_zero, List.set_cons_succ]
              refine anyL_take 7 (v := ?_) rfl (by kernel_rfl) (fun _ _ _ h => h) (Or.inl ⟨by rfl, ?_⟩) hS ?_
              rotate_left
              focus (intro W hW; go_simp; try with_reducible rfl)
              simp only [Act.put, List.setIfInBounds_toArray, List.set_cons_zero, List.set_cons_succ]
              have hlD0 := hlenH.out.1
              have hlF0 := hlenH.out.2
              refine anyL_two 3 8 rfl rfl (by kernel_rfl) (fun K hK => ?_) (fun K hK => ?_)
              ·
                as_aux_lemma =>
                  have hal := (Below.refl Wd.heap.size Wd).alloc (Nat.le_refl _) (.cells #[.string y] 9)
                  go_simp
                  refine hK.out _ _ (fun _ => hS.keep (hal.mono hR.bs)) ?_
                  clear hK K
                  try simp only [Act.put, List.setIfInBounds_toArray, List.set_cons_zero, List.set_cons_succ]
                  skip
                  have hqD : Wd.heap.size < (Wd.alloc (.cells #[.string y] 9)).heap.size := by rw [World.size_alloc]; omega
                  replace hS := hS.keep (hal.mono hR.bs)
                  replace hR := hR.below hal
                  have hmD : (Wd.alloc (.cells #[.string y] 9)).cell? ⟨Wd.heap.size, 0, none⟩ = some (.string y) := by go_simp
                  clear hal
                  generalize (Wd.alloc (.cells #[.string y] 9)) = Wx at hS hR hqD hmD ⊢
                  generalize Wd.heap.size = mD at hqD hmD ⊢
                  refine anyL_two 4 8 rfl rfl (by kernel_rfl) (fun K hK => ?_) (fun K hK => ?_)
                  ·
                    obtain ⟨sD, Wxx, hrun, hxD, hR', hb', hfar⟩ := hR.pushD (m := mD) (x := y) (fun j hj => by have h1 : j < 1 := hj; obtain rfl : j = 0 := (by omega); exact hmD) (by omega)
                    refine append_run_step rfl (.tmp 101) (.tmp 103) 24 rfl rfl rfl hrun ?_
                    refine hK.out _ _ (fun _ => hS.keep hb') ?_
                    clear hK K hrun
                    try simp only [Act.put, List.setIfInBounds_toArray, List.set_cons_zero, List.set_cons_succ]
                    replace hS := hS.keep hb'
                    replace hR := hR'
                    replace hxD := Lib.hid hxD
                    clear hR' hb' hfar
                    refine anyL_take 10 (v := ?_) rfl (by kernel_rfl) (fun _ _ _ h => h) (Or.inl ⟨by rfl, ?_⟩) hS ?_
                    rotate_left
                    focus (intro W hW; go_simp; try with_reducible rfl)
                    simp only [Act.put, List.setIfInBounds_toArray, List.set_cons_zero, List.set_cons_succ]
                    refine anyL_one 8 rfl (by kernel_rfl) (fun K hK => ?_)
                    have hal := (Below.refl Wxx.heap.size Wxx).alloc (Nat.le_refl _) (.cells #[.string y] 9)
                    go_simp
                    refine hK.out _ _ (fun _ => hS.keep (hal.mono hR.bs)) ?_
                    clear hK K
                    try simp only [Act.put, List.setIfInBounds_toArray, List.set_cons_zero, List.set_cons_succ]
                    skip
                    have hqF : Wxx.heap.size < (Wxx.alloc (.cells #[.string y] 9)).heap.size := by rw [World.size_alloc]; omega
                    replace hS := hS.keep (hal.mono hR.bs)
                    replace hR := hR.below hal
                    have hmF : (Wxx.alloc (.cells #[.string y] 9)).cell? ⟨Wxx.heap.size, 0, none⟩ = some (.string y) := by go_simp
                    clear hal
                    generalize (Wxx.alloc (.cells #[.string y] 9)) = Wxy at hS hR hqF hmF ⊢
                    generalize Wxx.heap.size = mF at hqF hmF ⊢
                    refine anyL_one 9 rfl (by kernel_rfl) (fun K hK => ?_)
                    obtain ⟨sF, Wf, hrun, hxF, hR', hb', hfar⟩ := hR.pushF (m := mF) (x := y) (fun j hj => by have h1 : j < 1 := hj; obtain rfl : j = 0 := (by omega); exact hmF) (by omega)
                    refine append_run_step rfl (.tmp 106) (.tmp 108) 24 rfl rfl rfl hrun ?_
                    refine hK.out _ _ (fun _ => hS.keep hb') ?_
                    clear hK K hrun
                    try simp only [Act.put, List.setIfInBounds_toArray, List.set_cons_zero, List.set_cons_succ]
                    replace hS := hS.keep hb'
                    replace hR := hR'
                    replace hxF := Lib.hid hxF
                    clear hR' hb' hfar
                    refine anyL_one 11 rfl (by kernel_rfl) (fun K hK => ?_)
                    have y1 := hS.xD
                    have y2 := hS.f32
                    go_simp
                    refine hK.out _ _ (fun h => absurd h (by decide)) ?_
                    clear hK K y1 y2
                    try simp only [Act.put, List.setIfInBounds_toArray, List.set_cons_zero, List.set_cons_succ]
                    have hX := hS.setD sD
                    replace hR := hR.set (X := w.heap.size + 3) (by omega) 2 (.slice sD.A sD.xs.length sD.c)
                    refine fresh_any (fun W => GvX w W w.heap.size (vzG q AB nb cb AT nt ct (some ⟨bb, bo, none⟩) nd cd) q E B T sD F ∧ GvR W (w.heap.size + 5) E B T sD sF) ⟨hX, hR⟩ ?_
                    clear hS hX hR
                    rintro W8 ⟨hX, hR⟩
                    refine anyL_one 12 rfl (by kernel_rfl) (fun K hK => ?_)
                    go_simp
                    refine hK.out _ _ (fun h => absurd h (by decide)) ?_
                    clear hK K
                    try simp only [Act.put, List.setIfInBounds_toArray, List.set_cons_zero, List.set_cons_succ]
                    refine anyL_one 13 rfl (by kernel_rfl) (fun K hK => ?_)
                    have y1 := hX.yF
                    have y2 := hX.f43
                    go_simp
                    refine hK.out _ _ (fun h => absurd h (by decide)) ?_
                    clear hK K y1 y2
                    try simp only [Act.put, List.setIfInBounds_toArray, List.set_cons_zero, List.set_cons_succ]
                    replace hX := hX.setF sF
                    replace hR := hR.set (X := w.heap.size + 4) (by omega) 3 (.slice sF.A sF.xs.length sF.c)
                    refine fresh_any (fun W => GvX w W w.heap.size (vzG q AB nb cb AT nt ct (some ⟨bb, bo, none⟩) nd cd) q E B T sD sF ∧ GvR W (w.heap.size + 5) E B T sD sF) ⟨hX, hR⟩ ?_
                    clear hX hR
                    rintro W9 ⟨hX, hR⟩
                    refine anyC_done (by kernel_rfl) ?_ _
                    have hxs' : Hid (sD.xs = gD ds (j + 1) ∧ sF.xs = gD ds (j + 1)) := Lib.hid ⟨by rw [hxD.out, hds2.out.1, hgs.out], by rw [hxF.out, hds2.out.2, hgs.out]⟩
                    have hRX := Lib.hid (And.intro hR hX)
                    clear hR hX hxD hxF
                    go_wp2_with fail
                    go_roundw
                    case rel => exact ⟨j + 1, sD, sF, hltH.out, by go_num, hxs', hRX⟩
                    case measure => simp only [Go.RowKit.intOf]; have := hltH.out; omega
                  ·
                    have hal := (Below.refl Wx.heap.size Wx).alloc (Nat.le_refl _) (.cells #[.string y] 9)
                    go_simp
                    refine hK.out _ _ (fun _ => hS.keep (hal.mono hR.bs)) ?_
                    clear hK K
                    try simp only [Act.put, List.setIfInBounds_toArray, List.set_cons_zero, List.set_cons_succ]
                    have hlF := fun r (e : D.A = some ⟨r, 0, none⟩) => row_lt hR.rD r e
                    have hqF : Wx.heap.size < (Wx.alloc (.cells #[.string y] 9)).heap.size := by rw [World.size_alloc]; omega
                    replace hS := hS.keep (hal.mono hR.bs)
                    replace hR := hR.below hal
                    replace hmD := (hal.cell (lt_of_cell hmD)).trans hmD
                    have hmF : (Wx.alloc (.cells #[.string y] 9)).cell? ⟨Wx.heap.size, 0, none⟩ = some (.string y) := by go_simp
                    clear hal
                    generalize (Wx.alloc (.cells #[.string y] 9)) = Wxy at hS hR hqF hmF hmD ⊢
                    generalize Wx.heap.size = mF at hqF hmF hlF ⊢
                    replace hqD : mD < Wxy.heap.size := lt_of_cell hmD
                    refine anyL_one 4 rfl (by kernel_rfl) (fun K hK => ?_)
                    obtain ⟨sD, Wxx, hrun, hxD, hR', hb', hfar⟩ := hR.pushD (m := mD) (x := y) (fun j hj => by have h1 : j < 1 := hj; obtain rfl : j = 0 := (by omega); exact hmD) (by omega)
                    refine append_run_step rfl (.tmp 101) (.tmp 103) 24 rfl rfl rfl hrun ?_
                    refine hK.out _ _ (fun _ => hS.keep hb') ?_
                    clear hK K hrun
                    try simp only [Act.put, List.setIfInBounds_toArray, List.set_cons_zero, List.set_cons_succ]
                    replace hS := hS.keep hb'
                    replace hmF := (hfar mF (by omega) hlF 0).trans hmF
                    replace hqF : mF < Wxx.heap.size := lt_of_cell hmF
                    replace hR := hR'
                    replace hxD := Lib.hid hxD
                    clear hR' hb' hfar
                    refine anyL_take 10 (v := ?_) rfl (by kernel_rfl) (fun _ _ _ h => h) (Or.inl ⟨by rfl, ?_⟩) hS ?_
                    rotate_left
                    focus (intro W hW; go_simp; try with_reducible rfl)
                    simp only [Act.put, List.setIfInBounds_toArray, List.set_cons_zero, List.set_cons_succ]
                    refine anyL_one 9 rfl (by kernel_rfl) (fun K hK => ?_)
                    obtain ⟨sF, Wf, hrun, hxF, hR', hb', hfar⟩ := hR.pushF (m := mF) (x := y) (fun j hj => by have h1 : j < 1 := hj; obtain rfl : j = 0 := (by omega); exact hmF) (by omega)
                    refine append_run_step rfl (.tmp 106) (.tmp 108) 24 rfl rfl rfl hrun ?_
                    refine hK.out _ _ (fun _ => hS.keep hb') ?_
                    clear hK K hrun
                    try simp only [Act.put, List.setIfInBounds_toArray, List.set_cons_zero, List.set_cons_succ]
                    replace hS := hS.keep hb'
                    replace hR := hR'
                    replace hxF := Lib.hid hxF
                    clear hR' hb' hfar
                    refine anyL_one 11 rfl (by kernel_rfl) (fun K hK => ?_)
                    have y1 := hS.xD
                    have y2 := hS.f32
                    go_simp
                    refine hK.out _ _ (fun h => absurd h (by decide)) ?_
                    clear hK K y1 y2
                    try simp only [Act.put, List.setIfInBounds_toArray, List.set_cons_zero, List.set_cons_succ]
                    have hX := hS.setD sD
                    replace hR := hR.set (X := w.heap.size + 3) (by omega) 2 (.slice sD.A sD.xs.length sD.c)
                    refine fresh_any (fun W => GvX w W w.heap.size (vzG q AB nb cb AT nt ct (some ⟨bb, bo, none⟩) nd cd) q E B T sD F ∧ GvR W (w.heap.size + 5) E B T sD sF) ⟨hX, hR⟩ ?_
                    clear hS hX hR
                    rintro W8 ⟨hX, hR⟩
                    refine anyL_one 12 rfl (by kernel_rfl) (fun K hK => ?_)
                    go_simp
                    refine hK.out _ _ (fun h => absurd h (by decide)) ?_
                    clear hK K
                    try simp only [Act.put, List.setIfInBounds_toArray, List.set_cons_zero, List.set_cons_succ]
                    refine anyL_one 13 rfl (by kernel_rfl) (fun K hK => ?_)
                    have y1 := hX.yF
                    have y2 := hX.f43
                    go_simp
                    refine hK.out _ _ (fun h => absurd h (by decide)) ?_
                    clear hK K y1 y2
                    try simp only [Act.put, List.setIfInBounds_toArray, List.set_cons_zero, List.set_cons_succ]
                    replace hX := hX.setF sF
                    replace hR := hR.set (X := w.heap.size + 4) (by omega) 3 (.slice sF.A sF.xs.length sF.c)
                    refine fresh_any (fun W => GvX w W w.heap.size (vzG q AB nb cb AT nt ct (some ⟨bb, bo, none⟩) nd cd) q E B T sD sF ∧ GvR W (w.heap.size + 5) E B T sD sF) ⟨hX, hR⟩ ?_
                    clear hX hR
                    rintro W9 ⟨hX, hR⟩
                    refine anyC_done (by kernel_rfl) ?_ _
                    have hxs' : Hid (sD.xs = gD ds (j + 1) ∧ sF.xs = gD ds (j + 1)) := Lib.hid ⟨by rw [hxD.out, hds2.out.1, hgs.out], by rw [hxF.out, hds2.out.2, hgs.out]⟩
                    have hRX := Lib.hid (And.intro hR hX)
                    clear hR hX hxD hxF
                    go_wp2_with fail
                    go_roundw
                    case rel => exact ⟨j + 1, sD, sF, hltH.out, by go_num, hxs', hRX⟩
                    case measure => simp only [Go.RowKit.intOf]; have := hltH.out; omega
              ·
                as_aux_lemma =>
                  have hal := (Below.refl Wd.heap.size Wd).alloc (Nat.le_refl _) (.cells #[.string y] 9)
                  go_simp
                  refine hK.out _ _ (fun _ => hS.keep (hal.mono hR.bs)) ?_
                  clear hK K
                  try simp only [Act.put, List.setIfInBounds_toArray, List.set_cons_zero, List.set_cons_succ]
                  have hlF := fun r (e : D.A = some ⟨r, 0, none⟩) => row_lt hR.rD r e
                  have hqF : Wd.heap.size < (Wd.alloc (.cells #[.string y] 9)).heap.size := by rw [World.size_alloc]; omega
                  replace hS := hS.keep (hal.mono hR.bs)
                  replace hR := hR.below hal
                  have hmF : (Wd.alloc (.cells #[.string y] 9)).cell? ⟨Wd.heap.size, 0, none⟩ = some (.string y) := by go_simp
                  clear hal
                  generalize (Wd.alloc (.cells #[.string y] 9)) = Wy at hS hR hqF hmF ⊢
                  generalize Wd.heap.size = mF at hqF hmF hlF ⊢
                  refine anyL_one 3 rfl (by kernel_rfl) (fun K hK => ?_)
                  have hal := (Below.refl Wy.heap.size Wy).alloc (Nat.le_refl _) (.cells #[.string y] 9)
                  go_simp
                  refine hK.out _ _ (fun _ => hS.keep (hal.mono hR.bs)) ?_
                  clear hK K
                  try simp only [Act.put, List.setIfInBounds_toArray, List.set_cons_zero, List.set_cons_succ]
                  skip
                  have hqD : Wy.heap.size < (Wy.alloc (.cells #[.string y] 9)).heap.size := by rw [World.size_alloc]; omega
                  replace hS := hS.keep (hal.mono hR.bs)
                  replace hR := hR.below hal
                  replace hmF := (hal.cell (lt_of_cell hmF)).trans hmF
                  have hmD : (Wy.alloc (.cells #[.string y] 9)).cell? ⟨Wy.heap.size, 0, none⟩ = some (.string y) := by go_simp
                  clear hal
                  generalize (Wy.alloc (.cells #[.string y] 9)) = Wxy at hS hR hqD hmD hmF ⊢
                  generalize Wy.heap.size = mD at hqD hmD ⊢
                  replace hqF : mF < Wxy.heap.size := lt_of_cell hmF
                  refine anyL_one 4 rfl (by kernel_rfl) (fun K hK => ?_)
                  obtain ⟨sD, Wxx, hrun, hxD, hR', hb', hfar⟩ := hR.pushD (m := mD) (x := y) (fun j hj => by have h1 : j < 1 := hj; obtain rfl : j = 0 := (by omega); exact hmD) (by omega)
                  refine append_run_step rfl (.tmp 101) (.tmp 103) 24 rfl rfl rfl hrun ?_
                  refine hK.out _ _ (fun _ => hS.keep hb') ?_
                  clear hK K hrun
                  try simp only [Act.put, List.setIfInBounds_toArray, List.set_cons_zero, List.set_cons_succ]
                  replace hS := hS.keep hb'
                  replace hmF := (hfar mF (by omega) hlF 0).trans hmF
                  replace hqF : mF < Wxx.heap.size := lt_of_cell hmF
                  replace hR := hR'
                  replace hxD := Lib.hid hxD
                  clear hR' hb' hfar
                  refine anyL_take 10 (v := ?_) rfl (by kernel_rfl) (fun _ _ _ h => h) (Or.inl ⟨by rfl, ?_⟩) hS ?_
                  rotate_left
                  focus (intro W hW; go_simp; try with_reducible rfl)
                  simp only [Act.put, List.setIfInBounds_toArray, List.set_cons_zero, List.set_cons_succ]
                  refine anyL_one 9 rfl (by kernel_rfl) (fun K hK => ?_)
                  obtain ⟨sF, Wf, hrun, hxF, hR', hb', hfar⟩ := hR.pushF (m := mF) (x := y) (fun j hj => by have h1 : j < 1 := hj; obtain rfl : j = 0 := (by omega); exact hmF) (by omega)
                  refine append_run_step rfl (.tmp 106) (.tmp 108) 24 rfl rfl rfl hrun ?_
                  refine hK.out _ _ (fun _ => hS.keep hb') ?_
                  clear hK K hrun
                  try simp only [Act.put, List.setIfInBounds_toArray, List.set_cons_zero, List.set_cons_succ]
                  replace hS := hS.keep hb'
                  replace hR := hR'
                  replace hxF := Lib.hid hxF
                  clear hR' hb' hfar
                  refine anyL_one 11 rfl (by kernel_rfl) (fun K hK => ?_)
                  have y1 := hS.xD
                  have y2 := hS.f32
                  go_simp
                  refine hK.out _ _ (fun h => absurd h (by decide)) ?_
                  clear hK K y1 y2
                  try simp only [Act.put, List.setIfInBounds_toArray, List.set_cons_zero, List.set_cons_succ]
                  have hX := hS.setD sD
                  replace hR := hR.set (X := w.heap.size + 3) (by omega) 2 (.slice sD.A sD.xs.length sD.c)
                  refine fresh_any (fun W => GvX w W w.heap.size (vzG q AB nb cb AT nt ct (some ⟨bb, bo, none⟩) nd cd) q E B T sD F ∧ GvR W (w.heap.size + 5) E B T sD sF) ⟨hX, hR⟩ ?_
                  clear hS hX hR
                  rintro W8 ⟨hX, hR⟩
                  refine anyL_one 12 rfl (by kernel_rfl) (fun K hK => ?_)
                  go_simp
                  refine hK.out _ _ (fun h => absurd h (by decide)) ?_
                  clear hK K
                  try simp only [Act.put, List.setIfInBounds_toArray, List.set_cons_zero, List.set_cons_succ]
                  refine anyL_one 13 rfl (by kernel_rfl) (fun K hK => ?_)
                  have y1 := hX.yF
                  have y2 := hX.f43
                  go_simp
                  refine hK.out _ _ (fun h => absurd h (by decide)) ?_
                  clear hK K y1 y2
                  try simp only [Act.put, List.setIfInBounds_toArray, List.set_cons_zero, List.set_cons_succ]
                  replace hX := hX.setF sF
                  replace hR := hR.set (X := w.heap.size + 4) (by omega) 3 (.slice sF.A sF.xs.length sF.c)
                  refine fresh_any (fun W => GvX w W w.heap.size (vzG q AB nb cb AT nt ct (some ⟨bb, bo, none⟩) nd cd) q E B T sD sF ∧ GvR W (w.heap.size + 5) E B T sD sF) ⟨hX, hR⟩ ?_
                  clear hX hR
                  rintro W9 ⟨hX, hR⟩
                  refine anyC_done (by kernel_rfl) ?_ _
                  have hxs' : Hid (sD.xs = gD ds (j + 1) ∧ sF.xs = gD ds (j + 1)) := Lib.hid ⟨by rw [hxD.out, hds2.out.1, hgs.out], by rw [hxF.out, hds2.out.2, hgs.out]⟩
                  have hRX := Lib.hid (And.intro hR hX)
                  clear hR hX hxD hxF
                  go_wp2_with fail
                  go_roundw
                  case rel => exact ⟨j + 1, sD, sF, hltH.out, by go_num, hxs', hRX⟩
                  case measure => simp only [Go.RowKit.intOf]; have := hltH.out; omega
            case neg =>
              have hpd : Hid (dPad d = d) := Lib.hid (by unfold dPad; rw [if_neg hp])
              have hex : ¬ (d.size : Int) < 60 ∨ ((d.size : Int) < 60 ∧ d.toList.isEmpty = true) := by
                by_cases h : d.size < 60
                · refine .inr ⟨by omega, ?_⟩
                  by_cases h2 : d = ⟨#[]⟩
                  · rw [h2, ByteArray.toList_eq]; rfl
                  · exact absurd ⟨h, h2⟩ hp
                · exact .inl (by omega)
              obtain ⟨p, rfl⟩ : ∃ p, p = d := ⟨_, rfl⟩
              clear hp
              rcases hex with hd60 | ⟨hd60, hdne⟩
              ·
                as_aux_lemma =>
                  go_upto_region 15 with fail
                  refine fresh_world (fun W => GvR W (w.heap.size + 5) E B T D F ∧ GvX w W w.heap.size (vzG q AB nb cb AT nt ct (some ⟨bb, bo, none⟩) nd cd) q E B T D F) ⟨hRX.out.1, hRX.out.2⟩ ?_
                  clear hsrc hz3 hRX
                  rintro Wa hRX'
                  have hRX := Lib.hid hRX'
                  clear hRX'
                  have hyd : Hid (p.extract 0 (min p.size 70) = dFix p) := Lib.hid (by unfold dFix; rw [hpd.out])
                  go_upto_region 16 with fail
                  rw [show min (p.size : Int) 70 = ((min p.size 70 : Nat) : Int) by omega, Int.toNat_natCast, hyd.out]
                  generalize dFix p = y at hgs ⊢
                  clear hyd hpd
                  have hS := hRX.out.2.keep (Below.refl _ _).drew
                  have hR := hRX.out.1.below (Below.refl _ _).drew
                  clear hRX
                  refine region_anyC (fun i => decide (i < 11)) (fun W => GvX w W w.heap.size (vzG q AB nb cb AT nt ct (some ⟨bb, bo, none⟩) nd cd) q E B T D F) (by kernel_rfl) ?_
                  generalize Wa.drew = Wd at hS hR ⊢
                  refine anyL_take 0 (v := ?_) rfl (by kernel_rfl) (fun _ _ _ h => h) (Or.inl ⟨by rfl, ?_⟩) hS ?_
                  rotate_left
                  focus (intro W hW; go_simp; try with_reducible rfl)
                  simp only [Act.put, List.setIfInBounds_toArray, List.set_cons_zero, List.set_cons_succ]
                  refine anyL_take 1 (v := ?_) rfl (by kernel_rfl) (fun _ _ _ h => h) (Or.inl ⟨by rfl, ?_⟩) hS ?_
                  rotate_left
                  focus (intro W hW; have y1 := hW.xD; go_simp; try with_reducible rfl)
                  simp only [Act.put, List.setIfInBounds_toArray, List.set_cons_zero, List.set_cons_succ]
                  refine anyL_take 2 (v := ?_) rfl (by kernel_rfl) (fun _ _ _ h => h) (Or.inl ⟨by rfl, ?_⟩) hS ?_
                  rotate_left
                  focus (intro W hW; go_simp; try with_reducible rfl)
                  simp only [Act.put, List.setIfInBounds_toArray, List.set_cons_zero, List.set_cons_succ]
                  refine anyL_take 5 (v := ?_) rfl (by kernel_rfl) (fun _ _ _ h => h) (Or.inl ⟨by rfl, ?_⟩) hS ?_
                  rotate_left
                  focus (intro W hW; go_simp; try with_reducible rfl)
                  simp only [Act.put, List.setIfInBounds_toArray, List.set_cons_zero, List.set_cons_succ]
                  refine anyL_take 6 (v := ?_) rfl (by kernel_rfl) (fun _ _ _ h => h) (Or.inl ⟨by rfl, ?_⟩) hS ?_
                  rotate_left
                  focus (intro W hW; have y1 := hW.yF; go_simp; try with_reducible rfl)
                  simp only [Act.put, List.setIfInBounds_toArray, List.set_cons_zero, List.set_cons_succ]
                  refine anyL_take 7 (v := ?_) rfl (by kernel_rfl) (fun _ _ _ h => h) (Or.inl ⟨by rfl, ?_⟩) hS ?_
                  rotate_left
                  focus (intro W hW; go_simp; try with_reducible rfl)
                  simp only [Act.put, List.setIfInBounds_toArray, List.set_cons_zero, List.set_cons_succ]
                  have hlD0 := hlenH.out.1
                  have hlF0 := hlenH.out.2
                  refine anyL_two 3 8 rfl rfl (by kernel_rfl) (fun K hK => ?_) (fun K hK => ?_)
                  ·
                    have hal := (Below.refl Wd.heap.size Wd).alloc (Nat.le_refl _) (.cells #[.string y] 9)
                    go_simp
                    refine hK.out _ _ (fun _ => hS.keep (hal.mono hR.bs)) ?_
                    clear hK K
                    try simp only [Act.put, List.setIfInBounds_toArray, List.set_cons_zero, List.set_cons_succ]
                    skip
                    have hqD : Wd.heap.size < (Wd.alloc (.cells #[.string y] 9)).heap.size := by rw [World.size_alloc]; omega
                    replace hS := hS.keep (hal.mono hR.bs)
                    replace hR := hR.below hal
                    have hmD : (Wd.alloc (.cells #[.string y] 9)).cell? ⟨Wd.heap.size, 0, none⟩ = some (.string y) := by go_simp
                    clear hal
                    generalize (Wd.alloc (.cells #[.string y] 9)) = Wx at hS hR hqD hmD ⊢
                    generalize Wd.heap.size = mD at hqD hmD ⊢
                    refine anyL_two 4 8 rfl rfl (by kernel_rfl) (fun K hK => ?_) (fun K hK => ?_)
                    ·
                      obtain ⟨sD, Wxx, hrun, hxD, hR', hb', hfar⟩ := hR.pushD (m := mD) (x := y) (fun j hj => by have h1 : j < 1 := hj; obtain rfl : j = 0 := (by omega); exact hmD) (by omega)
                      refine append_run_step rfl (.tmp 101) (.tmp 103) 24 rfl rfl rfl hrun ?_
                      refine hK.out _ _ (fun _ => hS.keep hb') ?_
                      clear hK K hrun
                      try simp only [Act.put, List.setIfInBounds_toArray, List.set_cons_zero, List.set_cons_succ]
                      replace hS := hS.keep hb'
                      replace hR := hR'
                      replace hxD := Lib.hid hxD
                      clear hR' hb' hfar
                      refine anyL_take 10 (v := ?_) rfl (by kernel_rfl) (fun _ _ _ h => h) (Or.inl ⟨by rfl, ?_⟩) hS ?_
                      rotate_left
                      focus (intro W hW; go_simp; try with_reducible rfl)
                      simp only [Act.put, List.setIfInBounds_toArray, List.set_cons_zero, List.set_cons_succ]
                      refine anyL_one 8 rfl (by kernel_rfl) (fun K hK => ?_)
                      have hal := (Below.refl Wxx.heap.size Wxx).alloc (Nat.le_refl _) (.cells #[.string y] 9)
                      go_simp
                      refine hK.out _ _ (fun _ => hS.keep (hal.mono hR.bs)) ?_
                      clear hK K
                      try simp only [Act.put, List.setIfInBounds_toArray, List.set_cons_zero, List.set_cons_succ]
                      skip
                      have hqF : Wxx.heap.size < (Wxx.alloc (.cells #[.string y] 9)).heap.size := by rw [World.size_alloc]; omega
                      replace hS := hS.keep (hal.mono hR.bs)
                      replace hR := hR.below hal
                      have hmF : (Wxx.alloc (.cells #[.string y] 9)).cell? ⟨Wxx.heap.size, 0, none⟩ = some (.string y) := by go_simp
                      clear hal
                      generalize (Wxx.alloc (.cells #[.string y] 9)) = Wxy at hS hR hqF hmF ⊢
                      generalize Wxx.heap.size = mF at hqF hmF ⊢
                      refine anyL_one 9 rfl (by kernel_rfl) (fun K hK => ?_)
                      obtain ⟨sF, Wf, hrun, hxF, hR', hb', hfar⟩ := hR.pushF (m := mF) (x := y) (fun j hj => by have h1 : j < 1 := hj; obtain rfl : j = 0 := (by omega); exact hmF) (by omega)
                      refine append_run_step rfl (.tmp 106) (.tmp 108) 24 rfl rfl rfl hrun ?_
                      refine hK.out _ _ (fun _ => hS.keep hb') ?_
                      clear hK K hrun
                      try simp only [Act.put, List.setIfInBounds_toArray, List.set_cons_zero, List.set_cons_succ]
                      replace hS := hS.keep hb'
                      replace hR := hR'
                      replace hxF := Lib.hid hxF
                      clear hR' hb' hfar
                      refine anyL_one 11 rfl (by kernel_rfl) (fun K hK => ?_)
                      have y1 := hS.xD
                      have y2 := hS.f32
                      go_simp
                      refine hK.out _ _ (fun h => absurd h (by decide)) ?_
                      clear hK K y1 y2
                      try simp only [Act.put, List.setIfInBounds_toArray, List.set_cons_zero, List.set_cons_succ]
                      have hX := hS.setD sD
                      replace hR := hR.set (X := w.heap.size + 3) (by omega) 2 (.slice sD.A sD.xs.length sD.c)
                      refine fresh_any (fun W => GvX w W w.heap.size (vzG q AB nb cb AT nt ct (some ⟨bb, bo, none⟩) nd cd) q E B T sD F ∧ GvR W (w.heap.size + 5) E B T sD sF) ⟨hX, hR⟩ ?_
                      clear hS hX hR
                      rintro W8 ⟨hX, hR⟩
                      refine anyL_one 12 rfl (by kernel_rfl) (fun K hK => ?_)
                      go_simp
                      refine hK.out _ _ (fun h => absurd h (by decide)) ?_
                      clear hK K
                      try simp only [Act.put, List.setIfInBounds_toArray, List.set_cons_zero, List.set_cons_succ]
                      refine anyL_one 13 rfl (by kernel_rfl) (fun K hK => ?_)
                      have y1 := hX.yF
                      have y2 := hX.f43
                      go_simp
                      refine hK.out _ _ (fun h => absurd h (by decide)) ?_
                      clear hK K y1 y2
                      try simp only [Act.put, List.setIfInBounds_toArray, List.set_cons_zero, List.set_cons_succ]
                      replace hX := hX.setF sF
                      replace hR := hR.set (X := w.heap.size + 4) (by omega) 3 (.slice sF.A sF.xs.length sF.c)
                      refine fresh_any (fun W => GvX w W w.heap.size (vzG q AB nb cb AT nt ct (some ⟨bb, bo, none⟩) nd cd) q E B T sD sF ∧ GvR W (w.heap.size + 5) E B T sD sF) ⟨hX, hR⟩ ?_
                      clear hX hR
                      rintro W9 ⟨hX, hR⟩
                      refine anyC_done (by kernel_rfl) ?_ _
                      have hxs' : Hid (sD.xs = gD ds (j + 1) ∧ sF.xs = gD ds (j + 1)) := Lib.hid ⟨by rw [hxD.out, hds2.out.1, hgs.out], by rw [hxF.out, hds2.out.2, hgs.out]⟩
                      have hRX := Lib.hid (And.intro hR hX)
                      clear hR hX hxD hxF
                      go_wp2_with fail
                      go_roundw
                      case rel => exact ⟨j + 1, sD, sF, hltH.out, by go_num, hxs', hRX⟩
                      case measure => simp only [Go.RowKit.intOf]; have := hltH.out; omega
                    ·
                      have hal := (Below.refl Wx.heap.size Wx).alloc (Nat.le_refl _) (.cells #[.string y] 9)
                      go_simp
                      refine hK.out _ _ (fun _ => hS.keep (hal.mono hR.bs)) ?_
                      clear hK K
                      try simp only [Act.put, List.setIfInBounds_toArray, List.set_cons_zero, List.set_cons_succ]
                      have hlF := fun r (e : D.A = some ⟨r, 0, none⟩) => row_lt hR.rD r e
                      have hqF : Wx.heap.size < (Wx.alloc (.cells #[.string y] 9)).heap.size := by rw [World.size_alloc]; omega
                      replace hS := hS.keep (hal.mono hR.bs)
                      replace hR := hR.below hal
                      replace hmD := (hal.cell (lt_of_cell hmD)).trans hmD
                      have hmF : (Wx.alloc (.cells #[.string y] 9)).cell? ⟨Wx.heap.size, 0, none⟩ = some (.string y) := by go_simp
                      clear hal
                      generalize (Wx.alloc (.cells #[.string y] 9)) = Wxy at hS hR hqF hmF hmD ⊢
                      generalize Wx.heap.size = mF at hqF hmF hlF ⊢
                      replace hqD : mD < Wxy.heap.size := lt_of_cell hmD
                      refine anyL_one 4 rfl (by kernel_rfl) (fun K hK => ?_)
                      obtain ⟨sD, Wxx, hrun, hxD, hR', hb', hfar⟩ := hR.pushD (m := mD) (x := y) (fun j hj => by have h1 : j < 1 := hj; obtain rfl : j = 0 := (by omega); exact hmD) (by omega)
                      refine append_run_step rfl (.tmp 101) (.tmp 103) 24 rfl rfl rfl hrun ?_
                      refine hK.out _ _ (fun _ => hS.keep hb') ?_
                      clear hK K hrun
                      try simp only [Act.put, List.setIfInBounds_toArray, List.set_cons_zero, List.set_cons_succ]
                      replace hS := hS.keep hb'
                      replace hmF := (hfar mF (by omega) hlF 0).trans hmF
                      replace hqF : mF < Wxx.heap.size := lt_of_cell hmF
                      replace hR := hR'
                      replace hxD := Lib.hid hxD
                      clear hR' hb' hfar
                      refine anyL_take 10 (v := ?_) rfl (by kernel_rfl) (fun _ _ _ h => h) (Or.inl ⟨by rfl, ?_⟩) hS ?_
                      rotate_left
                      focus (intro W hW; go_simp; try with_reducible rfl)
                      simp only [Act.put, List.setIfInBounds_toArray, List.set_cons_zero, List.set_cons_succ]
                      refine anyL_one 9 rfl (by kernel_rfl) (fun K hK => ?_)
                      obtain ⟨sF, Wf, hrun, hxF, hR', hb', hfar⟩ := hR.pushF (m := mF) (x := y) (fun j hj => by have h1 : j < 1 := hj; obtain rfl : j = 0 := (by omega); exact hmF) (by omega)
                      refine append_run_step rfl (.tmp 106) (.tmp 108) 24 rfl rfl rfl hrun ?_
                      refine hK.out _ _ (fun _ => hS.keep hb') ?_
                      clear hK K hrun
                      try simp only [Act.put, List.setIfInBounds_toArray, List.set_cons_zero, List.set_cons_succ]
                      replace hS := hS.keep hb'
                      replace hR := hR'
                      replace hxF := Lib.hid hxF
                      clear hR' hb' hfar
                      refine anyL_one 11 rfl (by kernel_rfl) (fun K hK => ?_)
                      have y1 := hS.xD
                      have y2 := hS.f32
                      go_simp
                      refine hK.out _ _ (fun h => absurd h (by decide)) ?_
                      clear hK K y1 y2
                      try simp only [Act.put, List.setIfInBounds_toArray, List.set_cons_zero, List.set_cons_succ]
                      have hX := hS.setD sD
                      replace hR := hR.set (X := w.heap.size + 3) (by omega) 2 (.slice sD.A sD.xs.length sD.c)
                      refine fresh_any (fun W => GvX w W w.heap.size (vzG q AB nb cb AT nt ct (some ⟨bb, bo, none⟩) nd cd) q E B T sD F ∧ GvR W (w.heap.size + 5) E B T sD sF) ⟨hX, hR⟩ ?_
                      clear hS hX hR
                      rintro W8 ⟨hX, hR⟩
                      refine anyL_one 12 rfl (by kernel_rfl) (fun K hK => ?_)
                      go_simp
                      refine hK.out _ _ (fun h => absurd h (by decide)) ?_
                      clear hK K
                      try simp only [Act.put, List.setIfInBounds_toArray, List.set_cons_zero, List.set_cons_succ]
                      refine anyL_one 13 rfl (by kernel_rfl) (fun K hK => ?_)
                      have y1 := hX.yF
                      have y2 := hX.f43
                      go_simp
                      refine hK.out _ _ (fun h => absurd h (by decide)) ?_
                      clear hK K y1 y2
                      try simp only [Act.put, List.setIfInBounds_toArray, List.set_cons_zero, List.set_cons_succ]
                      replace hX := hX.setF sF
                      replace hR := hR.set (X := w.heap.size + 4) (by omega) 3 (.slice sF.A sF.xs.length sF.c)
                      refine fresh_any (fun W => GvX w W w.heap.size (vzG q AB nb cb AT nt ct (some ⟨bb, bo, none⟩) nd cd) q E B T sD sF ∧ GvR W (w.heap.size + 5) E B T sD sF) ⟨hX, hR⟩ ?_
                      clear hX hR
                      rintro W9 ⟨hX, hR⟩
                      refine anyC_done (by kernel_rfl) ?_ _
                      have hxs' : Hid (sD.xs = gD ds (j + 1) ∧ sF.xs = gD ds (j + 1)) := Lib.hid ⟨by rw [hxD.out, hds2.out.1, hgs.out], by rw [hxF.out, hds2.out.2, hgs.out]⟩
                      have hRX := Lib.hid (And.intro hR hX)
                      clear hR hX hxD hxF
                      go_wp2_with fail
                      go_roundw
                      case rel => exact ⟨j + 1, sD, sF, hltH.out, by go_num, hxs', hRX⟩
                      case measure => simp only [Go.RowKit.intOf]; have := hltH.out; omega
                  ·
                    have hal := (Below.refl Wd.heap.size Wd).alloc (Nat.le_refl _) (.cells #[.string y] 9)
                    go_simp
                    refine hK.out _ _ (fun _ => hS.keep (hal.mono hR.bs)) ?_
                    clear hK K
                    try simp only [Act.put, List.setIfInBounds_toArray, List.set_cons_zero, List.set_cons_succ]
                    have hlF := fun r (e : D.A = some ⟨r, 0, none⟩) => row_lt hR.rD r e
                    have hqF : Wd.heap.size < (Wd.alloc (.cells #[.string y] 9)).heap.size := by rw [World.size_alloc]; omega
                    replace hS := hS.keep (hal.mono hR.bs)
                    replace hR := hR.below hal
                    have hmF : (Wd.alloc (.cells #[.string y] 9)).cell? ⟨Wd.heap.size, 0, none⟩ = some (.string y) := by go_simp
                    clear hal
                    generalize (Wd.alloc (.cells #[.string y] 9)) = Wy at hS hR hqF hmF ⊢
                    generalize Wd.heap.size = mF at hqF hmF hlF ⊢
                    refine anyL_one 3 rfl (by kernel_rfl) (fun K hK => ?_)
                    have hal := (Below.refl Wy.heap.size Wy).alloc (Nat.le_refl _) (.cells #[.string y] 9)
                    go_simp
                    refine hK.out _ _ (fun _ => hS.keep (hal.mono hR.bs)) ?_
                    clear hK K
                    try simp only [Act.put, List.setIfInBounds_toArray, List.set_cons_zero, List.set_cons_succ]
                    skip
                    have hqD : Wy.heap.size < (Wy.alloc (.cells #[.string y] 9)).heap.size := by rw [World.size_alloc]; omega
                    replace hS := hS.keep (hal.mono hR.bs)
                    replace hR := hR.below hal
                    replace hmF := (hal.cell (lt_of_cell hmF)).trans hmF
                    have hmD : (Wy.alloc (.cells #[.string y] 9)).cell? ⟨Wy.heap.size, 0, none⟩ = some (.string y) := by go_simp
                    clear hal
                    generalize (Wy.alloc (.cells #[.string y] 9)) = Wxy at hS hR hqD hmD hmF ⊢
                    generalize Wy.heap.size = mD at hqD hmD ⊢
                    replace hqF : mF < Wxy.heap.size := lt_of_cell hmF
                    refine anyL_one 4 rfl (by kernel_rfl) (fun K hK => ?_)
                    obtain ⟨sD, Wxx, hrun, hxD, hR', hb', hfar⟩ := hR.pushD (m := mD) (x := y) (fun j hj => by have h1 : j < 1 := hj; obtain rfl : j = 0 := (by omega); exact hmD) (by omega)
                    refine append_run_step rfl (.tmp 101) (.tmp 103) 24 rfl rfl rfl hrun ?_
                    refine hK.out _ _ (fun _ => hS.keep hb') ?_
                    clear hK K hrun
                    try simp only [Act.put, List.setIfInBounds_toArray, List.set_cons_zero, List.set_cons_succ]
                    replace hS := hS.keep hb'
                    replace hmF := (hfar mF (by omega) hlF 0).trans hmF
                    replace hqF : mF < Wxx.heap.size := lt_of_cell hmF
                    replace hR := hR'
                    replace hxD := Lib.hid hxD
                    clear hR' hb' hfar
                    refine anyL_take 10 (v := ?_) rfl (by kernel_rfl) (fun _ _ _ h => h) (Or.inl ⟨by rfl, ?_⟩) hS ?_
                    rotate_left
                    focus (intro W hW; go_simp; try with_reducible rfl)
                    simp only [Act.put, List.setIfInBounds_toArray, List.set_cons_zero, List.set_cons_succ]
                    refine anyL_one 9 rfl (by kernel_rfl) (fun K hK => ?_)
                    obtain ⟨sF, Wf, hrun, hxF, hR', hb', hfar⟩ := hR.pushF (m := mF) (x := y) (fun j hj => by have h1 : j < 1 := hj; obtain rfl : j = 0 := (by omega); exact hmF) (by omega)
                    refine append_run_step rfl (.tmp 106) (.tmp 108) 24 rfl rfl rfl hrun ?_
                    refine hK.out _ _ (fun _ => hS.keep hb') ?_
                    clear hK K hrun
                    try simp only [Act.put, List.setIfInBounds_toArray, List.set_cons_zero, List.set_cons_succ]
                    replace hS := hS.keep hb'
                    replace hR := hR'
                    replace hxF := Lib.hid hxF
                    clear hR' hb' hfar
                    refine anyL_one 11 rfl (by kernel_rfl) (fun K hK => ?_)
                    have y1 := hS.xD
                    have y2 := hS.f32
                    go_simp
                    refine hK.out _ _ (fun h => absurd h (by decide)) ?_
                    clear hK K y1 y2
                    try simp only [Act.put, List.setIfInBounds_toArray, List.set_cons_zero, List.set_cons_succ]
                    have hX := hS.setD sD
                    replace hR := hR.set (X := w.heap.size + 3) (by omega) 2 (.slice sD.A sD.xs.length sD.c)
                    refine fresh_any (fun W => GvX w W w.heap.size (vzG q AB nb cb AT nt ct (some ⟨bb, bo, none⟩) nd cd) q E B T sD F ∧ GvR W (w.heap.size + 5) E B T sD sF) ⟨hX, hR⟩ ?_
                    clear hS hX hR
                    rintro W8 ⟨hX, hR⟩
                    refine anyL_one 12 rfl (by kernel_rfl) (fun K hK => ?_)
                    go_simp
                    refine hK.out _ _ (fun h => absurd h (by decide)) ?_
                    clear hK K
                    try simp only [Act.put, List.setIfInBounds_toArray, List.set_cons_zero, List.set_cons_succ]
                    refine anyL_one 13 rfl (by kernel_rfl) (fun K hK => ?_)
                    have y1 := hX.yF
                    have y2 := hX.f43
                    go_simp
                    refine hK.out _ _ (fun h => absurd h (by decide)) ?_
                    clear hK K y1 y2
                    try simp only [Act.put, List.setIfInBounds_toArray, List.set_cons_zero, List.set_cons_succ]
                    replace hX := hX.setF sF
                    replace hR := hR.set (X := w.heap.size + 4) (by omega) 3 (.slice sF.A sF.xs.length sF.c)
                    refine fresh_any (fun W => GvX w W w.heap.size (vzG q AB nb cb AT nt ct (some ⟨bb, bo, none⟩) nd cd) q E B T sD sF ∧ GvR W (w.heap.size + 5) E B T sD sF) ⟨hX, hR⟩ ?_
                    clear hX hR
                    rintro W9 ⟨hX, hR⟩
                    refine anyC_done (by kernel_rfl) ?_ _
                    have hxs' : Hid (sD.xs = gD ds (j + 1) ∧ sF.xs = gD ds (j + 1)) := Lib.hid ⟨by rw [hxD.out, hds2.out.1, hgs.out], by rw [hxF.out, hds2.out.2, hgs.out]⟩
                    have hRX := Lib.hid (And.intro hR hX)
                    clear hR hX hxD hxF
                    go_wp2_with fail
                    go_roundw
                    case rel => exact ⟨j + 1, sD, sF, hltH.out, by go_num, hxs', hRX⟩
                    case measure => simp only [Go.RowKit.intOf]; have := hltH.out; omega
              ·
                as_aux_lemma =>
                  go_upto_region 15 with fail
                  refine fresh_world (fun W => GvR W (w.heap.size + 5) E B T D F ∧ GvX w W w.heap.size (vzG q AB nb cb AT nt ct (some ⟨bb, bo, none⟩) nd cd) q E B T D F) ⟨hRX.out.1, hRX.out.2⟩ ?_
                  clear hsrc hz3 hRX
                  rintro Wa hRX'
                  have hRX := Lib.hid hRX'
                  clear hRX'
                  have hyd : Hid (p.extract 0 (min p.size 70) = dFix p) := Lib.hid (by unfold dFix; rw [hpd.out])
                  go_upto_region 16 with fail
                  rw [show min (p.size : Int) 70 = ((min p.size 70 : Nat) : Int) by omega, Int.toNat_natCast, hyd.out]
                  generalize dFix p = y at hgs ⊢
                  clear hyd hpd
                  have hS := hRX.out.2.keep (Below.refl _ _).drew
                  have hR := hRX.out.1.below (Below.refl _ _).drew
                  clear hRX
                  refine region_anyC (fun i => decide (i < 11)) (fun W => GvX w W w.heap.size (vzG q AB nb cb AT nt ct (some ⟨bb, bo, none⟩) nd cd) q E B T D F) (by kernel_rfl) ?_
                  generalize Wa.drew = Wd at hS hR ⊢
                  refine anyL_take 0 (v := ?_) rfl (by kernel_rfl) (fun _ _ _ h => h) (Or.inl ⟨by rfl, ?_⟩) hS ?_
                  rotate_left
                  focus (intro W hW; go_simp; try with_reducible rfl)
                  simp only [Act.put, List.setIfInBounds_toArray, List.set_cons_zero, List.set_cons_succ]
                  refine anyL_take 1 (v := ?_) rfl (by kernel_rfl) (fun _ _ _ h => h) (Or.inl ⟨by rfl, ?_⟩) hS ?_
                  rotate_left
                  focus (intro W hW; have y1 := hW.xD; go_simp; try with_reducible rfl)
                  simp only [Act.put, List.setIfInBounds_toArray, List.set_cons_zero, List.set_cons_succ]
                  refine anyL_take 2 (v := ?_) rfl (by kernel_rfl) (fun _ _ _ h => h) (Or.inl ⟨by rfl, ?_⟩) hS ?_
                  rotate_left
                  focus (intro W hW; go_simp; try with_reducible rfl)
                  simp only [Act.put, List.setIfInBounds_toArray, List.set_cons_zero, List.set_cons_succ]
                  refine anyL_take 5 (v := ?_) rfl (by kernel_rfl) (fun _ _ _ h => h) (Or.inl ⟨by rfl, ?_⟩) hS ?_
                  rotate_left
                  focus (intro W hW; go_simp; try with_reducible rfl)
                  simp only [Act.put, List.setIfInBounds_toArray, List.set_cons_zero, List.set_cons_succ]
                  refine anyL_take 6 (v := ?_) rfl (by kernel_rfl) (fun _ _ _ h => h) (Or.inl ⟨by rfl, ?_⟩) hS ?_
                  rotate_left
                  focus (intro W hW; have y1 := hW.yF; go_simp; try with_reducible rfl)
                  simp only [Act.put, List.setIfInBounds_toArray, List.set_cons_zero, List.set_cons_succ]
                  refine anyL_take 7 (v := ?_) rfl (by kernel_rfl) (fun _ _ _ h => h) (Or.inl ⟨by rfl, ?_⟩) hS ?_
                  rotate_left
                  focus (intro W hW; go_simp; try with_reducible rfl)
                  simp only [Act.put, List.setIfInBounds_toArray, List.set_cons_zero, List.set_cons_succ]
                  have hlD0 := hlenH.out.1
                  have hlF0 := hlenH.out.2
                  refine anyL_two 3 8 rfl rfl (by kernel_rfl) (fun K hK => ?_) (fun K hK => ?_)
                  ·
                    have hal := (Below.refl Wd.heap.size Wd).alloc (Nat.le_refl _) (.cells #[.string y] 9)
                    go_simp
                    refine hK.out _ _ (fun _ => hS.keep (hal.mono hR.bs)) ?_
                    clear hK K
                    try simp only [Act.put, List.setIfInBounds_toArray, List.set_cons_zero, List.set_cons_succ]
                    skip
                    have hqD : Wd.heap.size < (Wd.alloc (.cells #[.string y] 9)).heap.size := by rw [World.size_alloc]; omega
                    replace hS := hS.keep (hal.mono hR.bs)
                    replace hR := hR.below hal
                    have hmD : (Wd.alloc (.cells #[.string y] 9)).cell? ⟨Wd.heap.size, 0, none⟩ = some (.string y) := by go_simp
                    clear hal
                    generalize (Wd.alloc (.cells #[.string y] 9)) = Wx at hS hR hqD hmD ⊢
                    generalize Wd.heap.size = mD at hqD hmD ⊢
                    refine anyL_two 4 8 rfl rfl (by kernel_rfl) (fun K hK => ?_) (fun K hK => ?_)
                    ·
                      obtain ⟨sD, Wxx, hrun, hxD, hR', hb', hfar⟩ := hR.pushD (m := mD) (x := y) (fun j hj => by have h1 : j < 1 := hj; obtain rfl : j = 0 := (by omega); exact hmD) (by omega)
                      refine append_run_step rfl (.tmp 101) (.tmp 103) 24 rfl rfl rfl hrun ?_
                      refine hK.out _ _ (fun _ => hS.keep hb') ?_
                      clear hK K hrun
                      try simp only [Act.put, List.setIfInBounds_toArray, List.set_cons_zero, List.set_cons_succ]
                      replace hS := hS.keep hb'
                      replace hR := hR'
                      replace hxD := Lib.hid hxD
                      clear hR' hb' hfar
                      refine anyL_take 10 (v := ?_) rfl (by kernel_rfl) (fun _ _ _ h => h) (Or.inl ⟨by rfl, ?_⟩) hS ?_
                      rotate_left
                      focus (intro W hW; go_simp; try with_reducible rfl)
                      simp only [Act.put, List.setIfInBounds_toArray, List.set_cons_zero, List.set_cons_succ]
                      refine anyL_one 8 rfl (by kernel_rfl) (fun K hK => ?_)
                      have hal := (Below.refl Wxx.heap.size Wxx).alloc (Nat.le_refl _) (.cells #[.string y] 9)
                      go_simp
                      refine hK.out _ _ (fun _ => hS.keep (hal.mono hR.bs)) ?_
                      clear hK K
                      try simp only [Act.put, List.setIfInBounds_toArray, List.set_cons_zero, List.set_cons_succ]
                      skip
                      have hqF : Wxx.heap.size < (Wxx.alloc (.cells #[.string y] 9)).heap.size := by rw [World.size_alloc]; omega
                      replace hS := hS.keep (hal.mono hR.bs)
                      replace hR := hR.below hal
                      have hmF : (Wxx.alloc (.cells #[.string y] 9)).cell? ⟨Wxx.heap.size, 0, none⟩ = some (.string y) := by go_simp
                      clear hal
                      generalize (Wxx.alloc (.cells #[.string y] 9)) = Wxy at hS hR hqF hmF ⊢
                      generalize Wxx.heap.size = mF at hqF hmF ⊢
                      refine anyL_one 9 rfl (by kernel_rfl) (fun K hK => ?_)
                      obtain ⟨sF, Wf, hrun, hxF, hR', hb', hfar⟩ := hR.pushF (m := mF) (x := y) (fun j hj => by have h1 : j < 1 := hj; obtain rfl : j = 0 := (by omega); exact hmF) (by omega)
                      refine append_run_step rfl (.tmp 106) (.tmp 108) 24 rfl rfl rfl hrun ?_
                      refine hK.out _ _ (fun _ => hS.keep hb') ?_
                      clear hK K hrun
                      try simp only [Act.put, List.setIfInBounds_toArray, List.set_cons_zero, List.set_cons_succ]
                      replace hS := hS.keep hb'
                      replace hR := hR'
                      replace hxF := Lib.hid hxF
                      clear hR' hb' hfar
                      refine anyL_one 11 rfl (by kernel_rfl) (fun K hK => ?_)
                      have y1 := hS.xD
                      have y2 := hS.f32
                      go_simp
                      refine hK.out _ _ (fun h => absurd h (by decide)) ?_
                      clear hK K y1 y2
                      try simp only [Act.put, List.setIfInBounds_toArray, List.set_cons_zero, List.set_cons_succ]
                      have hX := hS.setD sD
                      replace hR := hR.set (X := w.heap.size + 3) (by omega) 2 (.slice sD.A sD.xs.length sD.c)
                      refine fresh_any (fun W => GvX w W w.heap.size (vzG q AB nb cb AT nt ct (some ⟨bb, bo, none⟩) nd cd) q E B T sD F ∧ GvR W (w.heap.size + 5) E B T sD sF) ⟨hX, hR⟩ ?_
                      clear hS hX hR
                      rintro W8 ⟨hX, hR⟩
                      refine anyL_one 12 rfl (by kernel_rfl) (fun K hK => ?_)
                      go_simp
                      refine hK.out _ _ (fun h => absurd h (by decide)) ?_
                      clear hK K
                      try simp only [Act.put, List.setIfInBounds_toArray, List.set_cons_zero, List.set_cons_succ]
                      refine anyL_one 13 rfl (by kernel_rfl) (fun K hK => ?_)
                      have y1 := hX.yF
                      have y2 := hX.f43
                      go_simp
                      refine hK.out _ _ (fun h => absurd h (by decide)) ?_
                      clear hK K y1 y2
                      try simp only [Act.put, List.setIfInBounds_toArray, List.set_cons_zero, List.set_cons_succ]
                      replace hX := hX.setF sF
                      replace hR := hR.set (X := w.heap.size + 4) (by omega) 3 (.slice sF.A sF.xs.length sF.c)
                      refine fresh_any (fun W => GvX w W w.heap.size (vzG q AB nb cb AT nt ct (some ⟨bb, bo, none⟩) nd cd) q E B T sD sF ∧ GvR W (w.heap.size + 5) E B T sD sF) ⟨hX, hR⟩ ?_
                      clear hX hR
                      rintro W9 ⟨hX, hR⟩
                      refine anyC_done (by kernel_rfl) ?_ _
                      have hxs' : Hid (sD.xs = gD ds (j + 1) ∧ sF.xs = gD ds (j + 1)) := Lib.hid ⟨by rw [hxD.out, hds2.out.1, hgs.out], by rw [hxF.out, hds2.out.2, hgs.out]⟩
                      have hRX := Lib.hid (And.intro hR hX)
                      clear hR hX hxD hxF
                      go_wp2_with fail
                      go_roundw
                      case rel => exact ⟨j + 1, sD, sF, hltH.out, by go_num, hxs', hRX⟩
                      case measure => simp only [Go.RowKit.intOf]; have := hltH.out; omega
                    ·
                      have hal := (Below.refl Wx.heap.size Wx).alloc (Nat.le_refl _) (.cells #[.string y] 9)
                      go_simp
                      refine hK.out _ _ (fun _ => hS.keep (hal.mono hR.bs)) ?_
                      clear hK K
                      try simp only [Act.put, List.setIfInBounds_toArray, List.set_cons_zero, List.set_cons_succ]
                      have hlF := fun r (e : D.A = some ⟨r, 0, none⟩) => row_lt hR.rD r e
                      have hqF : Wx.heap.size < (Wx.alloc (.cells #[.string y] 9)).heap.size := by rw [World.size_alloc]; omega
                      replace hS := hS.keep (hal.mono hR.bs)
                      replace hR := hR.below hal
                      replace hmD := (hal.cell (lt_of_cell hmD)).trans hmD
                      have hmF : (Wx.alloc (.cells #[.string y] 9)).cell? ⟨Wx.heap.size, 0, none⟩ = some (.string y) := by go_simp
                      clear hal
                      generalize (Wx.alloc (.cells #[.string y] 9)) = Wxy at hS hR hqF hmF hmD ⊢
                      generalize Wx.heap.size = mF at hqF hmF hlF ⊢
                      replace hqD : mD < Wxy.heap.size := lt_of_cell hmD
                      refine anyL_one 4 rfl (by kernel_rfl) (fun K hK => ?_)
                      obtain ⟨sD, Wxx, hrun, hxD, hR', hb', hfar⟩ := hR.pushD (m := mD) (x := y) (fun j hj => by have h1 : j < 1 := hj; obtain rfl : j = 0 := (by omega); exact hmD) (by omega)
                      refine append_run_step rfl (.tmp 101) (.tmp 103) 24 rfl rfl rfl hrun ?_
                      refine hK.out _ _ (fun _ => hS.keep hb') ?_
                      clear hK K hrun
                      try simp only [Act.put, List.setIfInBounds_toArray, List.set_cons_zero, List.set_cons_succ]
                      replace hS := hS.keep hb'
                      replace hmF := (hfar mF (by omega) hlF 0).trans hmF
                      replace hqF : mF < Wxx.heap.size := lt_of_cell hmF
                      replace hR := hR'
                      replace hxD := Lib.hid hxD
                      clear hR' hb' hfar
                      refine anyL_take 10 (v := ?_) rfl (by kernel_rfl) (fun _ _ _ h => h) (Or.inl ⟨by rfl, ?_⟩) hS ?_
                      rotate_left
                      focus (intro W hW; go_simp; try with_reducible rfl)
                      simp only [Act.put, List.setIfInBounds_toArray, List.set_cons_zero, List.set_cons_succ]
                      refine anyL_one 9 rfl (by kernel_rfl) (fun K hK => ?_)
                      obtain ⟨sF, Wf, hrun, hxF, hR', hb', hfar⟩ := hR.pushF (m := mF) (x := y) (fun j hj => by have h1 : j < 1 := hj; obtain rfl : j = 0 := (by omega); exact hmF) (by omega)
                      refine append_run_step rfl (.tmp 106) (.tmp 108) 24 rfl rfl rfl hrun ?_
                      refine hK.out _ _ (fun _ => hS.keep hb') ?_
                      clear hK K hrun
                      try simp only [Act.put, List.setIfInBounds_toArray, List.set_cons_zero, List.set_cons_succ]
                      replace hS := hS.keep hb'
                      replace hR := hR'
                      replace hxF := Lib.hid hxF
                      clear hR' hb' hfar
                      refine anyL_one 11 rfl (by kernel_rfl) (fun K hK => ?_)
                      have y1 := hS.xD
                      have y2 := hS.f32
                      go_simp
                      refine hK.out _ _ (fun h => absurd h (by decide)) ?_
                      clear hK K y1 y2
                      try simp only [Act.put, List.setIfInBounds_toArray, List.set_cons_zero, List.set_cons_succ]
                      have hX := hS.setD sD
                      replace hR := hR.set (X := w.heap.size + 3) (by omega) 2 (.slice sD.A sD.xs.length sD.c)
                      refine fresh_any (fun W => GvX w W w.heap.size (vzG q AB nb cb AT nt ct (some ⟨bb, bo, none⟩) nd cd) q E B T sD F ∧ GvR W (w.heap.size + 5) E B T sD sF) ⟨hX, hR⟩ ?_
                      clear hS hX hR
                      rintro W8 ⟨hX, hR⟩
                      refine anyL_one 12 rfl (by kernel_rfl) (fun K hK => ?_)
                      go_simp
                      refine hK.out _ _ (fun h => absurd h (by decide)) ?_
                      clear hK K
                      try simp only [Act.put, List.setIfInBounds_toArray, List.set_cons_zero, List.set_cons_succ]
                      refine anyL_one 13 rfl (by kernel_rfl) (fun K hK => ?_)
                      have y1 := hX.yF
                      have y2 := hX.f43
                      go_simp
                      refine hK.out _ _ (fun h => absurd h (by decide)) ?_
                      clear hK K y1 y2
                      try simp only [Act.put, List.setIfInBounds_toArray, List.set_cons_zero, List.set_cons_succ]
                      replace hX := hX.setF sF
                      replace hR := hR.set (X := w.heap.size + 4) (by omega) 3 (.slice sF.A sF.xs.length sF.c)
                      refine fresh_any (fun W => GvX w W w.heap.size (vzG q AB nb cb AT nt ct (some ⟨bb, bo, none⟩) nd cd) q E B T sD sF ∧ GvR W (w.heap.size + 5) E B T sD sF) ⟨hX, hR⟩ ?_
                      clear hX hR
                      rintro W9 ⟨hX, hR⟩
                      refine anyC_done (by kernel_rfl) ?_ _
                      have hxs' : Hid (sD.xs = gD ds (j + 1) ∧ sF.xs = gD ds (j + 1)) := Lib.hid ⟨by rw [hxD.out, hds2.out.1, hgs.out], by rw [hxF.out, hds2.out.2, hgs.out]⟩
                      have hRX := Lib.hid (And.intro hR hX)
                      clear hR hX hxD hxF
                      go_wp2_with fail
                      go_roundw
                      case rel => exact ⟨j + 1, sD, sF, hltH.out, by go_num, hxs', hRX⟩
                      case measure => simp only [Go.RowKit.intOf]; have := hltH.out; omega
                  ·
                    have hal := (Below.refl Wd.heap.size Wd).alloc (Nat.le_refl _) (.cells #[.string y] 9)
                    go_simp
                    refine hK.out _ _ (fun _ => hS.keep (hal.mono hR.bs)) ?_
                    clear hK K
                    try simp only [Act.put, List.setIfInBounds_toArray, List.set_cons_zero, List.set_cons_succ]
                    have hlF := fun r (e : D.A = some ⟨r, 0, none⟩) => row_lt hR.rD r e
                    have hqF : Wd.heap.size < (Wd.alloc (.cells #[.string y] 9)).heap.size := by rw [World.size_alloc]; omega
                    replace hS := hS.keep (hal.mono hR.bs)
                    replace hR := hR.below hal
                    have hmF : (Wd.alloc (.cells #[.string y] 9)).cell? ⟨Wd.heap.size, 0, none⟩ = some (.string y) := by go_simp
                    clear hal
                    generalize (Wd.alloc (.cells #[.string y] 9)) = Wy at hS hR hqF hmF ⊢
                    generalize Wd.heap.size = mF at hqF hmF hlF ⊢
                    refine anyL_one 3 rfl (by kernel_rfl) (fun K hK => ?_)
                    have hal := (Below.refl Wy.heap.size Wy).alloc (Nat.le_refl _) (.cells #[.string y] 9)
                    go_simp
                    refine hK.out _ _ (fun _ => hS.keep (hal.mono hR.bs)) ?_
                    clear hK K
                    try simp only [Act.put, List.setIfInBounds_toArray, List.set_cons_zero, List.set_cons_succ]
                    skip
                    have hqD : Wy.heap.size < (Wy.alloc (.cells #[.string y] 9)).heap.size := by rw [World.size_alloc]; omega
                    replace hS := hS.keep (hal.mono hR.bs)
                    replace hR := hR.below hal
                    replace hmF := (hal.cell (lt_of_cell hmF)).trans hmF
                    have hmD : (Wy.alloc (.cells #[.string y] 9)).cell? ⟨Wy.heap.size, 0, none⟩ = some (.string y) := by go_simp
                    clear hal
                    generalize (Wy.alloc (.cells #[.string y] 9)) = Wxy at hS hR hqD hmD hmF ⊢
                    generalize Wy.heap.size = mD at hqD hmD ⊢
                    replace hqF : mF < Wxy.heap.size := lt_of_cell hmF
                    refine anyL_one 4 rfl (by kernel_rfl) (fun K hK => ?_)
                    obtain ⟨sD, Wxx, hrun, hxD, hR', hb', hfar⟩ := hR.pushD (m := mD) (x := y) (fun j hj => by have h1 : j < 1 := hj; obtain rfl : j = 0 := (by omega); exact hmD) (by omega)
                    refine append_run_step rfl (.tmp 101) (.tmp 103) 24 rfl rfl rfl hrun ?_
                    refine hK.out _ _ (fun _ => hS.keep hb') ?_
                    clear hK K hrun
                    try simp only [Act.put, List.setIfInBounds_toArray, List.set_cons_zero, List.set_cons_succ]
                    replace hS := hS.keep hb'
                    replace hmF := (hfar mF (by omega) hlF 0).trans hmF
                    replace hqF : mF < Wxx.heap.size := lt_of_cell hmF
                    replace hR := hR'
                    replace hxD := Lib.hid hxD
                    clear hR' hb' hfar
                    refine anyL_take 10 (v := ?_) rfl (by kernel_rfl) (fun _ _ _ h => h) (Or.inl ⟨by rfl, ?_⟩) hS ?_
                    rotate_left
                    focus (intro W hW; go_simp; try with_reducible rfl)
                    simp only [Act.put, List.setIfInBounds_toArray, List.set_cons_zero, List.set_cons_succ]
                    refine anyL_one 9 rfl (by kernel_rfl) (fun K hK => ?_)
                    obtain ⟨sF, Wf, hrun, hxF, hR', hb', hfar⟩ := hR.pushF (m := mF) (x := y) (fun j hj => by have h1 : j < 1 := hj; obtain rfl : j = 0 := (by omega); exact hmF) (by omega)
                    refine append_run_step rfl (.tmp 106) (.tmp 108) 24 rfl rfl rfl hrun ?_
                    refine hK.out _ _ (fun _ => hS.keep hb') ?_
                    clear hK K hrun
                    try simp only [Act.put, List.setIfInBounds_toArray, List.set_cons_zero, List.set_cons_succ]
                    replace hS := hS.keep hb'
                    replace hR := hR'
                    replace hxF := Lib.hid hxF
                    clear hR' hb' hfar
                    refine anyL_one 11 rfl (by kernel_rfl) (fun K hK => ?_)
                    have y1 := hS.xD
                    have y2 := hS.f32
                    go_simp
                    refine hK.out _ _ (fun h => absurd h (by decide)) ?_
                    clear hK K y1 y2
                    try simp only [Act.put, List.setIfInBounds_toArray, List.set_cons_zero, List.set_cons_succ]
                    have hX := hS.setD sD
                    replace hR := hR.set (X := w.heap.size + 3) (by omega) 2 (.slice sD.A sD.xs.length sD.c)
                    refine fresh_any (fun W => GvX w W w.heap.size (vzG q AB nb cb AT nt ct (some ⟨bb, bo, none⟩) nd cd) q E B T sD F ∧ GvR W (w.heap.size + 5) E B T sD sF) ⟨hX, hR⟩ ?_
                    clear hS hX hR
                    rintro W8 ⟨hX, hR⟩
                    refine anyL_one 12 rfl (by kernel_rfl) (fun K hK => ?_)
                    go_simp
                    refine hK.out _ _ (fun h => absurd h (by decide)) ?_
                    clear hK K
                    try simp only [Act.put, List.setIfInBounds_toArray, List.set_cons_zero, List.set_cons_succ]
                    refine anyL_one 13 rfl (by kernel_rfl) (fun K hK => ?_)
                    have y1 := hX.yF
                    have y2 := hX.f43
                    go_simp
                    refine hK.out _ _ (fun h => absurd h (by decide)) ?_
                    clear hK K y1 y2
                    try simp only [Act.put, List.setIfInBounds_toArray, List.set_cons_zero, List.set_cons_succ]
                    replace hX := hX.setF sF
                    replace hR := hR.set (X := w.heap.size + 4) (by omega) 3 (.slice sF.A sF.xs.length sF.c)
                    refine fresh_any (fun W => GvX w W w.heap.size (vzG q AB nb cb AT nt ct (some ⟨bb, bo, none⟩) nd cd) q E B T sD sF ∧ GvR W (w.heap.size + 5) E B T sD sF) ⟨hX, hR⟩ ?_
                    clear hX hR
                    rintro W9 ⟨hX, hR⟩
                    refine anyC_done (by kernel_rfl) ?_ _
                    have hxs' : Hid (sD.xs = gD ds (j + 1) ∧ sF.xs = gD ds (j + 1)) := Lib.hid ⟨by rw [hxD.out, hds2.out.1, hgs.out], by rw [hxF.out, hds2.out.2, hgs.out]⟩
                    have hRX := Lib.hid (And.intro hR hX)
                    clear hR hX hxD hxF
                    go_wp2_with fail
                    go_roundw
                    case rel => exact ⟨j + 1, sD, sF, hltH.out, by go_num, hxs', hRX⟩
                    case measure => simp only [Go.RowKit.intOf]; have := hltH.out; omega
          case neg =>
            have hje : j = m9 := by omega
            have hxs9 : Hid (D.xs = gD ds m9 ∧ F.xs = gD ds m9) := Lib.hid (by rw [← hje]; exact hds2.out)
            have e2 : cc = false := by rw [← hcc]; exact decide_eq_false hlt
            subst e2
            clear hcc
            have hfin : Hid (∀ W, GvR W (w.heap.size + 5) E B T D F → Below w.heap.size w W → GivPost w q bl tr ds (.returned (.tuple #[.agg #[.int .i64 q, .slice E.A E.xs.length E.c, .slice D.A D.xs.length D.c], .agg #[.int .i64 q, .slice B.A B.xs.length B.c, .slice T.A T.xs.length T.c, .slice F.A F.xs.length F.c]])) W) := Lib.hid (fun W h1 h2 => hPH.out _ _ ⟨E, B, T, D, F, rfl, ⟨hxsE.out.1, hxsE.out.2.1, hxsE.out.2.2, hxs9.out.1, hxs9.out.2⟩, h1, h2⟩)
            clear hje hds2 hlt hjn hjw hPH
            ·
              go_upto_region 17 with fail
              have hS := hRX.out.2.keep (Below.refl _ _).drew
              have hR := hRX.out.1.below (Below.refl _ _).drew
              clear hRX
              refine region_anyC (fun i => decide (i < 3)) (fun W => W.cell? ⟨w.heap.size + 3, 0, none⟩ = some (.int .i64 q) ∧ W.cell? ⟨w.heap.size + 3, 1, none⟩ = some (.slice E.A E.xs.length E.c) ∧ W.cell? ⟨w.heap.size + 3, 2, none⟩ = some (.slice D.A D.xs.length D.c) ∧ W.cell? ⟨w.heap.size + 4, 0, none⟩ = some (.int .i64 q) ∧ W.cell? ⟨w.heap.size + 4, 1, none⟩ = some (.slice B.A B.xs.length B.c) ∧ W.cell? ⟨w.heap.size + 4, 2, none⟩ = some (.slice T.A T.xs.length T.c) ∧ W.cell? ⟨w.heap.size + 4, 3, none⟩ = some (.slice F.A F.xs.length F.c)) (by kernel_rfl) ?_
              generalize wr.drew = Wd at hS hR ⊢
              have hX := hS
              have hS := (show Wd.cell? ⟨w.heap.size + 3, 0, none⟩ = some (.int .i64 q) ∧ Wd.cell? ⟨w.heap.size + 3, 1, none⟩ = some (.slice E.A E.xs.length E.c) ∧ Wd.cell? ⟨w.heap.size + 3, 2, none⟩ = some (.slice D.A D.xs.length D.c) ∧ Wd.cell? ⟨w.heap.size + 4, 0, none⟩ = some (.int .i64 q) ∧ Wd.cell? ⟨w.heap.size + 4, 1, none⟩ = some (.slice B.A B.xs.length B.c) ∧ Wd.cell? ⟨w.heap.size + 4, 2, none⟩ = some (.slice T.A T.xs.length T.c) ∧ Wd.cell? ⟨w.heap.size + 4, 3, none⟩ = some (.slice F.A F.xs.length F.c) from ⟨hX.x0, hX.xE, hX.xD, hX.y0, hX.yB, hX.yT, hX.yF⟩)
              refine anyL_take 0 (v := ?_) rfl (by kernel_rfl) (fun _ _ _ h => h) (Or.inl ⟨by rfl, ?_⟩) hS ?_
              rotate_left
              focus (intro W hW; obtain ⟨y0, y1, y2, _, _, _, _⟩ := hW; go_simp; try with_reducible rfl)
              simp only [Act.put, List.setIfInBounds_toArray, List.set_cons_zero, List.set_cons_succ]
              refine anyL_take 1 (v := ?_) rfl (by kernel_rfl) (fun _ _ _ h => h) (Or.inl ⟨by rfl, ?_⟩) hS ?_
              rotate_left
              focus (intro W hW; obtain ⟨_, _, _, y0, y1, y2, y3⟩ := hW; go_simp; try with_reducible rfl)
              simp only [Act.put, List.setIfInBounds_toArray, List.set_cons_zero, List.set_cons_succ]
              obtain ⟨u10, e10⟩ := Option.isSome_iff_exists.1 hX.a10
              have z10 := hX.f10
              obtain ⟨u11, e11⟩ := Option.isSome_iff_exists.1 hX.a11
              have z11 := hX.f11
              obtain ⟨u12, e12⟩ := Option.isSome_iff_exists.1 hX.a12
              have z12 := hX.f12
              obtain ⟨u20, e20⟩ := Option.isSome_iff_exists.1 hX.a20
              have z20 := hX.f20
              obtain ⟨u21, e21⟩ := Option.isSome_iff_exists.1 hX.a21
              have z21 := hX.f21
              obtain ⟨u22, e22⟩ := Option.isSome_iff_exists.1 hX.a22
              have z22 := hX.f22
              obtain ⟨u23, e23⟩ := Option.isSome_iff_exists.1 hX.a23
              have z23 := hX.f23
              obtain ⟨x0, x1, x2, y0, y1, y2, y3⟩ := hS
              refine anyL_one 2 rfl (by kernel_rfl) (fun K hK => ?_)
              go_simp
              refine hK.out _ _ (fun _ => ⟨by go_simp, by go_simp, by go_simp, by go_simp, by go_simp, by go_simp, by go_simp⟩) ?_
              clear hK K
              try simp only [Act.put, List.setIfInBounds_toArray, List.set_cons_zero, List.set_cons_succ]
              refine anyL_one 3 rfl (by kernel_rfl) (fun K hK => ?_)
              go_simp
              refine hK.out _ _ (fun h => absurd h (by decide)) ?_
              clear hK K
              try simp only [Act.put, List.setIfInBounds_toArray, List.set_cons_zero, List.set_cons_succ]
              refine anyC_done (by kernel_rfl) ?_ _
              have hRR := (((((((hR.set (X := w.heap.size + 1) (by omega) 0 (.int .i64 q)).set (X := w.heap.size + 1) (by omega) 1 (.slice E.A E.xs.length E.c)).set (X := w.heap.size + 1) (by omega) 2 (.slice D.A D.xs.length D.c)).set (X := w.heap.size + 2) (by omega) 0 (.int .i64 q)).set (X := w.heap.size + 2) (by omega) 1 (.slice B.A B.xs.length B.c)).set (X := w.heap.size + 2) (by omega) 2 (.slice T.A T.xs.length T.c)).set (X := w.heap.size + 2) (by omega) 3 (.slice F.A F.xs.length F.c))
              have hBB := (((((((hX.bw.setCell (by show w.heap.size ≤ w.heap.size + 1; omega) (p := ⟨w.heap.size + 1, 0, none⟩) (.int .i64 q)).setCell (by show w.heap.size ≤ w.heap.size + 1; omega) (p := ⟨w.heap.size + 1, 1, none⟩) (.slice E.A E.xs.length E.c)).setCell (by show w.heap.size ≤ w.heap.size + 1; omega) (p := ⟨w.heap.size + 1, 2, none⟩) (.slice D.A D.xs.length D.c)).setCell (by show w.heap.size ≤ w.heap.size + 2; omega) (p := ⟨w.heap.size + 2, 0, none⟩) (.int .i64 q)).setCell (by show w.heap.size ≤ w.heap.size + 2; omega) (p := ⟨w.heap.size + 2, 1, none⟩) (.slice B.A B.xs.length B.c)).setCell (by show w.heap.size ≤ w.heap.size + 2; omega) (p := ⟨w.heap.size + 2, 2, none⟩) (.slice T.A T.xs.length T.c)).setCell (by show w.heap.size ≤ w.heap.size + 2; omega) (p := ⟨w.heap.size + 2, 3, none⟩) (.slice F.A F.xs.length F.c))
              go_wp2_with fail
              refine fresh_postG (fun W => (W.cell? ⟨w.heap.size + 1, 0, none⟩ = some (.int .i64 q) ∧ W.cell? ⟨w.heap.size + 1, 1, none⟩ = some (.slice E.A E.xs.length E.c) ∧ W.cell? ⟨w.heap.size + 1, 2, none⟩ = some (.slice D.A D.xs.length D.c) ∧ W.cell? ⟨w.heap.size + 2, 0, none⟩ = some (.int .i64 q) ∧ W.cell? ⟨w.heap.size + 2, 1, none⟩ = some (.slice B.A B.xs.length B.c) ∧ W.cell? ⟨w.heap.size + 2, 2, none⟩ = some (.slice T.A T.xs.length T.c) ∧ W.cell? ⟨w.heap.size + 2, 3, none⟩ = some (.slice F.A F.xs.length F.c)) ∧ GvR W (w.heap.size + 5) E B T D F ∧ Below w.heap.size w W) ?_ ?_
              · exact ⟨⟨by go_simp, by go_simp, by go_simp, by go_simp, by go_simp, by go_simp, by go_simp⟩, hRR, hBB⟩
              rintro W9 ⟨⟨k0, k1, k2, k3, k4, k5, k6⟩, hR9, hB9⟩
              have hF9 := Lib.hid (hfin.out W9 hR9 hB9)
              clear hR9 hB9 hX hR hRR hBB
              refine bodyPost_ret (v := .tuple #[.agg #[.int .i64 q, .slice E.A E.xs.length E.c, .slice D.A D.xs.length D.c], .agg #[.int .i64 q, .slice B.A B.xs.length B.c, .slice T.A T.xs.length T.c, .slice F.A F.xs.length F.c]]) (by simp [results, Tryd.results7, go_sem, k0, k1, k2, k3, k4, k5, k6]) rfl hF9.out
end Go.Proofs.YtbgkmppngnedlaaDoor
