/- LmapScripts: the walk. -/
import Derived.Test.YtbgkmppngnedlaaLnB
import Derived.Test.YtbgkmppngnedlaaLmW
namespace Go.Proofs.Ytbgkmppngnedlaa
open Go.RowKit

theorem struct_threeS {P : Program} {t : TypeId} {k0 k1 k2 : TypeId × Nat × Bool} (h : (P.fieldsOf t).toList.map fKey = [k0, k1, k2]) : ∃ f0 f1 f2, (P.fieldsOf t).toList = [f0, f1, f2] ∧ fKey f0 = k0 ∧ fKey f1 = k1 ∧ fKey f2 = k2 := by
  match hl : (P.fieldsOf t).toList, h with
  | [f0, f1, f2], h => simp only [List.map_cons, List.map_nil, List.cons.injEq, and_true] at h; exact ⟨f0, f1, f2, rfl, h.1, h.2.1, h.2.2⟩
theorem where_in (w : World) (a b c : Int) : (Op.equalIn 9999 62 (.agg #[.int .i64 a, .int .i64 b, .int .i64 c]) (.agg #[.int .i64 a, .int .i64 b, .int .i64 c])).run Try.prog w = .ok true w := by
  obtain ⟨f0, f1, f2, hl, h0, h1, h2⟩ := struct_threeS (P := Try.prog) (t := 62) (k0 := (3, 0, true)) (k1 := (3, 1, true)) (k2 := (3, 2, true)) (by kernel_rfl)
  rw [run_equalIn_struct w 9998 _ _ _ (by kernel_rfl) (by kernel_rfl), hl,
    eqF_cons h0 (a := .int .i64 a) (b := .int .i64 a) (by kernel_rfl) (by kernel_rfl) (run_equalIn_int _ 9997 _ _ .i64 _ _ Try.underlying3),
    eqF_cons h1 (a := .int .i64 b) (b := .int .i64 b) (by kernel_rfl) (by kernel_rfl) (run_equalIn_int _ 9997 _ _ .i64 _ _ Try.underlying3),
    eqF_cons h2 (a := .int .i64 c) (b := .int .i64 c) (by kernel_rfl) (by kernel_rfl) (run_equalIn_int _ 9997 _ _ .i64 _ _ Try.underlying3), eqF_nil]
  simp
theorem lv_same (w : World) (x : Lv) : (binOp .neq 71 (.agg #[.int .i64 x.b, .bool x.t, .int .i64 x.z, .int .i64 x.a, .int .i64 x.e]) (.agg #[.int .i64 x.b, .bool x.t, .int .i64 x.z, .int .i64 x.a, .int .i64 x.e])).run Try.prog w = .ok (.bool false) w := by
  obtain ⟨f0, f1, f2, hl, h0, h1, h2⟩ := struct_threeS (P := Try.prog) (t := 71) (k0 := (3, 0, true)) (k1 := (4, 1, true)) (k2 := (62, 2, true)) (by kernel_rfl)
  refine (eql_of (r := true) (by kernel_rfl) (by kernel_rfl) ?_).2
  rw [hl,
    eqF_cons h0 (a := .int .i64 x.b) (b := .int .i64 x.b) (by kernel_rfl) (by kernel_rfl) (run_equalIn_int _ 9998 _ _ .i64 _ _ Try.underlying3),
    eqF_cons h1 (a := .bool x.t) (b := .bool x.t) (by kernel_rfl) (by kernel_rfl) (run_equalIn_bool _ 9998 _ _ _ Try.underlying4),
    eqF_cons h2 (a := .agg #[.int .i64 x.z, .int .i64 x.a, .int .i64 x.e]) (b := .agg #[.int .i64 x.z, .int .i64 x.a, .int .i64 x.e]) (by kernel_rfl) (by kernel_rfl) (where_in w x.z x.a x.e), eqF_nil]
  simp
theorem adL_wf {z a s : Int} : ∀ (j : Nat) (t : List (Int × Bool)), (∀ x ∈ t, WfI x.1) → ∀ x ∈ adL z a s j t, WfI x.b
  | _, [], _, x, h => by cases h
  | j, y :: t, hw, x, h => by
    have h' : x = ⟨z, a, (j : Int), s, y.1, y.2⟩ ∨ x ∈ adL z a s (j + 1) t := List.mem_cons.1 h
    rcases h' with rfl | h'
    · exact hw y List.mem_cons_self
    · exact adL_wf (j + 1) t (fun x hx => hw x (List.mem_cons_of_mem _ hx)) x h'
theorem adM_wf {l : List GA} (hok : ∀ c ∈ l, c.Ok) : ∀ k, ∀ x ∈ adM l k, WfI x.b
  | 0, x, h => by cases h
  | k + 1, x, h => by
    have h' : x ∈ adM l k ++ (match l[k]? with | some c => adL (c.z % 8) (k : Int) (seqM c) 0 (esM c 10) | none => []) := h
    rcases List.mem_append.1 h' with h1 | h1
    · exact adM_wf hok k x h1
    · cases hc : l[k]? with
      | none => rw [hc] at h1; cases h1
      | some c =>
        rw [hc] at h1
        exact adL_wf 0 _ (esM_wf (hok c (List.mem_of_getElem? hc)) 10) x h1
theorem lvrow_at {W : World} {base cap : Nat} {A : Option Addr} {L : List Lv} (h : lvE.Row W base 71 A cap L) {i : Nat} (hi : i < L.length) : ∃ g, A = some ⟨g, 0, none⟩ ∧ g < W.heap.size ∧ W.cell? ⟨g, i * 5, none⟩ = some (.int .i64 L[i].b) ∧ W.cell? ⟨g, i * 5 + 1, none⟩ = some (.bool L[i].t) ∧ W.cell? ⟨g, i * 5 + 2, none⟩ = some (.int .i64 L[i].z) ∧ W.cell? ⟨g, i * 5 + 3, none⟩ = some (.int .i64 L[i].a) ∧ W.cell? ⟨g, i * 5 + 4, none⟩ = some (.int .i64 L[i].e) := by
  obtain ⟨g, e, _, hl, _, hc, _⟩ := h.at_ hi
  exact ⟨g, e, hl, hc 0 (by decide), hc 1 (by decide), hc 2 (by decide), hc 3 (by decide), hc 4 (by decide)⟩
/-- What the law holds behind its first loop. -/
structure SrW (w W : World) (base g m n : Nat) (x : Lm) (A : Option Addr) (ca : Nat) (ads : List Ad) (b5 : Nat) (AL : Option Addr) (cL : Nat) (b6 : Nat) (AR : Option Addr) (cR : Nat) (R : List Ad) : Prop where
  o : MoW w W base g m n x A ca ads
  l : lvE.Row W b5 71 AL cL (R.map toLv)
  r : adE.Row W b6 60 AR cR R
theorem SrW.below {w W W' : World} {base g m n : Nat} {x : Lm} {A : Option Addr} {ca : Nat} {ads : List Ad} {b5 : Nat} {AL : Option Addr} {cL : Nat} {b6 : Nat} {AR : Option Addr} {cR : Nat} {R : List Ad} (h : SrW w W base g m n x A ca ads b5 AL cL b6 AR cR R) (hb : Below W.heap.size W W') : SrW w W' base g m n x A ca ads b5 AL cL b6 AR cR R :=
  ⟨h.o.below hb, h.l.below hb, h.r.below hb⟩
set_option maxRecDepth 100000 in
set_option maxHeartbeats 16000000 in
theorem scripts_law (w : World) (Ain : Option Addr) (cap : Nat) (l : List GA) (p zn zs : Int) (hI : GActsIn w Ain l) (hok : ∀ c ∈ l, c.Ok) (hlen : l.length ≤ 9223372036854775807) (hp : -9223372036854775808 ≤ p ∧ p ≤ 9223372036854775807) :
    Calls Try.prog 10 #[.slice Ain l.length cap, .agg #[.int .i64 p, .int .i64 zn], .int .i64 zs] w fun e w' => e = .returned (.bool true) ∧ Below w.heap.size w w' := by
  have hsp := Lib.hid (fun W => speaks19 W)
  have hmd := Lib.hid (fun W (hb : Below w.heap.size w W) => made_any W Ain cap l (hI.below hb) hok hlen)
  have hadl := Lib.hid (adM_len l (min l.length 60))
  have hadf := Lib.hid (mdM_f l (min l.length 60))
  have hadq := Lib.hid (mdM_q l (min l.length 60)).1
  have hads := Lib.hid (adM_sort l (min l.length 60)).1
  have hadw := Lib.hid (adM_wf hok (min l.length 60))
  have hpw := Lib.hid (wfI_of hp)
  unfold MadePost at hmd
  generalize hadsE : adM l (min l.length 60) = ads at hmd hadl hadf hads hadw
  generalize hxE : mdM l (min l.length 60) = x at hmd hadf hadq
  generalize mdQ l (min l.length 60) = q at hmd hadq
  have hal6 : ads.length ≤ 600 := by have := hadl.out; omega
  have hf : Hid (∀ b, x.f b = (nwK ads b ads.length).map fun p => enOf (adAt ads p)) := Lib.hid (fun b => by rw [hadf.out, nw_newF])
  clear hadsE hxE hadl hI hok hp
  obtain ⟨nl, hnl⟩ : ∃ nl, l.length = nl := ⟨_, rfl⟩
  rw [hnl] at hmd hlen ⊢
  clear hnl hlen
  obtain ⟨Wd, hWd, p0, p1, hBd⟩ : ∃ Wd, Wd = (w.alloc (.cells #[.int .i64 p, .int .i64 zn] 43)).drew ∧ Wd.cell? ⟨w.heap.size, 0, none⟩ = some (.int .i64 p) ∧ Wd.cell? ⟨w.heap.size, 1, none⟩ = some (.int .i64 zn) ∧ Hid (Below w.heap.size w Wd) :=
    ⟨_, rfl, by go_simp, by go_simp, Lib.hid ((Below.refl _ _).alloc (Nat.le_refl _) _).drew⟩
  have hWdH := Lib.hid hWd
  clear hWd
  go_enter Try.func10, Try.ntmps10
  go_upto_region 1 with fail
  have hS0 : (fun V => V = Wd) Wd := rfl
  refine region_anyC (fun _ => true) (fun V => V = Wd) (by kernel_rfl) ?_
  rw [← hWdH.out]
  refine anyL_take 0 (v := ?_) rfl (by kernel_rfl) (fun _ _ _ h => h) (Or.inl ⟨by rfl, ?_⟩) hS0 ?_
  rotate_left
  focus (intro W hW; go_simp; try with_reducible rfl)
  simp only [Act.put, List.setIfInBounds_toArray, List.set_cons_zero, List.set_cons_succ]
  refine anyL_take 1 (v := ?_) rfl (by kernel_rfl) (fun _ _ _ h => h) (Or.inl ⟨by rfl, ?_⟩) hS0 ?_
  rotate_left
  focus (intro W hW; obtain rfl := hW; go_simp; try with_reducible rfl)
  simp only [Act.put, List.setIfInBounds_toArray, List.set_cons_zero, List.set_cons_succ]
  refine anyL_take 2 (v := ?_) rfl (by kernel_rfl) (fun _ _ _ h => h) (Or.inl ⟨by rfl, ?_⟩) hS0 ?_
  rotate_left
  focus (intro W hW; go_simp; try with_reducible rfl)
  simp only [Act.put, List.setIfInBounds_toArray, List.set_cons_zero, List.set_cons_succ]
  refine anyL_take 3 (v := ?_) rfl (by kernel_rfl) (fun _ _ _ h => h) (Or.inl ⟨by rfl, ?_⟩) hS0 ?_
  rotate_left
  focus (intro W hW; obtain rfl := hW; go_simp; try with_reducible rfl)
  simp only [Act.put, List.setIfInBounds_toArray, List.set_cons_zero, List.set_cons_succ]
  refine anyL_one 4 rfl (by kernel_rfl) (fun K hK => ?_)
  go_simp
  refine hK.out _ _ (fun _ => hS0) ?_
  clear hK K
  try simp only [Act.put, List.setIfInBounds_toArray, List.set_cons_zero, List.set_cons_succ]
  refine anyL_one 5 rfl (by kernel_rfl) (fun K hK => ?_)
  go_simp
  refine hK.out _ _ (fun _ => hS0) ?_
  clear hK K
  try simp only [Act.put, List.setIfInBounds_toArray, List.set_cons_zero, List.set_cons_succ]
  refine anyC_done (by kernel_rfl) ?_ _
  clear p0 p1
  go_wp2_with fail
  (with_reducible refine (hsp.out _).mono ?_)
  rintro e w1 ⟨rfl, hb1⟩
  have hB1 := hBd.out.trans (hb1.mono hBd.out.size)
  have hm1 := Lib.hid (hmd.out w1 hB1)
  have hB1H := Lib.hid hB1
  clear hb1 hsp hmd hB1 hBd hWdH hS0
  go_wp2_with fail
  (with_reducible refine hm1.out.mono ?_)
  rintro e w2 ⟨base, g, m, n, A, ca, rfl, hn, hM⟩
  have hMH := Lib.hid hM
  have hnH := Lib.hid hn
  clear hm1 hM hn
  obtain ⟨na, hna⟩ : ∃ na, ads.length = na := ⟨_, rfl⟩
  have hrl : Hid (∀ W, MoW w1 W base g m n x A ca ads → ∀ z : Int, Calls Try.prog 32 #[.slice A na ca, .int .i64 z] W (RlPost W ads z)) := Lib.hid (fun W h z => by rw [← hna]; exact rlive_any W A ca ads z h.ra.in_ hads.out (by omega))
  have hrn : Hid (∀ W, MoW w1 W base g m n x A ca ads → ∀ b : Int, Calls Try.prog 30 #[.slice A na ca, .int .i64 b] W fun e w' => e = .returned (.int .i64 (optI (nwK ads b na))) ∧ Below W.heap.size W w') := Lib.hid (fun W h b => by rw [← hna]; exact rnewest_any W A ca ads b h.ra.in_ (by omega))
  have hget := Lib.hid (fun W (h : MoW w1 W base g m n x A ca ads) b (hb : WfI b) => get_any W g m n x b h.lm hb)
  unfold GetPost at hget
  rw [hna] at hal6 hf ⊢
  have hnaH := Lib.hid hna
  clear hna
  go_wp2_with fail
  go_loopw [12] (fun iv wr => ∃ (k : Nat) (i : Int), k ≤ na + 1 ∧ Hid (i = (k : Int) - 1) ∧ iv = .int .i64 i ∧ Hid (MoW w1 wr base g m n x A ca ads)) (fun iv _ => (na - Go.RowKit.intOf iv).toNat)
  case atStart => exact ⟨0, -1, Nat.zero_le _, Lib.hid rfl, rfl, hMH⟩
  case round =>
    clear hMH
    obtain ⟨k, i, hkn, hi, rfl, hM⟩ := hrel
    have hi0 := hi.out
    by_cases hlt : i < (na : Int)
    case pos =>
      have hiw : IntKind.i64.wrap (i + 1) = i + 1 := IntWalk.i64_in _ (by omega)
      have hinx : Hid (k + 1 ≤ na + 1 ∧ i + 1 = ((k + 1 : Nat) : Int) - 1 ∧ ((na : Int) - (i + 1)).toNat < ((na : Int) - i).toNat) := Lib.hid (by omega)
      obtain ⟨bk, hbk⟩ : ∃ bk : Int, bk = if k = 0 then p else (adAt ads (k - 1)).b := ⟨_, rfl⟩
      have hbw : Hid (WfI bk) := Lib.hid (by
        rw [hbk]
        split
        · exact hpw.out
        · rw [adAt_eq (by rw [hnaH.out]; omega)]; exact hadw.out _ (List.getElem_mem _))
      obtain ⟨gb, hgb⟩ : ∃ gb, decide (i ≥ 0) = gb := ⟨_, rfl⟩
      have hgbH := Lib.hid hgb
      go_upto_if 43 with fail
      clear hgb
      go_cut [13] from 44 to 48 (fun c W => c = .int .i64 bk ∧ W = wr)
      case first =>
        by_cases hk0 : k = 0
        case pos =>
          rw [if_pos hk0] at hbk
          have hg : gb = false := by rw [← hgbH.out]; simp; omega
          subst hg
          subst hbk
          clear hi0 hlt hgbH
          go_wp2_with fail
          go_meet
          exact ⟨rfl, rfl⟩
        case neg =>
          rw [if_neg hk0] at hbk
          obtain ⟨j, rfl⟩ : ∃ j, k = j + 1 := ⟨k - 1, by omega⟩
          obtain rfl : i = (j : Int) := by omega
          have hjl : j < ads.length := by rw [hnaH.out]; omega
          have hg : gb = true := by rw [← hgbH.out]; simp
          subst hg
          obtain ⟨eb, eo, rfl, hebl, -, -, -, -, e4, -⟩ := adin_at hM.out.ra.in_ hjl
          rw [show j + 1 - 1 = j by omega, adAt_eq hjl] at hbk
          rw [← hbk] at e4
          clear hi0 hbk hbw hinx hiw hgbH
          go_wp2_with fail
          go_meet
          exact ⟨rfl, rfl⟩
      obtain ⟨rfl, hwc⟩ := hcut
      rw [hwc]
      clear hwc hbk hi0 hlt hi hgbH
      have hg1 := Lib.hid (hget.out wr hM.out bk hbw.out)
      rw [hf.out] at hg1
      cases hnw : nwK ads bk na with
      | none =>
        have hrn1 := Lib.hid (fun W h => hrn.out W h bk)
        rw [hnw] at hg1 hrn1
        simp only [Option.map_none, Option.getD_none, Option.isSome_none, zE] at hg1
        have hneg : decide ((-1 : Int) ≥ 0) = false := by simp
        have hfb : (false != false) = false := rfl
        clear hnw hbw
        go_wp2_with fail
        (with_reducible refine hg1.out.mono ?_)
        rintro e w5 ⟨rfl, hb5⟩
        have hal := (Below.refl w5.heap.size w5).alloc (Nat.le_refl _) (.cells #[.int .i64 0, .int .i64 0, .int .i64 0] 62)
        have hM5 := Lib.hid ((hM.out.below hb5).below hal)
        clear hg1 hM hb5 hal
        go_upto_region 12 with fail
        obtain ⟨X, hX⟩ : ∃ X, w5.heap.size = X := ⟨_, rfl⟩
        refine fresh_world (fun W => MoW w1 W base g m n x A ca ads ∧ W.cell? ⟨w5.heap.size, 0, none⟩ = some (.int .i64 0) ∧ W.cell? ⟨w5.heap.size, 1, none⟩ = some (.int .i64 0) ∧ W.cell? ⟨w5.heap.size, 2, none⟩ = some (.int .i64 0)) ⟨hM5.out, by go_simp, by go_simp, by go_simp⟩ ?_
        rw [hX]
        clear hM5 hX
        rintro W6 ⟨hM6, x0, x1, x2⟩
        have h6 := Lib.hid (And.intro hM6 (And.intro x0 (And.intro x1 x2)))
        clear hM6 x0 x1 x2
        go_wp2_with fail
        (with_reducible refine (hrn1.out W6 h6.out.1).mono ?_)
        rintro e w7 ⟨rfl, hb7⟩
        have hM7 := Lib.hid (h6.out.1.below hb7)
        have x0 := (hb7.cell (lt_of_cell h6.out.2.1)).trans h6.out.2.1
        have x1 := (hb7.cell (lt_of_cell h6.out.2.1)).trans h6.out.2.2.1
        have x2 := (hb7.cell (lt_of_cell h6.out.2.1)).trans h6.out.2.2.2
        have hwz : ∀ W, (binOp .neq 62 (.agg #[.int .i64 0, .int .i64 0, .int .i64 0]) (.agg #[.int .i64 0, .int .i64 0, .int .i64 0])).run Try.prog W = .ok (.bool false) W := fun W => (where_eql W 0 0 0 0 0 0).2
        obtain ⟨Wd, hWd, hMd⟩ : ∃ Wd, Wd = w7.drew ∧ Hid (MoW w1 Wd base g m n x A ca ads) := ⟨_, rfl, Lib.hid (hM7.out.below (Below.refl _ _).drew)⟩
        have hWdH := Lib.hid hWd
        clear hb7 h6 hrn1 hWd hM7
        unfold optI
        dsimp only
        go_upto_region 15 with fail
        have hS0 : (fun V => V = Wd) Wd := rfl
        refine region_anyC (fun _ => true) (fun V => V = Wd) (by kernel_rfl) ?_
        rw [← hWdH.out]
        refine anyL_take 0 (v := ?_) rfl (by kernel_rfl) (fun _ _ _ h => h) (Or.inl ⟨by rfl, ?_⟩) hS0 ?_
        rotate_left
        focus (intro W hW; go_simp; try with_reducible rfl)
        simp only [Act.put, List.setIfInBounds_toArray, List.set_cons_zero, List.set_cons_succ]
        refine anyL_take 1 (v := ?_) rfl (by kernel_rfl) (fun _ _ _ h => h) (Or.inl ⟨by rfl, ?_⟩) hS0 ?_
        rotate_left
        focus (intro W hW; go_simp; try with_reducible rfl)
        simp only [Act.put, List.setIfInBounds_toArray, List.set_cons_zero, List.set_cons_succ]
        refine anyL_take 2 (v := undef) rfl (by kernel_rfl) (fun _ _ _ h => h) (Or.inr ⟨by rfl, rfl⟩) hS0 ?_
        simp only [Act.put, List.setIfInBounds_toArray, List.set_cons_zero, List.set_cons_succ]
        refine anyL_take 3 (v := undef) rfl (by kernel_rfl) (fun _ _ _ h => h) (Or.inr ⟨by rfl, rfl⟩) hS0 ?_
        simp only [Act.put, List.setIfInBounds_toArray, List.set_cons_zero, List.set_cons_succ]
        refine anyL_take 4 (v := undef) rfl (by kernel_rfl) (fun _ _ _ h => h) (Or.inr ⟨by rfl, rfl⟩) hS0 ?_
        simp only [Act.put, List.setIfInBounds_toArray, List.set_cons_zero, List.set_cons_succ]
        refine anyL_take 5 (v := undef) rfl (by kernel_rfl) (fun _ _ _ h => h) (Or.inr ⟨by rfl, rfl⟩) hS0 ?_
        simp only [Act.put, List.setIfInBounds_toArray, List.set_cons_zero, List.set_cons_succ]
        refine anyL_take 6 (v := undef) rfl (by kernel_rfl) (fun _ _ _ h => h) (Or.inr ⟨by rfl, rfl⟩) hS0 ?_
        simp only [Act.put, List.setIfInBounds_toArray, List.set_cons_zero, List.set_cons_succ]
        refine anyL_take 7 (v := undef) rfl (by kernel_rfl) (fun _ _ _ h => h) (Or.inr ⟨by rfl, rfl⟩) hS0 ?_
        simp only [Act.put, List.setIfInBounds_toArray, List.set_cons_zero, List.set_cons_succ]
        refine anyL_take 8 (v := undef) rfl (by kernel_rfl) (fun _ _ _ h => h) (Or.inr ⟨by rfl, rfl⟩) hS0 ?_
        simp only [Act.put, List.setIfInBounds_toArray, List.set_cons_zero, List.set_cons_succ]
        refine anyL_take 9 (v := undef) rfl (by kernel_rfl) (fun _ _ _ h => h) (Or.inr ⟨by rfl, rfl⟩) hS0 ?_
        simp only [Act.put, List.setIfInBounds_toArray, List.set_cons_zero, List.set_cons_succ]
        refine anyL_take 10 (v := undef) rfl (by kernel_rfl) (fun _ _ _ h => h) (Or.inr ⟨by rfl, rfl⟩) hS0 ?_
        simp only [Act.put, List.setIfInBounds_toArray, List.set_cons_zero, List.set_cons_succ]
        refine anyL_take 11 (v := undef) rfl (by kernel_rfl) (fun _ _ _ h => h) (Or.inr ⟨by rfl, rfl⟩) hS0 ?_
        simp only [Act.put, List.setIfInBounds_toArray, List.set_cons_zero, List.set_cons_succ]
        refine anyL_take 12 (v := undef) rfl (by kernel_rfl) (fun _ _ _ h => h) (Or.inr ⟨by rfl, rfl⟩) hS0 ?_
        simp only [Act.put, List.setIfInBounds_toArray, List.set_cons_zero, List.set_cons_succ]
        refine anyL_take 13 (v := undef) rfl (by kernel_rfl) (fun _ _ _ h => h) (Or.inr ⟨by rfl, rfl⟩) hS0 ?_
        simp only [Act.put, List.setIfInBounds_toArray, List.set_cons_zero, List.set_cons_succ]
        refine anyL_take 14 (v := undef) rfl (by kernel_rfl) (fun _ _ _ h => h) (Or.inr ⟨by rfl, rfl⟩) hS0 ?_
        simp only [Act.put, List.setIfInBounds_toArray, List.set_cons_zero, List.set_cons_succ]
        refine anyL_take 15 (v := undef) rfl (by kernel_rfl) (fun _ _ _ h => h) (Or.inr ⟨by rfl, rfl⟩) hS0 ?_
        simp only [Act.put, List.setIfInBounds_toArray, List.set_cons_zero, List.set_cons_succ]
        refine anyL_take 16 (v := undef) rfl (by kernel_rfl) (fun _ _ _ h => h) (Or.inr ⟨by rfl, rfl⟩) hS0 ?_
        simp only [Act.put, List.setIfInBounds_toArray, List.set_cons_zero, List.set_cons_succ]
        refine anyL_take 17 (v := undef) rfl (by kernel_rfl) (fun _ _ _ h => h) (Or.inr ⟨by rfl, rfl⟩) hS0 ?_
        simp only [Act.put, List.setIfInBounds_toArray, List.set_cons_zero, List.set_cons_succ]
        refine anyL_take 18 (v := undef) rfl (by kernel_rfl) (fun _ _ _ h => h) (Or.inr ⟨by rfl, rfl⟩) hS0 ?_
        simp only [Act.put, List.setIfInBounds_toArray, List.set_cons_zero, List.set_cons_succ]
        refine anyL_take 19 (v := undef) rfl (by kernel_rfl) (fun _ _ _ h => h) (Or.inr ⟨by rfl, rfl⟩) hS0 ?_
        simp only [Act.put, List.setIfInBounds_toArray, List.set_cons_zero, List.set_cons_succ]
        refine anyL_take 20 (v := undef) rfl (by kernel_rfl) (fun _ _ _ h => h) (Or.inr ⟨by rfl, rfl⟩) hS0 ?_
        simp only [Act.put, List.setIfInBounds_toArray, List.set_cons_zero, List.set_cons_succ]
        refine anyL_take 21 (v := undef) rfl (by kernel_rfl) (fun _ _ _ h => h) (Or.inr ⟨by rfl, rfl⟩) hS0 ?_
        simp only [Act.put, List.setIfInBounds_toArray, List.set_cons_zero, List.set_cons_succ]
        refine anyL_take 22 (v := undef) rfl (by kernel_rfl) (fun _ _ _ h => h) (Or.inr ⟨by rfl, rfl⟩) hS0 ?_
        simp only [Act.put, List.setIfInBounds_toArray, List.set_cons_zero, List.set_cons_succ]
        refine anyL_take 23 (v := undef) rfl (by kernel_rfl) (fun _ _ _ h => h) (Or.inr ⟨by rfl, rfl⟩) hS0 ?_
        simp only [Act.put, List.setIfInBounds_toArray, List.set_cons_zero, List.set_cons_succ]
        refine anyL_take 24 (v := undef) rfl (by kernel_rfl) (fun _ _ _ h => h) (Or.inr ⟨by rfl, rfl⟩) hS0 ?_
        simp only [Act.put, List.setIfInBounds_toArray, List.set_cons_zero, List.set_cons_succ]
        refine anyL_take 25 (v := undef) rfl (by kernel_rfl) (fun _ _ _ h => h) (Or.inr ⟨by rfl, rfl⟩) hS0 ?_
        simp only [Act.put, List.setIfInBounds_toArray, List.set_cons_zero, List.set_cons_succ]
        refine anyL_take 26 (v := undef) rfl (by kernel_rfl) (fun _ _ _ h => h) (Or.inr ⟨by rfl, rfl⟩) hS0 ?_
        simp only [Act.put, List.setIfInBounds_toArray, List.set_cons_zero, List.set_cons_succ]
        refine anyL_take 27 (v := undef) rfl (by kernel_rfl) (fun _ _ _ h => h) (Or.inr ⟨by rfl, rfl⟩) hS0 ?_
        simp only [Act.put, List.setIfInBounds_toArray, List.set_cons_zero, List.set_cons_succ]
        refine anyL_take 28 (v := undef) rfl (by kernel_rfl) (fun _ _ _ h => h) (Or.inr ⟨by rfl, rfl⟩) hS0 ?_
        simp only [Act.put, List.setIfInBounds_toArray, List.set_cons_zero, List.set_cons_succ]
        refine anyL_take 29 (v := ?_) rfl (by kernel_rfl) (fun _ _ _ h => h) (Or.inl ⟨by rfl, ?_⟩) hS0 ?_
        rotate_left
        focus (intro W hW; go_simp; try with_reducible rfl)
        simp only [Act.put, List.setIfInBounds_toArray, List.set_cons_zero, List.set_cons_succ]
        refine anyC_done (by kernel_rfl) ?_ _
        clear x0 x1 x2 hwz
        go_wp2_with fail
        go_roundw
        case rel => exact ⟨k + 1, i + 1, hinx.out.1, Lib.hid hinx.out.2.1, rfl, hMd⟩
        case measure => simp only [Go.RowKit.intOf]; exact hinx.out.2.2
      | some pp =>
        have hrn1 := Lib.hid (fun W h => hrn.out W h bk)
        rw [hnw] at hg1 hrn1
        have hpl : pp < na := (nwK_is ads bk na pp hnw).1
        have hpl2 : pp < ads.length := by rw [hnaH.out]; exact hpl
        have hpI : (pp : Int) < (na : Int) := by omega
        have hpos : decide ((pp : Int) ≥ 0) = true := by simp
        have hfb : (true != true) = false := rfl
        clear hnw hbw
        rw [show Option.map (fun p => enOf (adAt ads p)) (some pp) = some (enOf ads[pp]) by rw [← adAt_eq hpl2]; rfl] at hg1
        have hcs := Lib.hid (fun W (h : adE.In W A ads) => adin_at h hpl2)
        dsimp only [Option.getD_some, Option.isSome_some, enOf] at hg1
        generalize ads[pp].z = yz at hg1 hcs
        generalize ads[pp].a = ya at hg1 hcs
        generalize ads[pp].e = ye at hg1 hcs
        generalize ads[pp].t = yt at hg1 hcs
        go_wp2_with fail
        (with_reducible refine hg1.out.mono ?_)
        rintro e w5 ⟨rfl, hb5⟩
        have hal := (Below.refl w5.heap.size w5).alloc (Nat.le_refl _) (.cells #[.int .i64 yz, .int .i64 ya, .int .i64 ye] 62)
        have hM5 := Lib.hid ((hM.out.below hb5).below hal)
        clear hg1 hM hb5 hal
        go_upto_region 12 with fail
        obtain ⟨X, hX⟩ : ∃ X, w5.heap.size = X := ⟨_, rfl⟩
        refine fresh_world (fun W => MoW w1 W base g m n x A ca ads ∧ W.cell? ⟨w5.heap.size, 0, none⟩ = some (.int .i64 yz) ∧ W.cell? ⟨w5.heap.size, 1, none⟩ = some (.int .i64 ya) ∧ W.cell? ⟨w5.heap.size, 2, none⟩ = some (.int .i64 ye)) ⟨hM5.out, by go_simp, by go_simp, by go_simp⟩ ?_
        rw [hX]
        clear hM5 hX
        rintro W6 ⟨hM6, x0, x1, x2⟩
        have h6 := Lib.hid (And.intro hM6 (And.intro x0 (And.intro x1 x2)))
        clear hM6 x0 x1 x2
        go_wp2_with fail
        (with_reducible refine (hrn1.out W6 h6.out.1).mono ?_)
        rintro e w7 ⟨rfl, hb7⟩
        have hM7 := Lib.hid (h6.out.1.below hb7)
        have x0 := (hb7.cell (lt_of_cell h6.out.2.1)).trans h6.out.2.1
        have x1 := (hb7.cell (lt_of_cell h6.out.2.1)).trans h6.out.2.2.1
        have x2 := (hb7.cell (lt_of_cell h6.out.2.1)).trans h6.out.2.2.2
        have hweq : ∀ W, (binOp .neq 62 (.agg #[.int .i64 yz, .int .i64 ya, .int .i64 ye]) (.agg #[.int .i64 yz, .int .i64 ya, .int .i64 ye])).run Try.prog W = .ok (.bool false) W := fun W => by
          have h1 := (where_eql W yz ya ye yz ya ye).2
          rw [eqW_self] at h1
          exact h1
        have hyt : (yt != yt) = false := by simp
        obtain ⟨eb, eo, rfl, hebl, e0, e1, e2, -, -, e5⟩ := hcs.out w7 hM7.out.ra.in_
        obtain ⟨Wd, hWd, hMd, d0, d1, d2, d5, f0, f1, f2⟩ : ∃ Wd, Wd = w7.drew ∧ Hid (MoW w1 Wd base g m n x (some ⟨eb, eo, none⟩) ca ads) ∧ Wd.cell? ⟨eb, eo + pp * 6, none⟩ = some (.int .i64 yz) ∧ Wd.cell? ⟨eb, eo + pp * 6 + 1, none⟩ = some (.int .i64 ya) ∧ Wd.cell? ⟨eb, eo + pp * 6 + 2, none⟩ = some (.int .i64 ye) ∧ Wd.cell? ⟨eb, eo + pp * 6 + 5, none⟩ = some (.bool yt) ∧ Wd.cell? ⟨X, 0, none⟩ = some (.int .i64 yz) ∧ Wd.cell? ⟨X, 1, none⟩ = some (.int .i64 ya) ∧ Wd.cell? ⟨X, 2, none⟩ = some (.int .i64 ye) := ⟨_, rfl, Lib.hid (hM7.out.below (Below.refl _ _).drew), e0, e1, e2, e5, x0, x1, x2⟩
        have hWdH := Lib.hid hWd
        clear hb7 h6 hrn1 hWd hM7 hcs e0 e1 e2 e5 x0 x1 x2
        unfold optI
        dsimp only
        go_upto_region 15 with fail
        have hS0 : (fun V => V = Wd) Wd := rfl
        refine region_anyC (fun _ => true) (fun V => V = Wd) (by kernel_rfl) ?_
        rw [← hWdH.out]
        refine anyL_take 0 (v := ?_) rfl (by kernel_rfl) (fun _ _ _ h => h) (Or.inl ⟨by rfl, ?_⟩) hS0 ?_
        rotate_left
        focus (intro W hW; go_simp; try with_reducible rfl)
        simp only [Act.put, List.setIfInBounds_toArray, List.set_cons_zero, List.set_cons_succ]
        refine anyL_take 1 (v := ?_) rfl (by kernel_rfl) (fun _ _ _ h => h) (Or.inl ⟨by rfl, ?_⟩) hS0 ?_
        rotate_left
        focus (intro W hW; go_simp; try with_reducible rfl)
        simp only [Act.put, List.setIfInBounds_toArray, List.set_cons_zero, List.set_cons_succ]
        refine anyL_take 2 (v := ?_) rfl (by kernel_rfl) (fun _ _ _ h => h) (Or.inl ⟨by rfl, ?_⟩) hS0 ?_
        rotate_left
        focus (intro W hW; obtain rfl := hW; go_simp; try with_reducible rfl)
        simp only [Act.put, List.setIfInBounds_toArray, List.set_cons_zero, List.set_cons_succ]
        refine anyL_take 3 (v := ?_) rfl (by kernel_rfl) (fun _ _ _ h => h) (Or.inl ⟨by rfl, ?_⟩) hS0 ?_
        rotate_left
        focus (intro W hW; go_simp; try with_reducible rfl)
        simp only [Act.put, List.setIfInBounds_toArray, List.set_cons_zero, List.set_cons_succ]
        refine anyL_take 4 (v := ?_) rfl (by kernel_rfl) (fun _ _ _ h => h) (Or.inl ⟨by rfl, ?_⟩) hS0 ?_
        rotate_left
        focus (intro W hW; go_simp; try with_reducible rfl)
        simp only [Act.put, List.setIfInBounds_toArray, List.set_cons_zero, List.set_cons_succ]
        refine anyL_take 5 (v := ?_) rfl (by kernel_rfl) (fun _ _ _ h => h) (Or.inl ⟨by rfl, ?_⟩) hS0 ?_
        rotate_left
        focus (intro W hW; go_simp; try with_reducible rfl)
        simp only [Act.put, List.setIfInBounds_toArray, List.set_cons_zero, List.set_cons_succ]
        refine anyL_take 6 (v := ?_) rfl (by kernel_rfl) (fun _ _ _ h => h) (Or.inl ⟨by rfl, ?_⟩) hS0 ?_
        rotate_left
        focus (intro W hW; go_simp; try with_reducible rfl)
        simp only [Act.put, List.setIfInBounds_toArray, List.set_cons_zero, List.set_cons_succ]
        refine anyL_take 7 (v := ?_) rfl (by kernel_rfl) (fun _ _ _ h => h) (Or.inl ⟨by rfl, ?_⟩) hS0 ?_
        rotate_left
        focus (intro W hW; obtain rfl := hW; go_simp; try with_reducible rfl)
        simp only [Act.put, List.setIfInBounds_toArray, List.set_cons_zero, List.set_cons_succ]
        refine anyL_take 8 (v := ?_) rfl (by kernel_rfl) (fun _ _ _ h => h) (Or.inl ⟨by rfl, ?_⟩) hS0 ?_
        rotate_left
        focus (intro W hW; go_simp; try with_reducible rfl)
        simp only [Act.put, List.setIfInBounds_toArray, List.set_cons_zero, List.set_cons_succ]
        refine anyL_take 9 (v := ?_) rfl (by kernel_rfl) (fun _ _ _ h => h) (Or.inl ⟨by rfl, ?_⟩) hS0 ?_
        rotate_left
        focus (intro W hW; go_simp; try with_reducible rfl)
        simp only [Act.put, List.setIfInBounds_toArray, List.set_cons_zero, List.set_cons_succ]
        refine anyL_take 10 (v := ?_) rfl (by kernel_rfl) (fun _ _ _ h => h) (Or.inl ⟨by rfl, ?_⟩) hS0 ?_
        rotate_left
        focus (intro W hW; go_simp; try with_reducible rfl)
        simp only [Act.put, List.setIfInBounds_toArray, List.set_cons_zero, List.set_cons_succ]
        refine anyL_take 11 (v := ?_) rfl (by kernel_rfl) (fun _ _ _ h => h) (Or.inl ⟨by rfl, ?_⟩) hS0 ?_
        rotate_left
        focus (intro W hW; go_simp; try with_reducible rfl)
        simp only [Act.put, List.setIfInBounds_toArray, List.set_cons_zero, List.set_cons_succ]
        refine anyL_take 12 (v := ?_) rfl (by kernel_rfl) (fun _ _ _ h => h) (Or.inl ⟨by rfl, ?_⟩) hS0 ?_
        rotate_left
        focus (intro W hW; obtain rfl := hW; go_simp; try with_reducible rfl)
        simp only [Act.put, List.setIfInBounds_toArray, List.set_cons_zero, List.set_cons_succ]
        refine anyL_take 13 (v := ?_) rfl (by kernel_rfl) (fun _ _ _ h => h) (Or.inl ⟨by rfl, ?_⟩) hS0 ?_
        rotate_left
        focus (intro W hW; go_simp; try with_reducible rfl)
        simp only [Act.put, List.setIfInBounds_toArray, List.set_cons_zero, List.set_cons_succ]
        refine anyL_take 14 (v := ?_) rfl (by kernel_rfl) (fun _ _ _ h => h) (Or.inl ⟨by rfl, ?_⟩) hS0 ?_
        rotate_left
        focus (intro W hW; go_simp; try with_reducible rfl)
        simp only [Act.put, List.setIfInBounds_toArray, List.set_cons_zero, List.set_cons_succ]
        refine anyL_take 15 (v := ?_) rfl (by kernel_rfl) (fun _ _ _ h => h) (Or.inl ⟨by rfl, ?_⟩) hS0 ?_
        rotate_left
        focus (intro W hW; go_simp; try with_reducible rfl)
        simp only [Act.put, List.setIfInBounds_toArray, List.set_cons_zero, List.set_cons_succ]
        refine anyL_take 16 (v := ?_) rfl (by kernel_rfl) (fun _ _ _ h => h) (Or.inl ⟨by rfl, ?_⟩) hS0 ?_
        rotate_left
        focus (intro W hW; go_simp; try with_reducible rfl)
        simp only [Act.put, List.setIfInBounds_toArray, List.set_cons_zero, List.set_cons_succ]
        refine anyL_take 17 (v := ?_) rfl (by kernel_rfl) (fun _ _ _ h => h) (Or.inl ⟨by rfl, ?_⟩) hS0 ?_
        rotate_left
        focus (intro W hW; obtain rfl := hW; go_simp; try with_reducible rfl)
        simp only [Act.put, List.setIfInBounds_toArray, List.set_cons_zero, List.set_cons_succ]
        refine anyL_take 18 (v := ?_) rfl (by kernel_rfl) (fun _ _ _ h => h) (Or.inl ⟨by rfl, ?_⟩) hS0 ?_
        rotate_left
        focus (intro W hW; go_simp; try with_reducible rfl)
        simp only [Act.put, List.setIfInBounds_toArray, List.set_cons_zero, List.set_cons_succ]
        refine anyL_take 19 (v := ?_) rfl (by kernel_rfl) (fun _ _ _ h => h) (Or.inl ⟨by rfl, ?_⟩) hS0 ?_
        rotate_left
        focus (intro W hW; have h19 := hweq W; go_simp; try with_reducible rfl)
        simp only [Act.put, List.setIfInBounds_toArray, List.set_cons_zero, List.set_cons_succ]
        refine anyL_take 20 (v := ?_) rfl (by kernel_rfl) (fun _ _ _ h => h) (Or.inl ⟨by rfl, ?_⟩) hS0 ?_
        rotate_left
        focus (intro W hW; go_simp; try with_reducible rfl)
        simp only [Act.put, List.setIfInBounds_toArray, List.set_cons_zero, List.set_cons_succ]
        refine anyL_take 21 (v := ?_) rfl (by kernel_rfl) (fun _ _ _ h => h) (Or.inl ⟨by rfl, ?_⟩) hS0 ?_
        rotate_left
        focus (intro W hW; go_simp; try with_reducible rfl)
        simp only [Act.put, List.setIfInBounds_toArray, List.set_cons_zero, List.set_cons_succ]
        refine anyL_take 22 (v := ?_) rfl (by kernel_rfl) (fun _ _ _ h => h) (Or.inl ⟨by rfl, ?_⟩) hS0 ?_
        rotate_left
        focus (intro W hW; go_simp; try with_reducible rfl)
        simp only [Act.put, List.setIfInBounds_toArray, List.set_cons_zero, List.set_cons_succ]
        refine anyL_take 23 (v := ?_) rfl (by kernel_rfl) (fun _ _ _ h => h) (Or.inl ⟨by rfl, ?_⟩) hS0 ?_
        rotate_left
        focus (intro W hW; go_simp; try with_reducible rfl)
        simp only [Act.put, List.setIfInBounds_toArray, List.set_cons_zero, List.set_cons_succ]
        refine anyL_take 24 (v := ?_) rfl (by kernel_rfl) (fun _ _ _ h => h) (Or.inl ⟨by rfl, ?_⟩) hS0 ?_
        rotate_left
        focus (intro W hW; go_simp; try with_reducible rfl)
        simp only [Act.put, List.setIfInBounds_toArray, List.set_cons_zero, List.set_cons_succ]
        refine anyL_take 25 (v := ?_) rfl (by kernel_rfl) (fun _ _ _ h => h) (Or.inl ⟨by rfl, ?_⟩) hS0 ?_
        rotate_left
        focus (intro W hW; go_simp; try with_reducible rfl)
        simp only [Act.put, List.setIfInBounds_toArray, List.set_cons_zero, List.set_cons_succ]
        refine anyL_take 26 (v := ?_) rfl (by kernel_rfl) (fun _ _ _ h => h) (Or.inl ⟨by rfl, ?_⟩) hS0 ?_
        rotate_left
        focus (intro W hW; obtain rfl := hW; go_simp; try with_reducible rfl)
        simp only [Act.put, List.setIfInBounds_toArray, List.set_cons_zero, List.set_cons_succ]
        refine anyL_take 27 (v := ?_) rfl (by kernel_rfl) (fun _ _ _ h => h) (Or.inl ⟨by rfl, ?_⟩) hS0 ?_
        rotate_left
        focus (intro W hW; go_simp; try with_reducible rfl)
        simp only [Act.put, List.setIfInBounds_toArray, List.set_cons_zero, List.set_cons_succ]
        refine anyL_take 28 (v := ?_) rfl (by kernel_rfl) (fun _ _ _ h => h) (Or.inl ⟨by rfl, ?_⟩) hS0 ?_
        rotate_left
        focus (intro W hW; go_simp; try with_reducible rfl)
        simp only [Act.put, List.setIfInBounds_toArray, List.set_cons_zero, List.set_cons_succ]
        refine anyL_take 29 (v := ?_) rfl (by kernel_rfl) (fun _ _ _ h => h) (Or.inl ⟨by rfl, ?_⟩) hS0 ?_
        rotate_left
        focus (intro W hW; go_simp; try with_reducible rfl)
        simp only [Act.put, List.setIfInBounds_toArray, List.set_cons_zero, List.set_cons_succ]
        refine anyC_done (by kernel_rfl) ?_ _
        clear d0 d1 d2 d5 f0 f1 f2 hweq
        go_wp2_with fail
        go_roundw
        case rel => exact ⟨k + 1, i + 1, hinx.out.1, Lib.hid hinx.out.2.1, rfl, hMd⟩
        case measure => simp only [Go.RowKit.intOf]; exact hinx.out.2.2
    case neg =>
      clear hi0 hi hget hrn hf hpw hadw
      have hlv := Lib.hid (live_any sorts wr g m n x zn hM.out.lm (by have := hnH.out; omega))
      go_wp2_with fail
      (with_reducible refine hlv.out.mono ?_)
      rintro e w5 ⟨L, AL, capL, hL, rfl, hL6, hrow, hb5⟩
      have hM5 := Lib.hid (hM.out.below hb5)
      have hLe : L = (lvK ads zn ads.length).map toLv := live_eq hads.out (hadf.out ▸ hL)
      obtain ⟨b5, hrow5⟩ : ∃ b5, Hid (lvE.Row w5 b5 71 AL capL ((lvK ads zn ads.length).map toLv)) := ⟨_, Lib.hid (hLe ▸ hrow)⟩
      have hLl : L.length = (lvK ads zn ads.length).length := by rw [hLe, List.length_map]
      rw [hLl]
      have hRl := lvK_len ads zn ads.length
      have hrl1 := Lib.hid (hrl.out w5 hM5.out zn)
      unfold RlPost at hrl1
      generalize lvK ads zn ads.length = R at hrow5 hRl hrl1
      obtain ⟨ln, hln⟩ : ∃ ln, R.length = ln := ⟨_, rfl⟩
      rw [hln] at hRl hrl1 ⊢
      have hlnH := Lib.hid hln
      have hl6 : ln ≤ 600 := by have := hnaH.out; omega
      clear hlv hM hL hLe hLl hrow hb5 hRl hln hL6 L
      go_wp2_with fail
      (with_reducible refine hrl1.out.mono ?_)
      rintro e w6 ⟨AR, capR, rfl, hrowR, hb6⟩
      obtain ⟨b6, hrow6⟩ : ∃ b6, Hid (adE.Row w6 b6 60 AR capR R) := ⟨_, Lib.hid hrowR⟩
      have hS6 : Hid (SrW w1 w6 base g m n x A ca ads b5 AL capL b6 AR capR R) := Lib.hid ⟨hM5.out.below hb6, hrow5.out.below hb6, hrow6.out⟩
      have hsq := Lib.hid (seq_any w6 g m n x hS6.out.o.lm)
      rw [hadq.out] at hsq
      have q1 : ((ln : Int) != (ln : Int)) = false := by simp
      have q2 : (q != q) = false := by simp
      clear hrl1 hM5 hrow5 hrow6 hrowR hb6
      go_wp2_with fail
      (with_reducible refine hsq.out.mono ?_)
      rintro e w7 ⟨rfl, rfl⟩
      clear hsq
      go_wp2_with fail
      go_loopw [20] (fun iv wr => ∃ i : Nat, i ≤ ln ∧ iv = .int .i64 (i : Int) ∧ Hid (SrW w1 wr base g m n x A ca ads b5 AL capL b6 AR capR R)) (fun iv _ => ln - (Go.RowKit.intOf iv).toNat)
      case atStart => exact ⟨0, Nat.zero_le _, rfl, hS6⟩
      case round =>
        clear hS6
        obtain ⟨i, hil, rfl, hS⟩ := hrel
        by_cases hlt2 : i < ln
        case pos =>
          have hiI : (i : Int) < (ln : Int) := by omega
          have hiw : IntKind.i64.wrap ((i : Int) + 1) = (i : Int) + 1 := IntWalk.i64_in _ (by omega)
          have hiR : i < R.length := by rw [hlnH.out]; exact hlt2
          obtain ⟨gl, rfl, hgl, l0, l1, l2, l3, l4⟩ := lvrow_at hS.out.l (i := i) (by rw [List.length_map]; exact hiR)
          obtain ⟨eb, eo, rfl, hebl, e0, e1, e2, -, e4, e5⟩ := adin_at hS.out.r.in_ hiR
          rw [List.getElem_map] at l0 l1 l2 l3 l4
          unfold toLv at l0 l1 l2 l3 l4
          dsimp only at l0 l1 l2 l3 l4
          generalize R[i].b = yb at l0 e4
          generalize R[i].t = yt at l1 e5
          generalize R[i].z = yz at l2 e0
          generalize R[i].a = ya at l3 e1
          generalize R[i].e = ye at l4 e2
          have hleq := fun W => lv_same W ⟨yb, yt, yz, ya, ye⟩
          dsimp only at hleq
          obtain ⟨Wd, hWd, hSd, d0, d1, d2, d3, d4, f0, f1, f2, f4, f5⟩ : ∃ Wd, Wd = wr.drew ∧ Hid (SrW w1 Wd base g m n x A ca ads b5 (some ⟨gl, 0, none⟩) capL b6 (some ⟨eb, eo, none⟩) capR R) ∧ Wd.cell? ⟨gl, i * 5, none⟩ = some (.int .i64 yb) ∧ Wd.cell? ⟨gl, i * 5 + 1, none⟩ = some (.bool yt) ∧ Wd.cell? ⟨gl, i * 5 + 2, none⟩ = some (.int .i64 yz) ∧ Wd.cell? ⟨gl, i * 5 + 3, none⟩ = some (.int .i64 ya) ∧ Wd.cell? ⟨gl, i * 5 + 4, none⟩ = some (.int .i64 ye)
              ∧ Wd.cell? ⟨eb, eo + i * 6, none⟩ = some (.int .i64 yz) ∧ Wd.cell? ⟨eb, eo + i * 6 + 1, none⟩ = some (.int .i64 ya) ∧ Wd.cell? ⟨eb, eo + i * 6 + 2, none⟩ = some (.int .i64 ye) ∧ Wd.cell? ⟨eb, eo + i * 6 + 4, none⟩ = some (.int .i64 yb) ∧ Wd.cell? ⟨eb, eo + i * 6 + 5, none⟩ = some (.bool yt) := ⟨_, rfl, Lib.hid (hS.out.below (Below.refl _ _).drew), l0, l1, l2, l3, l4, e0, e1, e2, e4, e5⟩
          have hWdH := Lib.hid hWd
          clear l0 l1 l2 l3 l4 e0 e1 e2 e4 e5 hS hWd
          go_upto_region 23 with fail
          have hS0 : (fun V => V = Wd) Wd := rfl
          refine region_anyC (fun _ => true) (fun V => V = Wd) (by kernel_rfl) ?_
          rw [← hWdH.out]
          refine anyL_take 0 (v := ?_) rfl (by kernel_rfl) (fun _ _ _ h => h) (Or.inl ⟨by rfl, ?_⟩) hS0 ?_
          rotate_left
          focus (intro W hW; go_simp; try with_reducible rfl)
          simp only [Act.put, List.setIfInBounds_toArray, List.set_cons_zero, List.set_cons_succ]
          refine anyL_take 1 (v := ?_) rfl (by kernel_rfl) (fun _ _ _ h => h) (Or.inl ⟨by rfl, ?_⟩) hS0 ?_
          rotate_left
          focus (intro W hW; go_simp; try with_reducible rfl)
          simp only [Act.put, List.setIfInBounds_toArray, List.set_cons_zero, List.set_cons_succ]
          refine anyL_take 2 (v := ?_) rfl (by kernel_rfl) (fun _ _ _ h => h) (Or.inl ⟨by rfl, ?_⟩) hS0 ?_
          rotate_left
          focus (intro W hW; go_simp; try with_reducible rfl)
          simp only [Act.put, List.setIfInBounds_toArray, List.set_cons_zero, List.set_cons_succ]
          refine anyL_take 3 (v := ?_) rfl (by kernel_rfl) (fun _ _ _ h => h) (Or.inl ⟨by rfl, ?_⟩) hS0 ?_
          rotate_left
          focus (intro W hW; obtain rfl := hW; go_simp; try with_reducible rfl)
          simp only [Act.put, List.setIfInBounds_toArray, List.set_cons_zero, List.set_cons_succ]
          refine anyL_take 4 (v := ?_) rfl (by kernel_rfl) (fun _ _ _ h => h) (Or.inl ⟨by rfl, ?_⟩) hS0 ?_
          rotate_left
          focus (intro W hW; go_simp; try with_reducible rfl)
          simp only [Act.put, List.setIfInBounds_toArray, List.set_cons_zero, List.set_cons_succ]
          refine anyL_take 5 (v := ?_) rfl (by kernel_rfl) (fun _ _ _ h => h) (Or.inl ⟨by rfl, ?_⟩) hS0 ?_
          rotate_left
          focus (intro W hW; go_simp; try with_reducible rfl)
          simp only [Act.put, List.setIfInBounds_toArray, List.set_cons_zero, List.set_cons_succ]
          refine anyL_take 6 (v := ?_) rfl (by kernel_rfl) (fun _ _ _ h => h) (Or.inl ⟨by rfl, ?_⟩) hS0 ?_
          rotate_left
          focus (intro W hW; go_simp; try with_reducible rfl)
          simp only [Act.put, List.setIfInBounds_toArray, List.set_cons_zero, List.set_cons_succ]
          refine anyL_take 7 (v := ?_) rfl (by kernel_rfl) (fun _ _ _ h => h) (Or.inl ⟨by rfl, ?_⟩) hS0 ?_
          rotate_left
          focus (intro W hW; go_simp; try with_reducible rfl)
          simp only [Act.put, List.setIfInBounds_toArray, List.set_cons_zero, List.set_cons_succ]
          refine anyL_take 8 (v := ?_) rfl (by kernel_rfl) (fun _ _ _ h => h) (Or.inl ⟨by rfl, ?_⟩) hS0 ?_
          rotate_left
          focus (intro W hW; obtain rfl := hW; go_simp; try with_reducible rfl)
          simp only [Act.put, List.setIfInBounds_toArray, List.set_cons_zero, List.set_cons_succ]
          refine anyL_take 9 (v := ?_) rfl (by kernel_rfl) (fun _ _ _ h => h) (Or.inl ⟨by rfl, ?_⟩) hS0 ?_
          rotate_left
          focus (intro W hW; go_simp; try with_reducible rfl)
          simp only [Act.put, List.setIfInBounds_toArray, List.set_cons_zero, List.set_cons_succ]
          refine anyL_take 10 (v := ?_) rfl (by kernel_rfl) (fun _ _ _ h => h) (Or.inl ⟨by rfl, ?_⟩) hS0 ?_
          rotate_left
          focus (intro W hW; go_simp; try with_reducible rfl)
          simp only [Act.put, List.setIfInBounds_toArray, List.set_cons_zero, List.set_cons_succ]
          refine anyL_take 11 (v := ?_) rfl (by kernel_rfl) (fun _ _ _ h => h) (Or.inl ⟨by rfl, ?_⟩) hS0 ?_
          rotate_left
          focus (intro W hW; go_simp; try with_reducible rfl)
          simp only [Act.put, List.setIfInBounds_toArray, List.set_cons_zero, List.set_cons_succ]
          refine anyL_take 12 (v := ?_) rfl (by kernel_rfl) (fun _ _ _ h => h) (Or.inl ⟨by rfl, ?_⟩) hS0 ?_
          rotate_left
          focus (intro W hW; go_simp; try with_reducible rfl)
          simp only [Act.put, List.setIfInBounds_toArray, List.set_cons_zero, List.set_cons_succ]
          refine anyL_take 13 (v := ?_) rfl (by kernel_rfl) (fun _ _ _ h => h) (Or.inl ⟨by rfl, ?_⟩) hS0 ?_
          rotate_left
          focus (intro W hW; obtain rfl := hW; go_simp; try with_reducible rfl)
          simp only [Act.put, List.setIfInBounds_toArray, List.set_cons_zero, List.set_cons_succ]
          refine anyL_take 14 (v := ?_) rfl (by kernel_rfl) (fun _ _ _ h => h) (Or.inl ⟨by rfl, ?_⟩) hS0 ?_
          rotate_left
          focus (intro W hW; go_simp; try with_reducible rfl)
          simp only [Act.put, List.setIfInBounds_toArray, List.set_cons_zero, List.set_cons_succ]
          refine anyL_take 15 (v := ?_) rfl (by kernel_rfl) (fun _ _ _ h => h) (Or.inl ⟨by rfl, ?_⟩) hS0 ?_
          rotate_left
          focus (intro W hW; go_simp; try with_reducible rfl)
          simp only [Act.put, List.setIfInBounds_toArray, List.set_cons_zero, List.set_cons_succ]
          refine anyL_take 16 (v := ?_) rfl (by kernel_rfl) (fun _ _ _ h => h) (Or.inl ⟨by rfl, ?_⟩) hS0 ?_
          rotate_left
          focus (intro W hW; go_simp; try with_reducible rfl)
          simp only [Act.put, List.setIfInBounds_toArray, List.set_cons_zero, List.set_cons_succ]
          refine anyL_take 17 (v := ?_) rfl (by kernel_rfl) (fun _ _ _ h => h) (Or.inl ⟨by rfl, ?_⟩) hS0 ?_
          rotate_left
          focus (intro W hW; go_simp; try with_reducible rfl)
          simp only [Act.put, List.setIfInBounds_toArray, List.set_cons_zero, List.set_cons_succ]
          refine anyL_take 18 (v := ?_) rfl (by kernel_rfl) (fun _ _ _ h => h) (Or.inl ⟨by rfl, ?_⟩) hS0 ?_
          rotate_left
          focus (intro W hW; obtain rfl := hW; go_simp; try with_reducible rfl)
          simp only [Act.put, List.setIfInBounds_toArray, List.set_cons_zero, List.set_cons_succ]
          refine anyL_take 19 (v := ?_) rfl (by kernel_rfl) (fun _ _ _ h => h) (Or.inl ⟨by rfl, ?_⟩) hS0 ?_
          rotate_left
          focus (intro W hW; go_simp; try with_reducible rfl)
          simp only [Act.put, List.setIfInBounds_toArray, List.set_cons_zero, List.set_cons_succ]
          refine anyL_take 20 (v := ?_) rfl (by kernel_rfl) (fun _ _ _ h => h) (Or.inl ⟨by rfl, ?_⟩) hS0 ?_
          rotate_left
          focus (intro W hW; go_simp; try with_reducible rfl)
          simp only [Act.put, List.setIfInBounds_toArray, List.set_cons_zero, List.set_cons_succ]
          refine anyL_take 21 (v := ?_) rfl (by kernel_rfl) (fun _ _ _ h => h) (Or.inl ⟨by rfl, ?_⟩) hS0 ?_
          rotate_left
          focus (intro W hW; go_simp; try with_reducible rfl)
          simp only [Act.put, List.setIfInBounds_toArray, List.set_cons_zero, List.set_cons_succ]
          refine anyL_take 22 (v := ?_) rfl (by kernel_rfl) (fun _ _ _ h => h) (Or.inl ⟨by rfl, ?_⟩) hS0 ?_
          rotate_left
          focus (intro W hW; go_simp; try with_reducible rfl)
          simp only [Act.put, List.setIfInBounds_toArray, List.set_cons_zero, List.set_cons_succ]
          refine anyL_take 23 (v := ?_) rfl (by kernel_rfl) (fun _ _ _ h => h) (Or.inl ⟨by rfl, ?_⟩) hS0 ?_
          rotate_left
          focus (intro W hW; obtain rfl := hW; go_simp; try with_reducible rfl)
          simp only [Act.put, List.setIfInBounds_toArray, List.set_cons_zero, List.set_cons_succ]
          refine anyL_take 24 (v := ?_) rfl (by kernel_rfl) (fun _ _ _ h => h) (Or.inl ⟨by rfl, ?_⟩) hS0 ?_
          rotate_left
          focus (intro W hW; go_simp; try with_reducible rfl)
          simp only [Act.put, List.setIfInBounds_toArray, List.set_cons_zero, List.set_cons_succ]
          refine anyL_take 25 (v := ?_) rfl (by kernel_rfl) (fun _ _ _ h => h) (Or.inl ⟨by rfl, ?_⟩) hS0 ?_
          rotate_left
          focus (intro W hW; go_simp; try with_reducible rfl)
          simp only [Act.put, List.setIfInBounds_toArray, List.set_cons_zero, List.set_cons_succ]
          refine anyL_take 26 (v := ?_) rfl (by kernel_rfl) (fun _ _ _ h => h) (Or.inl ⟨by rfl, ?_⟩) hS0 ?_
          rotate_left
          focus (intro W hW; go_simp; try with_reducible rfl)
          simp only [Act.put, List.setIfInBounds_toArray, List.set_cons_zero, List.set_cons_succ]
          refine anyL_take 27 (v := ?_) rfl (by kernel_rfl) (fun _ _ _ h => h) (Or.inl ⟨by rfl, ?_⟩) hS0 ?_
          rotate_left
          focus (intro W hW; go_simp; try with_reducible rfl)
          simp only [Act.put, List.setIfInBounds_toArray, List.set_cons_zero, List.set_cons_succ]
          refine anyL_take 28 (v := ?_) rfl (by kernel_rfl) (fun _ _ _ h => h) (Or.inl ⟨by rfl, ?_⟩) hS0 ?_
          rotate_left
          focus (intro W hW; obtain rfl := hW; go_simp; try with_reducible rfl)
          simp only [Act.put, List.setIfInBounds_toArray, List.set_cons_zero, List.set_cons_succ]
          refine anyL_take 29 (v := ?_) rfl (by kernel_rfl) (fun _ _ _ h => h) (Or.inl ⟨by rfl, ?_⟩) hS0 ?_
          rotate_left
          focus (intro W hW; go_simp; try with_reducible rfl)
          simp only [Act.put, List.setIfInBounds_toArray, List.set_cons_zero, List.set_cons_succ]
          refine anyL_take 30 (v := ?_) rfl (by kernel_rfl) (fun _ _ _ h => h) (Or.inl ⟨by rfl, ?_⟩) hS0 ?_
          rotate_left
          focus (intro W hW; go_simp; try with_reducible rfl)
          simp only [Act.put, List.setIfInBounds_toArray, List.set_cons_zero, List.set_cons_succ]
          refine anyL_take 31 (v := ?_) rfl (by kernel_rfl) (fun _ _ _ h => h) (Or.inl ⟨by rfl, ?_⟩) hS0 ?_
          rotate_left
          focus (intro W hW; have h31 := hleq W; go_simp; try with_reducible rfl)
          simp only [Act.put, List.setIfInBounds_toArray, List.set_cons_zero, List.set_cons_succ]
          refine anyC_done (by kernel_rfl) ?_ _
          clear d0 d1 d2 d3 d4 f0 f1 f2 f4 f5 hleq
          go_wp2_with fail
          go_roundw
          case rel => exact ⟨i + 1, hlt2, by go_num, hSd⟩
          case measure => simp only [Go.RowKit.intOf]; omega
        case neg =>
          have hiI : ¬ (i : Int) < (ln : Int) := by omega
          by_cases hz : 1 ≤ zs ∧ zs ≤ 64
          case neg =>
            have hct := Lib.hid (counts_bad wr g zs (by omega))
            have hB := Lib.hid (hB1H.out.trans (hS.out.o.bw.mono hB1H.out.size))
            clear hS hrl
            go_wp2_with fail
            (with_reducible refine hct.out.mono ?_)
            rintro e w8 ⟨rfl, hb8⟩
            have hB8 := Lib.hid (hB.out.trans (hb8.mono hB.out.size))
            clear hct hB hb8
            by_cases hz1 : zs < 1
            case pos =>
              have hz1I : decide (zs < 1) = true := decide_eq_true hz1
              go_wp2_with fail
              go_ret
              exact ⟨rfl, hB8.out⟩
            case neg =>
              have hz1I : decide (zs < 1) = false := decide_eq_false hz1
              have hz2I : decide (zs > 64) = true := decide_eq_true (by omega)
              go_wp2_with fail
              go_ret
              exact ⟨rfl, hB8.out⟩
          case pos =>
            obtain ⟨Z, rfl⟩ : ∃ Z : Nat, zs = (Z : Int) := ⟨zs.toNat, by omega⟩
            have hct := Lib.hid (show Calls Try.prog 34 #[.pointer (some ⟨g, 0, none⟩), .int .i64 (Z : Int)] wr (CountsPost wr x.f Z) from counts_any wr g m n x Z hS.out.o.lm (by omega) (by have := hnH.out; omega))
            have hz1I : decide ((Z : Int) < 1) = false := decide_eq_false (by omega)
            have hz2I : decide ((Z : Int) > 64) = false := decide_eq_false (by omega)
            have hz1N : decide (Z < 1) = false := decide_eq_false (by omega)
            have hz2N : decide (64 < Z) = false := decide_eq_false (by omega)
            have hZ64 : Z ≤ 64 := by omega
            go_wp2_with fail
            (with_reducible refine hct.out.mono ?_)
            rintro e w8 ⟨Rb, K, rfl, hK, hRl, _, hC, hb8⟩
            have hM8 := Lib.hid (hS.out.o.below hb8)
            have hC8 : Hid (∀ z, z < Z → w8.cell? ⟨Rb, z, none⟩ = some (.int .i64 ((lvK ads (z : Int) ads.length).length : Int))) := Lib.hid (fun z hz => by
              rw [(hC z hz).1, hadf.out, live_cnt ads (hadf.out ▸ hK)])
            have hRlH := Lib.hid hRl
            clear hct hS hK hC hb8 hRl
            go_wp2_with fail
            clear hz1I hz2I hz1N hz2N
            go_loopw [22] (fun zv wr => ∃ z : Nat, z ≤ Z ∧ zv = .int .i64 (z : Int) ∧ Hid (Below w8.heap.size w8 wr)) (fun zv _ => Z - (Go.RowKit.intOf zv).toNat)
            case atStart => exact ⟨0, Nat.zero_le _, rfl, Lib.hid (Below.refl _ _)⟩
            case round =>
              obtain ⟨z, hzZ, rfl, hB⟩ := hrel
              by_cases hlt3 : z < Z
              case neg =>
                have hzI : ¬ (z : Int) < (Z : Int) := by omega
                have qz : ((Z : Int) == (Z : Int)) = true := by simp
                have hM9 := hM8.out.below hB.out
                have hfin := Lib.hid (hB1H.out.trans (hM9.bw.mono hB1H.out.size))
                clear hM9 hB
                go_wp2_with fail
                go_ret
                exact ⟨rfl, hfin.out⟩
              case pos =>
                have hzI : (z : Int) < (Z : Int) := by omega
                have hzw : IntKind.i64.wrap ((z : Int) + 1) = (z : Int) + 1 := IntWalk.i64_in _ (by omega)
                have hge : decide ((z : Int) ≥ (Z : Int)) = false := decide_eq_false (by omega)
                have hgeN : decide (Z ≤ z) = false := decide_eq_false (by omega)
                have hc8 := Lib.hid (hC8.out z hlt3)
                obtain ⟨Wd, hWd, hBd⟩ : ∃ Wd, Wd = wr.drew ∧ Hid (Below w8.heap.size w8 Wd) := ⟨_, rfl, Lib.hid hB.out.drew⟩
                have hWdH := Lib.hid hWd
                have hrl := Lib.hid (hrl.out Wd (hM8.out.below hBd.out) (z : Int))
                unfold RlPost at hrl
                generalize (lvK ads (z : Int) ads.length).length = cz at hrl hc8
                have hcz : ((cz : Int) != (cz : Int)) = false := by simp
                clear hB hWd
                go_upto_region 31 with fail
                have hS0 : (fun V => Below w8.heap.size w8 V) Wd := hBd.out
                refine region_anyC (fun _ => true) (fun V => Below w8.heap.size w8 V) (by kernel_rfl) ?_
                rw [← hWdH.out]
                refine anyL_take 0 (v := ?_) rfl (by kernel_rfl) (fun _ _ _ h => h) (Or.inl ⟨by rfl, ?_⟩) hS0 ?_
                rotate_left
                focus (intro W hW; go_simp; try with_reducible rfl)
                simp only [Act.put, List.setIfInBounds_toArray, List.set_cons_zero, List.set_cons_succ]
                refine anyL_take 1 (v := ?_) rfl (by kernel_rfl) (fun _ _ _ h => h) (Or.inl ⟨by rfl, ?_⟩) hS0 ?_
                rotate_left
                focus (intro W hW; go_simp; try with_reducible rfl)
                simp only [Act.put, List.setIfInBounds_toArray, List.set_cons_zero, List.set_cons_succ]
                refine anyL_take 2 (v := ?_) rfl (by kernel_rfl) (fun _ _ _ h => h) (Or.inl ⟨by rfl, ?_⟩) hS0 ?_
                rotate_left
                focus (intro W hW; go_simp; try with_reducible rfl)
                simp only [Act.put, List.setIfInBounds_toArray, List.set_cons_zero, List.set_cons_succ]
                refine anyL_take 3 (v := ?_) rfl (by kernel_rfl) (fun _ _ _ h => h) (Or.inl ⟨by rfl, ?_⟩) hS0 ?_
                rotate_left
                focus (intro W hW; go_simp; try with_reducible rfl)
                simp only [Act.put, List.setIfInBounds_toArray, List.set_cons_zero, List.set_cons_succ]
                refine anyL_take 4 (v := ?_) rfl (by kernel_rfl) (fun _ _ _ h => h) (Or.inl ⟨by rfl, ?_⟩) hS0 ?_
                rotate_left
                focus (intro W hW; go_simp; try with_reducible rfl)
                simp only [Act.put, List.setIfInBounds_toArray, List.set_cons_zero, List.set_cons_succ]
                refine anyL_take 5 (v := ?_) rfl (by kernel_rfl) (fun _ _ _ h => h) (Or.inl ⟨by rfl, ?_⟩) hS0 ?_
                rotate_left
                focus (intro W hW; go_simp; try with_reducible rfl)
                simp only [Act.put, List.setIfInBounds_toArray, List.set_cons_zero, List.set_cons_succ]
                refine anyL_take 6 (v := ?_) rfl (by kernel_rfl) (fun _ _ _ h => h) (Or.inl ⟨by rfl, ?_⟩) hS0 ?_
                rotate_left
                focus (intro W hW; go_simp; try with_reducible rfl)
                simp only [Act.put, List.setIfInBounds_toArray, List.set_cons_zero, List.set_cons_succ]
                refine anyL_take 7 (v := ?_) rfl (by kernel_rfl) (fun _ _ _ h => h) (Or.inl ⟨by rfl, ?_⟩) hS0 ?_
                rotate_left
                focus (intro W hW; go_simp; try with_reducible rfl)
                simp only [Act.put, List.setIfInBounds_toArray, List.set_cons_zero, List.set_cons_succ]
                refine anyL_take 8 (v := ?_) rfl (by kernel_rfl) (fun _ _ _ h => h) (Or.inl ⟨by rfl, ?_⟩) hS0 ?_
                rotate_left
                focus (intro W hW; have d0 := (hW.cell (p := ⟨Rb, z, none⟩) hRlH.out).trans hc8.out; go_simp; try with_reducible rfl)
                simp only [Act.put, List.setIfInBounds_toArray, List.set_cons_zero, List.set_cons_succ]
                refine anyL_take 9 (v := ?_) rfl (by kernel_rfl) (fun _ _ _ h => h) (Or.inl ⟨by rfl, ?_⟩) hS0 ?_
                rotate_left
                focus (intro W hW; go_simp; try with_reducible rfl)
                simp only [Act.put, List.setIfInBounds_toArray, List.set_cons_zero, List.set_cons_succ]
                refine anyL_take 10 (v := ?_) rfl (by kernel_rfl) (fun _ _ _ h => h) (Or.inl ⟨by rfl, ?_⟩) hS0 ?_
                rotate_left
                focus (intro W hW; go_simp; try with_reducible rfl)
                simp only [Act.put, List.setIfInBounds_toArray, List.set_cons_zero, List.set_cons_succ]
                refine anyL_one 11 rfl (by kernel_rfl) (fun K hK => ?_)
                go_simp
                refine (hrl.out).mono ?_
                rintro e' w9 ⟨A9, c9, rfl, hrow9, hb9⟩
                have hB9 := Lib.hid (hBd.out.trans (hb9.mono hBd.out.size))
                clear hrow9 hb9
                dsimp only
                refine hK.out _ _ (fun _ => hB9.out) ?_
                clear hK K
                try simp only [Act.put, List.setIfInBounds_toArray, List.set_cons_zero, List.set_cons_succ]
                refine anyL_one 12 rfl (by kernel_rfl) (fun K hK => ?_)
                go_simp
                refine hK.out _ _ (fun _ => hB9.out) ?_
                clear hK K
                try simp only [Act.put, List.setIfInBounds_toArray, List.set_cons_zero, List.set_cons_succ]
                refine anyL_one 13 rfl (by kernel_rfl) (fun K hK => ?_)
                go_simp
                refine hK.out _ _ (fun _ => hB9.out) ?_
                clear hK K
                try simp only [Act.put, List.setIfInBounds_toArray, List.set_cons_zero, List.set_cons_succ]
                refine anyL_one 14 rfl (by kernel_rfl) (fun K hK => ?_)
                go_simp
                refine hK.out _ _ (fun _ => hB9.out) ?_
                clear hK K
                try simp only [Act.put, List.setIfInBounds_toArray, List.set_cons_zero, List.set_cons_succ]
                refine anyC_done (by kernel_rfl) ?_ _
                clear hrl hge hgeN hcz
                go_wp2_with fail
                go_roundw
                case rel => exact ⟨z + 1, hlt3, by go_num, hB9⟩
                case measure => simp only [Go.RowKit.intOf]; omega
end Go.Proofs.Ytbgkmppngnedlaa
