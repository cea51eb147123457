/- The document's Of of notes; same. -/
import Derived.Test.YtbgkmppngnedlabDoorNtO
import Derived.Test.YtbgkmppngnedlabDoorNtSp
import Derived.BigQuiet
namespace Go.Proofs.YtbgkmppngnedlabDoor
open Go.RowKit Rec Go.Maps Crc

theorem rn_eql2 (w : World) (x y : Nt) : (binOp .eql 51 (.agg #[.int .i64 x.r, .int .i64 x.c, .string x.p]) (.agg #[.int .i64 y.r, .int .i64 y.c, .string y.p])).run Tryd.prog w = .ok (.bool (eqN x y)) w ∧ (binOp .neq 51 (.agg #[.int .i64 x.r, .int .i64 x.c, .string x.p]) (.agg #[.int .i64 y.r, .int .i64 y.c, .string y.p])).run Tryd.prog w = .ok (.bool !(eqN x y)) w := by
  obtain ⟨f0, f1, f2, hl, h0, h1, h2⟩ := struct_threeN (P := Tryd.prog) (t := 51) (k0 := (3, 0, true)) (k1 := (3, 1, true)) (k2 := (9, 2, true)) (by kernel_rfl)
  refine eql_of (by kernel_rfl) (by kernel_rfl) ?_
  rw [hl,
    eqF_cons h0 (a := .int .i64 x.r) (b := .int .i64 y.r) (by kernel_rfl) (by kernel_rfl) (run_equalIn_int _ 9998 _ _ .i64 _ _ Tryd.underlying3),
    eqF_cons h1 (a := .int .i64 x.c) (b := .int .i64 y.c) (by kernel_rfl) (by kernel_rfl) (run_equalIn_int _ 9998 _ _ .i64 _ _ Tryd.underlying3),
    eqF_cons h2 (a := .string x.p) (b := .string y.p) (by kernel_rfl) (by kernel_rfl) (run_equalIn_string _ 9998 _ _ _ Tryd.underlying9), eqF_nil]
  unfold eqN
  cases h10 : (x.r == y.r) <;> cases h11 : (x.c == y.c) <;> (first | rfl | (cases h12 : (x.p.toList == y.p.toList) <;> rfl))
theorem rn_eql (w : World) (x : Nt) : (binOp .neq 51 (.agg #[.int .i64 x.r, .int .i64 x.c, .string x.p]) (.agg #[.int .i64 x.r, .int .i64 x.c, .string x.p])).run Tryd.prog w = .ok (.bool false) w := by
  have h := (rn_eql2 w x x).2
  rw [eqN_self] at h
  exact h
set_option maxRecDepth 100000 in
theorem same_any (w : World) (A : Option Addr) (c1 : Nat) (B : Option Addr) (c2 : Nat) (ns : List Nt) (h1 : ntE.In w A ns) (h2 : ntE.In w B ns) (hl : ns.length ≤ 1000000) :
    Calls Tryd.prog 9 #[.slice A ns.length c1, .slice B ns.length c2] w fun e w' => e = .returned (.bool true) ∧ Below w.heap.size w w' := by
  have h1H := Lib.hid (fun W (hb : Below w.heap.size w W) => h1.below hb)
  have h2H := Lib.hid (fun W (hb : Below w.heap.size w W) => h2.below hb)
  clear h1 h2
  go_enter Tryd.func9, Tryd.ntmps9
  go_wp2_with fail
  go_loopw [5] (fun i wr => ∃ (j : Nat), j ≤ ns.length ∧ i = .int .i64 (j : Int) ∧ Hid (Below w.heap.size w wr)) (fun i _ => ns.length - (intOf i).toNat)
  case atStart => exact ⟨0, Nat.zero_le _, rfl, Lib.hid (Below.refl _ _)⟩
  case round =>
    obtain ⟨j, hjn, rfl, hB⟩ := hrel
    by_cases hlo : j < ns.length
    case neg =>
      have hlo2 : ¬ (j : Int) < (ns.length : Int) := by omega
      clear h1H h2H
      go_wp2_with fail
      go_ret
      exact ⟨rfl, hB.out⟩
    case pos =>
      have hloI : (j : Int) < (ns.length : Int) := by omega
      have hkw : IntKind.i64.wrap ((j : Int) + 1) = (j : Int) + 1 := IntWalk.i64_in _ (by omega)
      obtain ⟨g5, o5, rfl, _, x0, x1, x2⟩ := nt_at (h1H.out _ hB.out) hlo
      obtain ⟨g7, o7, rfl, _, z0, z1, z2⟩ := nt_at (h2H.out _ hB.out) hlo
      generalize ns[j] = x at x0 x1 x2 z0 z1 z2
      have hne := fun W => rn_eql W x
      go_wp2_with fail
      go_quiet (fail)
      have hB8 := Lib.hid (below_drewN hB.out)
      clear hB hne x0 x1 x2 z0 z1 z2
      go_wp2_with fail
      first
        | exact ⟨⟨j + 1, by omega, by go_num, hB8.out _⟩, by simp only [intOf]; omega⟩
        | (go_roundw
           case rel => exact ⟨j + 1, by omega, by go_num, Lib.hid (hB8.out _)⟩
           case measure => simp only [intOf]; omega)
theorem infRn : Enc.Inf Tryd.prog 51 3 32 := by unfold Enc.Inf; kernel_rfl
def RefPost (w : World) (ns : List Nt) (e : Ending) (w' : World) : Prop := ∃ A cap, e = .returned (.slice A ns.length cap) ∧ ntE.Row w' w.heap.size 51 A cap ns ∧ Below w.heap.size w w'
theorem rn_new (W : World) (x : Rc) (t : TypeId) : ∀ j, j < ntE.k → (W.alloc (.cells #[.int .i64 x.b, .int .i64 x.d, .string x.body] t)).cell? ⟨W.heap.size, j, none⟩ = (ntE.c (ntF x))[j]? := fun j hj => by
  rw [World.cell?_alloc_new]
  have h3 : j < 3 := hj
  rcases (by omega : j = 0 ∨ j = 1 ∨ j = 2) with rfl | rfl | rfl <;> rfl
set_option maxRecDepth 100000 in
set_option maxHeartbeats 4000000 in
theorem refOf_any (w : World) (A : Option Addr) (cap : Nat) (l : List Rc) (zone gen : Int) (hI : RecsAt w A l) (hl : l.length ≤ 900000) :
    Calls Tryd.prog 8 #[.slice A l.length cap, .int .i64 zone, .int .i64 gen] w (RefPost w (notesOf l (zone, gen))) := by
  have hIH := Lib.hid (fun W (hb : Below w.heap.size w W) => hI.below hb)
  clear hI
  have hR0 : Hid (ntE.Row w w.heap.size 51 none 0 []) := Lib.hid (Enc.Row.nil _ _ _)
  have hB0 := Lib.hid (Below.refl w.heap.size w)
  obtain ⟨n, hn⟩ : ∃ n, l.length = n := ⟨_, rfl⟩
  rw [hn] at hl ⊢
  have hnH := Lib.hid hn
  clear hn
  go_enter Tryd.func8, Tryd.ntmps8
  go_wp2_with fail
  go_loopw [7, 8] (fun s i wr => ∃ (k nb : Nat) (B : Option Addr) (capB : Nat), k ≤ n ∧ i = .int .i64 (k : Int) ∧ s = .slice B nb capB ∧ Hid (nb = (notesOf (l.take k) (zone, gen)).length) ∧ Hid (ntE.Row wr w.heap.size 51 B capB (notesOf (l.take k) (zone, gen))) ∧ Hid (Below w.heap.size w wr)) (fun _ i _ => n - (intOf i).toNat)
  case atStart => exact ⟨0, 0, none, 0, Nat.zero_le _, rfl, rfl, Lib.hid rfl, hR0, hB0⟩
  case round =>
    clear hR0 hB0
    obtain ⟨k, nb, B, capB, hkn, rfl, rfl, hnb, hR, hB⟩ := hrel
    by_cases hlt : k < n
    case neg =>
      have hke : k = n := by omega
      have hnI : ¬ (k : Int) < (n : Int) := by omega
      have htake : l.take k = l := by rw [hke, ← hnH.out]; exact List.take_length
      rw [htake] at hR hnb
      clear htake hke
      go_wp2_with fail
      go_ret
      exact ⟨B, capB, by rw [hnb.out]; rfl, hR.out, hB.out⟩
    case pos =>
      have hkl : k < l.length := by rw [hnH.out]; exact hlt
      have hlI : (k : Int) < (n : Int) := by omega
      have hlen : Hid ((notesOf (l.take k) (zone, gen)).length ≤ 900000) := Lib.hid (by have := notesOf_len (l.take k) (zone, gen); rw [List.length_take] at this; omega)
      obtain ⟨g, off, rfl, hgl, x0, x1, x2, x3, x4, x5, x6⟩ := (hIH.out wr hB.out).at_ hkl
      have hkw : IntKind.i64.wrap ((k : Int) + 1) = (k : Int) + 1 := IntWalk.i64_in _ (by omega)
      have htk := Lib.hid (List.take_succ_eq_append_getElem hkl)
      generalize l[k] = x at x0 x1 x2 x3 x4 x5 x6 htk
      generalize l.take k = lk at hR htk hnb hlen
      obtain ⟨t, ht⟩ : ∃ t, isN (zone, gen) x = t := ⟨_, rfl⟩
      have htH := Lib.hid ht
      clear ht
      go_upto_region 5 with fail
      go_cut [38] from 9 to 57 (fun c wx => c = .bool t ∧ wx = wr)
      case first =>
        by_cases hk4 : x.k = 4
        case neg =>
          have hf : t = false := by rw [← htH.out]; exact decide_eq_false (fun h => hk4 h.1)
          have hb : (x.k == 4) = false := by simp [hk4]
          subst hf
          clear hk4
          go_wp2_with fail
          go_meet
          exact ⟨rfl, rfl⟩
        case pos =>
          have hb : (x.k == 4) = true := by simp [hk4]
          have hk4H := Lib.hid hk4
          clear hk4
          by_cases ha : x.a = zone
          case neg =>
            have hf : t = false := by rw [← htH.out]; exact decide_eq_false (fun h => ha h.2.1)
            have hb2 : (x.a == zone) = false := by simp [ha]
            subst hf
            clear ha
            go_wp2_with fail
            go_meet
            exact ⟨rfl, rfl⟩
          case pos =>
            have hb2 : (x.a == zone) = true := by simp [ha]
            have hf : t = (x.c == gen) := by
              rw [← htH.out, Bool.eq_iff_iff]
              simp [isN, hk4H.out, ha]
            clear ha
            have hfH := Lib.hid hf
            clear hf
            go_wp2_with fail
            go_meet
            exact ⟨by rw [hfH.out], rfl⟩
      case rest =>
        obtain ⟨rfl, rfl⟩ := hcut
        cases t with
        | false =>
          have hn2 := notesOf_no (l := lk) htH.out
          rw [← htk.out] at hn2
          have hR2 : Hid (ntE.Row wc w.heap.size 51 B capB (notesOf (l.take (k + 1)) (zone, gen))) := Lib.hid (by rw [hn2]; exact hR.out)
          have hnb2 : Hid (nb = (notesOf (l.take (k + 1)) (zone, gen)).length) := Lib.hid (by rw [hn2]; exact hnb.out)
          clear hn2 hR hnb x0 x1 x2 x3 x4 x5 x6
          go_wp2_with fail
          first
            | exact ⟨⟨k + 1, nb, B, capB, hlt, by go_num, rfl, hnb2, hR2, hB⟩, by simp only [intOf]; omega⟩
            | (go_roundw
               case rel => exact ⟨k + 1, nb, B, capB, hlt, by go_num, rfl, hnb2, hR2, hB⟩
               case measure => simp only [intOf]; omega)
        | true =>
          have hn2 := notesOf_yes (l := lk) htH.out
          rw [← htk.out] at hn2
          have hd0 := (Below.refl wc.heap.size wc).drew
          have hRd := hR.out.below hd0
          have hBd := bmore hB.out hd0
          have hS : (fun W => W.cell? ⟨g, off + k * 7 + 3, none⟩ = some (.int .i64 x.b) ∧ W.cell? ⟨g, off + k * 7 + 5, none⟩ = some (.int .i64 x.d) ∧ W.cell? ⟨g, off + k * 7 + 6, none⟩ = some (.string x.body)) wc.drew := ⟨x3, x5, x6⟩
          clear hd0 hR hB x0 x1 x2 x3 x4 x5 x6
          go_upto_region 6 with fail
          refine region_anyC (fun i => decide (i < 18)) (fun W => W.cell? ⟨g, off + k * 7 + 3, none⟩ = some (.int .i64 x.b) ∧ W.cell? ⟨g, off + k * 7 + 5, none⟩ = some (.int .i64 x.d) ∧ W.cell? ⟨g, off + k * 7 + 6, none⟩ = some (.string x.body)) (by kernel_rfl) ?_
          generalize wc.drew = wd at hS hRd hBd ⊢
          refine anyL_take 0 (v := ?_) rfl (by kernel_rfl) (fun _ _ _ h => h) (Or.inl ⟨by rfl, ?_⟩) hS ?_
          rotate_left
          focus (intro W hW; go_simp; try with_reducible rfl)
          simp only [Act.put, List.setIfInBounds_toArray, List.set_cons_zero, List.set_cons_succ]
          refine anyL_take 1 (v := ?_) rfl (by kernel_rfl) (fun _ _ _ h => h) (Or.inl ⟨by rfl, ?_⟩) hS ?_
          rotate_left
          focus (intro W hW; go_simp; try with_reducible rfl)
          simp only [Act.put, List.setIfInBounds_toArray, List.set_cons_zero, List.set_cons_succ]
          refine anyL_take 2 (v := ?_) rfl (by kernel_rfl) (fun _ _ _ h => h) (Or.inl ⟨by rfl, ?_⟩) hS ?_
          rotate_left
          focus (intro W hW; go_simp; try with_reducible rfl)
          simp only [Act.put, List.setIfInBounds_toArray, List.set_cons_zero, List.set_cons_succ]
          refine anyL_take 3 (v := ?_) rfl (by kernel_rfl) (fun _ _ _ h => h) (Or.inl ⟨by rfl, ?_⟩) hS ?_
          rotate_left
          focus (intro W hW; go_simp; try with_reducible rfl)
          simp only [Act.put, List.setIfInBounds_toArray, List.set_cons_zero, List.set_cons_succ]
          refine anyL_take 4 (v := ?_) rfl (by kernel_rfl) (fun _ _ _ h => h) (Or.inl ⟨by rfl, ?_⟩) hS ?_
          rotate_left
          focus (intro W hW; go_simp; try with_reducible rfl)
          simp only [Act.put, List.setIfInBounds_toArray, List.set_cons_zero, List.set_cons_succ]
          refine anyL_take 5 (v := ?_) rfl (by kernel_rfl) (fun _ _ _ h => h) (Or.inl ⟨by rfl, ?_⟩) hS ?_
          rotate_left
          focus (intro W hW; obtain ⟨x3, x5, x6⟩ := hW; go_simp; try with_reducible rfl)
          simp only [Act.put, List.setIfInBounds_toArray, List.set_cons_zero, List.set_cons_succ]
          refine anyL_take 6 (v := ?_) rfl (by kernel_rfl) (fun _ _ _ h => h) (Or.inl ⟨by rfl, ?_⟩) hS ?_
          rotate_left
          focus (intro W hW; go_simp; try with_reducible rfl)
          simp only [Act.put, List.setIfInBounds_toArray, List.set_cons_zero, List.set_cons_succ]
          refine anyL_take 7 (v := ?_) rfl (by kernel_rfl) (fun _ _ _ h => h) (Or.inl ⟨by rfl, ?_⟩) hS ?_
          rotate_left
          focus (intro W hW; go_simp; try with_reducible rfl)
          simp only [Act.put, List.setIfInBounds_toArray, List.set_cons_zero, List.set_cons_succ]
          refine anyL_take 8 (v := ?_) rfl (by kernel_rfl) (fun _ _ _ h => h) (Or.inl ⟨by rfl, ?_⟩) hS ?_
          rotate_left
          focus (intro W hW; go_simp; try with_reducible rfl)
          simp only [Act.put, List.setIfInBounds_toArray, List.set_cons_zero, List.set_cons_succ]
          refine anyL_take 9 (v := ?_) rfl (by kernel_rfl) (fun _ _ _ h => h) (Or.inl ⟨by rfl, ?_⟩) hS ?_
          rotate_left
          focus (intro W hW; go_simp; try with_reducible rfl)
          simp only [Act.put, List.setIfInBounds_toArray, List.set_cons_zero, List.set_cons_succ]
          refine anyL_take 10 (v := ?_) rfl (by kernel_rfl) (fun _ _ _ h => h) (Or.inl ⟨by rfl, ?_⟩) hS ?_
          rotate_left
          focus (intro W hW; obtain ⟨x3, x5, x6⟩ := hW; go_simp; try with_reducible rfl)
          simp only [Act.put, List.setIfInBounds_toArray, List.set_cons_zero, List.set_cons_succ]
          refine anyL_take 11 (v := ?_) rfl (by kernel_rfl) (fun _ _ _ h => h) (Or.inl ⟨by rfl, ?_⟩) hS ?_
          rotate_left
          focus (intro W hW; go_simp; try with_reducible rfl)
          simp only [Act.put, List.setIfInBounds_toArray, List.set_cons_zero, List.set_cons_succ]
          refine anyL_take 12 (v := ?_) rfl (by kernel_rfl) (fun _ _ _ h => h) (Or.inl ⟨by rfl, ?_⟩) hS ?_
          rotate_left
          focus (intro W hW; go_simp; try with_reducible rfl)
          simp only [Act.put, List.setIfInBounds_toArray, List.set_cons_zero, List.set_cons_succ]
          refine anyL_take 13 (v := ?_) rfl (by kernel_rfl) (fun _ _ _ h => h) (Or.inl ⟨by rfl, ?_⟩) hS ?_
          rotate_left
          focus (intro W hW; go_simp; try with_reducible rfl)
          simp only [Act.put, List.setIfInBounds_toArray, List.set_cons_zero, List.set_cons_succ]
          refine anyL_take 14 (v := ?_) rfl (by kernel_rfl) (fun _ _ _ h => h) (Or.inl ⟨by rfl, ?_⟩) hS ?_
          rotate_left
          focus (intro W hW; go_simp; try with_reducible rfl)
          simp only [Act.put, List.setIfInBounds_toArray, List.set_cons_zero, List.set_cons_succ]
          refine anyL_take 15 (v := ?_) rfl (by kernel_rfl) (fun _ _ _ h => h) (Or.inl ⟨by rfl, ?_⟩) hS ?_
          rotate_left
          focus (intro W hW; obtain ⟨x3, x5, x6⟩ := hW; go_simp; try with_reducible rfl)
          simp only [Act.put, List.setIfInBounds_toArray, List.set_cons_zero, List.set_cons_succ]
          refine anyL_take 16 (v := ?_) rfl (by kernel_rfl) (fun _ _ _ h => h) (Or.inl ⟨by rfl, ?_⟩) hS ?_
          rotate_left
          focus (intro W hW; go_simp; try with_reducible rfl)
          simp only [Act.put, List.setIfInBounds_toArray, List.set_cons_zero, List.set_cons_succ]
          have hal := (Below.refl wd.heap.size wd).alloc (Nat.le_refl _) (.cells #[.int .i64 x.b, .int .i64 x.d, .string x.body] 51)
          have hS7 : (fun W => W.cell? ⟨g, off + k * 7 + 3, none⟩ = some (.int .i64 x.b) ∧ W.cell? ⟨g, off + k * 7 + 5, none⟩ = some (.int .i64 x.d) ∧ W.cell? ⟨g, off + k * 7 + 6, none⟩ = some (.string x.body)) (wd.alloc (.cells #[.int .i64 x.b, .int .i64 x.d, .string x.body] 51)) := ⟨(hal.cell (lt_of_cell hS.1)).trans hS.1, (hal.cell (lt_of_cell hS.2.1)).trans hS.2.1, (hal.cell (lt_of_cell hS.2.2)).trans hS.2.2⟩
          have hR3 := hRd.below hal
          have hB3 := bmore hBd hal
          obtain ⟨A3, cap3, W6, hrun6, hR6, hG6, _⟩ := hR3.append (P := Tryd.prog) Tryd.underlying33 infRn (by decide) (by decide) (m := wd.heap.size) (x := ntF x) (rn_new wd x 51) (by have := hlen.out; omega) hB3.size 33
          rw [← hnb.out] at hrun6
          have hB6 := Lib.hid (hB3.trans (hR3.grown hG6 hB3.size))
          have hnb6 : Hid (nb + 1 = (notesOf (l.take (k + 1)) (zone, gen)).length) := Lib.hid (by rw [hn2, List.length_append, hnb.out]; rfl)
          rw [← hn2] at hR6
          have hR6H := Lib.hid hR6
          have hrun6H := Lib.hid hrun6
          clear hrun6 hR6 hG6 hR3 hB3 hal hn2 hnb hRd hBd
          refine anyL_one 17 rfl (by kernel_rfl) (fun K hK => ?_)
          go_simp
          refine hK.out _ _ (fun _ => hS7) ?_
          clear hK K
          try simp only [Act.put, List.setIfInBounds_toArray, List.set_cons_zero, List.set_cons_succ]
          refine anyL_one 18 rfl (by kernel_rfl) (fun K hK => ?_)
          refine append_run_step rfl (.tmp 39) (.tmp 56) 33 rfl rfl rfl hrun6H.out ?_
          refine hK.out _ _ (fun h => absurd h (by decide)) ?_
          clear hK K hrun6H hS hS7
          try simp only [Act.put, List.setIfInBounds_toArray, List.set_cons_zero, List.set_cons_succ]
          refine anyL_one 19 rfl (by kernel_rfl) (fun K hK => ?_)
          go_simp
          refine hK.out _ _ (fun h => absurd h (by decide)) ?_
          clear hK K
          try simp only [Act.put, List.setIfInBounds_toArray, List.set_cons_zero, List.set_cons_succ]
          refine anyC_done (by kernel_rfl) ?_ _
          go_wp2_with fail
          first
            | exact ⟨⟨k + 1, nb + 1, A3, cap3, hlt, by go_num, rfl, hnb6, hR6H, hB6⟩, by simp only [intOf]; omega⟩
            | (go_roundw
               case rel => exact ⟨k + 1, nb + 1, A3, cap3, hlt, by go_num, rfl, hnb6, hR6H, hB6⟩
               case measure => simp only [intOf]; omega)
end Go.Proofs.YtbgkmppngnedlabDoor
