/- What Flush and Lose of a drive's do. -/
import Derived.Test.YtpmhfalhieinjaaGreatDoorMDw
import Derived.Test.YtpmhfalhieinjaaGreatDoorMBase
import Derived.Test.YtpmhfalhieinjaaGreatDoorMZn
namespace Go.Proofs.YtpmhfalhieinjaaGreatDoor
open Go.RowKit Zon Drv
set_option maxRecDepth 100000 in
set_option maxHeartbeats 1000000 in
theorem settle_any (w : World) (d : Nat) (B : Blk) (D : Dr) (i : Nat) (h : Lies w d B D) (hi : i < D.cs.length) (hll : D.ls.length = D.cs.length) (hn : (D.c i).length ≤ 262144) :
    Calls Tryz.prog 98 #[.pointer (some ⟨d, 0, none⟩), .int .i64 (i : Int)] w fun e w' => e = .returned (.tuple #[]) ∧ Lies w' d B (Drv.settle D i) ∧ Turn w w' (fun b => b = B.l) := by
  have hwr := Lib.hid (fun W (h : Lies W d B D) => written_any W d B D i h hi hn)
  have hput := fun W (h : Lies W d B D) => h.put_l (i := i) (by omega) ((D.c i).length / 64)
  rw [show (((D.c i).length / 64 : Nat) : Int) = ((D.c i).length : Int) / 64 by omega] at hput
  have hputH := Lib.hid hput
  clear hput
  have hf := Lib.hid (fun W (h : Lies W d B D) => (⟨h.c2, (h.lrow i (by omega)).1, (h.lrow i (by omega)).2⟩ : W.cell? ⟨d, 2, none⟩ = some (.slice (some ⟨B.l, 0, none⟩) D.ls.length D.ls.length) ∧ W.cell? ⟨B.l, i, none⟩ = some (.int .i64 (D.l i : Int)) ∧ W.frozen? ⟨B.l, i, none⟩ = false))
  have hS0 := Lib.hid h
  have hi2 : i < D.ls.length := by omega
  clear h
  go_enter Tryz.func98, Tryz.ntmps98
  refine region_anyC (fun i => i != 9) (fun W => Lies W d B D ∧ Below w.heap.size w W) (by kernel_rfl) ?_
  have hS : Lies w.drew d B D ∧ Below w.heap.size w w.drew := ⟨hS0.out.below (Below.refl _ _).drew, (Below.refl _ _).drew⟩
  refine anyL_take 0 (v := ?_) rfl (by kernel_rfl) (fun _ _ _ h => h) (Or.inl ⟨by rfl, ?_⟩) hS ?_
  rotate_left
  focus (intro W hW; go_simp; try with_reducible rfl)
  simp only [Act.put, List.setIfInBounds_toArray, List.set_cons_zero, List.set_cons_succ]
  refine anyL_take 1 (v := ?_) rfl (by kernel_rfl) (fun _ _ _ h => h) (Or.inl ⟨by rfl, ?_⟩) hS ?_
  rotate_left
  focus (intro W hW; go_simp; try with_reducible rfl)
  simp only [Act.put, List.setIfInBounds_toArray, List.set_cons_zero, List.set_cons_succ]
  refine anyL_take 2 (v := ?_) rfl (by kernel_rfl) (fun _ _ _ h => h) (Or.inl ⟨by rfl, ?_⟩) hS ?_
  rotate_left
  focus (intro W hW; go_simp; try with_reducible rfl)
  simp only [Act.put, List.setIfInBounds_toArray, List.set_cons_zero, List.set_cons_succ]
  refine anyL_take 3 (v := ?_) rfl (by kernel_rfl) (fun _ _ _ h => h) (Or.inl ⟨by rfl, ?_⟩) hS ?_
  rotate_left
  focus (intro W hW; obtain ⟨f0, f1, f2⟩ := hf.out W hW.1; go_simp; try with_reducible rfl)
  simp only [Act.put, List.setIfInBounds_toArray, List.set_cons_zero, List.set_cons_succ]
  refine anyL_take 4 (v := ?_) rfl (by kernel_rfl) (fun _ _ _ h => h) (Or.inl ⟨by rfl, ?_⟩) hS ?_
  rotate_left
  focus (intro W hW; go_simp; try with_reducible rfl)
  simp only [Act.put, List.setIfInBounds_toArray, List.set_cons_zero, List.set_cons_succ]
  refine anyL_take 5 (v := ?_) rfl (by kernel_rfl) (fun _ _ _ h => h) (Or.inl ⟨by rfl, ?_⟩) hS ?_
  rotate_left
  focus (intro W hW; go_simp; try with_reducible rfl)
  simp only [Act.put, List.setIfInBounds_toArray, List.set_cons_zero, List.set_cons_succ]
  refine anyL_take 6 (v := ?_) rfl (by kernel_rfl) (fun _ _ _ h => h) (Or.inl ⟨by rfl, ?_⟩) hS ?_
  rotate_left
  focus (intro W hW; go_simp; try with_reducible rfl)
  simp only [Act.put, List.setIfInBounds_toArray, List.set_cons_zero, List.set_cons_succ]
  refine anyL_one 7 rfl (by kernel_rfl) (fun K hK => ?_)
  go_simp
  refine (hwr.out _ hS.1).mono ?_
  rintro e' w6 ⟨rfl, rfl⟩
  dsimp only
  refine hK.out _ _ (fun _ => hS) ?_
  clear hK K
  try simp only [Act.put, List.setIfInBounds_toArray, List.set_cons_zero, List.set_cons_succ]
  refine anyL_take 8 (v := ?_) rfl (by kernel_rfl) (fun _ _ _ h => h) (Or.inl ⟨by rfl, ?_⟩) hS ?_
  rotate_left
  focus (intro W hW; go_simp; try with_reducible rfl)
  simp only [Act.put, List.setIfInBounds_toArray, List.set_cons_zero, List.set_cons_succ]
  refine anyL_one 9 rfl (by kernel_rfl) (fun K hK => ?_)
  obtain ⟨f0, f1, f2⟩ := hf.out _ hS.1
  go_simp
  refine hK.out _ _ (fun h => absurd h (by decide)) ?_
  clear hK K
  try simp only [Act.put, List.setIfInBounds_toArray, List.set_cons_zero, List.set_cons_succ]
  refine anyC_done (by kernel_rfl) ?_ _
  go_wp2
  go_end0
  exact ⟨rfl, hputH.out w.drew hS.1, (Turn.of_below hS.2 (fun b => b = B.l)).trans (Turn.set w.drew (F := fun b => b = B.l) rfl i _)⟩
theorem settled_n (D : Dr) (k i : Nat) : (settleTo D k).c i = D.c i := by unfold Dr.c; rw [(settleTo_m D k).2.1]
set_option maxHeartbeats 1000000 in
theorem settleAll_any (w : World) (d : Nat) (B : Blk) (D : Dr) (h : Lies w d B D) (hll : D.ls.length = D.cs.length) (hn : ∀ i, (D.c i).length ≤ 262144) (hs : D.cs.length ≤ 64) :
    Calls Tryz.prog 72 #[.pointer (some ⟨d, 0, none⟩)] w fun e w' => e = .returned (.tuple #[]) ∧ Lies w' d B (settleTo D D.cs.length) ∧ Turn w w' (fun b => b = B.l) := by
  have hse := Lib.hid (fun W k (hk : k < D.cs.length) (h : Lies W d B (settleTo D k)) => settle_any W d B (settleTo D k) k h (by rw [(settleTo_m D k).2.1]; exact hk) (by rw [(settleTo_m D k).2.2.2, (settleTo_m D k).2.1]; exact hll) (by rw [settled_n]; exact hn k))
  have c1 := h.c1
  have hH := Lib.hid h
  clear h hn hll
  go_enter Tryz.func72, Tryz.ntmps72
  go_wp2
  go_loopw [8] (fun i wr => ∃ k : Nat, k ≤ D.cs.length ∧ i = .int .i64 (k : Int) ∧ Lies wr d B (settleTo D k) ∧ Turn w wr (fun b => b = B.l)) (fun i _ => D.cs.length - (intOf i).toNat)
  case atStart => exact ⟨0, by omega, rfl, hH.out, Turn.refl _ _⟩
  case round =>
    obtain ⟨k, hk, rfl, hM, ho⟩ := hrel
    by_cases hlt : k < D.cs.length
    · have hh := Lib.hid (hse.out wr k hlt hM)
      clear hM
      go_wp2_with fail
      refine hh.out.mono ?_
      rintro e w1 ⟨rfl, hM1, ho1⟩
      go_wp2_with fail
      go_roundw
      · exact ⟨k + 1, by omega, by simp, hM1, ho.trans ho1⟩
      · show D.cs.length - (intOf (Value.int .i64 _)).toNat < D.cs.length - (intOf (Value.int .i64 _)).toNat
        simp only [intOf]
        omega
    · have e : k = D.cs.length := by omega
      subst e
      clear hk
      go_wp2_with fail
      go_end0
      exact ⟨rfl, hM, ho⟩
theorem Turn.one {w w' : World} {x : Nat} (h : Turn w w' (fun b => b = x)) {F : Nat → Prop} (hF : F x) : Turn w w' F := h.mono fun i _ hi => by rw [hi]; exact hF
theorem flushD_ls (D : Dr) : (flushD D).cs = D.cs ∧ (flushD D).m = D.m := by
  unfold flushD
  split
  · exact ⟨rfl, rfl⟩
  · exact ⟨(settleTo_m D _).2.1, (settleTo_m D _).1⟩
theorem dflush_any (w : World) (F : Nat → Prop) (d : Nat) (D : Dr) (h : DAt w F d D) (hll : D.ls.length = D.cs.length) (hn : ∀ i, (D.c i).length ≤ 262144) (hs : D.cs.length ≤ 64) :
    Calls Tryz.prog 40 #[.pointer (some ⟨d, 0, none⟩)] w fun e w' => e = .returned (.int .i64 (if D.dead = true then 7 else 0)) ∧ DAt w' F d (flushD D) ∧ Turn w w' F := by
  obtain ⟨B, h, hF⟩ := h
  have c3 := h.c3
  unfold flushD
  cases hd : D.dead with
  | true =>
    rw [hd] at c3
    have hH := Lib.hid h
    clear h
    go_enter Tryz.func40, Tryz.ntmps40
    go_wp2
    go_ret
    exact ⟨rfl, ⟨B, hH.out, hF⟩, Turn.refl _ _⟩
  | false =>
    rw [hd] at c3
    have hsa := Lib.hid (settleAll_any w d B D h hll hn hs)
    clear h hn
    go_enter Tryz.func40, Tryz.ntmps40
    go_wp2_with (go_at_call 72; refine hsa.out.mono ?_; rintro e w1 ⟨rfl, hM1, ho1⟩)
    go_ret
    refine ⟨rfl, ⟨B, hM1, ?_⟩, ho1.one hF.l⟩
    show Lies.In F d B (settleTo D D.cs.length).cs.length
    rw [(settleTo_m D _).2.1]
    exact hF
theorem dflush_nil (w : World) :
    Calls Tryz.prog 40 #[.pointer none] w fun e w' => e = .returned (.int .i64 1) ∧ w = w' := by
  go_enter Tryz.func40, Tryz.ntmps40
  go_wp2
  go_ret
  exact ⟨rfl, rfl⟩
end Go.Proofs.YtpmhfalhieinjaaGreatDoor
namespace Go.Proofs.YtpmhfalhieinjaaGreatDoor
open Go.RowKit Zon Drv
theorem kept_any (ks : List Int) (A : Option Addr) (cap z n : Nat) (w : World) (hI : IntsIn w A ks) (hb : ∀ x ∈ ks, -9223372036854775808 ≤ x ∧ x ≤ 9223372036854775807) (hl : ks.length ≤ maxLen) (hz : z ≤ 64) (hn : n ≤ 4096) :
    Calls Tryz.prog 117 #[.slice A ks.length cap, .int .i64 (z : Int), .int .i64 (n : Int)] w fun e w' => e = .returned (.int .i64 (kept ks z n : Int)) ∧ w = w' := by
  unfold maxLen at hl
  by_cases h0 : ks = []
  · subst h0
    have e : kept [] z n = 0 := if_pos rfl
    rw [e]
    clear e hI hb
    go_enter Tryz.func117, Tryz.ntmps117
    go_wp2
    go_ret
    exact ⟨rfl, rfl⟩
  · have hpos : 0 < ks.length := by
      cases ks with
      | nil => exact absurd rfl h0
      | cons _ _ => simp
    have hlt : z % ks.length < ks.length := Nat.mod_lt _ hpos
    obtain ⟨b, off, rfl, hlb, hc⟩ := hI.at_ hlt
    have hbx := hb _ (List.getElem_mem hlt)
    have e : (kept ks z n : Int) = (if ks[z % ks.length] < 0 then -(ks[z % ks.length] + 1) else ks[z % ks.length]) % ((n : Int) + 1) := by
      unfold kept
      rw [if_neg h0]
      have eg : ks.getD (z % ks.length) 0 = ks[z % ks.length] := by rw [List.getD_eq_getElem?_getD, List.getElem?_eq_getElem hlt]; rfl
      rw [eg]
      refine Int.toNat_of_nonneg (Int.emod_nonneg _ (by omega))
    rw [e]
    clear e hb hI
    generalize ks[z % ks.length] = x at hc hbx ⊢
    have hz1 : ((z : Int) % (ks.length : Int)) = ((z % ks.length : Nat) : Int) := by omega
    have hz2 : Int.tmod (z : Int) (ks.length : Int) = ((z % ks.length : Nat) : Int) := by
      rw [Int.tmod_eq_emod_of_nonneg (by omega), hz1]
    generalize z % ks.length = p at hc hlt hz1 hz2
    clear h0
    generalize ks.length = q at hl hpos hlt hz1 hz2 ⊢
    by_cases hx : x < 0
    · rw [if_pos hx]
      have hm : Int.tmod (-(x + 1)) ((n : Int) + 1) = (-(x + 1)) % ((n : Int) + 1) := Int.tmod_eq_emod_of_nonneg (by omega)
      have hr1 := Int.emod_nonneg (-(x + 1)) (show ((n : Int) + 1) ≠ 0 by omega)
      have hr2 := Int.emod_lt_of_pos (-(x + 1)) (show 0 < ((n : Int) + 1) by omega)
      go_enter Tryz.func117, Tryz.ntmps117
      go_wp2
      go_ret
      exact ⟨rfl, rfl⟩
    · rw [if_neg hx]
      have hm : Int.tmod x ((n : Int) + 1) = x % ((n : Int) + 1) := Int.tmod_eq_emod_of_nonneg (by omega)
      have hr1 := Int.emod_nonneg x (show ((n : Int) + 1) ≠ 0 by omega)
      have hr2 := Int.emod_lt_of_pos x (show 0 < ((n : Int) + 1) by omega)
      go_enter Tryz.func117, Tryz.ntmps117
      go_wp2
      go_ret
      exact ⟨rfl, rfl⟩
theorem IntsIn.turn {w w' : World} {F : Nat → Prop} {A : Option Addr} {zs : List Int} (h : IntsIn w A zs) (hA : zs ≠ [] → ∀ b off, A = some ⟨b, off, none⟩ → ¬ F b) (ho : Turn w w' F) : IntsIn w' A zs := by
  by_cases h0 : zs = []
  · exact .inl h0
  · rcases h with h | ⟨b, off, rfl, hlt, hc⟩
    · exact .inl h
    · exact .inr ⟨b, off, rfl, Nat.lt_of_lt_of_le hlt ho.size, fun i hi => ho.cell (hc i hi) (hA h0 b off rfl)⟩
/-- The first bytes of an own row. -/
theorem own_take {w : World} {t : TypeId} {x : List UInt8} {A : Option Addr} {n cap k : Nat} (h : w.ownsRow 0 t 1 (.slice A n cap) n (u8s x)) (hk : k ≤ n) : w.ownsRow 0 t 1 (.slice A k cap) k (u8s (x.take k)) := by
  have h1 := h.1
  rw [u8s_len] at h1
  refine ⟨by rw [u8s_len, List.length_take]; omega, ?_⟩
  rcases h.2 with ⟨e, rfl⟩ | ⟨g, cap', cur, e, h0, hg, hn, hm, hs, ht⟩
  · cases e
    have : k = 0 := by omega
    subst this
    exact .inl ⟨rfl, rfl⟩
  · cases e
    refine .inr ⟨g, _, cur, rfl, h0, hg, by omega, hm, hs, ?_⟩
    have e2 : u8s (x.take k) = (u8s x).take k := List.map_take ..
    rw [e2, ← ht, List.take_take]
    congr 1
    omega
theorem rem_le (D : Dr) (ks : List Int) (k : Nat) (h : D.l k ≤ (D.c k).length / 64) : rem D ks k ≤ (D.c k).length / 64 := by
  have := kept_le ks k ((D.c k).length / 64 - D.l k)
  unfold rem
  omega
set_option maxRecDepth 100000 in
set_option maxHeartbeats 4000000 in
theorem lose_any (w : World) (F : Nat → Prop) (d : Nat) (D : Dr) (A : Option Addr) (cap : Nat) (ks : List Int) (h : DAt w F d D) (hok : D.Ok) (hI : IntsIn w A ks) (hA : ks ≠ [] → ∀ b off, A = some ⟨b, off, none⟩ → ¬ F b) (hb : ∀ x ∈ ks, -9223372036854775808 ≤ x ∧ x ≤ 9223372036854775807) (hl : ks.length ≤ maxLen) :
    Calls Tryz.prog 99 #[.pointer (some ⟨d, 0, none⟩), .slice A ks.length cap] w fun e w' => e = .returned (.tuple #[]) ∧ DAt w' F d (loseD D ks) ∧ Turn w w' F := by
  obtain ⟨B, h, hF⟩ := h
  have hz2 := hok.m.z2
  have hb2 := hok.m.b2
  have hlen : D.ls.length = D.cs.length := by rw [hok.cl, hok.ll]
  have hcs : D.cs.length ≤ 64 := by rw [hok.cl]; exact hz2
  have hsz : ∀ i, i < D.cs.length → (D.c i).length ≤ 262144 ∧ D.l i ≤ (D.c i).length / 64 ∧ (D.c i).length / 64 ≤ 4096 := fun i hi => by
    have hi' : i < D.m.zs.length := by rw [← hok.cl]; exact hi
    have h1 := hok.cz i hi'
    have h2 := hok.lz i hi'
    have h3 := (hok.m.at_ hi').2.1
    omega
  have hkc := Lib.hid (fun k (hk : k < D.cs.length) => by
    have q := loseTo_at D ks hlen k (by omega) k
    rw [if_neg (by omega), if_neg (by omega)] at q
    exact q)
  have hkl := Lib.hid (fun k => (loseTo_m D ks k).2.2)
  have hwr := Lib.hid (fun W B k (hk : k < D.cs.length) (h : Lies W d B (loseTo D ks k)) => by
    have h1 := written_any W d B (loseTo D ks k) k h (by rw [(loseTo_m D ks k).2.2.1]; exact hk) (by rw [(hkc.out k hk).1]; exact (hsz k hk).1)
    rw [(hkc.out k hk).1] at h1
    exact h1)
  have hkp := Lib.hid (fun W (hI : IntsIn W A ks) k (hk : k < D.cs.length) => kept_any ks A cap k ((D.c k).length / 64 - D.l k) W hI hb hl (by omega) (by have := hsz k hk; omega))
  have hlost := Lib.hid (fun W B (hM : Lies W d B (loseTo D ks D.cs.length)) => lost_any B.g B.z D.m (some ⟨B.l, 0, none⟩) D.ls.length ((loseTo D ks D.cs.length).ls.map fun n : Nat => (n : Int)) W (by have := hM.m; rw [(loseTo_m D ks _).1] at this; exact this) hok.m
    (.inr ⟨B.l, 0, rfl, hM.ll, fun i hi => by
      have hi' : i < (loseTo D ks D.cs.length).ls.length := by simpa using hi
      have := (hM.lrow i hi').1
      rw [List.getElem_map, Nat.zero_add, this]
      unfold Dr.l
      rw [at_get hi']⟩) (fun _ b off e => by injection e with e; injection e with e; rw [← e]; exact hM.zl.symm) (by rw [List.length_map, (loseTo_m D ks _).2.2.2]; unfold maxLen; omega))
  have hIT := Lib.hid (fun W (ho : Turn w W F) => hI.turn hA ho)
  have hFH := Lib.hid hF
  have hszH := Lib.hid hsz
  have hlenH := Lib.hid hlen
  clear hb hl hI hA hok hsz hF
  have c1 := h.c1
  have hH := Lib.hid h
  clear h
  clear hlen
  go_enter Tryz.func99, Tryz.ntmps99
  go_wp2
  go_loopw [11] (fun i wr => ∃ k : Nat, k ≤ D.cs.length ∧ i = .int .i64 (k : Int) ∧ (∃ B, Lies wr d B (loseTo D ks k) ∧ Lies.In F d B D.cs.length) ∧ Turn w wr F) (fun i _ => D.cs.length - (intOf i).toNat)
  case atStart => exact ⟨0, by omega, rfl, ⟨B, hH.out, hFH.out⟩, Turn.refl _ _⟩
  case round =>
    clear c1 hH hFH
    obtain ⟨k, hk, rfl, ⟨E, hM, hF⟩, ho⟩ := hrel
    have hFH := Lib.hid hF
    clear hF
    by_cases hlt : k < D.cs.length
    · have hkk := hkc.out k hlt
      have hkn := hkl.out k
      have hk1 : k < (loseTo D ks k).cs.length := by rw [hkn.1]; exact hlt
      have hk2 : k < (loseTo D ks k).ls.length := by rw [hkn.2, hlenH.out]; exact hlt
      have hs3 := hszH.out k hlt
      have hrl := rem_le D ks k hs3.2.1
      have c1 := hM.c1
      have c2 := hM.c2
      have r1 := hM.row k hk1
      have o1 := hM.own k hk1
      have l1 := hM.lrow k hk2
      rw [hkn.1] at c1
      rw [hkn.2, hlenH.out] at c2
      rw [hkk.1] at o1
      rw [hkk.2] at l1
      have hwr1 := Lib.hid (fun W (hb : Below wr.heap.size wr W) => hwr.out W E k hlt (hM.below hb))
      have hkp1 := Lib.hid (fun W (hb : Below wr.heap.size wr W) => hkp.out W ((hIT.out wr ho).below hb) k hlt)
      have hrem : rem D ks k = D.l k + kept ks k ((D.c k).length / 64 - D.l k) := rfl
      have hstep : ({ { loseTo D ks k with cs := (loseTo D ks k).cs.set k ((D.c k).take (64 * rem D ks k)) } with ls := (loseTo D ks k).ls.set k (rem D ks k) } : Dr) = loseTo D ks (k + 1) := by
        show _ = loseAt (loseTo D ks k) ks k
        have hr : rem (loseTo D ks k) ks k = rem D ks k := by unfold rem; rw [hkk.1, hkk.2]
        unfold loseAt
        rw [hr, hkk.1]
      have hlx : ((D.c k).take (64 * rem D ks k)).length = 64 * rem D ks k := by rw [List.length_take]; omega
      have hput : ∀ W A' cap', E.v k = .slice A' (D.c k).length cap' → Below wr.heap.size wr W → Lies ((W.setCell ⟨E.c, k, none⟩ (.slice A' (64 * rem D ks k) cap')).setCell ⟨E.l, k, none⟩ (.int .i64 (rem D ks k : Int))) d (E.put k (.slice A' (64 * rem D ks k) cap')) (loseTo D ks (k + 1)) := fun W A' cap' hv hb => by
        have hW := hM.below hb
        have hown := hW.own k hk1
        rw [hkk.1, hv] at hown
        have hown2 := own_take hown (k := 64 * rem D ks k) (by omega)
        have hone : (Value.slice A' (64 * rem D ks k) cap').ownBlock = (E.v k).ownBlock := by
          rw [hv]
          rcases A' with _ | q <;> rfl
        have h1 := hW.put_c (i := k) hk1 (v := .slice A' (64 * rem D ks k) cap') (x := (D.c k).take (64 * rem D ks k)) (⟨rfl, rfl, rfl, Nat.le_refl _, fun _ _ _ => rfl⟩ : W.grownBy W (E.v k).ownBlock) (by rw [hlx]; exact hown2) (.inr (.inl hone))
        have h2 := h1.put_l (i := k) hk2 (rem D ks k)
        rw [hstep] at h2
        exact h2
      have hin : ∀ A' cap', E.v k = .slice A' (D.c k).length cap' → Lies.In F d (E.put k (.slice A' (64 * rem D ks k) cap')) D.cs.length := fun A' cap' hv => by
        have hF := hFH.out
        have hone : (Value.slice A' (64 * rem D ks k) cap').ownBlock = none ∨ (Value.slice A' (64 * rem D ks k) cap').ownBlock = (E.v k).ownBlock := by
          right
          rw [hv]
          rcases A' with _ | q <;> rfl
        refine ⟨hF.d, hF.g, hF.z, hF.c, hF.l, fun i hi b hb => ?_⟩
        rw [E.put_v (by rw [hM.vl]; exact hk1)] at hb
        by_cases e : k = i
        · subst e
          rw [if_pos rfl] at hb
          rcases hone with h | h
          · rw [h] at hb; cases hb
          · rw [h] at hb; exact hF.o k hi b hb
        · rw [if_neg e] at hb
          exact hF.o i hi b hb
      have hv : (E.v k = .slice none 0 0 ∧ (D.c k).length = 0) ∨ (∃ g cap', E.v k = .slice (some ⟨g, 0, none⟩) (D.c k).length cap' ∧ (D.c k).length ≤ cap' ∧ cap' ≤ maxLen) := by
        rcases o1.2 with ⟨e, e2⟩ | ⟨g, cap', _, e, _, _, hle, hm, _⟩
        · exact .inl ⟨e, e2⟩
        · exact .inr ⟨g, cap', e, hle, hm⟩
      have hputH := Lib.hid hput
      have hinH := Lib.hid hin
      have hoH := Lib.hid ho
      have hMc := hM.lc
      have hdc := hM.dc
      have hcl := hM.cl
      have hMl := hM.ll
      have hFc := hFH.out.c
      have hFl := hFH.out.l
      have hTN : 64 * rem D ks k ≤ (D.c k).length := by omega
      clear hstep hlx hput hin o1 ho hM hkk
      generalize hKP : kept ks k ((D.c k).length / 64 - D.l k) = kp at hkp1 hrem
      generalize hR : rem D ks k = R at hrem hrl hputH hinH hTN
      generalize hP : (D.c k).length / 64 = P at hs3 hwr1 hkp1 hrl
      generalize hQ : D.l k = Q at hs3 hkp1 l1 hrem
      clear hKP hR hP hQ
      have hw1 : IntKind.i64.wrap ((P : Int) - (Q : Int)) = ((P - Q : Nat) : Int) := by
        rw [IntWalk.i64_in _ (by omega)]; omega
      have hw2 : IntKind.i64.wrap ((Q : Int) + (kp : Int)) = (R : Int) := by
        rw [IntWalk.i64_in _ (by omega)]; omega
      have hw3 : IntKind.i64.wrap ((R : Int) * 64) = ((64 * R : Nat) : Int) := by
        rw [IntWalk.i64_in _ (by omega)]; omega
      clear hrem hrl
      have hf := Lib.hid (fun W (hb : Below wr.heap.size wr W) => (⟨(hb.cell (p := ⟨d, 1, none⟩) (lt_of_cell c1)).trans c1, (hb.cell (p := ⟨d, 2, none⟩) (lt_of_cell c1)).trans c2, (hb.cell (p := ⟨E.l, k, none⟩) hMl).trans l1.1, (hb.cell (p := ⟨E.c, k, none⟩) hMc).trans r1.1⟩ : W.cell? ⟨d, 1, none⟩ = some (.slice (some ⟨E.c, 0, none⟩) D.cs.length D.cs.length) ∧ W.cell? ⟨d, 2, none⟩ = some (.slice (some ⟨E.l, 0, none⟩) D.cs.length D.cs.length) ∧ W.cell? ⟨E.l, k, none⟩ = some (.int .i64 (Q : Int)) ∧ W.cell? ⟨E.c, k, none⟩ = some (E.v k)))
      clear c1 c2
      go_wp2_with fail
      refine region_anyC (fun _ => true) (fun W => Below wr.heap.size wr W) (by kernel_rfl) ?_
      have hS : Below wr.heap.size wr wr.drew := (Below.refl _ _).drew
      refine anyL_take 0 (v := ?_) rfl (by kernel_rfl) (fun _ _ _ h => h) (Or.inl ⟨by rfl, ?_⟩) hS ?_
      rotate_left
      focus (intro W hW; go_simp; try with_reducible rfl)
      simp only [Act.put, List.setIfInBounds_toArray, List.set_cons_zero, List.set_cons_succ]
      refine anyL_take 1 (v := ?_) rfl (by kernel_rfl) (fun _ _ _ h => h) (Or.inl ⟨by rfl, ?_⟩) hS ?_
      rotate_left
      focus (intro W hW; go_simp; try with_reducible rfl)
      simp only [Act.put, List.setIfInBounds_toArray, List.set_cons_zero, List.set_cons_succ]
      refine anyL_take 2 (v := ?_) rfl (by kernel_rfl) (fun _ _ _ h => h) (Or.inl ⟨by rfl, ?_⟩) hS ?_
      rotate_left
      focus (intro W hW; go_simp; try with_reducible rfl)
      simp only [Act.put, List.setIfInBounds_toArray, List.set_cons_zero, List.set_cons_succ]
      refine anyL_take 3 (v := ?_) rfl (by kernel_rfl) (fun _ _ _ h => h) (Or.inl ⟨by rfl, ?_⟩) hS ?_
      rotate_left
      focus (intro W hW; obtain ⟨f0, f1, f2, f3⟩ := hf.out W hW; go_simp; try with_reducible rfl)
      simp only [Act.put, List.setIfInBounds_toArray, List.set_cons_zero, List.set_cons_succ]
      refine anyL_take 4 (v := ?_) rfl (by kernel_rfl) (fun _ _ _ h => h) (Or.inl ⟨by rfl, ?_⟩) hS ?_
      rotate_left
      focus (intro W hW; go_simp; try with_reducible rfl)
      simp only [Act.put, List.setIfInBounds_toArray, List.set_cons_zero, List.set_cons_succ]
      refine anyL_take 5 (v := ?_) rfl (by kernel_rfl) (fun _ _ _ h => h) (Or.inl ⟨by rfl, ?_⟩) hS ?_
      rotate_left
      focus (intro W hW; go_simp; try with_reducible rfl)
      simp only [Act.put, List.setIfInBounds_toArray, List.set_cons_zero, List.set_cons_succ]
      refine anyL_take 6 (v := ?_) rfl (by kernel_rfl) (fun _ _ _ h => h) (Or.inl ⟨by rfl, ?_⟩) hS ?_
      rotate_left
      focus (intro W hW; obtain ⟨f0, f1, f2, f3⟩ := hf.out W hW; go_simp; try with_reducible rfl)
      simp only [Act.put, List.setIfInBounds_toArray, List.set_cons_zero, List.set_cons_succ]
      refine anyL_take 7 (v := ?_) rfl (by kernel_rfl) (fun _ _ _ h => h) (Or.inl ⟨by rfl, ?_⟩) hS ?_
      rotate_left
      focus (intro W hW; go_simp; try with_reducible rfl)
      simp only [Act.put, List.setIfInBounds_toArray, List.set_cons_zero, List.set_cons_succ]
      refine anyL_take 8 (v := ?_) rfl (by kernel_rfl) (fun _ _ _ h => h) (Or.inl ⟨by rfl, ?_⟩) hS ?_
      rotate_left
      focus (intro W hW; go_simp; try with_reducible rfl)
      simp only [Act.put, List.setIfInBounds_toArray, List.set_cons_zero, List.set_cons_succ]
      refine anyL_take 9 (v := ?_) rfl (by kernel_rfl) (fun _ _ _ h => h) (Or.inl ⟨by rfl, ?_⟩) hS ?_
      rotate_left
      focus (intro W hW; go_simp; try with_reducible rfl)
      simp only [Act.put, List.setIfInBounds_toArray, List.set_cons_zero, List.set_cons_succ]
      refine anyL_take 10 (v := ?_) rfl (by kernel_rfl) (fun _ _ _ h => h) (Or.inl ⟨by rfl, ?_⟩) hS ?_
      rotate_left
      focus (intro W hW; go_simp; try with_reducible rfl)
      simp only [Act.put, List.setIfInBounds_toArray, List.set_cons_zero, List.set_cons_succ]
      refine anyL_take 12 (v := ?_) rfl (by kernel_rfl) (fun _ _ _ h => h) (Or.inl ⟨by rfl, ?_⟩) hS ?_
      rotate_left
      focus (intro W hW; go_simp; try with_reducible rfl)
      simp only [Act.put, List.setIfInBounds_toArray, List.set_cons_zero, List.set_cons_succ]
      refine anyL_take 13 (v := ?_) rfl (by kernel_rfl) (fun _ _ _ h => h) (Or.inl ⟨by rfl, ?_⟩) hS ?_
      rotate_left
      focus (intro W hW; go_simp; try with_reducible rfl)
      simp only [Act.put, List.setIfInBounds_toArray, List.set_cons_zero, List.set_cons_succ]
      refine anyL_take 14 (v := ?_) rfl (by kernel_rfl) (fun _ _ _ h => h) (Or.inl ⟨by rfl, ?_⟩) hS ?_
      rotate_left
      focus (intro W hW; go_simp; try with_reducible rfl)
      simp only [Act.put, List.setIfInBounds_toArray, List.set_cons_zero, List.set_cons_succ]
      refine anyL_take 15 (v := ?_) rfl (by kernel_rfl) (fun _ _ _ h => h) (Or.inl ⟨by rfl, ?_⟩) hS ?_
      rotate_left
      focus (intro W hW; obtain ⟨f0, f1, f2, f3⟩ := hf.out W hW; go_simp; try with_reducible rfl)
      simp only [Act.put, List.setIfInBounds_toArray, List.set_cons_zero, List.set_cons_succ]
      refine anyL_take 16 (v := ?_) rfl (by kernel_rfl) (fun _ _ _ h => h) (Or.inl ⟨by rfl, ?_⟩) hS ?_
      rotate_left
      focus (intro W hW; go_simp; try with_reducible rfl)
      simp only [Act.put, List.setIfInBounds_toArray, List.set_cons_zero, List.set_cons_succ]
      refine anyL_take 17 (v := ?_) rfl (by kernel_rfl) (fun _ _ _ h => h) (Or.inl ⟨by rfl, ?_⟩) hS ?_
      rotate_left
      focus (intro W hW; go_simp; try with_reducible rfl)
      simp only [Act.put, List.setIfInBounds_toArray, List.set_cons_zero, List.set_cons_succ]
      refine anyL_take 18 (v := ?_) rfl (by kernel_rfl) (fun _ _ _ h => h) (Or.inl ⟨by rfl, ?_⟩) hS ?_
      rotate_left
      focus (intro W hW; obtain ⟨f0, f1, f2, f3⟩ := hf.out W hW; go_simp; try with_reducible rfl)
      simp only [Act.put, List.setIfInBounds_toArray, List.set_cons_zero, List.set_cons_succ]
      refine anyL_one 11 rfl (by kernel_rfl) (fun K hK => ?_)
      go_simp
      refine (hwr1.out _ hS).mono ?_
      rintro e' w6 ⟨rfl, rfl⟩
      dsimp only
      refine hK.out _ _ (fun _ => hS) ?_
      clear hK K
      try simp only [Act.put, List.setIfInBounds_toArray, List.set_cons_zero, List.set_cons_succ]
      refine anyL_take 19 (v := ?_) rfl (by kernel_rfl) (fun _ _ _ h => h) (Or.inl ⟨by rfl, ?_⟩) hS ?_
      rotate_left
      focus (intro W hW; go_simp; try with_reducible rfl)
      simp only [Act.put, List.setIfInBounds_toArray, List.set_cons_zero, List.set_cons_succ]
      refine anyL_one 20 rfl (by kernel_rfl) (fun K hK => ?_)
      go_simp
      refine (hkp1.out _ hS).mono ?_
      rintro e' w6 ⟨rfl, rfl⟩
      dsimp only
      refine hK.out _ _ (fun _ => hS) ?_
      clear hK K
      try simp only [Act.put, List.setIfInBounds_toArray, List.set_cons_zero, List.set_cons_succ]
      refine anyL_take 21 (v := ?_) rfl (by kernel_rfl) (fun _ _ _ h => h) (Or.inl ⟨by rfl, ?_⟩) hS ?_
      rotate_left
      focus (intro W hW; go_simp; try with_reducible rfl)
      simp only [Act.put, List.setIfInBounds_toArray, List.set_cons_zero, List.set_cons_succ]
      refine anyL_take 22 (v := ?_) rfl (by kernel_rfl) (fun _ _ _ h => h) (Or.inl ⟨by rfl, ?_⟩) hS ?_
      rotate_left
      focus (intro W hW; go_simp; try with_reducible rfl)
      simp only [Act.put, List.setIfInBounds_toArray, List.set_cons_zero, List.set_cons_succ]
      refine anyC_done (by kernel_rfl) ?_ _
      generalize hT : 64 * R = T at hputH hinH hTN hw3
      generalize (D.c k).length = N at hv hputH hinH hTN hs3
      clear hT hwr1 hkp1
      rcases hv with ⟨hv, rfl⟩ | ⟨g, cap', hv, hle, hcm⟩
      · obtain rfl : T = 0 := by omega
        have hw3' : IntKind.i64.wrap ((R : Int) * 64) = 0 := hw3
        clear hw3
        have hput1 := Lib.hid (fun W => hputH.out W none 0 hv)
        have hin1 := Lib.hid (hinH.out none 0 hv)
        rw [hv] at hf
        clear hputH hinH
        go_wp2_with fail
        refine region_anyC (fun i => i != 16) (fun W => Below wr.heap.size wr W) (by kernel_rfl) ?_
        have hS2 : Below wr.heap.size wr wr.drew.drew := (Below.refl _ _).drew.drew
        refine anyL_take 0 (v := ?_) rfl (by kernel_rfl) (fun _ _ _ h => h) (Or.inl ⟨by rfl, ?_⟩) hS2 ?_
        rotate_left
        focus (intro W hW; go_simp; try with_reducible rfl)
        simp only [Act.put, List.setIfInBounds_toArray, List.set_cons_zero, List.set_cons_succ]
        refine anyL_take 1 (v := ?_) rfl (by kernel_rfl) (fun _ _ _ h => h) (Or.inl ⟨by rfl, ?_⟩) hS2 ?_
        rotate_left
        focus (intro W hW; go_simp; try with_reducible rfl)
        simp only [Act.put, List.setIfInBounds_toArray, List.set_cons_zero, List.set_cons_succ]
        refine anyL_take 2 (v := ?_) rfl (by kernel_rfl) (fun _ _ _ h => h) (Or.inl ⟨by rfl, ?_⟩) hS2 ?_
        rotate_left
        focus (intro W hW; go_simp; try with_reducible rfl)
        simp only [Act.put, List.setIfInBounds_toArray, List.set_cons_zero, List.set_cons_succ]
        refine anyL_take 3 (v := ?_) rfl (by kernel_rfl) (fun _ _ _ h => h) (Or.inl ⟨by rfl, ?_⟩) hS2 ?_
        rotate_left
        focus (intro W hW; obtain ⟨f0, f1, f2, f3⟩ := hf.out W hW; go_simp; try with_reducible rfl)
        simp only [Act.put, List.setIfInBounds_toArray, List.set_cons_zero, List.set_cons_succ]
        refine anyL_take 4 (v := ?_) rfl (by kernel_rfl) (fun _ _ _ h => h) (Or.inl ⟨by rfl, ?_⟩) hS2 ?_
        rotate_left
        focus (intro W hW; go_simp; try with_reducible rfl)
        simp only [Act.put, List.setIfInBounds_toArray, List.set_cons_zero, List.set_cons_succ]
        refine anyL_take 5 (v := ?_) rfl (by kernel_rfl) (fun _ _ _ h => h) (Or.inl ⟨by rfl, ?_⟩) hS2 ?_
        rotate_left
        focus (intro W hW; go_simp; try with_reducible rfl)
        simp only [Act.put, List.setIfInBounds_toArray, List.set_cons_zero, List.set_cons_succ]
        refine anyL_take 6 (v := ?_) rfl (by kernel_rfl) (fun _ _ _ h => h) (Or.inl ⟨by rfl, ?_⟩) hS2 ?_
        rotate_left
        focus (intro W hW; go_simp; try with_reducible rfl)
        simp only [Act.put, List.setIfInBounds_toArray, List.set_cons_zero, List.set_cons_succ]
        refine anyL_take 7 (v := ?_) rfl (by kernel_rfl) (fun _ _ _ h => h) (Or.inl ⟨by rfl, ?_⟩) hS2 ?_
        rotate_left
        focus (intro W hW; go_simp; try with_reducible rfl)
        simp only [Act.put, List.setIfInBounds_toArray, List.set_cons_zero, List.set_cons_succ]
        refine anyL_take 8 (v := ?_) rfl (by kernel_rfl) (fun _ _ _ h => h) (Or.inl ⟨by rfl, ?_⟩) hS2 ?_
        rotate_left
        focus (intro W hW; obtain ⟨f0, f1, f2, f3⟩ := hf.out W hW; go_simp; try with_reducible rfl)
        simp only [Act.put, List.setIfInBounds_toArray, List.set_cons_zero, List.set_cons_succ]
        refine anyL_take 9 (v := ?_) rfl (by kernel_rfl) (fun _ _ _ h => h) (Or.inl ⟨by rfl, ?_⟩) hS2 ?_
        rotate_left
        focus (intro W hW; go_simp; try with_reducible rfl)
        simp only [Act.put, List.setIfInBounds_toArray, List.set_cons_zero, List.set_cons_succ]
        refine anyL_take 10 (v := ?_) rfl (by kernel_rfl) (fun _ _ _ h => h) (Or.inl ⟨by rfl, ?_⟩) hS2 ?_
        rotate_left
        focus (intro W hW; go_simp; try with_reducible rfl)
        simp only [Act.put, List.setIfInBounds_toArray, List.set_cons_zero, List.set_cons_succ]
        refine anyL_take 11 (v := ?_) rfl (by kernel_rfl) (fun _ _ _ h => h) (Or.inl ⟨by rfl, ?_⟩) hS2 ?_
        rotate_left
        focus (intro W hW; obtain ⟨f0, f1, f2, f3⟩ := hf.out W hW; go_simp; try with_reducible rfl)
        simp only [Act.put, List.setIfInBounds_toArray, List.set_cons_zero, List.set_cons_succ]
        refine anyL_take 12 (v := ?_) rfl (by kernel_rfl) (fun _ _ _ h => h) (Or.inl ⟨by rfl, ?_⟩) hS2 ?_
        rotate_left
        focus (intro W hW; go_simp; try with_reducible rfl)
        simp only [Act.put, List.setIfInBounds_toArray, List.set_cons_zero, List.set_cons_succ]
        refine anyL_take 13 (v := ?_) rfl (by kernel_rfl) (fun _ _ _ h => h) (Or.inl ⟨by rfl, ?_⟩) hS2 ?_
        rotate_left
        focus (intro W hW; go_simp; try with_reducible rfl)
        simp only [Act.put, List.setIfInBounds_toArray, List.set_cons_zero, List.set_cons_succ]
        refine anyL_take 14 (v := ?_) rfl (by kernel_rfl) (fun _ _ _ h => h) (Or.inl ⟨by rfl, ?_⟩) hS2 ?_
        rotate_left
        focus (intro W hW; go_simp; try with_reducible rfl)
        simp only [Act.put, List.setIfInBounds_toArray, List.set_cons_zero, List.set_cons_succ]
        refine anyL_take 15 (v := ?_) rfl (by kernel_rfl) (fun _ _ _ h => h) (Or.inl ⟨by rfl, ?_⟩) hS2 ?_
        rotate_left
        focus (intro W hW; go_simp; try with_reducible rfl)
        simp only [Act.put, List.setIfInBounds_toArray, List.set_cons_zero, List.set_cons_succ]
        refine anyL_one 16 rfl (by kernel_rfl) (fun K hK => ?_)
        obtain ⟨f0, f1, f2, f3⟩ := hf.out _ hS2
        have r2 := r1.2
        go_simp
        refine hK.out _ _ (fun h => absurd h (by decide)) ?_
        clear hK K
        try simp only [Act.put, List.setIfInBounds_toArray, List.set_cons_zero, List.set_cons_succ]
        refine anyC_done (by kernel_rfl) ?_ _
        refine fresh_K (fun W => ∃ W0, Below wr.heap.size wr W0 ∧ W = W0.setCell ⟨E.c, k, none⟩ (.slice none 0 0)) ⟨wr.drew.drew, hS2, rfl⟩ ?_
        rintro W2 ⟨W0, hb0, rfl⟩
        obtain ⟨f0, f1, f2, f3⟩ := hf.out W0 hb0
        have g1 : (W0.setCell ⟨E.c, k, none⟩ (.slice none 0 0)).cell? ⟨d, 2, none⟩ = some (.slice (some ⟨E.l, 0, none⟩) D.cs.length D.cs.length) := (World.cell?_setCell_other _ _ _ _ (by intro e'; injection e' with e' _; omega)).trans f1
        have g2 : (W0.setCell ⟨E.c, k, none⟩ (.slice none 0 0)).cell? ⟨E.l, k, none⟩ = some (.int .i64 (Q : Int)) := (World.cell?_setCell_other _ _ _ _ (by intro e'; injection e' with e' _; omega)).trans f2
        have g3 : (W0.setCell ⟨E.c, k, none⟩ (.slice none 0 0)).frozen? ⟨E.l, k, none⟩ = false := by rw [World.frozen?_setCell]; exact (hb0.frozen (p := ⟨E.l, k, none⟩) hMl).trans l1.2
        have hput2 := hput1.out W0 hb0
        have ht2 : Turn w ((W0.setCell ⟨E.c, k, none⟩ (.slice none 0 0)).setCell ⟨E.l, k, none⟩ (.int .i64 (R : Int))) F := ((hoH.out.trans (Turn.of_below hb0 F)).trans (Turn.set W0 hFc k _)).trans (Turn.set _ hFl k _)
        have hput2H := Lib.hid hput2
        have ht2H := Lib.hid ht2
        clear f0 f1 f2 f3 hput2 ht2
        generalize W0.setCell ⟨E.c, k, none⟩ (.slice none 0 0) = W3 at g1 g2 g3 hput2H ht2H ⊢
        go_wp2_with fail
        go_roundw
        · exact ⟨k + 1, by omega, by simp, ⟨_, hput2H.out, hin1.out⟩, ht2H.out⟩
        · show D.cs.length - (intOf (Value.int .i64 _)).toNat < D.cs.length - (intOf (Value.int .i64 _)).toNat
          simp only [intOf]
          omega
      · have hput1 := Lib.hid (fun W => hputH.out W (some ⟨g, 0, none⟩) cap' hv)
        have hin1 := Lib.hid (hinH.out (some ⟨g, 0, none⟩) cap' hv)
        rw [hv] at hf
        unfold maxLen at hcm
        have hTc : T ≤ cap' := by omega
        clear hputH hinH
        go_wp2_with fail
        refine region_anyC (fun i => i != 16) (fun W => Below wr.heap.size wr W) (by kernel_rfl) ?_
        have hS2 : Below wr.heap.size wr wr.drew.drew := (Below.refl _ _).drew.drew
        refine anyL_take 0 (v := ?_) rfl (by kernel_rfl) (fun _ _ _ h => h) (Or.inl ⟨by rfl, ?_⟩) hS2 ?_
        rotate_left
        focus (intro W hW; go_simp; try with_reducible rfl)
        simp only [Act.put, List.setIfInBounds_toArray, List.set_cons_zero, List.set_cons_succ]
        refine anyL_take 1 (v := ?_) rfl (by kernel_rfl) (fun _ _ _ h => h) (Or.inl ⟨by rfl, ?_⟩) hS2 ?_
        rotate_left
        focus (intro W hW; go_simp; try with_reducible rfl)
        simp only [Act.put, List.setIfInBounds_toArray, List.set_cons_zero, List.set_cons_succ]
        refine anyL_take 2 (v := ?_) rfl (by kernel_rfl) (fun _ _ _ h => h) (Or.inl ⟨by rfl, ?_⟩) hS2 ?_
        rotate_left
        focus (intro W hW; go_simp; try with_reducible rfl)
        simp only [Act.put, List.setIfInBounds_toArray, List.set_cons_zero, List.set_cons_succ]
        refine anyL_take 3 (v := ?_) rfl (by kernel_rfl) (fun _ _ _ h => h) (Or.inl ⟨by rfl, ?_⟩) hS2 ?_
        rotate_left
        focus (intro W hW; obtain ⟨f0, f1, f2, f3⟩ := hf.out W hW; go_simp; try with_reducible rfl)
        simp only [Act.put, List.setIfInBounds_toArray, List.set_cons_zero, List.set_cons_succ]
        refine anyL_take 4 (v := ?_) rfl (by kernel_rfl) (fun _ _ _ h => h) (Or.inl ⟨by rfl, ?_⟩) hS2 ?_
        rotate_left
        focus (intro W hW; go_simp; try with_reducible rfl)
        simp only [Act.put, List.setIfInBounds_toArray, List.set_cons_zero, List.set_cons_succ]
        refine anyL_take 5 (v := ?_) rfl (by kernel_rfl) (fun _ _ _ h => h) (Or.inl ⟨by rfl, ?_⟩) hS2 ?_
        rotate_left
        focus (intro W hW; go_simp; try with_reducible rfl)
        simp only [Act.put, List.setIfInBounds_toArray, List.set_cons_zero, List.set_cons_succ]
        refine anyL_take 6 (v := ?_) rfl (by kernel_rfl) (fun _ _ _ h => h) (Or.inl ⟨by rfl, ?_⟩) hS2 ?_
        rotate_left
        focus (intro W hW; go_simp; try with_reducible rfl)
        simp only [Act.put, List.setIfInBounds_toArray, List.set_cons_zero, List.set_cons_succ]
        refine anyL_take 7 (v := ?_) rfl (by kernel_rfl) (fun _ _ _ h => h) (Or.inl ⟨by rfl, ?_⟩) hS2 ?_
        rotate_left
        focus (intro W hW; go_simp; try with_reducible rfl)
        simp only [Act.put, List.setIfInBounds_toArray, List.set_cons_zero, List.set_cons_succ]
        refine anyL_take 8 (v := ?_) rfl (by kernel_rfl) (fun _ _ _ h => h) (Or.inl ⟨by rfl, ?_⟩) hS2 ?_
        rotate_left
        focus (intro W hW; obtain ⟨f0, f1, f2, f3⟩ := hf.out W hW; go_simp; try with_reducible rfl)
        simp only [Act.put, List.setIfInBounds_toArray, List.set_cons_zero, List.set_cons_succ]
        refine anyL_take 9 (v := ?_) rfl (by kernel_rfl) (fun _ _ _ h => h) (Or.inl ⟨by rfl, ?_⟩) hS2 ?_
        rotate_left
        focus (intro W hW; go_simp; try with_reducible rfl)
        simp only [Act.put, List.setIfInBounds_toArray, List.set_cons_zero, List.set_cons_succ]
        refine anyL_take 10 (v := ?_) rfl (by kernel_rfl) (fun _ _ _ h => h) (Or.inl ⟨by rfl, ?_⟩) hS2 ?_
        rotate_left
        focus (intro W hW; go_simp; try with_reducible rfl)
        simp only [Act.put, List.setIfInBounds_toArray, List.set_cons_zero, List.set_cons_succ]
        refine anyL_take 11 (v := ?_) rfl (by kernel_rfl) (fun _ _ _ h => h) (Or.inl ⟨by rfl, ?_⟩) hS2 ?_
        rotate_left
        focus (intro W hW; obtain ⟨f0, f1, f2, f3⟩ := hf.out W hW; go_simp; try with_reducible rfl)
        simp only [Act.put, List.setIfInBounds_toArray, List.set_cons_zero, List.set_cons_succ]
        refine anyL_take 12 (v := ?_) rfl (by kernel_rfl) (fun _ _ _ h => h) (Or.inl ⟨by rfl, ?_⟩) hS2 ?_
        rotate_left
        focus (intro W hW; go_simp; try with_reducible rfl)
        simp only [Act.put, List.setIfInBounds_toArray, List.set_cons_zero, List.set_cons_succ]
        refine anyL_take 13 (v := ?_) rfl (by kernel_rfl) (fun _ _ _ h => h) (Or.inl ⟨by rfl, ?_⟩) hS2 ?_
        rotate_left
        focus (intro W hW; go_simp; try with_reducible rfl)
        simp only [Act.put, List.setIfInBounds_toArray, List.set_cons_zero, List.set_cons_succ]
        refine anyL_take 14 (v := ?_) rfl (by kernel_rfl) (fun _ _ _ h => h) (Or.inl ⟨by rfl, ?_⟩) hS2 ?_
        rotate_left
        focus (intro W hW; go_simp; try with_reducible rfl)
        simp only [Act.put, List.setIfInBounds_toArray, List.set_cons_zero, List.set_cons_succ]
        refine anyL_take 15 (v := ?_) rfl (by kernel_rfl) (fun _ _ _ h => h) (Or.inl ⟨by rfl, ?_⟩) hS2 ?_
        rotate_left
        focus (intro W hW; go_simp; try with_reducible rfl)
        simp only [Act.put, List.setIfInBounds_toArray, List.set_cons_zero, List.set_cons_succ]
        refine anyL_one 16 rfl (by kernel_rfl) (fun K hK => ?_)
        obtain ⟨f0, f1, f2, f3⟩ := hf.out _ hS2
        have r2 := r1.2
        go_simp
        refine hK.out _ _ (fun h => absurd h (by decide)) ?_
        clear hK K
        try simp only [Act.put, List.setIfInBounds_toArray, List.set_cons_zero, List.set_cons_succ]
        refine anyC_done (by kernel_rfl) ?_ _
        refine fresh_K (fun W => ∃ W0, Below wr.heap.size wr W0 ∧ W = W0.setCell ⟨E.c, k, none⟩ (.slice (some ⟨g, 0, none⟩) T cap')) ⟨wr.drew.drew, hS2, rfl⟩ ?_
        rintro W2 ⟨W0, hb0, rfl⟩
        obtain ⟨f0, f1, f2, f3⟩ := hf.out W0 hb0
        have g1 : (W0.setCell ⟨E.c, k, none⟩ (.slice (some ⟨g, 0, none⟩) T cap')).cell? ⟨d, 2, none⟩ = some (.slice (some ⟨E.l, 0, none⟩) D.cs.length D.cs.length) := (World.cell?_setCell_other _ _ _ _ (by intro e'; injection e' with e' _; omega)).trans f1
        have g2 : (W0.setCell ⟨E.c, k, none⟩ (.slice (some ⟨g, 0, none⟩) T cap')).cell? ⟨E.l, k, none⟩ = some (.int .i64 (Q : Int)) := (World.cell?_setCell_other _ _ _ _ (by intro e'; injection e' with e' _; omega)).trans f2
        have g3 : (W0.setCell ⟨E.c, k, none⟩ (.slice (some ⟨g, 0, none⟩) T cap')).frozen? ⟨E.l, k, none⟩ = false := by rw [World.frozen?_setCell]; exact (hb0.frozen (p := ⟨E.l, k, none⟩) hMl).trans l1.2
        have hput2 := hput1.out W0 hb0
        have ht2 : Turn w ((W0.setCell ⟨E.c, k, none⟩ (.slice (some ⟨g, 0, none⟩) T cap')).setCell ⟨E.l, k, none⟩ (.int .i64 (R : Int))) F := ((hoH.out.trans (Turn.of_below hb0 F)).trans (Turn.set W0 hFc k _)).trans (Turn.set _ hFl k _)
        have hput2H := Lib.hid hput2
        have ht2H := Lib.hid ht2
        clear f0 f1 f2 f3 hput2 ht2
        generalize W0.setCell ⟨E.c, k, none⟩ (.slice (some ⟨g, 0, none⟩) T cap') = W3 at g1 g2 g3 hput2H ht2H ⊢
        go_wp2_with fail
        go_roundw
        · exact ⟨k + 1, by omega, by simp, ⟨_, hput2H.out, hin1.out⟩, ht2H.out⟩
        · show D.cs.length - (intOf (Value.int .i64 _)).toNat < D.cs.length - (intOf (Value.int .i64 _)).toNat
          simp only [intOf]
          omega
    · have e : k = D.cs.length := by omega
      subst e
      clear hwr hkp
      have c0 := hM.c0
      have c2 := hM.c2
      have hkn := hkl.out D.cs.length
      rw [hkn.2, hlenH.out] at c2
      have hmm := (loseTo_m D ks D.cs.length).1
      have hll := (loseTo_m D ks D.cs.length).2.2.2
      have hlo := Lib.hid (fun W (hb : Below wr.heap.size wr W) => hlost.out W E (hM.below hb))
      have hf := Lib.hid (fun W (hb : Below wr.heap.size wr W) => (⟨(hb.cell (p := ⟨d, 0, none⟩) (lt_of_cell c0)).trans c0, (hb.cell (p := ⟨d, 2, none⟩) (lt_of_cell c0)).trans c2⟩ : W.cell? ⟨d, 0, none⟩ = some (.pointer (some ⟨E.g, 0, none⟩)) ∧ W.cell? ⟨d, 2, none⟩ = some (.slice (some ⟨E.l, 0, none⟩) D.cs.length D.cs.length)))
      have hlen2 : ((loseTo D ks D.cs.length).ls.map fun n : Nat => (n : Int)).length = D.ls.length := by rw [List.length_map]; exact hkn.2
      rw [hlen2, hlenH.out] at hlo
      clear hlen2 hmm hll
      have hMH := Lib.hid hM
      have hknH := Lib.hid hkn
      clear hlost c0 c2 hM hkn
      go_wp2_with fail
      refine region_anyC (fun i => i != 8) (fun W => Below wr.heap.size wr W) (by kernel_rfl) ?_
      have hS : Below wr.heap.size wr wr.drew := (Below.refl _ _).drew
      refine anyL_take 0 (v := ?_) rfl (by kernel_rfl) (fun _ _ _ h => h) (Or.inl ⟨by rfl, ?_⟩) hS ?_
      rotate_left
      focus (intro W hW; go_simp; try with_reducible rfl)
      simp only [Act.put, List.setIfInBounds_toArray, List.set_cons_zero, List.set_cons_succ]
      refine anyL_take 1 (v := ?_) rfl (by kernel_rfl) (fun _ _ _ h => h) (Or.inl ⟨by rfl, ?_⟩) hS ?_
      rotate_left
      focus (intro W hW; go_simp; try with_reducible rfl)
      simp only [Act.put, List.setIfInBounds_toArray, List.set_cons_zero, List.set_cons_succ]
      refine anyL_take 2 (v := ?_) rfl (by kernel_rfl) (fun _ _ _ h => h) (Or.inl ⟨by rfl, ?_⟩) hS ?_
      rotate_left
      focus (intro W hW; go_simp; try with_reducible rfl)
      simp only [Act.put, List.setIfInBounds_toArray, List.set_cons_zero, List.set_cons_succ]
      refine anyL_take 3 (v := ?_) rfl (by kernel_rfl) (fun _ _ _ h => h) (Or.inl ⟨by rfl, ?_⟩) hS ?_
      rotate_left
      focus (intro W hW; obtain ⟨f0, f1⟩ := hf.out W hW; go_simp; try with_reducible rfl)
      simp only [Act.put, List.setIfInBounds_toArray, List.set_cons_zero, List.set_cons_succ]
      refine anyL_take 4 (v := ?_) rfl (by kernel_rfl) (fun _ _ _ h => h) (Or.inl ⟨by rfl, ?_⟩) hS ?_
      rotate_left
      focus (intro W hW; go_simp; try with_reducible rfl)
      simp only [Act.put, List.setIfInBounds_toArray, List.set_cons_zero, List.set_cons_succ]
      refine anyL_take 5 (v := ?_) rfl (by kernel_rfl) (fun _ _ _ h => h) (Or.inl ⟨by rfl, ?_⟩) hS ?_
      rotate_left
      focus (intro W hW; go_simp; try with_reducible rfl)
      simp only [Act.put, List.setIfInBounds_toArray, List.set_cons_zero, List.set_cons_succ]
      refine anyL_take 6 (v := ?_) rfl (by kernel_rfl) (fun _ _ _ h => h) (Or.inl ⟨by rfl, ?_⟩) hS ?_
      rotate_left
      focus (intro W hW; go_simp; try with_reducible rfl)
      simp only [Act.put, List.setIfInBounds_toArray, List.set_cons_zero, List.set_cons_succ]
      refine anyL_take 7 (v := ?_) rfl (by kernel_rfl) (fun _ _ _ h => h) (Or.inl ⟨by rfl, ?_⟩) hS ?_
      rotate_left
      focus (intro W hW; obtain ⟨f0, f1⟩ := hf.out W hW; go_simp; try with_reducible rfl)
      simp only [Act.put, List.setIfInBounds_toArray, List.set_cons_zero, List.set_cons_succ]
      refine anyL_one 8 rfl (by kernel_rfl) (fun K hK => ?_)
      go_simp
      refine (hlo.out _ hS).mono ?_
      rintro e' w7 ⟨rfl, hm7, ho7⟩
      have hmach := Lib.hid ((hMH.out.below hS).machine ho7 hm7)
      dsimp only
      refine hK.out _ _ (fun h => absurd h (by decide)) ?_
      clear hK K
      try simp only [Act.put, List.setIfInBounds_toArray, List.set_cons_zero, List.set_cons_succ]
      refine anyC_done (by kernel_rfl) ?_ _
      go_wp2
      go_end0
      refine ⟨rfl, ⟨E, hmach.out, ?_⟩, ho.trans ((Turn.of_below hS F).trans (Turn.of_only ho7 hFH.out.z))⟩
      show Lies.In F d E (loseTo D ks D.cs.length).cs.length
      rw [hknH.out.1]
      exact hFH.out
theorem dlose_any (w : World) (F : Nat → Prop) (d : Nat) (D : Dr) (A : Option Addr) (cap : Nat) (ks : List Int) (h : DAt w F d D) (hok : D.Ok) (hI : IntsIn w A ks) (hA : ks ≠ [] → ∀ b off, A = some ⟨b, off, none⟩ → ¬ F b) (hb : ∀ x ∈ ks, -9223372036854775808 ≤ x ∧ x ≤ 9223372036854775807) (hl : ks.length ≤ maxLen) :
    Calls Tryz.prog 73 #[.pointer (some ⟨d, 0, none⟩), .slice A ks.length cap] w fun e w' => e = .returned (.tuple #[]) ∧ DAt w' F d (loseD D ks) ∧ Turn w w' F := by
  have hlo := Lib.hid (lose_any w F d D A cap ks h hok hI hA hb hl)
  clear h hok hI hA hb hl
  go_enter Tryz.func73, Tryz.ntmps73
  go_wp2_with (go_at_call 99; refine hlo.out.mono ?_; rintro e w1 ⟨rfl, hM1, ho1⟩)
  go_end0
  exact ⟨rfl, hM1, ho1⟩
theorem dlose_nil (w : World) (A : Option Addr) (n cap : Nat) :
    Calls Tryz.prog 73 #[.pointer none, .slice A n cap] w fun e w' => e = .returned (.tuple #[]) ∧ w = w' := by
  go_enter Tryz.func73, Tryz.ntmps73
  go_wp2
  go_end0
  exact ⟨rfl, rfl⟩
end Go.Proofs.YtpmhfalhieinjaaGreatDoor
