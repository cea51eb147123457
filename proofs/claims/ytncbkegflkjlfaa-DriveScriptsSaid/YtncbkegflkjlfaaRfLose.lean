/- What the document's Lose of a drive does. -/
import Derived.Test.YtncbkegflkjlfaaRfApp
import Derived.Test.YtncbkegflkjlfaaZonRLost
namespace Go.Proofs.Ytncbkegflkjlfaa
open Go.RowKit Zon Drv

theorem int_append (W : World) (base : Nat) (ty : TypeId) (v : Value) (xs : List Value) (hown : W.ownsRow base 3 1 v xs.length xs) (m : Nat) (y : Int) (hc : W.cell? ⟨m, 0, none⟩ = some (.int .i64 y)) (hl : xs.length ≤ 100000) (hb : base ≤ W.heap.size) :
    ∃ v' W', (Builtin.append_ #[31, 31] ty #[v, .slice (some ⟨m, 0, none⟩) 1 1]).run Try.prog W = .ok v' W' ∧ W'.ownsRow base 3 1 v' (xs ++ [Value.int .i64 y]).length (xs ++ [Value.int .i64 y]) ∧ W.grownBy W' v.ownBlock ∧ (v'.ownBlock = v.ownBlock ∨ v'.ownBlock = some W.heap.size) := by
  have infoI : (Try.prog.info? 3).map (fun i => (i.zero, i.size, i.bytes)) = some (some (.int .i64 0), 1, 8) := by kernel_rfl
  obtain ⟨i0, hi, hz0, hz1, hz2⟩ := info_parts infoI
  obtain ⟨v', w', h1, h2, h3, _, h5⟩ := run_append_own_at (P := Try.prog) W base 31 ty 3 i0 (.int .i64 0) 1 8 Try.underlying31 hi hz0 hz1 hz2 rfl (by decide) v xs.length xs hown ⟨m, 0, none⟩ 1 1 [.int .i64 y] (by simp)
    (fun j u hu => by
      match j, hu with
      | 0, hu =>
        simp only [List.getElem?_cons_zero, Option.some.injEq] at hu
        subst hu
        exact hc)
    (by intro u hu; rw [List.mem_singleton] at hu; subst hu; rfl) (by unfold maxLen; omega) (by omega) hb
  rw [show xs.length + 1 = (xs ++ [Value.int .i64 y]).length by simp] at h2
  exact ⟨v', w', h1, h2, h3, h5⟩
/-- The number of a zone's own, made positive. -/
def n0of (ks : List Int) (z : Nat) : Int := if ks = [] then 0 else if ks.getD (z % ks.length) 0 < 0 then -(ks.getD (z % ks.length) 0 + 1) else ks.getD (z % ks.length) 0
theorem kept_n0 (ks : List Int) (z n : Nat) : (kept ks z n : Int) = n0of ks z % ((n : Int) + 1) := by
  unfold kept n0of
  by_cases h : ks = []
  · rw [if_pos h, if_pos h]; simp
  · rw [if_neg h, if_neg h]
    exact Int.toNat_of_nonneg (Int.emod_nonneg _ (by omega))
/-- How many of each zone are left. -/
def remI (D : Dr) (ks : List Int) (k : Nat) : List Int := (List.range k).map fun i => ((rem D ks i : Nat) : Int)
def remV (D : Dr) (ks : List Int) (k : Nat) : List Value := (remI D ks k).map (Value.int .i64)
theorem remI_len (D : Dr) (ks : List Int) (k : Nat) : (remI D ks k).length = k := by unfold remI; simp
theorem remV_len (D : Dr) (ks : List Int) (k : Nat) : (remV D ks k).length = k := by unfold remV; rw [List.length_map, remI_len]
theorem remV_step (D : Dr) (ks : List Int) (k : Nat) : remV D ks (k + 1) = remV D ks k ++ [Value.int .i64 ((rem D ks k : Nat) : Int)] := by
  unfold remV remI
  rw [List.range_succ, List.map_append, List.map_append]
  rfl
theorem remI_all (D : Dr) (ks : List Int) (hl : D.ls.length = D.cs.length) : (loseTo D ks D.cs.length).ls.map (fun n : Nat => (n : Int)) = remI D ks D.cs.length := by
  have h1 := (loseTo_m D ks D.cs.length).2.2.2
  refine List.ext_getElem (by rw [List.length_map, remI_len, h1, hl]) fun i h2 h3 => ?_
  rw [remI_len] at h3
  rw [List.length_map] at h2
  have h4 := (loseTo_at D ks hl D.cs.length (Nat.le_refl _) i).2
  rw [if_pos h3] at h4
  unfold Dr.l at h4
  rw [at_get h2] at h4
  have e : (remI D ks D.cs.length)[i]? = some ((rem D ks i : Nat) : Int) := by
    unfold remI
    rw [List.getElem?_map, List.getElem?_range h3]
    rfl
  rw [List.getElem?_eq_getElem (by rw [remI_len]; exact h3)] at e
  rw [List.getElem_map, h4]
  exact (Option.some.inj e).symm
theorem own_ints {w : World} {B : Nat} {v : Value} {zs : List Int} (hown : w.ownsRow B 3 1 v zs.length (zs.map (Value.int .i64))) : ∃ A cap, v = .slice A zs.length cap ∧ IntsIn w A zs ∧ (zs ≠ [] → ∀ b off, A = some ⟨b, off, none⟩ → v.ownBlock = some b) := by
  rcases hown.2 with ⟨e, h0⟩ | ⟨g, cap, cur, e, hg, hgg, hnc, _⟩
  · exact ⟨none, 0, by rw [e, h0], .inl (List.eq_nil_of_length_eq_zero h0), fun h => absurd (List.eq_nil_of_length_eq_zero h0) h⟩
  · refine ⟨_, cap, e, ?_, fun _ b off e' => by injection e' with e'; injection e' with e1 _; rw [e, ← e1]; rfl⟩
    by_cases h0 : zs = []
    · exact .inl h0
    · refine .inr ⟨g, 0, rfl, (Array.getElem?_eq_some_iff.1 hgg).1, fun j hj => ?_⟩
      rw [e] at hown
      rw [Nat.zero_add, hown.cellAt j (by omega), List.getElem?_map, List.getElem?_eq_getElem hj]
      rfl
theorem own_zero {w : World} {B : Nat} {t : TypeId} {v : Value} {n : Nat} {xs : List Value} (h : w.ownsRow B t 1 v n xs) : w.ownsRow 0 t 1 v n xs :=
  ⟨h.1, h.2.imp id fun ⟨g, cap, cur, e, _, r⟩ => ⟨g, cap, cur, e, Nat.zero_le _, r⟩⟩
/-- The loop's state: the zones up to k have lost, and their lengths are noted. -/
structure LsW (w W : World) (F : Nat → Prop) (d : Nat) (D : Dr) (ks : List Int) (k : Nat) (v : Value) : Prop where
  ex : ∃ B F', RLies W d B (loseTo D ks k) ∧ RLies.In F' d B D.cs.length ∧ (∀ b, F' b → F b ∨ w.heap.size ≤ b) ∧ (∀ b, F' b → b < W.heap.size) ∧ (∀ b, v.ownBlock = some b → ¬ F' b)
  own : W.ownsRow w.heap.size 3 1 v (remV D ks k).length (remV D ks k)
  t : Turn w W F
/-- One zone more. -/
theorem LsW.next {w wr W W3 : World} {F : Nat → Prop} {d : Nat} {D : Dr} {ks : List Int} {k : Nat} {v v8 v' : Value} {B : Blk} {F' : Nat → Prop} (hl : D.ls.length = D.cs.length) (hk : k < D.cs.length)
    (hL : RLies wr d B (loseTo D ks k)) (hIn : RLies.In F' d B D.cs.length) (hF1 : ∀ b, F' b → F b ∨ w.heap.size ≤ b) (hF2 : ∀ b, F' b → b < wr.heap.size) (hF3 : ∀ b, v.ownBlock = some b → ¬ F' b)
    (hown : wr.ownsRow w.heap.size 3 1 v (remV D ks k).length (remV D ks k)) (ht : Turn w wr F) (hb : Below wr.heap.size wr W) (h8 : W.ownsRow wr.heap.size 9 1 v8 (bks ((D.c k).take (64 * rem D ks k))).length (bks ((D.c k).take (64 * rem D ks k)))) :
    ∃ W2, W2 = (W.setCell ⟨B.c, k, none⟩ v8).setCell ⟨B.l, k, none⟩ (.int .i64 (rem D ks k : Int)) ∧ W2.ownsRow w.heap.size 3 1 v (remV D ks k).length (remV D ks k) ∧ w.heap.size ≤ W2.heap.size ∧
      (∀ W1, Below W2.heap.size W2 W1 → W1.grownBy W3 v.ownBlock → W3.ownsRow w.heap.size 3 1 v' (remV D ks k ++ [Value.int .i64 ((rem D ks k : Nat) : Int)]).length (remV D ks k ++ [Value.int .i64 ((rem D ks k : Nat) : Int)]) → (v'.ownBlock = v.ownBlock ∨ v'.ownBlock = some W1.heap.size) → LsW w W3 F d D ks (k + 1) v') := by
  have hlm := (loseTo_m D ks k).2.2
  have hk1 : k < (loseTo D ks k).cs.length := by rw [hlm.1]; exact hk
  have hk2 : k < (loseTo D ks k).ls.length := by rw [hlm.2, hl]; exact hk
  have hat := loseTo_at D ks hl k (by omega) k
  rw [if_neg (by omega), if_neg (by omega)] at hat
  have h8b : ∀ b, v8.ownBlock = some b → wr.heap.size ≤ b ∧ b < W.heap.size := fun b hb' => h8.lt b hb'
  have h1 := hL.put_c (i := k) hk1 (v := v8) (x := (D.c k).take (64 * rem D ks k)) (grown_of_below hb (B.v k).ownBlock) (own_zero h8) (by
    cases e : v8.ownBlock with
    | none => exact .inl rfl
    | some b => exact .inr (.inr ⟨b, rfl, (h8b b e).1⟩))
  have h2 := h1.put_l (i := k) hk2 (rem D ks k)
  have hstep : ({ { loseTo D ks k with cs := (loseTo D ks k).cs.set k ((D.c k).take (64 * rem D ks k)) } with ls := (loseTo D ks k).ls.set k (rem D ks k) } : Dr) = loseTo D ks (k + 1) := by
    show _ = loseAt (loseTo D ks k) ks k
    have hr : rem (loseTo D ks k) ks k = rem D ks k := by unfold rem; rw [hat.1, hat.2]
    unfold loseAt
    rw [hr, hat.1]
  rw [hstep] at h2
  have h2 : RLies ((W.setCell ⟨B.c, k, none⟩ v8).setCell ⟨B.l, k, none⟩ (.int .i64 (rem D ks k : Int))) d (B.put k v8) (loseTo D ks (k + 1)) := h2
  have hsz : W.heap.size ≤ ((W.setCell ⟨B.c, k, none⟩ v8).setCell ⟨B.l, k, none⟩ (.int .i64 (rem D ks k : Int))).heap.size := Nat.le_trans (heap_set _ _ _) (heap_set _ _ _)
  have hturn : Turn wr ((W.setCell ⟨B.c, k, none⟩ v8).setCell ⟨B.l, k, none⟩ (.int .i64 (rem D ks k : Int))) F' := ((Turn.of_below hb F').trans (Turn.set W (F := F') hIn.c k v8)).trans (Turn.set _ (F := F') hIn.l k _)
  have hown2 : ((W.setCell ⟨B.c, k, none⟩ v8).setCell ⟨B.l, k, none⟩ (.int .i64 (rem D ks k : Int))).ownsRow w.heap.size 3 1 v (remV D ks k).length (remV D ks k) := by
    refine ⟨hown.1, ?_⟩
    rcases hown.2 with hn | ⟨g, cap, cur, rfl, h0, hg, r⟩
    · exact .inl hn
    · exact .inr ⟨g, cap, cur, rfl, h0, by rw [hturn.block g (Array.getElem?_eq_some_iff.1 hg).1 (hF3 g rfl)]; exact hg, r⟩
  refine ⟨_, rfl, hown2, Nat.le_trans (Nat.le_trans ht.size hb.size) hsz, fun W1 hb1 hg hown3 hat3 => ?_⟩
  generalize (W.setCell ⟨B.c, k, none⟩ v8).setCell ⟨B.l, k, none⟩ (.int .i64 (rem D ks k : Int)) = W2 at *
  have hvF : ∀ b, v.ownBlock = some b → ¬ ((F' b ∨ v8.ownBlock = some b) ∧ b < W2.heap.size) := fun b hb' hf => by
    rcases hf.1 with h | h
    · exact hF3 b hb' h
    · have e1 := (h8b b h).1
      have e2 := (hown.lt b hb').2
      omega
  have hturn3 : Turn W2 W3 (fun b => v.ownBlock = some b) := (Turn.of_below hb1 _).trans (Turn.of_grown hg fun _ h => h)
  have hIn2 : RLies.In (fun b => (F' b ∨ v8.ownBlock = some b) ∧ b < W2.heap.size) d (B.put k v8) D.cs.length := by
    have hB := h2
    refine ⟨⟨.inl hIn.d, hB.dlt⟩, ⟨.inl hIn.g, hB.m.gl⟩, ⟨.inl hIn.z, hB.m.zl⟩, ⟨.inl hIn.c, hB.lc⟩, ⟨.inl hIn.l, hB.ll⟩, fun p hp b hb' => ?_⟩
    rw [B.put_v (by rw [hL.vl]; exact hk1)] at hb'
    by_cases e : k = p
    · rw [if_pos e] at hb'; exact ⟨.inr hb', Nat.lt_of_lt_of_le (h8b b hb').2 hsz⟩
    · rw [if_neg e] at hb'
      have h3 := hIn.o p hp b hb'
      exact ⟨.inl h3, Nat.lt_of_lt_of_le (hF2 b h3) (Nat.le_trans hb.size hsz)⟩
  have hlen3 : (loseTo D ks (k + 1)).cs.length = D.cs.length := (loseTo_m D ks (k + 1)).2.2.1
  have h4 : RLies W3 d (B.put k v8) (loseTo D ks (k + 1)) := h2.same hturn3.size (by rw [hlen3]; exact hIn2) fun b hbl hf => hturn3.block b hbl fun hv => hvF b hv hf
  refine ⟨⟨B.put k v8, _, h4, hIn2, fun b hb' => ?_, fun b hb' => Nat.lt_of_lt_of_le hb'.2 hturn3.size, fun b hb' hf => ?_⟩, by rw [remV_step]; exact hown3, ?_⟩
  · rcases hb'.1 with h | h
    · exact hF1 b h
    · have e1 := (h8b b h).1
      have e2 := ht.size
      exact .inr (by omega)
  · rcases hat3 with h | h
    · rw [h] at hb'; exact hvF b hb' hf
    · rw [h] at hb'
      injection hb' with e
      have := hb1.size
      have := hf.2
      omega
  · refine (ht.trans' (G := F') hturn hF1).trans' hturn3 fun b hb' => ?_
    exact .inr (hown.lt b hb').1
end Go.Proofs.Ytncbkegflkjlfaa
namespace Go.Proofs.Ytncbkegflkjlfaa
open Go.RowKit Zon Drv

set_option maxRecDepth 100000 in
set_option maxHeartbeats 4000000 in
theorem rdlose_any (w : World) (F : Nat → Prop) (d : Nat) (D : Dr) (A : Option Addr) (cap : Nat) (ks : List Int) (h : RAt w F d D) (hok : D.Ok) (hFl : ∀ b, F b → b < w.heap.size) (hI : IntsIn w A ks) (hA : ks ≠ [] → ∀ b off, A = some ⟨b, off, none⟩ → ¬ F b) (hb : ∀ x ∈ ks, -9223372036854775808 ≤ x ∧ x ≤ 9223372036854775807) (hl : ks.length ≤ maxLen) :
    Calls Try.prog 18 #[.pointer (some ⟨d, 0, none⟩), .slice A ks.length cap] w fun e w' => e = .returned (.tuple #[]) ∧ (∃ F', RAt w' F' d (loseD D ks) ∧ ∀ b, F' b → F b ∨ w.heap.size ≤ b) ∧ Turn w w' F := by
  obtain ⟨B, h, hF⟩ := h
  have hz2 := hok.m.z2
  have hb2 := hok.m.b2
  have hlen : D.ls.length = D.cs.length := by rw [hok.cl, hok.ll]
  have hcs : D.cs.length ≤ 64 := by rw [hok.cl]; exact hz2
  have hsz : ∀ i, i < D.cs.length → (D.c i).length % 64 = 0 ∧ D.l i ≤ (D.c i).length / 64 ∧ (D.c i).length / 64 ≤ 4096 := fun i hi => by
    have hi' : i < D.m.zs.length := by rw [← hok.cl]; exact hi
    have h1 := hok.cz i hi'
    have h2 := hok.lz i hi'
    have h3 := (hok.m.at_ hi').2.1
    omega
  have hlost := Lib.hid (fun W B cap' A' (hM : RLies W d B (loseTo D ks D.cs.length)) (hI : IntsIn W A' (remI D ks D.cs.length)) (hA : remI D ks D.cs.length ≠ [] → ∀ b off, A' = some ⟨b, off, none⟩ → b ≠ B.z) => rlost_any B.g B.z D.m A' cap' (remI D ks D.cs.length) W (by have := hM.m; rw [(loseTo_m D ks _).1] at this; exact this) hok.m hI hA (by rw [remI_len]; unfold maxLen; omega))
  have hIT := Lib.hid (fun W (ho : Turn w W F) => hI.turn hA ho)
  have hbH := Lib.hid hb
  have hszH := Lib.hid hsz
  have hlenH := Lib.hid hlen
  have h0 : LsW w w F d D ks 0 (.slice none 0 0) := ⟨⟨B, F, h, hF, fun b hb => .inl hb, hFl, fun b hb => by cases hb⟩, World.ownsRow_nil _ _ _ _, Turn.refl _ _⟩
  have h0H := Lib.hid h0
  unfold maxLen at hl
  clear hb hI hA hok hsz hF h hFl h0 hlen
  go_enter Try.func18, Try.ntmps18
  go_wp2_with fail
  go_loopw [4, 5] (fun v i wr => ∃ k : Nat, k ≤ D.cs.length ∧ i = .int .i64 (k : Int) ∧ LsW w wr F d D ks k v) (fun _ i _ => D.cs.length - (intOf i).toNat)
  case atStart => exact ⟨0, by omega, rfl, h0H.out⟩
  case round =>
    clear h0H
    obtain ⟨k, hk, rfl, ⟨E, F', hL, hIn, hF1, hF2, hF3⟩, hown, ht⟩ := hrel
    have hlm := (loseTo_m D ks k).2.2
    have c1 := hL.c1
    rw [hlm.1] at c1
    by_cases hlt : k < D.cs.length
    · have hk1 : k < (loseTo D ks k).cs.length := by rw [hlm.1]; exact hlt
      have hk2 : k < (loseTo D ks k).ls.length := by rw [hlm.2, hlenH.out]; exact hlt
      have hat := loseTo_at D ks hlenH.out k (by omega) k
      rw [if_neg (by omega), if_neg (by omega)] at hat
      have c2 := hL.c2
      rw [hlm.2, hlenH.out] at c2
      have l1 := hL.lrow k hk2
      rw [hat.2] at l1
      have r1 := hL.row k hk1
      obtain ⟨Av, capv, hv, hvc, hvA⟩ := hL.form hk1
      rw [hat.1] at hv hvc hvA
      have hbo := hL.own k hk1
      rw [hat.1] at hbo
      have hs3 := hszH.out k hlt
      have hkn := kept_n0 ks k ((D.c k).length / 64 - D.l k)
      have hrem : rem D ks k = D.l k + kept ks k ((D.c k).length / 64 - D.l k) := rfl
      have hrl := rem_le D ks k hs3.2.1
      have hnx := Lib.hid (fun W W3 v8 v' hb h8 => LsW.next (W := W) (W3 := W3) (v := u4) (v8 := v8) (v' := v') hlenH.out hlt hL hIn hF1 hF2 hF3 hown ht hb h8)
      have hIr := hIT.out wr ht
      have hcell := Lib.hid (fun W (hb : Below wr.heap.size wr W) j (hj : j < (D.c k).length / 64) g (hg : Av = some ⟨g, 0, none⟩) => by
        have h1 := hbo.cells (g := g) (by rw [hv, hg]; rfl) j (.string ⟨(blk (D.c k) j).toArray⟩) (by rw [List.getElem?_eq_getElem (by rw [bks_len]; exact hj), bks_get])
        rw [Addr.add_lit, Nat.zero_add] at h1
        exact (hb.cell (p := ⟨g, j, none⟩) (lt_of_cell h1)).trans h1)
      rw [hv] at r1
      have hEc := lt_of_cell r1.1
      have hEl := lt_of_cell l1.1
      have hdl := lt_of_cell c1
      have hcl := hL.cl
      have hdc := hL.dc
      have hdl2 := hL.dl
      clear hL hIn hF1 hF2 hF3 hown ht hlm hat hbo hv
      generalize kept ks k ((D.c k).length / 64 - D.l k) = kp at hkn hrem
      generalize rem D ks k = rm at hrem hrl hnx
      generalize D.l k = l6 at hs3 hkn hrem l1
      generalize D.c k = cx at hs3 hkn hrl hcell hvc hvA r1 hnx
      have hmod := Lib.hid hs3.1
      obtain ⟨m6, hm6⟩ : ∃ m6, m6 = cx.length / 64 := ⟨_, rfl⟩
      rw [← hm6] at hkn hrl hcell hvc hvA r1 hs3
      have hm6H := Lib.hid hm6
      have hlm6 := hs3.2.1
      have hm6b := hs3.2.2
      clear hs3 hm6
      obtain ⟨df, hdf⟩ : ∃ df, df = m6 - l6 := ⟨_, rfl⟩
      obtain ⟨df1, hdf1⟩ : ∃ df1, df1 = df + 1 := ⟨_, rfl⟩
      have hw1 : IntKind.i64.wrap ((m6 : Int) - (l6 : Int)) = (df : Int) := by rw [IntWalk.i64_in _ (by omega)]; omega
      have hw2 : IntKind.i64.wrap ((df : Int) + 1) = (df1 : Int) := by rw [IntWalk.i64_in _ (by omega)]; omega
      have hw4 : IntKind.i64.wrap (rm : Int) = (rm : Int) := by rw [IntWalk.i64_in _ (by omega)]
      have hw6 : (l6 : Int) + (kp : Int) = (rm : Int) := by omega
      rw [show (((m6 - l6 : Nat) : Int) + 1) = (df1 : Int) by omega] at hkn
      have hdp : 0 < df1 := by omega
      have hd0 : ¬ (df1 : Int) = 0 := by omega
      have hd1 : ¬ df1 = 0 := by omega
      have hn0 : (ks = [] ∧ (0 : Int).tmod (df1 : Int) = (kp : Int)) ∨ (∃ b off x, ks ≠ [] ∧ A = some ⟨b, off, none⟩ ∧ k % ks.length < ks.length ∧ wr.cell? ⟨b, off + k % ks.length, none⟩ = some (.int .i64 x) ∧ -9223372036854775808 ≤ x ∧ x < 0 ∧ (-(x + 1)).tmod (df1 : Int) = (kp : Int)) ∨ (∃ b off x, ks ≠ [] ∧ A = some ⟨b, off, none⟩ ∧ k % ks.length < ks.length ∧ wr.cell? ⟨b, off + k % ks.length, none⟩ = some (.int .i64 x) ∧ ¬ x < 0 ∧ x ≤ 9223372036854775807 ∧ x.tmod (df1 : Int) = (kp : Int)) := by
        by_cases h0 : ks = []
        · left
          unfold n0of at hkn
          rw [if_pos h0] at hkn
          exact ⟨h0, by rw [Int.tmod_eq_emod_of_nonneg (Int.le_refl 0)]; exact hkn.symm⟩
        · right
          have hpos : 0 < ks.length := by
            cases ks with
            | nil => exact absurd rfl h0
            | cons _ _ => simp
          have hlt2 : k % ks.length < ks.length := Nat.mod_lt _ hpos
          obtain ⟨b, off, rfl, _, hc⟩ := hIr.at_ hlt2
          have hbx := hbH.out _ (List.getElem_mem hlt2)
          have eg : ks.getD (k % ks.length) 0 = ks[k % ks.length] := by rw [List.getD_eq_getElem?_getD, List.getElem?_eq_getElem hlt2]; rfl
          unfold n0of at hkn
          rw [if_neg h0, eg] at hkn
          by_cases hx : ks[k % ks.length] < 0
          · left
            rw [if_pos hx] at hkn
            exact ⟨b, off, _, h0, rfl, hlt2, hc, hbx.1, hx, by rw [Int.tmod_eq_emod_of_nonneg (by omega)]; exact hkn.symm⟩
          · right
            rw [if_neg hx] at hkn
            exact ⟨b, off, _, h0, rfl, hlt2, hc, hx, hbx.2, by rw [Int.tmod_eq_emod_of_nonneg (by omega)]; exact hkn.symm⟩
      have hkpb : kp ≤ 4096 := by omega
      have hf := Lib.hid (fun W (hb : Below wr.heap.size wr W) => (⟨(hb.cell (p := ⟨d, 1, none⟩) hdl).trans c1, (hb.cell (p := ⟨d, 2, none⟩) hdl).trans c2, (hb.cell (p := ⟨E.l, k, none⟩) hEl).trans l1.1, (hb.cell (p := ⟨E.c, k, none⟩) hEc).trans r1.1, (hb.frozen (p := ⟨E.l, k, none⟩) hEl).trans l1.2, (hb.frozen (p := ⟨E.c, k, none⟩) hEc).trans r1.2⟩ : W.cell? ⟨d, 1, none⟩ = some (.slice (some ⟨E.c, 0, none⟩) D.cs.length D.cs.length) ∧ W.cell? ⟨d, 2, none⟩ = some (.slice (some ⟨E.l, 0, none⟩) D.cs.length D.cs.length) ∧ W.cell? ⟨E.l, k, none⟩ = some (.int .i64 (l6 : Int)) ∧ W.cell? ⟨E.c, k, none⟩ = some (.slice Av m6 capv) ∧ W.frozen? ⟨E.l, k, none⟩ = false ∧ W.frozen? ⟨E.c, k, none⟩ = false))
      have hz1 : (k : Int) % (ks.length : Int) = ((k % ks.length : Nat) : Int) := by omega
      have hz2 : Int.tmod (k : Int) (ks.length : Int) = ((k % ks.length : Nat) : Int) := by rw [Int.tmod_eq_emod_of_nonneg (by omega)]; exact hz1
      have hremH := Lib.hid hrem
      clear hkn hdf hdf1 hIr c2 l1 r1 hrem
      have hw5 : IntKind.i64.wrap (kp : Int) = (kp : Int) := IntWalk.i64_in _ (by omega)
      rcases hn0 with ⟨h0, hw3⟩ | ⟨b0, off0, x, h0, rfl, hlt2, hc, hx1, hx2, hw3⟩ | ⟨b0, off0, x, h0, rfl, hlt2, hc, hx1, hx2, hw3⟩
      · have hk0 : ¬ (0 < ks.length) := by rw [h0]; decide
        have hk0i : ¬ ((0 : Int) < (ks.length : Int)) := by omega
        have h0H := Lib.hid h0
        clear h0 hz1 hz2
        obtain rfl : kp = 0 := by
          rw [Int.tmod_eq_emod_of_nonneg (Int.le_refl 0), Int.zero_emod] at hw3
          omega
        have hrl2 : rm = l6 := by have := hremH.out; omega
        subst hrl2
        go_wp2_with fail
        refine region_anyC (fun _ => true) (fun W => Below wr.heap.size wr W) (by kernel_rfl) ?_
        have hS : Below wr.heap.size wr wr.drew := (Below.refl _ _).drew
        refine anyL_take 0 (v := ?_) rfl (by kernel_rfl) (fun _ _ _ h => h) (Or.inl ⟨by rfl, ?_⟩) hS ?_
        rotate_left
        focus (intro W hW; go_simp; try with_reducible rfl)
        simp only [Act.put, List.setIfInBounds_toArray, List.set_cons_zero, List.set_cons_succ]
        refine anyL_take 1 (v := ?_) rfl (by kernel_rfl) (fun _ _ _ h => h) (Or.inl ⟨by rfl, ?_⟩) hS ?_
        rotate_left
        focus (intro W hW; go_simp; try with_reducible rfl)
        simp only [Act.put, List.setIfInBounds_toArray, List.set_cons_zero, List.set_cons_succ]
        refine anyL_take 2 (v := ?_) rfl (by kernel_rfl) (fun _ _ _ h => h) (Or.inl ⟨by rfl, ?_⟩) hS ?_
        rotate_left
        focus (intro W hW; go_simp; try with_reducible rfl)
        simp only [Act.put, List.setIfInBounds_toArray, List.set_cons_zero, List.set_cons_succ]
        refine anyL_take 3 (v := ?_) rfl (by kernel_rfl) (fun _ _ _ h => h) (Or.inl ⟨by rfl, ?_⟩) hS ?_
        rotate_left
        focus (intro W hW; obtain ⟨f0, f1, f2, f3, f4, f5⟩ := hf.out W hW; go_simp; try with_reducible rfl)
        simp only [Act.put, List.setIfInBounds_toArray, List.set_cons_zero, List.set_cons_succ]
        refine anyL_take 4 (v := ?_) rfl (by kernel_rfl) (fun _ _ _ h => h) (Or.inl ⟨by rfl, ?_⟩) hS ?_
        rotate_left
        focus (intro W hW; go_simp; try with_reducible rfl)
        simp only [Act.put, List.setIfInBounds_toArray, List.set_cons_zero, List.set_cons_succ]
        refine anyL_take 5 (v := ?_) rfl (by kernel_rfl) (fun _ _ _ h => h) (Or.inl ⟨by rfl, ?_⟩) hS ?_
        rotate_left
        focus (intro W hW; go_simp; try with_reducible rfl)
        simp only [Act.put, List.setIfInBounds_toArray, List.set_cons_zero, List.set_cons_succ]
        refine anyL_take 6 (v := ?_) rfl (by kernel_rfl) (fun _ _ _ h => h) (Or.inl ⟨by rfl, ?_⟩) hS ?_
        rotate_left
        focus (intro W hW; obtain ⟨f0, f1, f2, f3, f4, f5⟩ := hf.out W hW; go_simp; try with_reducible rfl)
        simp only [Act.put, List.setIfInBounds_toArray, List.set_cons_zero, List.set_cons_succ]
        refine anyL_take 7 (v := ?_) rfl (by kernel_rfl) (fun _ _ _ h => h) (Or.inl ⟨by rfl, ?_⟩) hS ?_
        rotate_left
        focus (intro W hW; go_simp; try with_reducible rfl)
        simp only [Act.put, List.setIfInBounds_toArray, List.set_cons_zero, List.set_cons_succ]
        refine anyL_take 8 (v := ?_) rfl (by kernel_rfl) (fun _ _ _ h => h) (Or.inl ⟨by rfl, ?_⟩) hS ?_
        rotate_left
        focus (intro W hW; go_simp; try with_reducible rfl)
        simp only [Act.put, List.setIfInBounds_toArray, List.set_cons_zero, List.set_cons_succ]
        refine anyL_take 9 (v := ?_) rfl (by kernel_rfl) (fun _ _ _ h => h) (Or.inl ⟨by rfl, ?_⟩) hS ?_
        rotate_left
        focus (intro W hW; go_simp; try with_reducible rfl)
        simp only [Act.put, List.setIfInBounds_toArray, List.set_cons_zero, List.set_cons_succ]
        refine anyL_take 10 (v := ?_) rfl (by kernel_rfl) (fun _ _ _ h => h) (Or.inl ⟨by rfl, ?_⟩) hS ?_
        rotate_left
        focus (intro W hW; go_simp; try with_reducible rfl)
        simp only [Act.put, List.setIfInBounds_toArray, List.set_cons_zero, List.set_cons_succ]
        refine anyL_take 11 (v := ?_) rfl (by kernel_rfl) (fun _ _ _ h => h) (Or.inl ⟨by rfl, ?_⟩) hS ?_
        rotate_left
        focus (intro W hW; obtain ⟨f0, f1, f2, f3, f4, f5⟩ := hf.out W hW; go_simp; try with_reducible rfl)
        simp only [Act.put, List.setIfInBounds_toArray, List.set_cons_zero, List.set_cons_succ]
        refine anyL_take 12 (v := ?_) rfl (by kernel_rfl) (fun _ _ _ h => h) (Or.inl ⟨by rfl, ?_⟩) hS ?_
        rotate_left
        focus (intro W hW; go_simp; try with_reducible rfl)
        simp only [Act.put, List.setIfInBounds_toArray, List.set_cons_zero, List.set_cons_succ]
        refine anyL_take 13 (v := ?_) rfl (by kernel_rfl) (fun _ _ _ h => h) (Or.inl ⟨by rfl, ?_⟩) hS ?_
        rotate_left
        focus (intro W hW; go_simp; try with_reducible rfl)
        simp only [Act.put, List.setIfInBounds_toArray, List.set_cons_zero, List.set_cons_succ]
        refine anyL_take 14 (v := ?_) rfl (by kernel_rfl) (fun _ _ _ h => h) (Or.inl ⟨by rfl, ?_⟩) hS ?_
        rotate_left
        focus (intro W hW; go_simp; try with_reducible rfl)
        simp only [Act.put, List.setIfInBounds_toArray, List.set_cons_zero, List.set_cons_succ]
        refine anyL_take 15 (v := ?_) rfl (by kernel_rfl) (fun _ _ _ h => h) (Or.inl ⟨by rfl, ?_⟩) hS ?_
        rotate_left
        focus (intro W hW; obtain ⟨f0, f1, f2, f3, f4, f5⟩ := hf.out W hW; go_simp; try with_reducible rfl)
        simp only [Act.put, List.setIfInBounds_toArray, List.set_cons_zero, List.set_cons_succ]
        refine anyL_take 16 (v := ?_) rfl (by kernel_rfl) (fun _ _ _ h => h) (Or.inl ⟨by rfl, ?_⟩) hS ?_
        rotate_left
        focus (intro W hW; go_simp; try with_reducible rfl)
        simp only [Act.put, List.setIfInBounds_toArray, List.set_cons_zero, List.set_cons_succ]
        refine anyL_take 17 (v := ?_) rfl (by kernel_rfl) (fun _ _ _ h => h) (Or.inl ⟨by rfl, ?_⟩) hS ?_
        rotate_left
        focus (intro W hW; go_simp; try with_reducible rfl)
        simp only [Act.put, List.setIfInBounds_toArray, List.set_cons_zero, List.set_cons_succ]
        refine anyL_take 18 (v := ?_) rfl (by kernel_rfl) (fun _ _ _ h => h) (Or.inl ⟨by rfl, ?_⟩) hS ?_
        rotate_left
        focus (intro W hW; go_simp; try with_reducible rfl)
        simp only [Act.put, List.setIfInBounds_toArray, List.set_cons_zero, List.set_cons_succ]
        refine anyL_take 19 (v := ?_) rfl (by kernel_rfl) (fun _ _ _ h => h) (Or.inl ⟨by rfl, ?_⟩) hS ?_
        rotate_left
        focus (intro W hW; go_simp; try with_reducible rfl)
        simp only [Act.put, List.setIfInBounds_toArray, List.set_cons_zero, List.set_cons_succ]
        refine anyL_take 20 (v := ?_) rfl (by kernel_rfl) (fun _ _ _ h => h) (Or.inl ⟨by rfl, ?_⟩) hS ?_
        rotate_left
        focus (intro W hW; obtain ⟨f0, f1, f2, f3, f4, f5⟩ := hf.out W hW; go_simp; try with_reducible rfl)
        simp only [Act.put, List.setIfInBounds_toArray, List.set_cons_zero, List.set_cons_succ]
        refine anyL_take 21 (v := ?_) rfl (by kernel_rfl) (fun _ _ _ h => h) (Or.inl ⟨by rfl, ?_⟩) hS ?_
        rotate_left
        focus (intro W hW; go_simp; try with_reducible rfl)
        simp only [Act.put, List.setIfInBounds_toArray, List.set_cons_zero, List.set_cons_succ]
        refine anyL_take 22 (v := ?_) rfl (by kernel_rfl) (fun _ _ _ h => h) (Or.inl ⟨by rfl, ?_⟩) hS ?_
        rotate_left
        focus (intro W hW; go_simp; try with_reducible rfl)
        simp only [Act.put, List.setIfInBounds_toArray, List.set_cons_zero, List.set_cons_succ]
        refine anyL_take 23 (v := ?_) rfl (by kernel_rfl) (fun _ _ _ h => h) (Or.inl ⟨by rfl, ?_⟩) hS ?_
        rotate_left
        focus (intro W hW; obtain ⟨f0, f1, f2, f3, f4, f5⟩ := hf.out W hW; go_simp; try with_reducible rfl)
        simp only [Act.put, List.setIfInBounds_toArray, List.set_cons_zero, List.set_cons_succ]
        refine anyL_take 24 (v := ?_) rfl (by kernel_rfl) (fun _ _ _ h => h) (Or.inl ⟨by rfl, ?_⟩) hS ?_
        rotate_left
        focus (intro W hW; go_simp; try with_reducible rfl)
        simp only [Act.put, List.setIfInBounds_toArray, List.set_cons_zero, List.set_cons_succ]
        refine anyL_take 25 (v := ?_) rfl (by kernel_rfl) (fun _ _ _ h => h) (Or.inl ⟨by rfl, ?_⟩) hS ?_
        rotate_left
        focus (intro W hW; go_simp; try with_reducible rfl)
        simp only [Act.put, List.setIfInBounds_toArray, List.set_cons_zero, List.set_cons_succ]
        refine anyL_take 26 (v := ?_) rfl (by kernel_rfl) (fun _ _ _ h => h) (Or.inl ⟨by rfl, ?_⟩) hS ?_
        rotate_left
        focus (intro W hW; go_simp; try with_reducible rfl)
        simp only [Act.put, List.setIfInBounds_toArray, List.set_cons_zero, List.set_cons_succ]
        refine anyL_take 27 (v := ?_) rfl (by kernel_rfl) (fun _ _ _ h => h) (Or.inl ⟨by rfl, ?_⟩) hS ?_
        rotate_left
        focus (intro W hW; go_simp; try with_reducible rfl)
        simp only [Act.put, List.setIfInBounds_toArray, List.set_cons_zero, List.set_cons_succ]
        refine anyL_take 28 (v := ?_) rfl (by kernel_rfl) (fun _ _ _ h => h) (Or.inl ⟨by rfl, ?_⟩) hS ?_
        rotate_left
        focus (intro W hW; go_simp; try with_reducible rfl)
        simp only [Act.put, List.setIfInBounds_toArray, List.set_cons_zero, List.set_cons_succ]
        refine anyC_done (by kernel_rfl) ?_ _
        clear hw1 hw2 hw3 hw4 hw5 hw6 c1
        go_wp2_with fail
        obtain ⟨wo, rfl⟩ : ∃ wo, wo = wr := ⟨_, rfl⟩
        go_loopw [8, 9] (fun v8 i2 W => ∃ j : Nat, j ≤ rm ∧ i2 = .int .i64 (j : Int) ∧ W.ownsRow wo.heap.size 9 1 v8 (bks (cx.take (64 * j))).length (bks (cx.take (64 * j))) ∧ Below wo.heap.size wo W) (fun _ i2 _ => rm - (intOf i2).toNat)
        case atStart => exact ⟨0, by omega, rfl, by rw [Nat.mul_zero, List.take_zero]; exact World.ownsRow_nil _ _ _ _, hS⟩
        case round =>
          clear hS
          obtain ⟨j, hj, rfl, h8, hb8⟩ := hrel
          obtain ⟨f0, f1, f2, f3, f4, f5⟩ := hf.out _ hb8
          by_cases hlt8 : j < rm
          · obtain ⟨g, rfl⟩ : ∃ g, Av = some ⟨g, 0, none⟩ := by
              rcases hvA with ⟨_, h⟩ | ⟨g, h, _⟩
              · omega
              · exact ⟨g, h⟩
            have hjm : j < m6 := by omega
            have hce := hcell.out wr hb8 j hjm g rfl
            have hcx : cx.length = 64 * m6 := by have := hm6H.out; have := hmod.out; omega
            have hstep := data_step [] cx j
            rw [List.nil_append, List.nil_append] at hstep
            have hsn : bks (cx.take (64 * (j + 1))) = bks (cx.take (64 * j)) ++ [Value.string ⟨(blk cx j).toArray⟩] := by
              rw [hstep]
              exact bks_snoc (k := j) (by rw [List.length_take]; omega) (blk_len (by omega))
            have hbl : (bks (cx.take (64 * j))).length ≤ 100000 := by rw [bks_len, List.length_take]; omega
            have hba : Below wr.heap.size wr (wr.alloc (.cells #[.string ⟨(blk cx j).toArray⟩] 9)) := (Below.refl _ _).alloc (Nat.le_refl _) _
            obtain ⟨v9, w9, hrun, hown9, hgr9, _⟩ := blk_append (wr.alloc (.cells #[.string ⟨(blk cx j).toArray⟩] 9)) wo.heap.size 89 _ _ (h8.alloc _) wr.heap.size ⟨(blk cx j).toArray⟩ (by go_simp) hbl (Nat.le_trans hb8.size hba.size)
            rw [← hsn] at hown9
            have hb9 : Below wo.heap.size wo w9 := (hb8.trans (hba.mono hb8.size)).grown hgr9 (Nat.le_trans hb8.size hba.size) (fun q hq => (h8.lt q hq).1)
            have hrunH := Lib.hid hrun
            have hownH := Lib.hid hown9
            have hb9H := Lib.hid hb9
            generalize (⟨(blk cx j).toArray⟩ : ByteArray) = Y at *
            clear hrun hown9 hgr9 hb9 hstep hsn hbl hba h8 hb8 hcx hcell hnx hf
            go_wp2_with (at_builtin; refine append_run_wp rfl (.tmp 67) (.tmp 79) 89 rfl rfl rfl hrunH.out ?_)
            go_roundw
            case rel => exact ⟨j + 1, by omega, by go_num, hownH.out, hb9H.out⟩
            case measure => simp [intOf]; omega
          · obtain rfl : j = rm := by omega
            have hv8 : ∃ A8 n8 cap8, u8 = .slice A8 n8 cap8 := by
              rcases h8.2 with ⟨e, _⟩ | ⟨g, cap2, cur, e, _⟩
              · exact ⟨_, _, _, e⟩
              · exact ⟨_, _, _, e⟩
            obtain ⟨A8, n8, cap8, rfl⟩ := hv8
            obtain ⟨W2, hW2, hown2, hsz2, _⟩ := hnx.out wr wr _ u4 hb8 h8
            have hb2 : Below W2.heap.size W2 (W2.alloc (.cells #[.int .i64 (j : Int)] 3)) := (Below.refl _ _).alloc (Nat.le_refl _) _
            obtain ⟨v9, w9, hrun, hown9, hgr9, hat9⟩ := int_append (W2.alloc (.cells #[.int .i64 (j : Int)] 3)) w.heap.size 31 _ _ (hown2.alloc _) W2.heap.size (j : Int) (by go_simp) (by rw [remV_len]; omega) (Nat.le_trans hsz2 hb2.size)
            obtain ⟨W2', hW2', _, _, hfin⟩ := hnx.out wr w9 _ v9 hb8 h8
            rw [← hW2] at hW2'
            subst hW2'
            have hfinH := Lib.hid (hfin _ hb2 hgr9 hown9 hat9)
            have hW2H := Lib.hid hW2.symm
            have hrunH := Lib.hid hrun
            clear hown2 hsz2 hb2 hrun hown9 hgr9 hat9 hfin hW2 hnx h8 hb8 hcell hf
            go_upto_region 17 with fail
            refine fresh_world (fun X => X = W2') hW2H.out ?_
            rintro _ rfl
            clear hW2H f0 f1 f2 f3 f4 f5
            go_wp2_with (at_builtin; refine append_run_wp rfl (.tmp 96) (.tmp 98) 31 rfl rfl rfl hrunH.out ?_)
            go_roundw
            case rel => exact ⟨k + 1, by omega, by go_num, hfinH.out⟩
            case measure => simp [intOf]; omega
      · have hkl : 0 < ks.length := by omega
        have hp : ∃ p, p = k % ks.length := ⟨_, rfl⟩
        obtain ⟨N0, hN0⟩ : ∃ N0, -(x + 1) = N0 := ⟨_, rfl⟩
        generalize k % ks.length = p at *
        rw [hN0] at hw3
        have hN1 : 0 ≤ N0 := by omega
        have hw3' : N0 % (df1 : Int) = (kp : Int) := by rw [← hw3]; exact (Int.tmod_eq_emod_of_nonneg hN1).symm
        have hN2 : N0 ≤ 9223372036854775807 := by omega
        go_wp2_with fail
        refine region_anyC (fun _ => true) (fun W => Below wr.heap.size wr W) (by kernel_rfl) ?_
        have hS : Below wr.heap.size wr wr.drew := (Below.refl _ _).drew
        refine anyL_take 0 (v := ?_) rfl (by kernel_rfl) (fun _ _ _ h => h) (Or.inl ⟨by rfl, ?_⟩) hS ?_
        rotate_left
        focus (intro W hW; go_simp; try with_reducible rfl)
        simp only [Act.put, List.setIfInBounds_toArray, List.set_cons_zero, List.set_cons_succ]
        refine anyL_take 1 (v := ?_) rfl (by kernel_rfl) (fun _ _ _ h => h) (Or.inl ⟨by rfl, ?_⟩) hS ?_
        rotate_left
        focus (intro W hW; go_simp; try with_reducible rfl)
        simp only [Act.put, List.setIfInBounds_toArray, List.set_cons_zero, List.set_cons_succ]
        refine anyL_take 2 (v := ?_) rfl (by kernel_rfl) (fun _ _ _ h => h) (Or.inl ⟨by rfl, ?_⟩) hS ?_
        rotate_left
        focus (intro W hW; go_simp; try with_reducible rfl)
        simp only [Act.put, List.setIfInBounds_toArray, List.set_cons_zero, List.set_cons_succ]
        refine anyL_take 3 (v := ?_) rfl (by kernel_rfl) (fun _ _ _ h => h) (Or.inl ⟨by rfl, ?_⟩) hS ?_
        rotate_left
        focus (intro W hW; obtain ⟨f0, f1, f2, f3, f4, f5⟩ := hf.out W hW; go_simp; try with_reducible rfl)
        simp only [Act.put, List.setIfInBounds_toArray, List.set_cons_zero, List.set_cons_succ]
        refine anyL_take 4 (v := ?_) rfl (by kernel_rfl) (fun _ _ _ h => h) (Or.inl ⟨by rfl, ?_⟩) hS ?_
        rotate_left
        focus (intro W hW; go_simp; try with_reducible rfl)
        simp only [Act.put, List.setIfInBounds_toArray, List.set_cons_zero, List.set_cons_succ]
        refine anyL_take 5 (v := ?_) rfl (by kernel_rfl) (fun _ _ _ h => h) (Or.inl ⟨by rfl, ?_⟩) hS ?_
        rotate_left
        focus (intro W hW; go_simp; try with_reducible rfl)
        simp only [Act.put, List.setIfInBounds_toArray, List.set_cons_zero, List.set_cons_succ]
        refine anyL_take 6 (v := ?_) rfl (by kernel_rfl) (fun _ _ _ h => h) (Or.inl ⟨by rfl, ?_⟩) hS ?_
        rotate_left
        focus (intro W hW; obtain ⟨f0, f1, f2, f3, f4, f5⟩ := hf.out W hW; go_simp; try with_reducible rfl)
        simp only [Act.put, List.setIfInBounds_toArray, List.set_cons_zero, List.set_cons_succ]
        refine anyL_take 7 (v := ?_) rfl (by kernel_rfl) (fun _ _ _ h => h) (Or.inl ⟨by rfl, ?_⟩) hS ?_
        rotate_left
        focus (intro W hW; go_simp; try with_reducible rfl)
        simp only [Act.put, List.setIfInBounds_toArray, List.set_cons_zero, List.set_cons_succ]
        refine anyL_take 8 (v := ?_) rfl (by kernel_rfl) (fun _ _ _ h => h) (Or.inl ⟨by rfl, ?_⟩) hS ?_
        rotate_left
        focus (intro W hW; go_simp; try with_reducible rfl)
        simp only [Act.put, List.setIfInBounds_toArray, List.set_cons_zero, List.set_cons_succ]
        refine anyL_take 9 (v := ?_) rfl (by kernel_rfl) (fun _ _ _ h => h) (Or.inl ⟨by rfl, ?_⟩) hS ?_
        rotate_left
        focus (intro W hW; go_simp; try with_reducible rfl)
        simp only [Act.put, List.setIfInBounds_toArray, List.set_cons_zero, List.set_cons_succ]
        refine anyL_take 10 (v := ?_) rfl (by kernel_rfl) (fun _ _ _ h => h) (Or.inl ⟨by rfl, ?_⟩) hS ?_
        rotate_left
        focus (intro W hW; go_simp; try with_reducible rfl)
        simp only [Act.put, List.setIfInBounds_toArray, List.set_cons_zero, List.set_cons_succ]
        refine anyL_take 11 (v := ?_) rfl (by kernel_rfl) (fun _ _ _ h => h) (Or.inl ⟨by rfl, ?_⟩) hS ?_
        rotate_left
        focus (intro W hW; obtain ⟨f0, f1, f2, f3, f4, f5⟩ := hf.out W hW; go_simp; try with_reducible rfl)
        simp only [Act.put, List.setIfInBounds_toArray, List.set_cons_zero, List.set_cons_succ]
        refine anyL_take 12 (v := ?_) rfl (by kernel_rfl) (fun _ _ _ h => h) (Or.inl ⟨by rfl, ?_⟩) hS ?_
        rotate_left
        focus (intro W hW; go_simp; try with_reducible rfl)
        simp only [Act.put, List.setIfInBounds_toArray, List.set_cons_zero, List.set_cons_succ]
        refine anyL_take 13 (v := ?_) rfl (by kernel_rfl) (fun _ _ _ h => h) (Or.inl ⟨by rfl, ?_⟩) hS ?_
        rotate_left
        focus (intro W hW; go_simp; try with_reducible rfl)
        simp only [Act.put, List.setIfInBounds_toArray, List.set_cons_zero, List.set_cons_succ]
        refine anyL_take 14 (v := ?_) rfl (by kernel_rfl) (fun _ _ _ h => h) (Or.inl ⟨by rfl, ?_⟩) hS ?_
        rotate_left
        focus (intro W hW; go_simp; try with_reducible rfl)
        simp only [Act.put, List.setIfInBounds_toArray, List.set_cons_zero, List.set_cons_succ]
        refine anyL_take 15 (v := ?_) rfl (by kernel_rfl) (fun _ _ _ h => h) (Or.inl ⟨by rfl, ?_⟩) hS ?_
        rotate_left
        focus (intro W hW; obtain ⟨f0, f1, f2, f3, f4, f5⟩ := hf.out W hW; go_simp; try with_reducible rfl)
        simp only [Act.put, List.setIfInBounds_toArray, List.set_cons_zero, List.set_cons_succ]
        refine anyL_take 16 (v := ?_) rfl (by kernel_rfl) (fun _ _ _ h => h) (Or.inl ⟨by rfl, ?_⟩) hS ?_
        rotate_left
        focus (intro W hW; go_simp; try with_reducible rfl)
        simp only [Act.put, List.setIfInBounds_toArray, List.set_cons_zero, List.set_cons_succ]
        refine anyL_take 17 (v := ?_) rfl (by kernel_rfl) (fun _ _ _ h => h) (Or.inl ⟨by rfl, ?_⟩) hS ?_
        rotate_left
        focus (intro W hW; go_simp; try with_reducible rfl)
        simp only [Act.put, List.setIfInBounds_toArray, List.set_cons_zero, List.set_cons_succ]
        refine anyL_take 18 (v := ?_) rfl (by kernel_rfl) (fun _ _ _ h => h) (Or.inl ⟨by rfl, ?_⟩) hS ?_
        rotate_left
        focus (intro W hW; go_simp; try with_reducible rfl)
        simp only [Act.put, List.setIfInBounds_toArray, List.set_cons_zero, List.set_cons_succ]
        refine anyL_take 19 (v := ?_) rfl (by kernel_rfl) (fun _ _ _ h => h) (Or.inl ⟨by rfl, ?_⟩) hS ?_
        rotate_left
        focus (intro W hW; go_simp; try with_reducible rfl)
        simp only [Act.put, List.setIfInBounds_toArray, List.set_cons_zero, List.set_cons_succ]
        refine anyL_take 20 (v := ?_) rfl (by kernel_rfl) (fun _ _ _ h => h) (Or.inl ⟨by rfl, ?_⟩) hS ?_
        rotate_left
        focus (intro W hW; obtain ⟨f0, f1, f2, f3, f4, f5⟩ := hf.out W hW; go_simp; try with_reducible rfl)
        simp only [Act.put, List.setIfInBounds_toArray, List.set_cons_zero, List.set_cons_succ]
        refine anyL_take 21 (v := ?_) rfl (by kernel_rfl) (fun _ _ _ h => h) (Or.inl ⟨by rfl, ?_⟩) hS ?_
        rotate_left
        focus (intro W hW; go_simp; try with_reducible rfl)
        simp only [Act.put, List.setIfInBounds_toArray, List.set_cons_zero, List.set_cons_succ]
        refine anyL_take 22 (v := ?_) rfl (by kernel_rfl) (fun _ _ _ h => h) (Or.inl ⟨by rfl, ?_⟩) hS ?_
        rotate_left
        focus (intro W hW; go_simp; try with_reducible rfl)
        simp only [Act.put, List.setIfInBounds_toArray, List.set_cons_zero, List.set_cons_succ]
        refine anyL_take 23 (v := ?_) rfl (by kernel_rfl) (fun _ _ _ h => h) (Or.inl ⟨by rfl, ?_⟩) hS ?_
        rotate_left
        focus (intro W hW; obtain ⟨f0, f1, f2, f3, f4, f5⟩ := hf.out W hW; go_simp; try with_reducible rfl)
        simp only [Act.put, List.setIfInBounds_toArray, List.set_cons_zero, List.set_cons_succ]
        refine anyL_take 24 (v := ?_) rfl (by kernel_rfl) (fun _ _ _ h => h) (Or.inl ⟨by rfl, ?_⟩) hS ?_
        rotate_left
        focus (intro W hW; go_simp; try with_reducible rfl)
        simp only [Act.put, List.setIfInBounds_toArray, List.set_cons_zero, List.set_cons_succ]
        refine anyL_take 25 (v := ?_) rfl (by kernel_rfl) (fun _ _ _ h => h) (Or.inl ⟨by rfl, ?_⟩) hS ?_
        rotate_left
        focus (intro W hW; go_simp; try with_reducible rfl)
        simp only [Act.put, List.setIfInBounds_toArray, List.set_cons_zero, List.set_cons_succ]
        refine anyL_take 26 (v := ?_) rfl (by kernel_rfl) (fun _ _ _ h => h) (Or.inl ⟨by rfl, ?_⟩) hS ?_
        rotate_left
        focus (intro W hW; go_simp; try with_reducible rfl)
        simp only [Act.put, List.setIfInBounds_toArray, List.set_cons_zero, List.set_cons_succ]
        refine anyL_take 27 (v := ?_) rfl (by kernel_rfl) (fun _ _ _ h => h) (Or.inl ⟨by rfl, ?_⟩) hS ?_
        rotate_left
        focus (intro W hW; go_simp; try with_reducible rfl)
        simp only [Act.put, List.setIfInBounds_toArray, List.set_cons_zero, List.set_cons_succ]
        refine anyL_take 28 (v := ?_) rfl (by kernel_rfl) (fun _ _ _ h => h) (Or.inl ⟨by rfl, ?_⟩) hS ?_
        rotate_left
        focus (intro W hW; go_simp; try with_reducible rfl)
        simp only [Act.put, List.setIfInBounds_toArray, List.set_cons_zero, List.set_cons_succ]
        refine anyC_done (by kernel_rfl) ?_ _
        clear hw1 hw2 hw3 hw4 hw5 hw6 c1
        go_wp2_with fail
        obtain ⟨wo, rfl⟩ : ∃ wo, wo = wr := ⟨_, rfl⟩
        go_loopw [8, 9] (fun v8 i2 W => ∃ j : Nat, j ≤ rm ∧ i2 = .int .i64 (j : Int) ∧ W.ownsRow wo.heap.size 9 1 v8 (bks (cx.take (64 * j))).length (bks (cx.take (64 * j))) ∧ Below wo.heap.size wo W) (fun _ i2 _ => rm - (intOf i2).toNat)
        case atStart => exact ⟨0, by omega, rfl, by rw [Nat.mul_zero, List.take_zero]; exact World.ownsRow_nil _ _ _ _, hS⟩
        case round =>
          clear hS
          obtain ⟨j, hj, rfl, h8, hb8⟩ := hrel
          obtain ⟨f0, f1, f2, f3, f4, f5⟩ := hf.out _ hb8
          by_cases hlt8 : j < rm
          · obtain ⟨g, rfl⟩ : ∃ g, Av = some ⟨g, 0, none⟩ := by
              rcases hvA with ⟨_, h⟩ | ⟨g, h, _⟩
              · omega
              · exact ⟨g, h⟩
            have hjm : j < m6 := by omega
            have hce := hcell.out wr hb8 j hjm g rfl
            have hcx : cx.length = 64 * m6 := by have := hm6H.out; have := hmod.out; omega
            have hstep := data_step [] cx j
            rw [List.nil_append, List.nil_append] at hstep
            have hsn : bks (cx.take (64 * (j + 1))) = bks (cx.take (64 * j)) ++ [Value.string ⟨(blk cx j).toArray⟩] := by
              rw [hstep]
              exact bks_snoc (k := j) (by rw [List.length_take]; omega) (blk_len (by omega))
            have hbl : (bks (cx.take (64 * j))).length ≤ 100000 := by rw [bks_len, List.length_take]; omega
            have hba : Below wr.heap.size wr (wr.alloc (.cells #[.string ⟨(blk cx j).toArray⟩] 9)) := (Below.refl _ _).alloc (Nat.le_refl _) _
            obtain ⟨v9, w9, hrun, hown9, hgr9, _⟩ := blk_append (wr.alloc (.cells #[.string ⟨(blk cx j).toArray⟩] 9)) wo.heap.size 89 _ _ (h8.alloc _) wr.heap.size ⟨(blk cx j).toArray⟩ (by go_simp) hbl (Nat.le_trans hb8.size hba.size)
            rw [← hsn] at hown9
            have hb9 : Below wo.heap.size wo w9 := (hb8.trans (hba.mono hb8.size)).grown hgr9 (Nat.le_trans hb8.size hba.size) (fun q hq => (h8.lt q hq).1)
            have hrunH := Lib.hid hrun
            have hownH := Lib.hid hown9
            have hb9H := Lib.hid hb9
            generalize (⟨(blk cx j).toArray⟩ : ByteArray) = Y at *
            clear hrun hown9 hgr9 hb9 hstep hsn hbl hba h8 hb8 hcx hcell hnx hf
            go_wp2_with (at_builtin; refine append_run_wp rfl (.tmp 67) (.tmp 79) 89 rfl rfl rfl hrunH.out ?_)
            go_roundw
            case rel => exact ⟨j + 1, by omega, by go_num, hownH.out, hb9H.out⟩
            case measure => simp [intOf]; omega
          · obtain rfl : j = rm := by omega
            have hv8 : ∃ A8 n8 cap8, u8 = .slice A8 n8 cap8 := by
              rcases h8.2 with ⟨e, _⟩ | ⟨g, cap2, cur, e, _⟩
              · exact ⟨_, _, _, e⟩
              · exact ⟨_, _, _, e⟩
            obtain ⟨A8, n8, cap8, rfl⟩ := hv8
            obtain ⟨W2, hW2, hown2, hsz2, _⟩ := hnx.out wr wr _ u4 hb8 h8
            have hb2 : Below W2.heap.size W2 (W2.alloc (.cells #[.int .i64 (j : Int)] 3)) := (Below.refl _ _).alloc (Nat.le_refl _) _
            obtain ⟨v9, w9, hrun, hown9, hgr9, hat9⟩ := int_append (W2.alloc (.cells #[.int .i64 (j : Int)] 3)) w.heap.size 31 _ _ (hown2.alloc _) W2.heap.size (j : Int) (by go_simp) (by rw [remV_len]; omega) (Nat.le_trans hsz2 hb2.size)
            obtain ⟨W2', hW2', _, _, hfin⟩ := hnx.out wr w9 _ v9 hb8 h8
            rw [← hW2] at hW2'
            subst hW2'
            have hfinH := Lib.hid (hfin _ hb2 hgr9 hown9 hat9)
            have hW2H := Lib.hid hW2.symm
            have hrunH := Lib.hid hrun
            clear hown2 hsz2 hb2 hrun hown9 hgr9 hat9 hfin hW2 hnx h8 hb8 hcell hf
            go_upto_region 17 with fail
            refine fresh_world (fun X => X = W2') hW2H.out ?_
            rintro _ rfl
            clear hW2H f0 f1 f2 f3 f4 f5
            go_wp2_with (at_builtin; refine append_run_wp rfl (.tmp 96) (.tmp 98) 31 rfl rfl rfl hrunH.out ?_)
            go_roundw
            case rel => exact ⟨k + 1, by omega, by go_num, hfinH.out⟩
            case measure => simp [intOf]; omega
      · have hkl : 0 < ks.length := by omega
        generalize k % ks.length = p at *
        have hx0 : 0 ≤ x := by omega
        have hw3' : x % (df1 : Int) = (kp : Int) := by rw [← hw3]; exact (Int.tmod_eq_emod_of_nonneg hx0).symm
        go_wp2_with fail
        refine region_anyC (fun _ => true) (fun W => Below wr.heap.size wr W) (by kernel_rfl) ?_
        have hS : Below wr.heap.size wr wr.drew := (Below.refl _ _).drew
        refine anyL_take 0 (v := ?_) rfl (by kernel_rfl) (fun _ _ _ h => h) (Or.inl ⟨by rfl, ?_⟩) hS ?_
        rotate_left
        focus (intro W hW; go_simp; try with_reducible rfl)
        simp only [Act.put, List.setIfInBounds_toArray, List.set_cons_zero, List.set_cons_succ]
        refine anyL_take 1 (v := ?_) rfl (by kernel_rfl) (fun _ _ _ h => h) (Or.inl ⟨by rfl, ?_⟩) hS ?_
        rotate_left
        focus (intro W hW; go_simp; try with_reducible rfl)
        simp only [Act.put, List.setIfInBounds_toArray, List.set_cons_zero, List.set_cons_succ]
        refine anyL_take 2 (v := ?_) rfl (by kernel_rfl) (fun _ _ _ h => h) (Or.inl ⟨by rfl, ?_⟩) hS ?_
        rotate_left
        focus (intro W hW; go_simp; try with_reducible rfl)
        simp only [Act.put, List.setIfInBounds_toArray, List.set_cons_zero, List.set_cons_succ]
        refine anyL_take 3 (v := ?_) rfl (by kernel_rfl) (fun _ _ _ h => h) (Or.inl ⟨by rfl, ?_⟩) hS ?_
        rotate_left
        focus (intro W hW; obtain ⟨f0, f1, f2, f3, f4, f5⟩ := hf.out W hW; go_simp; try with_reducible rfl)
        simp only [Act.put, List.setIfInBounds_toArray, List.set_cons_zero, List.set_cons_succ]
        refine anyL_take 4 (v := ?_) rfl (by kernel_rfl) (fun _ _ _ h => h) (Or.inl ⟨by rfl, ?_⟩) hS ?_
        rotate_left
        focus (intro W hW; go_simp; try with_reducible rfl)
        simp only [Act.put, List.setIfInBounds_toArray, List.set_cons_zero, List.set_cons_succ]
        refine anyL_take 5 (v := ?_) rfl (by kernel_rfl) (fun _ _ _ h => h) (Or.inl ⟨by rfl, ?_⟩) hS ?_
        rotate_left
        focus (intro W hW; go_simp; try with_reducible rfl)
        simp only [Act.put, List.setIfInBounds_toArray, List.set_cons_zero, List.set_cons_succ]
        refine anyL_take 6 (v := ?_) rfl (by kernel_rfl) (fun _ _ _ h => h) (Or.inl ⟨by rfl, ?_⟩) hS ?_
        rotate_left
        focus (intro W hW; obtain ⟨f0, f1, f2, f3, f4, f5⟩ := hf.out W hW; go_simp; try with_reducible rfl)
        simp only [Act.put, List.setIfInBounds_toArray, List.set_cons_zero, List.set_cons_succ]
        refine anyL_take 7 (v := ?_) rfl (by kernel_rfl) (fun _ _ _ h => h) (Or.inl ⟨by rfl, ?_⟩) hS ?_
        rotate_left
        focus (intro W hW; go_simp; try with_reducible rfl)
        simp only [Act.put, List.setIfInBounds_toArray, List.set_cons_zero, List.set_cons_succ]
        refine anyL_take 8 (v := ?_) rfl (by kernel_rfl) (fun _ _ _ h => h) (Or.inl ⟨by rfl, ?_⟩) hS ?_
        rotate_left
        focus (intro W hW; go_simp; try with_reducible rfl)
        simp only [Act.put, List.setIfInBounds_toArray, List.set_cons_zero, List.set_cons_succ]
        refine anyL_take 9 (v := ?_) rfl (by kernel_rfl) (fun _ _ _ h => h) (Or.inl ⟨by rfl, ?_⟩) hS ?_
        rotate_left
        focus (intro W hW; go_simp; try with_reducible rfl)
        simp only [Act.put, List.setIfInBounds_toArray, List.set_cons_zero, List.set_cons_succ]
        refine anyL_take 10 (v := ?_) rfl (by kernel_rfl) (fun _ _ _ h => h) (Or.inl ⟨by rfl, ?_⟩) hS ?_
        rotate_left
        focus (intro W hW; go_simp; try with_reducible rfl)
        simp only [Act.put, List.setIfInBounds_toArray, List.set_cons_zero, List.set_cons_succ]
        refine anyL_take 11 (v := ?_) rfl (by kernel_rfl) (fun _ _ _ h => h) (Or.inl ⟨by rfl, ?_⟩) hS ?_
        rotate_left
        focus (intro W hW; obtain ⟨f0, f1, f2, f3, f4, f5⟩ := hf.out W hW; go_simp; try with_reducible rfl)
        simp only [Act.put, List.setIfInBounds_toArray, List.set_cons_zero, List.set_cons_succ]
        refine anyL_take 12 (v := ?_) rfl (by kernel_rfl) (fun _ _ _ h => h) (Or.inl ⟨by rfl, ?_⟩) hS ?_
        rotate_left
        focus (intro W hW; go_simp; try with_reducible rfl)
        simp only [Act.put, List.setIfInBounds_toArray, List.set_cons_zero, List.set_cons_succ]
        refine anyL_take 13 (v := ?_) rfl (by kernel_rfl) (fun _ _ _ h => h) (Or.inl ⟨by rfl, ?_⟩) hS ?_
        rotate_left
        focus (intro W hW; go_simp; try with_reducible rfl)
        simp only [Act.put, List.setIfInBounds_toArray, List.set_cons_zero, List.set_cons_succ]
        refine anyL_take 14 (v := ?_) rfl (by kernel_rfl) (fun _ _ _ h => h) (Or.inl ⟨by rfl, ?_⟩) hS ?_
        rotate_left
        focus (intro W hW; go_simp; try with_reducible rfl)
        simp only [Act.put, List.setIfInBounds_toArray, List.set_cons_zero, List.set_cons_succ]
        refine anyL_take 15 (v := ?_) rfl (by kernel_rfl) (fun _ _ _ h => h) (Or.inl ⟨by rfl, ?_⟩) hS ?_
        rotate_left
        focus (intro W hW; obtain ⟨f0, f1, f2, f3, f4, f5⟩ := hf.out W hW; go_simp; try with_reducible rfl)
        simp only [Act.put, List.setIfInBounds_toArray, List.set_cons_zero, List.set_cons_succ]
        refine anyL_take 16 (v := ?_) rfl (by kernel_rfl) (fun _ _ _ h => h) (Or.inl ⟨by rfl, ?_⟩) hS ?_
        rotate_left
        focus (intro W hW; go_simp; try with_reducible rfl)
        simp only [Act.put, List.setIfInBounds_toArray, List.set_cons_zero, List.set_cons_succ]
        refine anyL_take 17 (v := ?_) rfl (by kernel_rfl) (fun _ _ _ h => h) (Or.inl ⟨by rfl, ?_⟩) hS ?_
        rotate_left
        focus (intro W hW; go_simp; try with_reducible rfl)
        simp only [Act.put, List.setIfInBounds_toArray, List.set_cons_zero, List.set_cons_succ]
        refine anyL_take 18 (v := ?_) rfl (by kernel_rfl) (fun _ _ _ h => h) (Or.inl ⟨by rfl, ?_⟩) hS ?_
        rotate_left
        focus (intro W hW; go_simp; try with_reducible rfl)
        simp only [Act.put, List.setIfInBounds_toArray, List.set_cons_zero, List.set_cons_succ]
        refine anyL_take 19 (v := ?_) rfl (by kernel_rfl) (fun _ _ _ h => h) (Or.inl ⟨by rfl, ?_⟩) hS ?_
        rotate_left
        focus (intro W hW; go_simp; try with_reducible rfl)
        simp only [Act.put, List.setIfInBounds_toArray, List.set_cons_zero, List.set_cons_succ]
        refine anyL_take 20 (v := ?_) rfl (by kernel_rfl) (fun _ _ _ h => h) (Or.inl ⟨by rfl, ?_⟩) hS ?_
        rotate_left
        focus (intro W hW; obtain ⟨f0, f1, f2, f3, f4, f5⟩ := hf.out W hW; go_simp; try with_reducible rfl)
        simp only [Act.put, List.setIfInBounds_toArray, List.set_cons_zero, List.set_cons_succ]
        refine anyL_take 21 (v := ?_) rfl (by kernel_rfl) (fun _ _ _ h => h) (Or.inl ⟨by rfl, ?_⟩) hS ?_
        rotate_left
        focus (intro W hW; go_simp; try with_reducible rfl)
        simp only [Act.put, List.setIfInBounds_toArray, List.set_cons_zero, List.set_cons_succ]
        refine anyL_take 22 (v := ?_) rfl (by kernel_rfl) (fun _ _ _ h => h) (Or.inl ⟨by rfl, ?_⟩) hS ?_
        rotate_left
        focus (intro W hW; go_simp; try with_reducible rfl)
        simp only [Act.put, List.setIfInBounds_toArray, List.set_cons_zero, List.set_cons_succ]
        refine anyL_take 23 (v := ?_) rfl (by kernel_rfl) (fun _ _ _ h => h) (Or.inl ⟨by rfl, ?_⟩) hS ?_
        rotate_left
        focus (intro W hW; obtain ⟨f0, f1, f2, f3, f4, f5⟩ := hf.out W hW; go_simp; try with_reducible rfl)
        simp only [Act.put, List.setIfInBounds_toArray, List.set_cons_zero, List.set_cons_succ]
        refine anyL_take 24 (v := ?_) rfl (by kernel_rfl) (fun _ _ _ h => h) (Or.inl ⟨by rfl, ?_⟩) hS ?_
        rotate_left
        focus (intro W hW; go_simp; try with_reducible rfl)
        simp only [Act.put, List.setIfInBounds_toArray, List.set_cons_zero, List.set_cons_succ]
        refine anyL_take 25 (v := ?_) rfl (by kernel_rfl) (fun _ _ _ h => h) (Or.inl ⟨by rfl, ?_⟩) hS ?_
        rotate_left
        focus (intro W hW; go_simp; try with_reducible rfl)
        simp only [Act.put, List.setIfInBounds_toArray, List.set_cons_zero, List.set_cons_succ]
        refine anyL_take 26 (v := ?_) rfl (by kernel_rfl) (fun _ _ _ h => h) (Or.inl ⟨by rfl, ?_⟩) hS ?_
        rotate_left
        focus (intro W hW; go_simp; try with_reducible rfl)
        simp only [Act.put, List.setIfInBounds_toArray, List.set_cons_zero, List.set_cons_succ]
        refine anyL_take 27 (v := ?_) rfl (by kernel_rfl) (fun _ _ _ h => h) (Or.inl ⟨by rfl, ?_⟩) hS ?_
        rotate_left
        focus (intro W hW; go_simp; try with_reducible rfl)
        simp only [Act.put, List.setIfInBounds_toArray, List.set_cons_zero, List.set_cons_succ]
        refine anyL_take 28 (v := ?_) rfl (by kernel_rfl) (fun _ _ _ h => h) (Or.inl ⟨by rfl, ?_⟩) hS ?_
        rotate_left
        focus (intro W hW; go_simp; try with_reducible rfl)
        simp only [Act.put, List.setIfInBounds_toArray, List.set_cons_zero, List.set_cons_succ]
        refine anyC_done (by kernel_rfl) ?_ _
        clear hw1 hw2 hw3 hw4 hw5 hw6 c1
        go_wp2_with fail
        obtain ⟨wo, rfl⟩ : ∃ wo, wo = wr := ⟨_, rfl⟩
        go_loopw [8, 9] (fun v8 i2 W => ∃ j : Nat, j ≤ rm ∧ i2 = .int .i64 (j : Int) ∧ W.ownsRow wo.heap.size 9 1 v8 (bks (cx.take (64 * j))).length (bks (cx.take (64 * j))) ∧ Below wo.heap.size wo W) (fun _ i2 _ => rm - (intOf i2).toNat)
        case atStart => exact ⟨0, by omega, rfl, by rw [Nat.mul_zero, List.take_zero]; exact World.ownsRow_nil _ _ _ _, hS⟩
        case round =>
          clear hS
          obtain ⟨j, hj, rfl, h8, hb8⟩ := hrel
          obtain ⟨f0, f1, f2, f3, f4, f5⟩ := hf.out _ hb8
          by_cases hlt8 : j < rm
          · obtain ⟨g, rfl⟩ : ∃ g, Av = some ⟨g, 0, none⟩ := by
              rcases hvA with ⟨_, h⟩ | ⟨g, h, _⟩
              · omega
              · exact ⟨g, h⟩
            have hjm : j < m6 := by omega
            have hce := hcell.out wr hb8 j hjm g rfl
            have hcx : cx.length = 64 * m6 := by have := hm6H.out; have := hmod.out; omega
            have hstep := data_step [] cx j
            rw [List.nil_append, List.nil_append] at hstep
            have hsn : bks (cx.take (64 * (j + 1))) = bks (cx.take (64 * j)) ++ [Value.string ⟨(blk cx j).toArray⟩] := by
              rw [hstep]
              exact bks_snoc (k := j) (by rw [List.length_take]; omega) (blk_len (by omega))
            have hbl : (bks (cx.take (64 * j))).length ≤ 100000 := by rw [bks_len, List.length_take]; omega
            have hba : Below wr.heap.size wr (wr.alloc (.cells #[.string ⟨(blk cx j).toArray⟩] 9)) := (Below.refl _ _).alloc (Nat.le_refl _) _
            obtain ⟨v9, w9, hrun, hown9, hgr9, _⟩ := blk_append (wr.alloc (.cells #[.string ⟨(blk cx j).toArray⟩] 9)) wo.heap.size 89 _ _ (h8.alloc _) wr.heap.size ⟨(blk cx j).toArray⟩ (by go_simp) hbl (Nat.le_trans hb8.size hba.size)
            rw [← hsn] at hown9
            have hb9 : Below wo.heap.size wo w9 := (hb8.trans (hba.mono hb8.size)).grown hgr9 (Nat.le_trans hb8.size hba.size) (fun q hq => (h8.lt q hq).1)
            have hrunH := Lib.hid hrun
            have hownH := Lib.hid hown9
            have hb9H := Lib.hid hb9
            generalize (⟨(blk cx j).toArray⟩ : ByteArray) = Y at *
            clear hrun hown9 hgr9 hb9 hstep hsn hbl hba h8 hb8 hcx hcell hnx hf
            go_wp2_with (at_builtin; refine append_run_wp rfl (.tmp 67) (.tmp 79) 89 rfl rfl rfl hrunH.out ?_)
            go_roundw
            case rel => exact ⟨j + 1, by omega, by go_num, hownH.out, hb9H.out⟩
            case measure => simp [intOf]; omega
          · obtain rfl : j = rm := by omega
            have hv8 : ∃ A8 n8 cap8, u8 = .slice A8 n8 cap8 := by
              rcases h8.2 with ⟨e, _⟩ | ⟨g, cap2, cur, e, _⟩
              · exact ⟨_, _, _, e⟩
              · exact ⟨_, _, _, e⟩
            obtain ⟨A8, n8, cap8, rfl⟩ := hv8
            obtain ⟨W2, hW2, hown2, hsz2, _⟩ := hnx.out wr wr _ u4 hb8 h8
            have hb2 : Below W2.heap.size W2 (W2.alloc (.cells #[.int .i64 (j : Int)] 3)) := (Below.refl _ _).alloc (Nat.le_refl _) _
            obtain ⟨v9, w9, hrun, hown9, hgr9, hat9⟩ := int_append (W2.alloc (.cells #[.int .i64 (j : Int)] 3)) w.heap.size 31 _ _ (hown2.alloc _) W2.heap.size (j : Int) (by go_simp) (by rw [remV_len]; omega) (Nat.le_trans hsz2 hb2.size)
            obtain ⟨W2', hW2', _, _, hfin⟩ := hnx.out wr w9 _ v9 hb8 h8
            rw [← hW2] at hW2'
            subst hW2'
            have hfinH := Lib.hid (hfin _ hb2 hgr9 hown9 hat9)
            have hW2H := Lib.hid hW2.symm
            have hrunH := Lib.hid hrun
            clear hown2 hsz2 hb2 hrun hown9 hgr9 hat9 hfin hW2 hnx h8 hb8 hcell hf
            go_upto_region 17 with fail
            refine fresh_world (fun X => X = W2') hW2H.out ?_
            rintro _ rfl
            clear hW2H f0 f1 f2 f3 f4 f5
            go_wp2_with (at_builtin; refine append_run_wp rfl (.tmp 96) (.tmp 98) 31 rfl rfl rfl hrunH.out ?_)
            go_roundw
            case rel => exact ⟨k + 1, by omega, by go_num, hfinH.out⟩
            case measure => simp [intOf]; omega
    · obtain rfl : k = D.cs.length := by omega
      obtain ⟨A2, cap2, rfl, hI2, hA2⟩ := own_ints (zs := remI D ks D.cs.length) (by have h := hown; rw [remV_len] at h; rw [remI_len]; exact h)
      have c0 := hL.c0
      have hlo := Lib.hid (hlost.out wr E cap2 A2 hL hI2 (fun h b off e => fun e' => hF3 b (hA2 h b off e) (e' ▸ hIn.z)))
      have hLH := Lib.hid hL
      have hInH := Lib.hid hIn
      have hF1H := Lib.hid hF1
      have htH := Lib.hid ht
      clear hL hIn hF1 hF2 hF3 hown ht hlost hI2 hA2 hlm
      go_wp2_with fail
      refine hlo.out.mono ?_
      rintro e w9 ⟨rfl, hM9, ho9⟩
      go_wp2_with fail
      go_end0
      have h9 := hLH.out.machine ho9 hM9
      have hin9 : RLies.In F' d E (loseD D ks).cs.length := by
        show RLies.In F' d E (loseTo D ks D.cs.length).cs.length
        rw [(loseTo_m D ks D.cs.length).2.2.1]
        exact hInH.out
      have hres : ({ loseTo D ks D.cs.length with m := D.m.with (lost D.m (remI D ks D.cs.length)) } : Dr) = loseD D ks := by
        unfold loseD
        rw [remI_all D ks hlenH.out]
      rw [hres] at h9
      exact ⟨rfl, ⟨F', ⟨E, h9, hin9⟩, hF1H.out⟩, htH.out.trans' (Turn.of_only (F := F') ho9 hInH.out.z) hF1H.out⟩
end Go.Proofs.Ytncbkegflkjlfaa
