/- What the law MlogTorn does: behind the loss of power. -/
import Derived.Test.YtpmhfalhieinjaaGreatDoorMlgU
namespace Go.Proofs.YtpmhfalhieinjaaGreatDoor
open Go.RowKit Zon Drv Rec Crc

section
variable {wb W W' : World} {r p la : Nat} {d : Nat → Nat} {more : List Rc} {c : Int} {A : Option Addr} {P : Rc}
theorem TfS.whole' (h : TfS wb W r d p A more P 0 c) (hok : more.all okM = true) (hP : okM P = true) (hl : 2 + blk more ≤ 24) : ∃ la, TrS wb W r d p more la c := ⟨_, h.whole hok hP hl⟩
theorem tr_left (h : TrS wb W r d p more la c) : Calls Tryz.prog 14 #[.pointer (some ⟨p, 0, none⟩)] W fun e w' => e = .returned (.int .i64 (22 - (blk more : Int))) ∧ ∃ q, w' = W.drewN q := by
  obtain ⟨K, G, h1, h2, h3, h4, h5, h6, h7⟩ := h
  have hu : (Lm more).u = ((2 + blk more : Nat) : Int) := by show ((blk (begL 1 [] ++ more) : Nat) : Int) = _; rw [Lm_blk]
  have hub := h3.ub
  have h := left_q h1.l h1.R (by rw [h2.bl]; omega) (by omega)
  unfold leftP at h
  rw [if_neg (by show ¬ false = true; decide), h2.bl, hu, show (24 : Int) - ((2 + blk more : Nat) : Int) = 22 - (blk more : Int) by omega] at h
  exact h
theorem Lt_torn (n : Nat) : (Lt n 1).t = true := by unfold Lt; exact decide_eq_true (by omega)
theorem tf_left (h : TfS wb W r d p A more P 1 c) (hl : blk more ≤ 100) : Calls Tryz.prog 14 #[.pointer (some ⟨p, 0, none⟩)] W fun e w' => e = .returned (.int .i64 0) ∧ ∃ q, w' = W.drewN q := by
  obtain ⟨K, G, h1, h2, h3, h4, h6, h7, _⟩ := h
  have h := left_q h1.l h1.R (by rw [h2.bl]; omega) (by show 0 ≤ ((2 + blk more + 1 : Nat) : Int) ∧ ((2 + blk more + 1 : Nat) : Int) ≤ 1000000; omega)
  unfold leftP at h
  rw [if_pos (Lt_torn _)] at h
  exact h
theorem tf_append (h : TfS wb W r d p A more P 1 c) (hT : Tab wb) (hc : c ≤ 1000) (hl : blk more ≤ 100) {x : Rc} (hx : okM x = true) :
    Calls Tryz.prog 12 #[.pointer (some ⟨p, 0, none⟩), .agg #[.int .i64 x.k, .int .i64 x.s, .int .i64 x.a, .int .i64 x.b, .int .i64 x.c, .int .i64 x.d, .string x.body]] W fun e w' => e = .returned (.int .i64 4) ∧ TfS wb w' r d p A more P 1 c := by
  obtain ⟨K, G, h1, h2, h3, h4, h6, h7, hI, hA⟩ := h
  have hnb := nBlocks_pos (okM_good hx).1.1
  have h := mappend_any x h1 (h2.rg h6 h7) (by omega) hT (by show 0 < 1; omega) (by rw [h2.bl]; omega) (by show 0 ≤ ((2 + blk more + 1 : Nat) : Int) ∧ ((2 + blk more + 1 : Nat) : Int) ≤ 1000000; omega)
  have hp : apP 1 G (Lt (blk more) 1) x = (4, G, Lt (blk more) 1) := by
    unfold apP leftP
    rw [if_pos hx, if_pos (Lt_torn _), if_pos (by omega)]
  rw [hp] at h
  refine h.mono ?_
  rintro e w' ⟨e1, K', k1, hS, hs⟩
  exact ⟨e1, K', G, hS, h2, h3, h4, h6, h7, hI.sameK hs (fun b off e => ⟨⟨(hA b off e).1, (hA b off e).2.1⟩, (hA b off e).2.2⟩), fun b off e => ⟨k1 _ (hA b off e).1, (hA b off e).2⟩⟩
theorem TfS.grown {x : Nat} (h : TfS wb W r d p A more P x c) (hb : Below W.heap.size W W') : TfS wb W' r d p A more P x c := by
  obtain ⟨K, G, h1, h2, h3, h4, h6, h7, hI, hA⟩ := h
  exact ⟨K, G, h1.grown hb, h2, h3, h4, h6, h7, hI.below hb, hA⟩
/-- A log that was begun anew. -/
structure TgS (wb W : World) (r : Nat) (d : Nat → Nat) (p : Nat) (n : Nat) (c : Int) : Prop where
  ex : ∃ K G L base, LS wb W K r 1 1 d G p L ∧ GL 1 24 G ∧ LOn 24 G L base [] ∧ L.i = 0 ∧ L.u = ((2 + n : Nat) : Int) ∧ 0 ≤ G.s.cnt ∧ G.s.cnt ≤ c
theorem tf_roll (h : TfS wb W r d p A more P 1 c) (hT : Tab wb) (hc : c ≤ 1000) (hok : more.all okM = true) (hP : okM P = true) (hk : nBlocks P.k = 2) (hl : 2 + blk more ≤ 20) (hln : more.length ≤ 1000) (cap : Nat) :
    Calls Tryz.prog 13 #[.pointer (some ⟨p, 0, none⟩), .slice A more.length cap] W fun e w' => e = .returned (.int .i64 0) ∧ TgS wb w' r d p (blk more) (c + 3) := by
  obtain ⟨K, G, h1, h2, h3, h4, h6, h7, hI, hA⟩ := h
  have h := mroll_any A cap more h1 (h2.rg h6 h7) (by omega) hT hI (by omega) (by show 0 < 1; omega) (by show 0 ≤ 1; omega) (by show (0 : Int) ≤ 1 ∧ (1 : Int) < 1099511627776; omega)
  have hbl : (blk (begL 2 more) : Int) = ((2 + blk more : Nat) : Int) := by rw [begL_blk]; omega
  obtain ⟨G2, b1, b2, b3, b4, b5, b6⟩ := bgP_on h2 (i := 0) (by omega) (z := 1) (by omega) (begT_size (g := 2) (rs := more) (by omega) hok) (by rw [begL_blk]; omega) (by rw [hbl]; omega)
  have hp : rlP 1 G (Lt (blk more) 1) more = (0, G2, ⟨0, 1, 2, blk (begL 2 more), false⟩) := by
    unfold rlP
    have e1 : (Lt (blk more) 1).g + 1 = 2 := by show (1 : Int) + 1 = 2; rfl
    have b1' : bgP 1 G (Lt (blk more) 1).i ((1 - (Lt (blk more) 1).z : Nat) : Int) (begT 2 more) = (0, G2) := b1
    rw [if_pos hok, e1, if_pos (by rw [h2.bl, hbl]; omega), b1']
    simp
    exact ⟨rfl, rfl⟩
  rw [hp] at h
  have hokp : (more ++ [P]).all okM = true := by rw [List.all_append, hok]; simp [hP]
  refine h.mono ?_
  rintro e w' ⟨e1, K', k1, hS, _⟩
  refine ⟨e1, K', G2, _, more, hS, b2, ⟨by show 1 < 2; omega, by show 1 ≤ (2 : Int) ∧ (2 : Int) ≤ 1099511627776; omega, ?_, by show ((blk (begL 2 more) : Nat) : Int) = _; rw [List.append_nil], by show (blk (begL 2 more) : Int) ≤ 24; rw [hbl]; omega, rfl, hok, rfl, fun l n hs => .inr ⟨1, ?_, by show (1 : Int) < 2; omega⟩⟩, rfl, hbl, by omega, by omega⟩
  · show (G2.D 0).c 1 = _
    rw [b4 1, if_pos rfl, List.append_nil]
    rfl
  · have hs' : Scans (txtZ G2 0 0) l n := hs
    have hc0 : (G2.D 0).c 0 = (G.D 0).c 0 := by rw [b4 0, if_neg (by omega)]
    have hg := log_good (g := 1) (base := []) (more := more ++ [P]) (by omega) rfl hokp
    have hbq : blk (begL 1 [] ++ (more ++ [P])) = 2 + blk more + 2 := by
      rw [Lm_blk, blk_append]
      show 2 + (blk more + (nBlocks P.k + 0)) = _
      omega
    have htk : (begL 1 [] ++ (more ++ [P])).take (2 + more.length) = begL 1 [] ++ more := by
      rw [← List.append_assoc]
      have : (begL 1 [] ++ more).length = 2 + more.length := by rw [List.length_append]; rfl
      rw [List.take_append_of_le_length (by omega), List.take_of_length_le (by omega)]
    have hln2 : (begL 1 [] ++ (more ++ [P])).length = 2 + more.length + 1 := by rw [List.length_append, List.length_append]; show 2 + (more.length + 1) = _; omega
    have hsc : Scans (txtZ G2 0 0) (begL 1 [] ++ more) (blk (begL 1 [] ++ more)) := by
      have h := scan_cat (begL 1 [] ++ (more ++ [P])) (2 + more.length) (64 * (2 + blk more + 1)) (txtZ G2 0 0) hg (by omega) (by rw [htk, Lm_blk]; omega) (fun _ => by
        rw [List.take_of_length_le (by omega), hbq]; omega) (fun h => by omega) (hc0.trans h3)
      rw [htk] at h
      exact h
    obtain ⟨rfl, _⟩ := hs'.uniq hsc
    exact parP_log (g := 1) [] more
theorem tg_append {n : Nat} (h : TgS wb W r d p n c) (hT : Tab wb) (hc : c ≤ 1000) (hl : n ≤ 20) {x : Rc} (hx : okM x = true) (hk : nBlocks x.k = 1) :
    Calls Tryz.prog 12 #[.pointer (some ⟨p, 0, none⟩), .agg #[.int .i64 x.k, .int .i64 x.s, .int .i64 x.a, .int .i64 x.b, .int .i64 x.c, .int .i64 x.d, .string x.body]] W fun e w' => e = .returned (.int .i64 0) ∧ Below wb.heap.size wb w' := by
  obtain ⟨K, G, L, base, h1, h2, h3, hi, hu, h6, h7⟩ := h
  obtain ⟨G', f1, f2, f3, f4, f5, f6⟩ := ap_on h2 (L := L) (by omega) h3 hx (by rw [hu, hk]; omega)
  have h := mappend_any x h1 (h2.rg h6 h7) (by omega) hT (by omega) (by rw [h2.bl]; omega) (by omega)
  rw [f1] at h
  refine h.mono ?_
  rintro e w' ⟨e1, K', k1, hS, _⟩
  exact ⟨e1, hS.R.fam.b⟩
end
/-- The records of the law. -/
def tornR (a : Nat) : Rc := ⟨3, (a : Int), 0, 0, 0, 0, ⟨#[]⟩⟩
def tornL (m : Nat) : List Rc := (List.range m).map tornR
theorem tornL_len (m : Nat) : (tornL m).length = m := by unfold tornL; simp
theorem tornL_succ (m : Nat) : tornL (m + 1) = tornL m ++ [tornR m] := by unfold tornL; rw [List.range_succ, List.map_append]; rfl
theorem tornR_ok {a : Nat} (ha : a < 32) : okM (tornR a) = true := by
  unfold okM
  have h1 : good (tornR a) = true := good_iff.2 ⟨⟨by show 1 ≤ (3 : Int) ∧ (3 : Int) ≤ 6; omega, by show (0 : Int) ≤ (a : Int) ∧ (a : Int) ≤ 1099511627776; omega, by show (0 : Int) ≤ 0 ∧ (0 : Int) ≤ 65535; omega, by show (0 : Int) ≤ 0 ∧ (0 : Int) ≤ 65535; omega, by show (0 : Int) ≤ 0 ∧ (0 : Int) ≤ 1099511627776; omega, by show (0 : Int) ≤ 0 ∧ (0 : Int) ≤ 65535; omega⟩, by show 0 = (nBlocks 3 - 1) * 64; decide⟩
  have h2 : isMk (tornR a) = false := decide_eq_false (fun h => by have h' : (3 : Int) = 1 ∨ (3 : Int) = 2 := h; omega)
  rw [h1, h2]
  rfl
theorem tornL_ok {m : Nat} (hm : m ≤ 32) : (tornL m).all okM = true := by
  rw [List.all_eq_true]
  intro x hx
  unfold tornL at hx
  obtain ⟨a, ha, rfl⟩ := List.mem_map.1 hx
  exact tornR_ok (by have := List.mem_range.1 ha; omega)
theorem tornL_blk : ∀ m, blk (tornL m) = m
  | 0 => rfl
  | m + 1 => by
    rw [tornL_succ, blk_append, tornL_blk m]
    rfl
def parR : Rc := ⟨4, 0, 0, 0, 0, 0, zeroB 64⟩
theorem parR_ok : okM parR = true := by
  unfold okM
  have h1 : good parR = true := good_iff.2 ⟨⟨by show 1 ≤ (4 : Int) ∧ (4 : Int) ≤ 6; omega, by show (0 : Int) ≤ 0 ∧ (0 : Int) ≤ 1099511627776; omega, by show (0 : Int) ≤ 0 ∧ (0 : Int) ≤ 65535; omega, by show (0 : Int) ≤ 0 ∧ (0 : Int) ≤ 65535; omega, by show (0 : Int) ≤ 0 ∧ (0 : Int) ≤ 1099511627776; omega, by show (0 : Int) ≤ 0 ∧ (0 : Int) ≤ 65535; omega⟩, by show (zeroB 64).size = (nBlocks 4 - 1) * 64; rw [zeroB_size]; decide⟩
  have h2 : isMk parR = false := decide_eq_false (fun h => by have h' : (4 : Int) = 1 ∨ (4 : Int) = 2 := h; omega)
  rw [h1, h2]
  rfl
end Go.Proofs.YtpmhfalhieinjaaGreatDoor
