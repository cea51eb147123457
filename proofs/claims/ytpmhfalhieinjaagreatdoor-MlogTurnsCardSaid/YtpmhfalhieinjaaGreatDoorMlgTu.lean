/- The log of the law MlogTurns: its calls, round by round. -/
import Derived.Test.YtpmhfalhieinjaaGreatDoorMlgT
namespace Go.Proofs.YtpmhfalhieinjaaGreatDoor
open Go.RowKit Zon Drv Rec Crc

/-- Behind so many rounds. -/
structure TnS (wb W : World) (r : Nat) (d : Nat → Nat) (p k : Nat) (want u : Int) : Prop where
  ex : ∃ K G L base, LS wb W K r 1 1 d G p L ∧ GL 1 24 G ∧ LOn 24 G L base [] ∧ L.i = 0 ∧ L.g = want ∧ (L.z : Int) = (want + 1) % 2 ∧ L.u = u ∧ 0 ≤ G.s.cnt ∧ G.s.cnt ≤ 4 + 3 * k
  w1 : 1 ≤ want ∧ want ≤ k + 1
section
variable {wb W W' : World} {r p k : Nat} {d : Nat → Nat} {want u : Int}
theorem TnS.grown (h : TnS wb W r d p k want u) (hb : Below W.heap.size W W') : TnS wb W' r d p k want u := by
  obtain ⟨⟨K, G, L, base, h1, h2⟩, h3⟩ := h
  exact ⟨⟨K, G, L, base, h1.grown hb, h2⟩, h3⟩
theorem TnS.b (h : TnS wb W r d p k want u) : Below wb.heap.size wb W := by
  obtain ⟨⟨K, G, L, base, h1, h2⟩, h3⟩ := h
  exact h1.R.fam.b
theorem TnS.more (h : TnS wb W r d p k want u) : TnS wb W r d p (k + 1) want u := by
  obtain ⟨⟨K, G, L, base, h1, h2, h3, h4, h5, h6, h7, h8, h9⟩, h10⟩ := h
  exact ⟨⟨K, G, L, base, h1, h2, h3, h4, h5, h6, h7, h8, by omega⟩, by omega⟩
theorem tn_left (h : TnS wb W r d p k want u) : Calls Tryz.prog 14 #[.pointer (some ⟨p, 0, none⟩)] W fun e w' => e = .returned (.int .i64 (24 - u)) ∧ ∃ q, w' = W.drewN q := by
  obtain ⟨⟨K, G, L, base, h1, h2, h3, h4, h5, h6, h7, h8, h9⟩, h10⟩ := h
  have hu := h3.u
  have hub := h3.ub
  have h := left_q h1.l h1.R (by rw [h2.bl]; omega) (by omega)
  unfold leftP at h
  rw [if_neg (by rw [h3.t]; decide), h2.bl, h7] at h
  exact h
theorem tn_where (h : TnS wb W r d p k want u) : Calls Tryz.prog 11 #[.pointer (some ⟨p, 0, none⟩)] W fun e w' => e = .returned (.tuple #[.int .i64 ((want + 1) % 2), .int .i64 want]) ∧ Below W.heap.size W w' := by
  obtain ⟨⟨K, G, L, base, h1, h2, h3, h4, h5, h6, h7, h8, h9⟩, h10⟩ := h
  have h := where_any h1.l
  rw [h5, h6] at h
  exact h
theorem tn_roll (h : TnS wb W r d p k want u) (hT : Tab wb) (hk : k ≤ 1000) {A : Option Addr} {cap : Nat} {rs : List Rc} (hr : rs.all okM = true) (hb : blk rs = rs.length) (hl : rs.length ≤ 22) (hI : RecsIn W A rs) :
    Calls Tryz.prog 13 #[.pointer (some ⟨p, 0, none⟩), .slice A rs.length cap] W fun e w' => e = .returned (.int .i64 0) ∧ TnS wb w' r d p (k + 1) (want + 1) ((rs.length : Int) + 2) := by
  obtain ⟨⟨K, G, L, base, h1, h2, h3, h4, h5, h6, h7, h8, h9⟩, h10⟩ := h
  have hbl : (blk (begL (L.g + 1) rs) : Int) = (rs.length : Int) + 2 := by rw [begL_blk, hb]; omega
  obtain ⟨G', f1, f2, f3, f4, f5⟩ := rl_on h2 (by omega) h3 hr (by omega) (by omega)
  have h := mroll_any A cap rs h1 (h2.rg h8 (c := 4 + 3 * k) h9) (by omega) hT hI (by omega) (by omega) (by have := h3.hz; omega) (by omega)
  rw [f1] at h
  refine h.mono fun e w' ⟨e1, K', k1, hS, _⟩ => ⟨e1, ⟨K', G', _, rs, hS, f2, f4, h4, by show L.g + 1 = _; omega, ?_, hbl, by omega, by omega⟩, by omega⟩
  show ((1 - L.z : Nat) : Int) = _
  have := h3.hz
  omega
theorem tn_full (h : TnS wb W r d p k want u) (hT : Tab wb) (hk : k ≤ 1000) {A : Option Addr} {cap : Nat} {rs : List Rc} (hr : rs.all okM = true) (hb : blk rs = rs.length) (hl : ¬ rs.length ≤ 22) (hl2 : rs.length ≤ 100) (hI : RecsIn W A rs) :
    Calls Tryz.prog 13 #[.pointer (some ⟨p, 0, none⟩), .slice A rs.length cap] W fun e w' => e = .returned (.int .i64 4) ∧ TnS wb w' r d p (k + 1) want u := by
  obtain ⟨⟨K, G, L, base, h1, h2, h3, h4, h5, h6, h7, h8, h9⟩, h10⟩ := h
  have hbl : (blk (begL (L.g + 1) rs) : Int) = (rs.length : Int) + 2 := by rw [begL_blk, hb]; omega
  have h := mroll_any A cap rs h1 (h2.rg h8 (c := 4 + 3 * k) h9) (by omega) hT hI (by omega) (by omega) (by have := h3.hz; omega) (by omega)
  have hp : rlP 1 G L rs = (4, G, L) := by
    unfold rlP
    rw [if_pos hr, if_neg (by rw [h2.bl]; omega)]
  rw [hp] at h
  exact h.mono fun e w' ⟨e1, K', k1, hS, _⟩ => ⟨e1, ⟨K', G, L, base, hS, h2, h3, h4, h5, h6, h7, h8, by omega⟩, by omega⟩
theorem tn_open (h : TnS wb W r d p k want u) (hT : Tab wb) (hk : k ≤ 1000) :
    Calls Tryz.prog 9 #[.pointer (some ⟨r, 0, none⟩), .int .i64 0] W fun e w' => ∃ p2 A n cap, e = .returned (.tuple #[.pointer (some ⟨p2, 0, none⟩), .slice A n cap, .int .i64 0]) ∧ TnS wb w' r d p k want u ∧ TnS wb w' r d p2 k want u := by
  obtain ⟨⟨K, G, L, base, h1, h2, h3, h4, h5, h6, h7, h8, h9⟩, h10⟩ := h
  have h := mopen_any 0 h1.R (h2.rg h8 (c := 4 + 3 * k) h9) (by omega) (by omega) h2.off (h2.d 0 (by omega)).two hT
  unfold OpPost at h
  refine h.mono ?_
  rintro e w' ⟨o, K', lv, rv, hsl, k1, hR, hs, hO, rfl⟩
  have h3' : LOn 24 G L base [] := h3
  rw [← h4] at hsl
  obtain rfl := sel_log h3' hsl
  obtain ⟨p2, A, cap, rfl, rfl, hl2, hp2, hn2, hg2, _, _⟩ := hO
  exact ⟨p2, A, _, cap, rfl, ⟨⟨K', G, L, base, ⟨hR, h1.l.sameK hs ⟨h1.k, h1.ne⟩, k1 _ h1.k, h1.ne, h1.ge, h1.n0⟩, h2, h3, h4, h5, h6, h7, h8, h9⟩, h10⟩, ⟨⟨K', G, L, base, ⟨hR, hl2, hp2, hn2, hg2, by omega⟩, h2, h3, h4, h5, h6, h7, h8, h9⟩, h10⟩⟩
theorem tn_format (hT : Tab wb) {K : Nat → Prop} (hR : Rig wb W K r 1 1 d (mdG 24).D (mdG 24).s) :
    Calls Tryz.prog 8 #[.pointer (some ⟨r, 0, none⟩), .int .i64 0, .slice none 0 0] W fun e w' => ∃ p, e = .returned (.tuple #[.pointer (some ⟨p, 0, none⟩), .int .i64 0]) ∧ TnS wb w' r d p 0 1 2 := by
  have hbk : (blk (begL 1 []) : Int) = 2 := by decide
  have hG := mdG_on 1 (b := 24) (by omega)
  obtain ⟨G', f1, f2, f3, f4, f5, -, -⟩ := fm_on hG (i := 0) (by omega) (rs := []) rfl (by omega)
  have h := format_ok 0 none 0 [] hR (hG.rg (by decide) (c := 0) (by decide)) (by omega) (by omega) (by omega) ⟨rfl, by show (blk (begL 1 []) : Int) ≤ 24; omega⟩ f1 (by rw [f2]) hT (.inl rfl) (by decide)
  rw [f2] at h
  rw [hbk] at h f5
  have h4 : G'.s.cnt = 4 := f4
  unfold FPost at h
  refine h.mono ?_
  rintro e w' ⟨p, K', rfl, _, hS, _, _⟩
  exact ⟨p, rfl, ⟨⟨K', G', _, [], hS, f3, f5, rfl, rfl, rfl, rfl, by omega, by omega⟩, by omega⟩⟩
end
/-- The records of a round. -/
def turnR (a : Nat) : Rc := ⟨3, 0, (a : Int), 0, 0, 0, ⟨#[]⟩⟩
def turnL (m : Nat) : List Rc := (List.range m).map turnR
theorem turnL_len (m : Nat) : (turnL m).length = m := by unfold turnL; simp
theorem turnL_succ (m : Nat) : turnL (m + 1) = turnL m ++ [turnR m] := by unfold turnL; rw [List.range_succ, List.map_append]; rfl
theorem turnR_ok {a : Nat} (ha : a < 32) : okM (turnR a) = true := by
  unfold okM
  have h1 : good (turnR a) = true := good_iff.2 ⟨⟨by show 1 ≤ (3 : Int) ∧ (3 : Int) ≤ 6; omega, by show (0 : Int) ≤ 0 ∧ (0 : Int) ≤ 1099511627776; omega, by show (0 : Int) ≤ (a : Int) ∧ (a : Int) ≤ 65535; omega, by show (0 : Int) ≤ 0 ∧ (0 : Int) ≤ 65535; omega, by show (0 : Int) ≤ 0 ∧ (0 : Int) ≤ 1099511627776; omega, by show (0 : Int) ≤ 0 ∧ (0 : Int) ≤ 65535; omega⟩, by show 0 = (nBlocks 3 - 1) * 64; decide⟩
  have h2 : isMk (turnR a) = false := decide_eq_false (fun h => by have h' : (3 : Int) = 1 ∨ (3 : Int) = 2 := h; omega)
  rw [h1, h2]
  rfl
theorem turnL_ok {m : Nat} (hm : m ≤ 32) : (turnL m).all okM = true := by
  rw [List.all_eq_true]
  intro x hx
  unfold turnL at hx
  obtain ⟨a, ha, rfl⟩ := List.mem_map.1 hx
  exact turnR_ok (by have := List.mem_range.1 ha; omega)
theorem turnL_blk : ∀ m, blk (turnL m) = (turnL m).length
  | 0 => rfl
  | m + 1 => by
    rw [turnL_succ, blk_append, turnL_blk m, List.length_append]
    rfl
end Go.Proofs.YtpmhfalhieinjaaGreatDoor
