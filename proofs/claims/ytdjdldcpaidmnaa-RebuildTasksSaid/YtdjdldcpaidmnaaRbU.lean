/- What begins a rebuilding, what comes next, and what says that it is done, plainly. -/
import Derived.Test.YtdjdldcpaidmnaaRbB
namespace Go.Proofs.Ytdjdldcpaidmnaa
open Go.RowKit Rec Bk Rb
namespace Rb
/-- The book behind a beginning. -/
def begB (b : Bo) (D : Int) (s : Nat) : Bo := ⟨b.q + 2, b.zs, b.ms.set s D, s, 2⟩
theorem note_cur (b : Bo) (q a c : Int) (h : a ≠ 65535) (hq : b.q ≤ q) : noteB b ⟨6, q, a, c, 0, 0, ⟨#[]⟩⟩ = ⟨q, b.zs, b.ms, a, c⟩ := by
  unfold noteB takeB
  rw [if_neg (by rintro ⟨h, _⟩; exact absurd (show (6 : Int) = 3 from h) (by decide)), if_neg (by rintro ⟨h, _⟩; exact absurd (show (6 : Int) = 5 from h) (by decide)), if_pos rfl]
  show (⟨max b.q q, b.zs, b.ms, if a = 65535 then -1 else a, c⟩ : Bo) = _
  rw [if_neg h, show max b.q q = q by omega]
theorem note_end (b : Bo) (q : Int) (hq : b.q ≤ q) : noteB b ⟨6, q, 65535, 0, 0, 0, ⟨#[]⟩⟩ = ⟨q, b.zs, b.ms, -1, 0⟩ := by
  unfold noteB takeB
  rw [if_neg (by rintro ⟨h, _⟩; exact absurd (show (6 : Int) = 3 from h) (by decide)), if_neg (by rintro ⟨h, _⟩; exact absurd (show (6 : Int) = 5 from h) (by decide)), if_pos rfl]
  show (⟨max b.q q, b.zs, b.ms, if (65535 : Int) = 65535 then -1 else 65535, 0⟩ : Bo) = _
  rw [if_pos rfl, show max b.q q = q by omega]
theorem note_mem (b : Bo) (q d : Int) (s : Nat) (hs : s < b.ms.length) (hq : b.q ≤ q) : noteB b ⟨5, q, (s : Int), d, 0, 0, ⟨#[]⟩⟩ = ⟨q, b.zs, b.ms.set s d, b.sl, b.cu⟩ := by
  unfold noteB takeB
  rw [if_neg (by rintro ⟨h, _⟩; exact absurd (show (5 : Int) = 3 from h) (by decide)), if_pos ⟨rfl, Int.natCast_nonneg _, Int.ofNat_lt.2 hs⟩]
  show (⟨max b.q q, b.zs, b.ms.set ((s : Int)).toNat d, b.sl, b.cu⟩ : Bo) = _
  rw [show max b.q q = q by omega, Int.toNat_natCast]
theorem stB_one (b : Bo) (D : Int) (s : Nat) (hs : s < 1000) : stB b (begXs D s) 1 = ⟨b.q + 1, b.zs, b.ms, s, 2⟩ := by
  show noteB b ⟨6, b.q + 1, (s : Int), 2, 0, 0, ⟨#[]⟩⟩ = _
  exact note_cur b (b.q + 1) s 2 (by omega) (by omega)
theorem stB_two (b : Bo) (D : Int) (s : Nat) (hs : s < b.ms.length) (hs2 : s < 1000) : stB b (begXs D s) 2 = begB b D s := by
  show noteB (stB b (begXs D s) 1) ⟨5, (stB b (begXs D s) 1).q + 1, (s : Int), D, 0, 0, ⟨#[]⟩⟩ = _
  rw [stB_one b D s hs2]
  show noteB ⟨b.q + 1, b.zs, b.ms, s, 2⟩ ⟨5, b.q + 1 + 1, (s : Int), D, 0, 0, ⟨#[]⟩⟩ = _
  refine (note_mem ⟨b.q + 1, b.zs, b.ms, s, 2⟩ (b.q + 1 + 1) D s hs (by show b.q + 1 ≤ b.q + 1 + 1; omega)).trans ?_
  unfold begB
  rw [show b.q + 1 + 1 = b.q + 2 by omega]
theorem stL_two (b : Bo) (D : Int) (s : Nat) (hs2 : s < 1000) : stL b (begXs D s) 2 = [⟨6, b.q + 1, (s : Int), 2, 0, 0, ⟨#[]⟩⟩, ⟨5, b.q + 2, (s : Int), D, 0, 0, ⟨#[]⟩⟩] := by
  show ([] ++ [(⟨6, b.q + 1, (s : Int), 2, 0, 0, ⟨#[]⟩⟩ : Rc)]) ++ [⟨5, (stB b (begXs D s) 1).q + 1, (s : Int), D, 0, 0, ⟨#[]⟩⟩] = _
  rw [stB_one b D s hs2]
  show [(⟨6, b.q + 1, (s : Int), 2, 0, 0, ⟨#[]⟩⟩ : Rc), ⟨5, b.q + 1 + 1, (s : Int), D, 0, 0, ⟨#[]⟩⟩] = _
  rw [show b.q + 1 + 1 = b.q + 2 by omega]
/-- Begin where it can be begun. -/
theorem beg_yes {b : Bo} {D : Int} {s : Nat} {code : Int} {L : List Rc} {b' : Bo} (h : BegR b D s code L b') (hn : ¬ Busy b D s) (hm : D ∉ b.ms) (hs : s < b.ms.length) (hs2 : s < 1000) : code = 0 ∧ L = [⟨6, b.q + 1, (s : Int), 2, 0, 0, ⟨#[]⟩⟩, ⟨5, b.q + 2, (s : Int), D, 0, 0, ⟨#[]⟩⟩] ∧ b' = begB b D s := by
  rcases h with ⟨_, h, _⟩ | ⟨_, _, h, _⟩ | ⟨h0, _, _, h1, h2⟩
  · exact absurd h hn
  · exact absurd h hm
  · exact ⟨h0, h1.trans (stL_two b D s hs2), h2.trans (stB_two b D s hs hs2)⟩
theorem beg_busy {b : Bo} {D : Int} {s : Nat} {code : Int} {L : List Rc} {b' : Bo} (h : BegR b D s code L b') (hn : Busy b D s) : code = 3 ∧ L = [] ∧ b' = noB := by
  rcases h with ⟨h0, _, h1, h2⟩ | ⟨_, h, _⟩ | ⟨_, h, _⟩
  · exact ⟨h0, h1, h2⟩
  · exact absurd hn h
  · exact absurd hn h
theorem beg_none {b : Bo} {D : Int} {s : Nat} {code : Int} {L : List Rc} {b' : Bo} (h : BegR b D s code L b') (hn : ¬ Busy b D s) (hm : D ∈ b.ms) : code = 13 ∧ L = [] ∧ b' = noB := by
  rcases h with ⟨_, h, _⟩ | ⟨h0, _, _, h1, h2⟩ | ⟨_, _, h, _⟩
  · exact absurd h hn
  · exact ⟨h0, h1, h2⟩
  · exact absurd hm h
/-- The record that says that a zone was rebuilt, before it has a number. -/
def advX (b : Bo) (Z : Int) : Rc := if b.cu < Z ∧ max b.cu 2 + 1 < Z then ⟨6, 0, b.sl, max b.cu 2 + 1, 0, 0, ⟨#[]⟩⟩ else ⟨6, 0, 65535, 0, 0, 0, ⟨#[]⟩⟩
def advB (b : Bo) (Z : Int) : Bo := stB b [advX b Z] 1
def AdvR (b : Bo) (Z code : Int) (x : Rc) (b' : Bo) : Prop := (b.sl < 0 ∧ code = 3 ∧ x = ⟨0, 0, 0, 0, 0, 0, ⟨#[]⟩⟩ ∧ b' = noB) ∨ (0 ≤ b.sl ∧ code = 0 ∧ x = nxt b (advX b Z) ∧ b' = advB b Z)
/-- The books of a rebuilding, one behind the other. -/
def bkk (q : Int) (zs : List Zo) (ms : List Int) (s : Nat) (Z : Int) (k : Nat) : Bo := if 2 + (k : Int) < Z then ⟨q + k, zs, ms, s, 2 + k⟩ else ⟨q + k, zs, ms, -1, 0⟩
theorem bkk_adv {q : Int} {zs : List Zo} {ms : List Int} {s : Nat} {Z : Int} {k : Nat} (hs : s < 1000) (hk : 2 + (k : Int) < Z) : advB (bkk q zs ms s Z k) Z = bkk q zs ms s Z (k + 1) := by
  unfold bkk
  rw [if_pos hk]
  unfold advB
  show noteB ⟨q + k, zs, ms, s, 2 + k⟩ (nxt ⟨q + k, zs, ms, s, 2 + k⟩ (advX ⟨q + k, zs, ms, s, 2 + k⟩ Z)) = _
  unfold advX
  show noteB ⟨q + k, zs, ms, s, 2 + k⟩ (nxt ⟨q + k, zs, ms, s, 2 + k⟩ (if (2 + (k : Int)) < Z ∧ max (2 + (k : Int)) 2 + 1 < Z then ⟨6, 0, (s : Int), max (2 + (k : Int)) 2 + 1, 0, 0, ⟨#[]⟩⟩ else ⟨6, 0, 65535, 0, 0, 0, ⟨#[]⟩⟩)) = _
  by_cases h : 2 + ((k + 1 : Nat) : Int) < Z
  · rw [if_pos h, if_pos ⟨hk, by omega⟩]
    show noteB ⟨q + k, zs, ms, s, 2 + k⟩ ⟨6, q + k + 1, (s : Int), max (2 + (k : Int)) 2 + 1, 0, 0, ⟨#[]⟩⟩ = _
    rw [note_cur _ _ _ _ (by omega) (by show q + k ≤ q + k + 1; omega)]
    congr 1 <;> omega
  · rw [if_neg h, if_neg (by omega)]
    show noteB ⟨q + k, zs, ms, s, 2 + k⟩ ⟨6, q + k + 1, 65535, 0, 0, 0, ⟨#[]⟩⟩ = _
    rw [note_end _ _ (by show q + k ≤ q + k + 1; omega)]
    congr 1
    omega
theorem begB_kk (b : Bo) (D : Int) (s : Nat) {Z : Int} (hZ : 2 < Z) : begB b D s = bkk (b.q + 2) b.zs (b.ms.set s D) s Z 0 := by
  unfold bkk
  rw [if_pos (by omega)]
  unfold begB
  congr 1
  omega
theorem bkk_zs (q : Int) (zs : List Zo) (ms : List Int) (s : Nat) (Z : Int) (k : Nat) : (bkk q zs ms s Z k).zs = zs := by unfold bkk; split <;> rfl
theorem bkk_ms (q : Int) (zs : List Zo) (ms : List Int) (s : Nat) (Z : Int) (k : Nat) : (bkk q zs ms s Z k).ms = ms := by unfold bkk; split <;> rfl
theorem bkk_q (q : Int) (zs : List Zo) (ms : List Int) (s : Nat) (Z : Int) (k : Nat) : (bkk q zs ms s Z k).q = q + k := by unfold bkk; split <;> rfl
theorem bkk_on {q : Int} {zs : List Zo} {ms : List Int} {s : Nat} {Z : Int} {k : Nat} (hk : 2 + (k : Int) < Z) : (bkk q zs ms s Z k).sl = s ∧ (bkk q zs ms s Z k).cu = 2 + k := by unfold bkk; rw [if_pos hk]; exact ⟨rfl, rfl⟩
theorem bkk_off {q : Int} {zs : List Zo} {ms : List Int} {s : Nat} {Z : Int} {k : Nat} (hk : ¬ 2 + (k : Int) < Z) : (bkk q zs ms s Z k).sl = -1 ∧ (bkk q zs ms s Z k).cu = 0 := by unfold bkk; rw [if_neg hk]; exact ⟨rfl, rfl⟩
/-- What the slot has while it is rebuilt. -/
theorem has_on {q : Int} {zs : List Zo} {ms : List Int} {s : Nat} {Z : Int} {k : Nat} (hk : 2 + (k : Int) < Z) (hs : s < ms.length) (p : Int) : hasB (bkk q zs ms s Z k) (s : Int) p = decide (p < 2 + (k : Int)) := by
  unfold hasB
  rw [bkk_ms, (bkk_on hk).1, (bkk_on hk).2]
  refine Bool.eq_iff_iff.2 ?_
  simp only [decide_eq_true_eq]
  omega
theorem has_off {q : Int} {zs : List Zo} {ms : List Int} {s : Nat} {Z : Int} {k : Nat} (hk : ¬ 2 + (k : Int) < Z) (hs : s < ms.length) (p : Int) : hasB (bkk q zs ms s Z k) (s : Int) p = true := by
  unfold hasB
  rw [bkk_ms, (bkk_off hk).1]
  refine decide_eq_true ?_
  omega
theorem has_else {q : Int} {zs : List Zo} {ms : List Int} {s o : Nat} {Z : Int} {k : Nat} (ho : o ≠ s) (hs : o < ms.length) (p : Int) : hasB (bkk q zs ms s Z k) (o : Int) p = true := by
  unfold hasB
  rw [bkk_ms]
  refine decide_eq_true ⟨by omega, by omega, .inl ?_⟩
  unfold bkk
  split
  · show (o : Int) ≠ (s : Int); omega
  · show (o : Int) ≠ -1; omega
/-- How many of the first physical zones have a zone that lies there. -/
def cntZ (zs : List Zo) (p : Int) : Nat := zs.countP (fun z => decide (z.p < p))
theorem cnt_none {zs : List Zo} {p : Int} (h : ∀ z ∈ zs, z.p ≠ p) : cntZ zs (p + 1) = cntZ zs p := by
  unfold cntZ
  refine List.countP_congr fun z hz => ?_
  have := h z hz
  simp only [decide_eq_true_eq]
  omega
theorem cnt_one : ∀ {zs : List Zo} {p : Int} {k : Nat} (hk : k < zs.length), zs[k].p = p → (zs.map Zo.p).Nodup → cntZ zs (p + 1) = cntZ zs p + 1
  | z :: l, p, 0, _, h, hn => by
    have h' : z.p = p := h
    rw [List.map_cons, List.nodup_cons] at hn
    have := cnt_none (zs := l) (p := p) (fun y hy e => hn.1 (by rw [h', ← e]; exact List.mem_map_of_mem hy))
    unfold cntZ at this ⊢
    rw [List.countP_cons, List.countP_cons, this, if_pos (by simp only [decide_eq_true_eq]; omega), if_neg (by simp only [decide_eq_true_eq]; omega)]
  | z :: l, p, k + 1, hk, h, hn => by
    rw [List.map_cons, List.nodup_cons] at hn
    have hk' : k < l.length := by simpa using hk
    have h' : l[k].p = p := h
    have ih := cnt_one hk' h' hn.2
    have hz : z.p ≠ p := fun e => hn.1 (by rw [e, ← h']; exact List.mem_map_of_mem (List.getElem_mem hk'))
    unfold cntZ at ih ⊢
    rw [List.countP_cons, List.countP_cons, ih]
    by_cases hlt : z.p < p
    · rw [if_pos (by simp only [decide_eq_true_eq]; omega), if_pos (by simp only [decide_eq_true_eq]; omega)]
    · rw [if_neg (by simp only [decide_eq_true_eq]; omega), if_neg (by simp only [decide_eq_true_eq]; omega)]
theorem cnt_zero {zs : List Zo} {p : Int} (h : ∀ z ∈ zs, p ≤ z.p) : cntZ zs p = 0 := by
  unfold cntZ
  rw [List.countP_eq_zero]
  intro z hz
  have := h z hz
  simp only [decide_eq_true_eq]
  omega
theorem cnt_all {zs : List Zo} {p : Int} (h : ∀ z ∈ zs, z.p < p) : cntZ zs p = zs.length := by
  unfold cntZ
  rw [List.countP_eq_length]
  intro z hz
  have := h z hz
  simp only [decide_eq_true_eq]
  omega
end Rb
end Go.Proofs.Ytdjdldcpaidmnaa
