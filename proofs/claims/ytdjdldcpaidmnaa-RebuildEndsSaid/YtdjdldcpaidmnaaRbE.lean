/- The books of RebuildEnds, plainly: zones that are moved, each to a place in which none lies. -/
import Derived.Test.YtdjdldcpaidmnaaRbV
namespace Go.Proofs.Ytdjdldcpaidmnaa
open Go.RowKit Rec Bk
namespace Rb
theorem nodup_iff16 {l : List Int} : l.Nodup ↔ ∀ i j (hi : i < l.length) (hj : j < l.length), i < j → l[i] ≠ l[j] := by
  rw [List.Nodup, List.pairwise_iff_getElem]
/-- A book that may be. -/
structure ValE (D Z : Int) (n m : Nat) (b : Bo) : Prop where
  zl : b.zs.length = n
  ml : b.ms.length = m
  z : ∀ x ∈ b.zs, 2 ≤ x.p ∧ x.p < Z ∧ 0 ≤ x.s ∧ x.s ≤ 2
  zn : (b.zs.map Zo.p).Nodup
  m : ∀ x ∈ b.ms, 0 ≤ x ∧ x < D + 1
  mn : b.ms.Nodup
  c : (b.sl = -1 ∧ b.cu = 0) ∨ (0 ≤ b.sl ∧ b.sl < D ∧ 0 ≤ b.cu ∧ b.cu ≤ Z)
theorem new_valE {D Z : Int} {n m : Nat} (hn : Z - 3 = (n : Int)) (hm : D = (m : Int)) : ValE D Z n m (newBk n m) := by
  refine ⟨newZ_len n, newMs_len m, fun x hx => ?_, ?_, fun x hx => ?_, ?_, .inl ⟨rfl, rfl⟩⟩
  · have hx' : x ∈ newZ n := hx
    unfold newZ at hx'
    obtain ⟨i, hi, rfl⟩ := List.mem_map.1 hx'
    have := List.mem_range.1 hi
    show 2 ≤ (i : Int) + 2 ∧ (i : Int) + 2 < Z ∧ (0 : Int) ≤ 0 ∧ (0 : Int) ≤ 2
    omega
  · rw [nodup_iff16]
    intro i j hi hj hij
    simp only [newBk, newZ, List.getElem_map, List.getElem_range]
    omega
  · have hx' : x ∈ newMs m := hx
    unfold newMs at hx'
    obtain ⟨i, hi, rfl⟩ := List.mem_map.1 hx'
    have := List.mem_range.1 hi
    omega
  · rw [nodup_iff16]
    intro i j hi hj hij
    simp only [newBk, newMs, List.getElem_map, List.getElem_range]
    omega
/-- A zone is moved to a place in which none lies. -/
theorem move_valE {D Z : Int} {n m : Nat} {b : Bo} (hb : ValE D Z n m b) {x : Rc} (hk : x.k = 3) (ha : 0 ≤ x.a ∧ x.a < n) (h1 : 2 ≤ x.b ∧ x.b < Z) (h2 : ∀ z ∈ b.zs, z.p ≠ x.b) (h3 : 0 ≤ x.d ∧ x.d ≤ 2) : ValE D Z n m (noteB b x) := by
  have e : noteB b x = { b with q := max b.q x.s, zs := b.zs.set x.a.toNat ⟨x.b, x.c, x.d⟩ } := by
    unfold noteB takeB
    rw [if_pos ⟨hk, ha.1, by show x.a < (b.zs.length : Int); rw [hb.zl]; exact ha.2⟩]
  rw [e]
  refine ⟨by show (b.zs.set _ _).length = n; rw [List.length_set]; exact hb.zl, hb.ml, fun z hz => ?_, ?_, hb.m, hb.mn, hb.c⟩
  · rcases List.mem_or_eq_of_mem_set hz with h | rfl
    · exact hb.z z h
    · exact ⟨h1.1, h1.2, h3.1, h3.2⟩
  · show ((b.zs.set x.a.toNat ⟨x.b, x.c, x.d⟩).map Zo.p).Nodup
    have hz := nodup_iff16.1 hb.zn
    rw [nodup_iff16]
    intro i j hi hj hij
    have hi' : i < b.zs.length := by simpa using hi
    have hj' : j < b.zs.length := by simpa using hj
    simp only [List.getElem_map, List.getElem_set]
    have hzij := hz i j (by simpa using hi') (by simpa using hj') hij
    simp only [List.getElem_map] at hzij
    split
    · rename_i e1
      rw [if_neg (by omega)]
      exact fun e => h2 _ (List.getElem_mem hj') e.symm
    · split
      · exact h2 _ (List.getElem_mem hi')
      · exact hzij
/-- With a place more than there are zones, one is free. -/
theorem free_inE {D Z : Int} {n m : Nat} {b : Bo} (hb : ValE D Z n m b) (hn : Z - 3 = (n : Int)) {f : Int} (h : IsFree b.zs Z f) : 2 ≤ f ∧ f < Z ∧ ∀ z ∈ b.zs, z.p ≠ f := by
  rcases h with ⟨rfl, h⟩ | ⟨h1, h2, h3, _⟩
  · exfalso
    have hsub : ∀ x ∈ (List.range (n + 1)).map (fun i : Nat => (i : Int) + 2), x ∈ b.zs.map Zo.p := fun x hx => by
      obtain ⟨i, hi, rfl⟩ := List.mem_map.1 hx
      have := List.mem_range.1 hi
      obtain ⟨z, hz, e⟩ := h ((i : Int) + 2) (by omega) (by omega)
      exact List.mem_map.2 ⟨z, hz, e⟩
    have hnd : ((List.range (n + 1)).map (fun i : Nat => (i : Int) + 2)).Nodup := by
      rw [nodup_iff16]
      intro i j hi hj hij
      simp only [List.getElem_map, List.getElem_range]
      omega
    have := List.Nodup.length_le_of_subset hnd (fun x hx => hsub x hx)
    rw [List.length_map, List.length_map, List.length_range, hb.zl] at this
    omega
  · exact ⟨h1, h2, h3⟩
/-- The book behind so many moves. -/
structure EnB (D Z : Int) (n m k : Nat) (b : Bo) : Prop where
  v : ValE D Z n m b
  q : b.q = (k : Int)
  s : b.sl = -1
  ms : b.ms = newMs m
theorem EnB.new {D Z : Int} {n m : Nat} (hn : Z - 3 = (n : Int)) (hm : D = (m : Int)) : EnB D Z n m 0 (newBk n m) := ⟨new_valE hn hm, rfl, rfl, rfl⟩
theorem EnB.step {D Z : Int} {n m k : Nat} {b : Bo} (h : EnB D Z n m k b) (hn : Z - 3 = (n : Int)) {j : Nat} (hj : j < n) {f : Int} (hf : IsFree b.zs Z f) : EnB D Z n m (k + 1) (noteB b ⟨3, b.q + 1, (j : Int), f, 1, 0, ⟨#[]⟩⟩) := by
  obtain ⟨h1, h2, h3⟩ := free_inE h.v hn hf
  have e : noteB b ⟨3, b.q + 1, (j : Int), f, 1, 0, ⟨#[]⟩⟩ = { b with q := max b.q (b.q + 1), zs := b.zs.set ((j : Int)).toNat ⟨f, 1, 0⟩ } := by
    unfold noteB takeB
    rw [if_pos ⟨rfl, Int.natCast_nonneg _, by show (j : Int) < (b.zs.length : Int); rw [h.v.zl]; exact Int.ofNat_lt.2 hj⟩]
  refine ⟨move_valE h.v rfl ⟨Int.natCast_nonneg _, Int.ofNat_lt.2 hj⟩ ⟨h1, h2⟩ h3 ⟨Int.le_refl _, by show (0 : Int) ≤ 2; decide⟩, ?_, ?_, ?_⟩
  · rw [e]; show max b.q (b.q + 1) = _; rw [h.q]; push_cast; omega
  · rw [e]; exact h.s
  · rw [e]; exact h.ms
theorem next_kk {q : Int} {zs : List Zo} {ms : List Int} {s k : Nat} {Z p i : Int} {t : Bool} (h : NextR (bkk q zs ms s Z k) Z p i t) (hk : 2 + (k : Int) < Z) : t = true ∧ p = 2 + (k : Int) ∧ FirstZ zs (2 + (k : Int)) i := by
  obtain ⟨h1, h2⟩ := bkk_on (q := q) (zs := zs) (ms := ms) (s := s) hk
  rcases h with ⟨h0, _, _, hp, hf⟩ | ⟨_, _, _, h3 | h3⟩
  · rw [bkk_zs] at hf
    rw [h2] at hp
    have hp2 : p = 2 + (k : Int) := by omega
    rw [hp2] at hf
    exact ⟨h0, hp2, hf⟩
  · rw [h1] at h3; omega
  · rw [h2] at h3; omega
theorem next_end {q : Int} {zs : List Zo} {ms : List Int} {s k : Nat} {Z p i : Int} {t : Bool} (h : NextR (bkk q zs ms s Z k) Z p i t) (hk : ¬ 2 + (k : Int) < Z) : t = false ∧ p = 0 ∧ i = 0 := by
  obtain ⟨h1, h2⟩ := bkk_off (q := q) (zs := zs) (ms := ms) (s := s) hk
  rcases h with ⟨_, h3, _⟩ | ⟨h0, h3, h4, _⟩
  · rw [h1] at h3; omega
  · exact ⟨h0, h3, h4⟩
theorem cnt_first {zs : List Zo} {p i : Int} (hn : (zs.map Zo.p).Nodup) (h : FirstZ zs p i) : (i = -1 ∧ cntZ zs (p + 1) = cntZ zs p) ∨ ∃ j : Nat, i = (j : Int) ∧ (∃ h : j < zs.length, zs[j].p = p) ∧ cntZ zs (p + 1) = cntZ zs p + 1 := by
  rcases h with ⟨h1, h2⟩ | ⟨j, h1, h2, h3, _⟩
  · exact .inl ⟨h1, cnt_none h2⟩
  · exact .inr ⟨j, h1, ⟨h2, h3⟩, cnt_one h2 h3 hn⟩
theorem spent_busy {q : Int} {zs : List Zo} {ms : List Int} {s k : Nat} {Z D : Int} (hk : ¬ 2 + (k : Int) < Z) : ¬ Busy (bkk q zs ms s Z k) D s := fun h => by
  have := h.1
  rw [(bkk_off hk).1] at this
  omega
end Rb
end Go.Proofs.Ytdjdldcpaidmnaa
