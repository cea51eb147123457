/- What the document's Read asks, against what a book is. -/
import Derived.Test.YtpmhfalhieinjaaBkReadG
namespace Go.Proofs.Ytpmhfalhieinjaa
open Go.RowKit Rec Bk

/-- Numbers of records that came in are not below nought. -/
def PosL (l : List Rc) : Prop := ∀ x ∈ l, 0 ≤ x.a ∧ 0 ≤ x.b ∧ 0 ≤ x.d
def someAt (l : List Rc) (u : Int × Int) : Prop := (found l u).isSome = true
def okZ (Z : Int) (zs : List Zo) (k : Nat) : Prop := ∀ h : k < zs.length, (2 ≤ zs[k].p ∧ zs[k].p < Z ∧ zs[k].s ≤ 2) ∧ ∀ y (hy : y < zs.length), y < k → zs[y].p ≠ zs[k].p
def okM (D : Int) (ms : List Int) (k : Nat) : Prop := ∀ h : k < ms.length, ms[k] ≤ D ∧ ∀ y (hy : y < ms.length), y < k → ms[y] ≠ ms[k]
def okC (D Z sl cu : Int) : Prop := sl < D ∧ cu ≤ Z ∧ (sl < 0 → cu = 0)
theorem nodup_iff {l : List Int} : l.Nodup ↔ ∀ i j (hi : i < l.length) (hj : j < l.length), i < j → l[i] ≠ l[j] := by
  rw [List.Nodup, List.pairwise_iff_getElem]
theorem full_zl (n m : Nat) (l : List Rc) : (fullB n m l).zs.length = n := by show (List.map _ _).length = n; simp
theorem full_ml (n m : Nat) (l : List Rc) : (fullB n m l).ms.length = m := by show (List.map _ _).length = m; simp
theorem full_z {n m : Nat} {l : List Rc} {i : Nat} (h : i < (fullB n m l).zs.length) : (fullB n m l).zs[i] = zoF (fnd l (3, (i : Int))) := by
  have e : (fullB n m l).zs = (List.range n).map (fun z : Nat => zoF (fnd l (3, (z : Int)))) := rfl
  simp only [e, List.getElem_map, List.getElem_range]
theorem full_m {n m : Nat} {l : List Rc} {i : Nat} (h : i < (fullB n m l).ms.length) : (fullB n m l).ms[i] = (fnd l (5, (i : Int))).b := by
  have e : (fullB n m l).ms = (List.range m).map (fun s : Nat => (fnd l (5, (s : Int))).b) := rfl
  simp only [e, List.getElem_map, List.getElem_range]
theorem fnd_of {l : List Rc} {u : Int × Int} (h : someAt l u) : found l u = some (fnd l u) ∧ fnd l u ∈ l := by
  unfold someAt at h
  cases hf : found l u with
  | none => rw [hf] at h; cases h
  | some x =>
    have e := fnd_some hf
    rw [e]
    exact ⟨rfl, best_of (P := (· ∈ l)) (fun x h _ => h) hf⟩
theorem not_says {D Z : Int} {n m : Nat} {l : List Rc} {u : Int × Int} (hu : u ∈ subs n m) (h : ¬ someAt l u) : ¬ SaysB D Z n m l := fun hs => by
  obtain ⟨x, hx, _⟩ := hs.all u hu
  exact h (by unfold someAt; rw [hx]; rfl)
theorem says_ref {D Z : Int} {n m : Nat} {l : List Rc} (hp : PosL l) (hD : 0 ≤ D ∧ D ≤ 1000) (hZ : 0 ≤ Z) (h1 : ∀ z, z < n → someAt l (3, (z : Int))) (h2 : ∀ s, s < m → someAt l (5, (s : Int))) (h3 : someAt l (6, 0)) :
    SaysB D Z n m l ↔ (∀ k, okZ Z (fullB n m l).zs k) ∧ (∀ k, okM D (fullB n m l).ms k) ∧ okC D Z (fullB n m l).sl (fullB n m l).cu := by
  have hc := fnd_of h3
  have hck : (fnd l (6, 0)).k = 6 := about_cur.1 (best_of (P := fun x => about (6, 0) x = true) (fun _ _ h => h) hc.1)
  have hcp := hp _ hc.2
  constructor
  · intro hs
    refine ⟨fun k hk => ?_, fun k hk => ?_, ?_⟩
    · have hkn : k < n := by rw [full_zl] at hk; exact hk
      obtain ⟨x, hx, hpx⟩ := hs.all _ (mem_subs_zone hkn)
      have hk3 := about_zone.1 (best_of (P := fun x => about (3, (k : Int)) x = true) (fun _ _ h => h) hx)
      unfold possP at hpx
      rw [if_pos hk3.1] at hpx
      refine ⟨?_, fun y hy hyk => ?_⟩
      · rw [full_z hk, fnd_some hx]
        exact ⟨hpx.1, hpx.2.1, hpx.2.2.2⟩
      · have := nodup_iff.1 hs.ps y k (by simpa using hy) (by simpa using hk) hyk
        simpa using this
    · have hkm : k < m := by rw [full_ml] at hk; exact hk
      obtain ⟨x, hx, hpx⟩ := hs.all _ (mem_subs_mem hkm)
      have hk5 := about_mem.1 (best_of (P := fun x => about (5, (k : Int)) x = true) (fun _ _ h => h) hx)
      unfold possP at hpx
      rw [if_neg (by omega), if_pos hk5.1] at hpx
      refine ⟨?_, fun y hy hyk => nodup_iff.1 hs.ms y k hy hk hyk⟩
      rw [full_m hk, fnd_some hx]
      omega
    · obtain ⟨x, hx, hpx⟩ := hs.all _ (mem_subs_cur n m)
      have e := fnd_some hx
      rw [e] at hck hcp
      unfold possP at hpx
      rw [if_neg (by omega), if_neg (by omega)] at hpx
      show okC D Z (if (fnd l (6, 0)).a = 65535 then -1 else (fnd l (6, 0)).a) (fnd l (6, 0)).b
      rw [e]
      unfold okC
      by_cases ha : x.a = 65535
      · rw [if_pos ha] at hpx ⊢
        omega
      · rw [if_neg ha] at hpx ⊢
        omega
  · intro ⟨hz, hm, hcc⟩
    refine ⟨fun u hu => ?_, ?_, ?_⟩
    · unfold subs at hu
      rcases List.mem_append.1 hu with hu | hu
      · rcases List.mem_cons.1 hu with rfl | hu
        · refine ⟨_, hc.1, ?_⟩
          unfold possP
          rw [if_neg (by omega), if_neg (by omega)]
          have hcc' : okC D Z (if (fnd l (6, 0)).a = 65535 then -1 else (fnd l (6, 0)).a) (fnd l (6, 0)).b := hcc
          unfold okC at hcc'
          by_cases ha : (fnd l (6, 0)).a = 65535
          · rw [if_pos ha] at hcc' ⊢
            omega
          · rw [if_neg ha] at hcc' ⊢
            omega
        · obtain ⟨k, hk, rfl⟩ := List.mem_map.1 hu
          have hkn := List.mem_range.1 hk
          have hf := fnd_of (h1 k hkn)
          have hk3 := about_zone.1 (best_of (P := fun x => about (3, (k : Int)) x = true) (fun _ _ h => h) hf.1)
          have hx := hp _ hf.2
          have hz' := (hz k (by rw [full_zl]; exact hkn)).1
          rw [full_z] at hz'
          refine ⟨_, hf.1, ?_⟩
          unfold possP
          rw [if_pos hk3.1]
          exact ⟨hz'.1, hz'.2.1, hx.2.2, hz'.2.2⟩
      · obtain ⟨k, hk, rfl⟩ := List.mem_map.1 hu
        have hkm := List.mem_range.1 hk
        have hf := fnd_of (h2 k hkm)
        have hk5 := about_mem.1 (best_of (P := fun x => about (5, (k : Int)) x = true) (fun _ _ h => h) hf.1)
        have hx := hp _ hf.2
        have hm' := (hm k (by rw [full_ml]; exact hkm)).1
        rw [full_m] at hm'
        refine ⟨_, hf.1, ?_⟩
        unfold possP
        rw [if_neg (by omega), if_pos hk5.1]
        omega
    · rw [nodup_iff]
      intro i j hi hj hij
      have := (hz j (by simpa using hj)).2 i (by simpa using hi) hij
      simpa using this
    · rw [nodup_iff]
      intro i j hi hj hij
      exact (hm j hj).2 i hi hij
end Go.Proofs.Ytpmhfalhieinjaa
