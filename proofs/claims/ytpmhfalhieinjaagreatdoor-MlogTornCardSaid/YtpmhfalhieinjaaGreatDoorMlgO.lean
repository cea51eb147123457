/- What is read of a zone of a rig with power; what is chosen of two zones' logs. -/
import Derived.Test.YtpmhfalhieinjaaGreatDoorMlgF
import Derived.Test.YtpmhfalhieinjaaGreatDoorMlgP
namespace Go.Proofs.YtpmhfalhieinjaaGreatDoor
open Go.RowKit Zon Drv Rec Crc

theorem upd_self {α : Type} (f : Nat → α) (i : Nat) : upd f i (f i) = f := by
  funext j
  unfold upd
  split
  · rename_i h; rw [h]
  · rfl
theorem doD_read_all {D : Dr} (h : D.Ok) (hd : D.dead = false) {z : Nat} (hz : z < D.m.zs.length) (h0 : (zAt D.m.zs z).l ≠ 0) :
    doD D 7 (z : Int) 0 (zAt D.m.zs z).l [] = ((D.c z, 0, 0), D) := by
  have hzo := h.m.at_ hz
  have hcz := h.cz z hz
  have hl1 : 1 ≤ (zAt D.m.zs z).l := by have := hzo.1; omega
  have hdm : doM D.m 7 (z : Int) 0 (zAt D.m.zs z).l = (0, 0, D.m.zs) := by
    unfold doM
    rw [if_neg (by omega)]
    have hb : hasB D.m (z : Int) = true := by unfold hasB; exact decide_eq_true (by omega)
    rw [if_neg (by rw [hb]; decide)]
    show act D.m 7 z 0 (zAt D.m.zs z).l = _
    unfold act
    rw [if_neg (by decide), if_neg (by decide), if_neg (by decide), if_neg (by decide), if_neg (by decide), if_neg (by decide)]
    unfold rea
    rw [if_pos (by unfold withinB; exact decide_eq_true (by omega))]
  unfold doD
  rw [if_neg (by rw [hd]; decide)]
  have hf : fits 7 (zAt D.m.zs z).l ([] : List UInt8).length = true := by
    unfold fits
    rw [if_neg (by unfold writesB; simp)]
    simp
  rw [if_pos hf]
  unfold exec
  rw [hdm]
  simp only [if_true, Int.toNat_natCast]
  have h1 : cut (D.c z) 0 (zAt D.m.zs z).l = D.c z := by
    unfold cut
    rw [show (64 * (0 : Int)).toNat = 0 from rfl, List.drop_zero, List.take_of_length_le (by omega)]
  have h2 : turned D 7 z D.m.zs [] = D := by
    unfold turned
    rw [if_neg (by unfold writesB; decide), if_neg (by decide), if_neg (by decide), if_neg (by decide)]
    rfl
  rw [h1, h2]
theorem rdP_all {n : Nat} {G : Rg} {i z : Nat} (hok : (G.D i).Ok) (hd : (G.D i).dead = false) (ho : G.s.off = false) (hz : z < (G.D i).m.zs.length) : rdP n G i (z : Int) = (((G.D i).c z, 0), G) := by
  have hg : getM (G.D i).m (z : Int) = zAt (G.D i).m.zs z := by
    unfold getM hasB
    rw [if_pos (decide_eq_true (by omega))]
    rfl
  unfold rdP
  rw [hg]
  by_cases h0 : (zAt (G.D i).m.zs z).l = 0
  · rw [if_pos h0]
    have h1 := hok.cz z hz
    rw [h0] at h1
    have : (G.D i).c z = [] := List.eq_nil_of_length_eq_zero (by omega)
    rw [this]
  · rw [if_neg h0]
    have ha : adm n G false = (0, G) := by
      unfold adm
      rw [if_neg (by rw [ho]; decide), if_pos rfl]
    unfold rgDo
    rw [show ((7 : Int) != 7) = false from rfl, ha]
    simp only [if_true]
    rw [doD_read_all hok hd hz h0, upd_self]

/-- What stands in a zone. -/
def txtZ (G : Rg) (i z : Nat) : ByteArray := ⟨((G.D i).c z).toArray⟩
theorem txtZ_size (G : Rg) (i z : Nat) : (txtZ G i z).size = ((G.D i).c z).length := by show (((G.D i).c z).toArray).size = _; rw [List.size_toArray]
/-- The better of what was found and of a zone. -/
def better (o : Option (Lg × List Rc)) (i z : Nat) (l : List Rc) (n sz : Nat) : Option (Lg × List Rc) := match parP l with
  | none => o
  | some g => match o with
    | none => some (⟨i, z, g, ((sz / 64 : Nat) : Int), decide (n < sz / 64)⟩, nomk l)
    | some q => if q.1.g < g then some (⟨i, z, g, ((sz / 64 : Nat) : Int), decide (n < sz / 64)⟩, nomk l) else some q
theorem better_no {o : Option (Lg × List Rc)} {i z : Nat} {l : List Rc} {n sz : Nat} (h : parP l = none) : better o i z l n sz = o := by unfold better; rw [h]
theorem better_first {i z : Nat} {l : List Rc} {n sz : Nat} {g : Int} (h : parP l = some g) : better none i z l n sz = some (⟨i, z, g, ((sz / 64 : Nat) : Int), decide (n < sz / 64)⟩, nomk l) := by unfold better; rw [h]
theorem better_yes {q : Lg × List Rc} {i z : Nat} {l : List Rc} {n sz : Nat} {g : Int} (h : parP l = some g) (hg : q.1.g < g) : better (some q) i z l n sz = some (⟨i, z, g, ((sz / 64 : Nat) : Int), decide (n < sz / 64)⟩, nomk l) := by unfold better; rw [h]; exact if_pos hg
theorem better_old {q : Lg × List Rc} {i z : Nat} {l : List Rc} {n sz : Nat} {g : Int} (h : parP l = some g) (hg : ¬ q.1.g < g) : better (some q) i z l n sz = some q := by unfold better; rw [h]; exact if_neg hg
/-- What is chosen of so many zones. -/
def SelR (G : Rg) (i : Nat) : Nat → Option (Lg × List Rc) → Prop
  | 0, o => o = none
  | k + 1, o => ∃ o' l n, SelR G i k o' ∧ Scans (txtZ G i k) l n ∧ o = better o' i k l n (txtZ G i k).size
theorem SelR.uniq {G : Rg} {i : Nat} : ∀ {k : Nat} {o o' : Option (Lg × List Rc)}, SelR G i k o → SelR G i k o' → o = o'
  | 0, _, _, h, h' => by rw [h, h']
  | k + 1, _, _, ⟨a, l, n, h1, h2, h3⟩, ⟨a', l', n', h1', h2', h3'⟩ => by
    have := SelR.uniq h1 h1'
    subst this
    obtain ⟨e1, e2⟩ := h2.uniq h2'
    subst e1; subst e2
    rw [h3, h3']
section
variable {w W : World} {K : Nat → Prop} {r n N : Nat} {d : Nat → Nat} {G : Rg} {c : Int}
/-- What was found so far, in memory. -/
def OSt (w W : World) (K : Nat → Prop) (r : Nat) (o : Option (Lg × List Rc)) (lv rv : Value) : Prop := match o with
  | none => lv = .pointer none ∧ rv = .slice none 0 0
  | some q => ∃ p A cap, lv = .pointer (some ⟨p, 0, none⟩) ∧ rv = .slice A q.2.length cap ∧ LogAt W p r q.1 ∧ K p ∧ p ≠ r ∧ w.heap.size ≤ p ∧ RecsIn W A q.2 ∧ ∀ b off, A = some ⟨b, off, none⟩ → K b ∧ b ≠ r ∧ b ≠ p
theorem RecsIn.sameK {W W' : World} {K : Nat → Prop} {A : Option Addr} {rs : List Rc} (h : RecsIn W A rs) (hs : SameK W W' K) (hA : ∀ b off, A = some ⟨b, off, none⟩ → K b) : RecsIn W' A rs := by
  rcases h with h | ⟨b, rfl, hlt, hc⟩
  · exact .inl h
  · exact .inr ⟨b, rfl, Nat.lt_of_lt_of_le hlt hs.1, fun i hi j hj => (same_cell (hs.2 b hlt (hA b 0 rfl))).trans (hc i hi j hj)⟩
theorem OSt.next {W' : World} {K' : Nat → Prop} {o : Option (Lg × List Rc)} {lv rv : Value} (h : OSt w W K r o lv rv) (hs : SameK W W' (KR K r)) (hK : ∀ x, K x → K' x) : OSt w W' K' r o lv rv := by
  match o, h with
  | none, h => exact h
  | some q, ⟨p, A, cap, e1, e2, h1, h2, h3, h4, h5, h6⟩ =>
    exact ⟨p, A, cap, e1, e2, h1.sameK hs ⟨h2, h3⟩, hK _ h2, h3, h4, h5.sameK hs (fun b off e => ⟨(h6 b off e).1, (h6 b off e).2.1⟩), fun b off e => ⟨hK _ (h6 b off e).1, (h6 b off e).2⟩⟩
end
end Go.Proofs.YtpmhfalhieinjaaGreatDoor
