/- A record of which up to four bytes in a row were changed is none. -/
import Derived.Test.YtlignckncgceaabDoorRecDecP
namespace Go.Proofs.YtlignckncgceaabDoor
open Go.RowKit Rec Crc Num

theorem upd_zero : ∀ (m l : List UInt8) (p : Nat), (∀ b ∈ m, b = 0) → upd l p m = l
  | [], _, _, _ => rfl
  | b :: m, l, p, h => by
    show upd (l.set p (l.getD p 0 ^^^ b)) (p + 1) m = l
    have e : l.set p (l.getD p 0 ^^^ b) = l := by
      rw [h b (by simp), UInt8.xor_zero]
      by_cases hp : p < l.length
      · rw [show l.getD p 0 = l[p] by simp [List.getD, hp]]; exact List.set_getElem_self hp
      · exact List.set_eq_of_length_le (by omega)
    rw [e]
    exact upd_zero m l (p + 1) (fun c hc => h c (by simp [hc]))
theorem upd_mid : ∀ (m A X C : List UInt8) (q : Nat), q + m.length ≤ X.length → upd (A ++ X ++ C) (A.length + q) m = A ++ upd X q m ++ C
  | [], _, _, _, _, _ => rfl
  | b :: m, A, X, C, q, h => by
    simp only [List.length_cons] at h
    show upd ((A ++ X ++ C).set (A.length + q) ((A ++ X ++ C).getD (A.length + q) 0 ^^^ b)) (A.length + q + 1) m = A ++ upd (X.set q (X.getD q 0 ^^^ b)) (q + 1) m ++ C
    have hq : q < X.length := by omega
    have e1 : (A ++ X ++ C).getD (A.length + q) 0 = X.getD q 0 := by
      simp [List.getD, List.getElem?_append, hq, show ¬ A.length + q < A.length by omega]
    have e2 : (A ++ X ++ C).set (A.length + q) (X.getD q 0 ^^^ b) = A ++ X.set q (X.getD q 0 ^^^ b) ++ C := by
      rw [List.append_assoc, List.set_append_right _ _ (by omega), Nat.add_sub_cancel_left, List.set_append_left _ _ hq, List.append_assoc]
    rw [e1, e2, Nat.add_assoc]
    exact upd_mid m A _ C (q + 1) (by rw [List.length_set]; omega)
theorem sumW_upd (l m : List UInt8) (p : Nat) (hm : m.length ≤ 4) (hp : p + m.length ≤ l.length) (h : m.any (· != 0) = true) : sumW (upd l p m) ≠ sumW l := fun e => by
  have h1 := reg_upd R0 m l p hp
  have h2 : sumW (upd l p m) = sumW l ^^^ zs (l.length - p - m.length) (reg 0#32 m) := by unfold sumW; rw [h1, not_xor]
  rw [h2] at e
  have e3 := congrArg (fun x => sumW l ^^^ x) e
  have e4 : zs (l.length - p - m.length) (reg 0#32 m) = 0#32 := by simpa [← BitVec.xor_assoc] using e3
  rw [(reg_tells m hm _).1 e4] at h
  cases h
theorem sumB_upd (l m : List UInt8) (p : Nat) (hm : m.length ≤ 4) (hp : p + m.length ≤ l.length) (h : m.any (· != 0) = true) : sumB (upd l p m) ≠ sumB l := fun e => by
  have h1 := (sumW (upd l p m)).isLt
  have h2 := (sumW l).isLt
  exact sumW_upd l m p hm hp h (BitVec.eq_of_toNat_eq (put_inj (k := 4) (by omega) (by omega) e))

theorem dec_rot {s : ByteArray} {r : Rc} {H B S : List UInt8} (hg : Rec.Good r) (h : TextOf s (H ++ S ++ List.replicate 39 0 ++ B)) (hS : S.length = 4) (hH : H.length = 21) (hB : B.length = r.body.size)
    (hk : H.take 3 = (headL r).take 3) (hne : S ≠ sumB (H ++ B)) : ∃ e : Int, e ≠ 0 ∧ dec s = (zeroR, 0, e) := by
  have hn := hg.1.1
  have hkd : (numsR s 6).k = r.k := by
    have e0 : TextOf s ([67, 66] ++ putL r.k.toNat 1 ++ (H.drop 3 ++ S ++ List.replicate 39 0 ++ B)) := by
      have h3 : (headL r).take 3 = [67, 66] ++ putL r.k.toNat 1 := by
        unfold headL
        simp only [List.append_assoc]
        rw [← List.append_assoc, List.take_append_of_le_length (by simp [putL_length]), List.take_of_length_le (by simp [putL_length])]
      have h4 : H = ([67, 66] ++ putL r.k.toNat 1) ++ H.drop 3 := by rw [← h3, ← hk, List.take_append_drop]
      rw [h4] at h
      simpa only [List.append_assoc] using h
    exact getN_put (cut_of (a := 2) (b := 3) e0 rfl (by rw [putL_length])) (by omega) (by omega) (by omega) (by omega)
  have hsz : s.size = 64 + B.length := by rw [h.size]; simp only [List.length_append, List.length_replicate, hH, hS]
  have h1 : s.extract 0 21 = ⟨H.toArray⟩ := (cut_of (A := []) (C := S ++ List.replicate 39 0 ++ B) (by simpa only [List.append_assoc, List.nil_append] using h) rfl (by simpa using hH)).eq
  have h2 : s.extract 21 25 = ⟨S.toArray⟩ := (cut_of (A := H) (C := List.replicate 39 0 ++ B) (by simpa only [List.append_assoc] using h) hH (by omega)).eq
  have hnb : nBlocks r.k * 64 = 64 + B.length := by have := nBlocks_pos hg.1; rw [hB, hg.2]; omega
  have h3 : s.extract 64 (nBlocks r.k * 64) = ⟨B.toArray⟩ := (cut_of (A := H ++ S ++ List.replicate 39 0) (C := []) (by rw [List.append_nil]; exact h) (by simp only [List.length_append, List.length_replicate, hH, hS]) (by omega)).eq
  have hne' : s.extract 21 25 ≠ sumS (s.extract 0 21) (withBody s).body := by
    unfold withBody sumS
    rw [hkd, h1, h2]
    show _ ≠ (⟨(sumB (H ++ (s.extract 64 (nBlocks r.k * 64)).data.toList)).toArray⟩ : ByteArray)
    rw [h3]
    intro e
    have e2 := congrArg (fun x : ByteArray => x.data.toList) e
    exact hne e2
  unfold dec
  by_cases c1 : s = ⟨#[]⟩
  · rw [if_pos c1]; exact ⟨13, by decide, rfl⟩
  rw [if_neg c1]
  by_cases c2 : parseOk s = false
  · rw [if_pos c2]; exact ⟨10, by decide, rfl⟩
  rw [if_neg c2]
  by_cases c3 : s.size < nBlocks (numsR s 6).k * 64
  · rw [if_pos c3]; exact ⟨10, by decide, rfl⟩
  rw [if_neg c3, if_neg hne']
  exact ⟨11, by decide, rfl⟩

/-- The four bytes m at p: in the numbers (3 to 21), or in the body (64 to 128). -/
theorem dec_turned {r : Rc} (hg : Rec.Good r) (m : List UInt8) (hm : m.length ≤ 4) (p : Nat) (hp : (3 ≤ p ∧ p + m.length ≤ 21) ∨ (64 ≤ p ∧ p + m.length ≤ 128 ∧ nBlocks r.k = 2)) :
    (m.any (· != 0) = true → ∃ e : Int, e ≠ 0 ∧ dec ⟨(upd (encL r) p m).toArray⟩ = (zeroR, 0, e)) ∧ (m.any (· != 0) = false → dec ⟨(upd (encL r) p m).toArray⟩ = (r, (nBlocks r.k : Int), 0)) := by
  constructor
  · intro h
    rcases hp with ⟨p3, p21⟩ | ⟨p64, p128, hn2⟩
    · have e1 : upd (encL r) p m = upd (headL r) p m ++ sumB (headL r ++ r.body.data.toList) ++ List.replicate 39 0 ++ r.body.data.toList := by
        have h0 := upd_mid m [] (headL r) (sumB (headL r ++ r.body.data.toList) ++ List.replicate 39 0 ++ r.body.data.toList) p (by rw [headL_len]; exact p21)
        simp only [List.nil_append, List.length_nil, Nat.zero_add] at h0
        unfold encL
        simpa only [List.append_assoc] using h0
      have e2 : upd (headL r ++ r.body.data.toList) p m = upd (headL r) p m ++ r.body.data.toList := by
        have h0 := upd_mid m [] (headL r) r.body.data.toList p (by rw [headL_len]; exact p21)
        simpa only [List.nil_append, List.length_nil, Nat.zero_add] using h0
      have e3 : (upd (headL r) p m).take 3 = (headL r).take 3 := by
        have h0 := upd_mid m ((headL r).take 3) ((headL r).drop 3) [] (p - 3) (by rw [List.length_drop, headL_len]; omega)
        rw [List.append_nil, List.append_nil, List.take_append_drop, List.length_take, headL_len, show min 3 21 + (p - 3) = p by omega] at h0
        rw [h0, List.take_append_of_le_length (by rw [List.length_take, headL_len]; omega), List.take_take]
        rfl
      refine dec_rot (S := sumB (headL r ++ r.body.data.toList)) (H := upd (headL r) p m) (B := r.body.data.toList) hg (by rw [e1]; rfl) (sumB_len _) (by rw [upd_length, headL_len]) (body_len _) e3 ?_
      rw [← e2]
      exact (sumB_upd _ m p hm (by rw [List.length_append, headL_len]; omega) h).symm
    · have hbl : r.body.data.toList.length = 64 := by rw [body_len, hg.2, hn2]
      have hAl : (headL r ++ sumB (headL r ++ r.body.data.toList) ++ List.replicate 39 0).length = 64 := by simp only [List.length_append, headL_len, sumB_len, List.length_replicate]
      have e1 : upd (encL r) p m = headL r ++ sumB (headL r ++ r.body.data.toList) ++ List.replicate 39 0 ++ upd r.body.data.toList (p - 64) m := by
        have h0 := upd_mid m (headL r ++ sumB (headL r ++ r.body.data.toList) ++ List.replicate 39 0) r.body.data.toList [] (p - 64) (by omega)
        rw [List.append_nil, List.append_nil, hAl, show 64 + (p - 64) = p by omega] at h0
        exact h0
      have e2 : upd (headL r ++ r.body.data.toList) (21 + (p - 64)) m = headL r ++ upd r.body.data.toList (p - 64) m := by
        have h0 := upd_mid m (headL r) r.body.data.toList [] (p - 64) (by omega)
        rwa [List.append_nil, List.append_nil, headL_len] at h0
      refine dec_rot (S := sumB (headL r ++ r.body.data.toList)) (H := headL r) (B := upd r.body.data.toList (p - 64) m) hg (by rw [e1]; rfl) (sumB_len _) (headL_len r) (by rw [upd_length, body_len]) rfl ?_
      rw [← e2]
      exact (sumB_upd _ m _ hm (by rw [List.length_append, headL_len]; omega) h).symm
  · intro h
    rw [upd_zero m _ p (by simpa using h)]
    exact dec_enc hg [] (by rw [List.append_nil]; rfl)
end Go.Proofs.YtlignckncgceaabDoor
