/- A group of which up to four bytes in a row were changed, of its Seq or of its data, is none: plain facts. -/
import Derived.Test.YtbgkmppngnedlaaDoorGpC
namespace Go.Proofs.YtbgkmppngnedlaaDoor
open Go.RowKit Rec Crc Num Xor

/-- The bytes m at p: in the Seq (2 to 8), or in the data. -/
theorem decG_turned {g : Gp} (hg : GoodG g) (m : List UInt8) (hm : m.length ≤ 4) (p : Nat) (hp : (2 ≤ p ∧ p + m.length ≤ 8) ∨ (64 ≤ p ∧ p + m.length ≤ 64 * blkE g.es)) :
    (m.any (· != 0) = true → ∃ e : Int, e ≠ 0 ∧ decG ⟨(upd (encG g) p m).toArray⟩ = (zG, 0, e)) ∧ (m.any (· != 0) = false → decG ⟨(upd (encG g) p m).toArray⟩ = (g, (blkE g.es : Int), 0)) := by
  have hf := flat_len hg.2
  have hn6 := hg.1.2
  constructor
  · intro h
    rcases hp with ⟨p2, p8⟩ | ⟨p64, pe⟩
    · have hql : (putL g.q.toNat 6).length = 6 := putL_length _ _
      have e0 := upd_mid m [67, 71] (putL g.q.toNat 6) (putL g.es.length 1 ++ numsL g.es) (p - 2) (by omega)
      have e1 := upd_mid m [67, 71] (putL g.q.toNat 6) (putL g.es.length 1 ++ numsL g.es ++ sumB (headG g ++ dataG g) ++ List.replicate (51 - 4 * g.es.length) 0 ++ dataG g) (p - 2) (by omega)
      have e2 := upd_mid m [67, 71] (putL g.q.toNat 6) (putL g.es.length 1 ++ numsL g.es ++ dataG g) (p - 2) (by omega)
      have hp2 : ([67, 71] : List UInt8).length + (p - 2) = p := by show 2 + (p - 2) = p; omega
      rw [hp2] at e0 e1 e2
      have hs := sumB_upd (headG g ++ dataG g) m p hm (by rw [List.length_append, headG_len]; omega) h
      have e3 : upd (headG g ++ dataG g) p m = [67, 71] ++ upd (putL g.q.toNat 6) (p - 2) m ++ putL g.es.length 1 ++ numsL g.es ++ dataG g := by
        unfold headG
        simpa only [List.append_assoc] using e2
      rw [e3] at hs
      refine decG_rot (q := upd (putL g.q.toNat 6) (p - 2) m) (S := sumB (headG g ++ dataG g)) (B := dataG g) hg (by rw [upd_length, hql]) ?_ (sumB_len _) (by unfold dataG; omega) hs.symm
      have e4 : upd (encG g) p m = [67, 71] ++ upd (putL g.q.toNat 6) (p - 2) m ++ putL g.es.length 1 ++ numsL g.es ++ sumB (headG g ++ dataG g) ++ List.replicate (51 - 4 * g.es.length) 0 ++ dataG g := by
        have : encG g = [67, 71] ++ putL g.q.toNat 6 ++ (putL g.es.length 1 ++ numsL g.es ++ sumB (headG g ++ dataG g) ++ List.replicate (51 - 4 * g.es.length) 0 ++ dataG g) := by
          show headG g ++ sumB (headG g ++ dataG g) ++ List.replicate (51 - 4 * g.es.length) 0 ++ dataG g = _
          generalize sumB (headG g ++ dataG g) = S
          unfold headG
          simp only [List.append_assoc]
        rw [this, e1]
        simp only [List.append_assoc]
      rw [← e4]
      rfl
    · have hdl : (dataG g).length + 64 = 64 * blkE g.es := hf
      have hAl : (headG g ++ sumB (headG g ++ dataG g) ++ List.replicate (51 - 4 * g.es.length) 0).length = 64 := by simp only [List.length_append, headG_len, sumB_len, List.length_replicate]; omega
      have e1 : upd (encG g) p m = headG g ++ sumB (headG g ++ dataG g) ++ List.replicate (51 - 4 * g.es.length) 0 ++ upd (dataG g) (p - 64) m := by
        have h0 := upd_mid m (headG g ++ sumB (headG g ++ dataG g) ++ List.replicate (51 - 4 * g.es.length) 0) (dataG g) [] (p - 64) (by omega)
        rw [List.append_nil, List.append_nil, hAl, show 64 + (p - 64) = p by omega] at h0
        exact h0
      have e2 : upd (headG g ++ dataG g) (9 + 4 * g.es.length + (p - 64)) m = headG g ++ upd (dataG g) (p - 64) m := by
        have h0 := upd_mid m (headG g) (dataG g) [] (p - 64) (by omega)
        rwa [List.append_nil, List.append_nil, headG_len] at h0
      have hs := sumB_upd (headG g ++ dataG g) m (9 + 4 * g.es.length + (p - 64)) hm (by rw [List.length_append, headG_len]; omega) h
      rw [e2] at hs
      have hs' := hs.symm
      unfold headG at hs'
      refine decG_rot (q := putL g.q.toNat 6) (S := sumB (headG g ++ dataG g)) (B := upd (dataG g) (p - 64) m) hg (putL_length _ _) ?_ (sumB_len _) (by rw [upd_length]; exact hf) hs'
      rw [e1]
      rfl
  · intro h
    rw [upd_zero m _ p (by simpa using h)]
    exact dec_encG hg [] (by rw [List.append_nil]; rfl)
end Go.Proofs.YtbgkmppngnedlaaDoor
