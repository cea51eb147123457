/- More on zones as plain data. Nothing of the program stands here. -/
import Derived.Test.YtncbkegflkjlfaaZonMath
namespace Go.Proofs.Ytncbkegflkjlfaa.Zon

/-- The first k zones as a loss of power leaves them. -/
def lostTo (ls : List Int) (zs : List Zn) (k : Nat) : List Zn := lostL ls 0 (zs.take k) ++ zs.drop k
theorem lostL_snoc (ls : List Int) (z : Zn) : ∀ (xs : List Zn) (i : Nat), lostL ls i (xs ++ [z]) = lostL ls i xs ++ [lostZ ls (i + xs.length) z]
  | [], i => rfl
  | x :: xs, i => by
    show lostZ ls i x :: lostL ls (i + 1) (xs ++ [z]) = _
    rw [lostL_snoc ls z xs (i + 1)]
    simp only [List.length_cons]
    rw [show i + 1 + xs.length = i + (xs.length + 1) by omega]
    rfl
theorem lostTo_len (ls : List Int) (zs : List Zn) (k : Nat) : (lostTo ls zs k).length = zs.length := by
  unfold lostTo; rw [List.length_append, lostL_len, ← List.length_append, List.take_append_drop]
theorem lostTo_zero (ls : List Int) (zs : List Zn) : lostTo ls zs 0 = zs := rfl
theorem lostTo_all (ls : List Int) (m : Mc) : lostTo ls m.zs m.zs.length = lost m ls := by unfold lostTo lost; simp
theorem lostTo_at (ls : List Int) (zs : List Zn) (k : Nat) (h : k < zs.length) : zAt (lostTo ls zs k) k = zAt zs k := by
  unfold lostTo zAt
  rw [List.getD_eq_getElem?_getD, List.getElem?_append_right (by rw [lostL_len, List.length_take]; omega), lostL_len, List.length_take]
  rw [show min k zs.length = k by omega, Nat.sub_self, List.getElem?_drop, Nat.add_zero, ← List.getD_eq_getElem?_getD]
theorem lostTo_step (ls : List Int) (zs : List Zn) (k : Nat) (h : k < zs.length) : (lostTo ls zs k).set k (lostZ ls k (zAt zs k)) = lostTo ls zs (k + 1) := by
  unfold lostTo
  rw [List.take_succ_eq_append_getElem h, lostL_snoc, List.length_take, show 0 + min k zs.length = k by omega, zAt_get h]
  rw [List.set_append_right _ _ (by rw [lostL_len, List.length_take]; omega), lostL_len, List.length_take, show k - min k zs.length = 0 by omega, List.append_assoc]
  congr 1
  rw [List.drop_eq_getElem_cons h]
  rfl
end Go.Proofs.Ytncbkegflkjlfaa.Zon
