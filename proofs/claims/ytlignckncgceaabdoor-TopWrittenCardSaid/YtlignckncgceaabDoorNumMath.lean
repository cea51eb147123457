/- Plain facts on numbers as bytes: the digits to the base of 256, the highest first, and the number that they make. -/
namespace Go.Proofs.YtlignckncgceaabDoor.Num

def putL (n : Nat) : Nat → List UInt8
  | 0 => []
  | k + 1 => UInt8.ofNat (n / 256 ^ k % 256) :: putL n k
def numL (l : List UInt8) : Nat := l.foldl (fun n b => n * 256 + b.toNat) 0

theorem putL_length (n : Nat) : ∀ k, (putL n k).length = k
  | 0 => rfl
  | k + 1 => by show (putL n k).length + 1 = k + 1; rw [putL_length n k]
theorem numL_snoc (l : List UInt8) (b : UInt8) : numL (l ++ [b]) = numL l * 256 + b.toNat := by unfold numL; rw [List.foldl_append]; rfl
theorem fold_at (l : List UInt8) : ∀ a : Nat, l.foldl (fun n b => n * 256 + b.toNat) a = a * 256 ^ l.length + numL l := by
  unfold numL
  induction l with
  | nil => intro a; simp
  | cons b l ih =>
    intro a
    rw [List.foldl_cons, ih, List.foldl_cons, ih (0 * 256 + b.toNat), List.length_cons, Nat.pow_succ]
    rw [Nat.add_mul, Nat.mul_assoc a, Nat.mul_comm 256, Nat.zero_mul, Nat.zero_add, Nat.add_assoc]
theorem numL_cons (b : UInt8) (l : List UInt8) : numL (b :: l) = b.toNat * 256 ^ l.length + numL l := by
  show List.foldl _ (0 * 256 + b.toNat) l = _
  rw [fold_at]; simp
theorem numL_lt : ∀ l : List UInt8, numL l < 256 ^ l.length
  | [] => by show 0 < 1; omega
  | b :: l => by
    rw [numL_cons, List.length_cons, Nat.pow_succ]
    have h := numL_lt l
    have hb := b.toNat_lt
    generalize 256 ^ l.length = P at *
    have : b.toNat * P ≤ 255 * P := Nat.mul_le_mul_right _ (by omega)
    omega
theorem num_put (n : Nat) : ∀ k, numL (putL n k) = n % 256 ^ k
  | 0 => by show 0 = n % 1; omega
  | k + 1 => by
    show numL (UInt8.ofNat (n / 256 ^ k % 256) :: putL n k) = _
    have e : (UInt8.ofNat (n / 256 ^ k % 256)).toNat = n / 256 ^ k % 256 := by rw [UInt8.toNat_ofNat']; omega
    rw [numL_cons, putL_length, num_put n k, e, show 256 ^ (k + 1) = 256 ^ k * 256 from Nat.pow_succ .., Nat.mod_mul, Nat.mul_comm, Nat.add_comm]
theorem num_put_of (n k : Nat) (h : n < 256 ^ k) : numL (putL n k) = n := by rw [num_put, Nat.mod_eq_of_lt h]
/-- A byte more of room is a byte 0 ahead. -/
theorem put_wide (n k : Nat) (h : n < 256 ^ k) : putL n (k + 1) = 0 :: putL n k := by
  show UInt8.ofNat (n / 256 ^ k % 256) :: _ = _
  rw [Nat.div_eq_of_lt h]; rfl
theorem num_zero (l : List UInt8) : numL (0 :: l) = numL l := by rw [numL_cons]; simp
theorem put_inj {a b k : Nat} (ha : a < 256 ^ k) (hb : b < 256 ^ k) (h : putL a k = putL b k) : a = b := by
  rw [← num_put_of a k ha, ← num_put_of b k hb, h]

/-- What the bytes are with the lowest k digits laid. -/
def fill (n w k : Nat) : List UInt8 := List.replicate (w - k) 0 ++ putL n k
theorem fill_length (n w k : Nat) (h : k ≤ w) : (fill n w k).length = w := by unfold fill; rw [List.length_append, List.length_replicate, putL_length]; omega
theorem fill_step (n w k : Nat) (h : k < w) : (fill n w k).set (w - 1 - k) (UInt8.ofNat (n / 256 ^ k % 256)) = fill n w (k + 1) := by
  unfold fill
  rw [show w - k = (w - 1 - k) + 1 by omega, List.replicate_succ', List.append_assoc, List.set_append_right _ _ (by simp)]
  rw [List.length_replicate, Nat.sub_self, show w - (k + 1) = w - 1 - k by omega]
  rfl
theorem fill_end (n w : Nat) : fill n w w = putL n w := by unfold fill; simp
theorem fill_start (n w : Nat) : fill n w 0 = List.replicate w 0 := by unfold fill; simp [putL]

theorem pow8 (k : Nat) : 2 ^ (8 * k) = 256 ^ k := by rw [Nat.pow_mul]
theorem byte_digit (n k : Nat) : (UInt8.ofNat (n / 256 ^ k % 256)).toNat = n / 256 ^ k % 256 := by rw [UInt8.toNat_ofNat']; omega
theorem pow_le7 {k : Nat} (h : k ≤ 7) : 256 ^ k ≤ 72057594037927936 := by
  have := Nat.pow_le_pow_right (n := 256) (by omega) h
  simpa using this
end Go.Proofs.YtlignckncgceaabDoor.Num
