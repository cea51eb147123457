/- The plain mathematics of numbers, sums, parities and records. -/
namespace Go.Proofs.Ytdjdldcpaidmnaa.Xor
/-- Byte i of a text, 00 behind its end. -/
def byteAt (s : ByteArray) (i : Nat) : UInt8 := s.data.toList.getD i 0
/-- Byte i of the parity of texts. -/
def xorAt : List ByteArray → Nat → UInt8
  | [], _ => 0
  | p :: ps, i => byteAt p i ^^^ xorAt ps i
def longest : List ByteArray → Nat
  | [] => 0
  | p :: ps => max p.size (longest ps)
/-- The first n bytes of a row of bytes. -/
def textOf (f : Nat → UInt8) (n : Nat) : ByteArray := ⟨((List.range n).map f).toArray⟩
/-- The parity of texts. -/
def foldS (ps : List ByteArray) : ByteArray := textOf (xorAt ps) (longest ps)
theorem xorAt_snoc (ps : List ByteArray) (p : ByteArray) (i : Nat) : xorAt (ps ++ [p]) i = xorAt ps i ^^^ byteAt p i := by
  induction ps with
  | nil => show byteAt p i ^^^ 0 = 0 ^^^ byteAt p i; rw [UInt8.xor_zero, UInt8.zero_xor]
  | cons q ps ih => show byteAt q i ^^^ xorAt (ps ++ [p]) i = _; rw [ih, ← UInt8.xor_assoc]; rfl
theorem longest_snoc (ps : List ByteArray) (p : ByteArray) : longest (ps ++ [p]) = max (longest ps) p.size := by
  induction ps with
  | nil => show max p.size 0 = max 0 p.size; omega
  | cons q ps ih => show max q.size (longest (ps ++ [p])) = max (max q.size (longest ps)) p.size; rw [ih]; omega
theorem longest_ge {ps : List ByteArray} {p : ByteArray} (h : p ∈ ps) : p.size ≤ longest ps := by
  induction ps with
  | nil => cases h
  | cons q ps ih =>
    show p.size ≤ max q.size (longest ps)
    rcases List.mem_cons.1 h with rfl | h
    · omega
    · have := ih h; omega
theorem longest_le {ps : List ByteArray} {n : Nat} (h : ∀ p ∈ ps, p.size ≤ n) : longest ps ≤ n := by
  induction ps with
  | nil => exact Nat.zero_le _
  | cons q ps ih =>
    show max q.size (longest ps) ≤ n
    have h1 := h q (List.mem_cons_self ..)
    have h2 := ih fun p hp => h p (List.mem_cons_of_mem _ hp)
    omega
theorem byteAt_ge {s : ByteArray} {i : Nat} (h : s.size ≤ i) : byteAt s i = 0 := by
  unfold byteAt
  rw [List.getD_eq_getElem?_getD, List.getElem?_eq_none (by simpa using h)]; rfl
theorem byteAt_lt {s : ByteArray} {i : Nat} (h : i < s.size) : byteAt s i = s[i] := by
  unfold byteAt
  rw [List.getD_eq_getElem?_getD, List.getElem?_eq_getElem (by simpa using h)]; rfl
theorem size_textOf (f : Nat → UInt8) (n : Nat) : (textOf f n).size = n := by show ((List.range n).map f).toArray.size = n; simp
theorem toList_textOf (f : Nat → UInt8) (n : Nat) : (textOf f n).data.toList = (List.range n).map f := rfl
theorem byteAt_textOf (f : Nat → UInt8) (n i : Nat) : byteAt (textOf f n) i = if i < n then f i else 0 := by
  unfold byteAt
  rw [toList_textOf, List.getD_eq_getElem?_getD]
  by_cases h : i < n
  · rw [if_pos h, List.getElem?_eq_getElem (by simpa using h)]; simp
  · rw [if_neg h, List.getElem?_eq_none (by simpa using h)]; rfl
theorem xorAt_ge {ps : List ByteArray} {i : Nat} (h : longest ps ≤ i) : xorAt ps i = 0 := by
  induction ps with
  | nil => rfl
  | cons q ps ih =>
    have h' : max q.size (longest ps) ≤ i := h
    show byteAt q i ^^^ xorAt ps i = 0
    rw [byteAt_ge (by omega), ih (by omega)]; rfl
theorem size_foldS (ps : List ByteArray) : (foldS ps).size = longest ps := size_textOf _ _
theorem byteAt_foldS (ps : List ByteArray) (i : Nat) : byteAt (foldS ps) i = xorAt ps i := by
  unfold foldS
  rw [byteAt_textOf]
  by_cases h : i < longest ps
  · rw [if_pos h]
  · rw [if_neg h, xorAt_ge (by omega)]
/-- Texts of the same bytes are the same. -/
theorem text_ext {s t : ByteArray} (hs : s.size = t.size) (h : ∀ i, i < s.size → byteAt s i = byteAt t i) : s = t := by
  have e : s.data.toList = t.data.toList := by
    apply List.ext_getElem
    · simpa using hs
    · intro i h1 h2
      have h3 := h i (by simpa using h1)
      rw [byteAt_lt (by simpa using h1), byteAt_lt (by simpa using h2)] at h3
      exact h3
  rcases s with ⟨⟨s⟩⟩; rcases t with ⟨⟨t⟩⟩
  simpa using e
/-- A row of bytes as a number, the first one lowest. -/
def pack (f : Nat → UInt8) : Nat → Nat
  | 0 => 0
  | n + 1 => (f 0).toNat + 256 * pack (fun i => f (i + 1)) n
theorem pack_lt : ∀ (n : Nat) (f : Nat → UInt8), pack f n < 256 ^ n
  | 0, _ => by show 0 < 1; omega
  | n + 1, f => by
    show (f 0).toNat + 256 * pack (fun i => f (i + 1)) n < 256 ^ (n + 1)
    have h := pack_lt n (fun i => f (i + 1))
    have hb := (f 0).toNat_lt
    rw [Nat.pow_succ]; omega
theorem pack_snoc : ∀ (n : Nat) (f : Nat → UInt8), pack f (n + 1) = pack f n + (f n).toNat * 256 ^ n
  | 0, f => by show (f 0).toNat + 256 * 0 = 0 + (f 0).toNat * 1; omega
  | n + 1, f => by
    show (f 0).toNat + 256 * pack (fun i => f (i + 1)) (n + 1) = (f 0).toNat + 256 * pack (fun i => f (i + 1)) n + (f (n + 1)).toNat * 256 ^ (n + 1)
    rw [pack_snoc n (fun i => f (i + 1)), Nat.pow_succ, Nat.mul_add, ← Nat.mul_assoc _ (256 ^ n) 256, Nat.mul_comm 256 ((f (n + 1)).toNat * 256 ^ n), Nat.add_assoc]
theorem xor_join (a b x y : Nat) (ha : a < 256) (hb : b < 256) : (a + 256 * x) ^^^ (b + 256 * y) = (a ^^^ b) + 256 * (x ^^^ y) := by
  have hab : a ^^^ b < 256 := Nat.xor_lt_two_pow (n := 8) ha hb
  have h1 : ((a + 256 * x) ^^^ (b + 256 * y)) % 2 ^ 8 = a ^^^ b := by
    rw [Nat.xor_mod_two_pow]
    congr 1 <;> omega
  have h2 : ((a + 256 * x) ^^^ (b + 256 * y)) / 2 ^ 8 = x ^^^ y := by
    rw [Nat.xor_div_two_pow]
    congr 1 <;> omega
  omega
theorem pack_xor : ∀ (n : Nat) (f g : Nat → UInt8), pack f n ^^^ pack g n = pack (fun i => f i ^^^ g i) n
  | 0, _, _ => by simp [pack]
  | n + 1, f, g => by
    show ((f 0).toNat + 256 * pack (fun i => f (i + 1)) n) ^^^ ((g 0).toNat + 256 * pack (fun i => g (i + 1)) n) = (f 0 ^^^ g 0).toNat + 256 * pack (fun i => f (i + 1) ^^^ g (i + 1)) n
    rw [xor_join _ _ _ _ (f 0).toNat_lt (g 0).toNat_lt, pack_xor n, UInt8.toNat_xor]
theorem pack_byte : ∀ (i n : Nat) (f : Nat → UInt8), i < n → pack f n / 256 ^ i % 256 = (f i).toNat
  | 0, n + 1, f, _ => by
    show ((f 0).toNat + 256 * pack (fun i => f (i + 1)) n) / 1 % 256 = (f 0).toNat
    have hb := (f 0).toNat_lt
    omega
  | i + 1, n + 1, f, h => by
    show ((f 0).toNat + 256 * pack (fun i => f (i + 1)) n) / 256 ^ (i + 1) % 256 = (f (i + 1)).toNat
    have hb := (f 0).toNat_lt
    rw [show 256 ^ (i + 1) = 256 * 256 ^ i by rw [Nat.pow_succ, Nat.mul_comm], ← Nat.div_div_eq_div_mul, show ((f 0).toNat + 256 * pack (fun i => f (i + 1)) n) / 256 = pack (fun i => f (i + 1)) n by omega]
    exact pack_byte i n (fun i => f (i + 1)) (by omega)
theorem pack_congr : ∀ (n : Nat) (f g : Nat → UInt8), (∀ i, i < n → f i = g i) → pack f n = pack g n
  | 0, _, _, _ => rfl
  | n + 1, f, g, h => by
    show (f 0).toNat + 256 * pack (fun i => f (i + 1)) n = (g 0).toNat + 256 * pack (fun i => g (i + 1)) n
    rw [h 0 (by omega), pack_congr n (fun i => f (i + 1)) (fun i => g (i + 1)) fun i hi => h (i + 1) (by omega)]
theorem pack_short (f : Nat → UInt8) (m n : Nat) (hmn : m ≤ n) (h : ∀ i, m ≤ i → i < n → f i = 0) : pack f n = pack f m := by
  induction n with
  | zero => have : m = 0 := by omega
            rw [this]
  | succ n ih =>
    by_cases e : m = n + 1
    · rw [e]
    · rw [pack_snoc, h n (by omega) (by omega), ih (by omega) fun i h1 h2 => h i h1 (by omega)]; simp
theorem pack_lt8 (f : Nat → UInt8) : pack f 8 < 18446744073709551616 := by
  have := pack_lt 8 f
  simpa using this
theorem byteAt_extract (s : ByteArray) (k i : Nat) : byteAt (s.extract k s.size) i = byteAt s (k + i) := by
  unfold byteAt
  rw [ByteArray.data_extract, Array.toList_extract, List.getD_eq_getElem?_getD, List.getD_eq_getElem?_getD]
  simp only [List.extract]
  congr 1
  rw [List.take_of_length_le (by rw [List.length_drop, Array.length_toList]; exact Nat.le_refl _), List.getElem?_drop]
end Go.Proofs.Ytdjdldcpaidmnaa.Xor
