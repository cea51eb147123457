/- What the document's parities and places are. -/
import Derived.Test.YtdjdldcpaidmnaaMGeo
import Derived.Test.YtdjdldcpaidmnaaSStr
import Derived.Test.YtdjdldcpaidmnaaMBase
import Derived.Deep.AppendLies
import Derived.Laws.BytesArg
namespace Go.Proofs.Ytdjdldcpaidmnaa
open Go.RowKit Xor
theorem missing_any (a : ByteArray) (A : Option Addr) (cap : Nat) (ps : List ByteArray) (w : World) (ha : a.size ≤ 65536) (hl : ps.length ≤ 1000000) (hL : longest ps ≤ 65536) (hS : StrsIn w A ps) :
    Calls Try.prog 50 #[.string a, .slice A ps.length cap] w fun e w' => e = .returned (.string (foldS [a, foldS ps])) ∧ Below w.heap.size w w' := by
  have hf1 := Lib.hid (fold_any A cap ps w hl hL hS)
  have ha1 := Lib.hid (fun W => xadd_any a (foldS ps) W ha (by rw [size_foldS]; exact hL))
  clear hS
  go_enter Try.func50, Try.ntmps50
  go_wp2_with fail
  (with_reducible refine hf1.out.mono ?_)
  rintro e w1 ⟨rfl, hb1⟩
  go_wp2_with fail
  (with_reducible refine (ha1.out _).mono ?_)
  rintro e w2 ⟨rfl, hb2⟩
  have hB := bmore hb1 hb2
  clear hb1 hb2
  go_wp2
  go_ret
  exact ⟨rfl, hB⟩
/-- More than a few thousand bytes? From the i-th text on, n bytes ahead of it. -/
def muchFrom : Nat → Nat → List ByteArray → Bool
  | _, _, [] => false
  | i, n, p :: ps => if 5000 < n + p.size ∨ 200 < i then true else muchFrom (i + 1) (n + p.size) ps
def muchB (ps : List ByteArray) : Bool := muchFrom 0 0 ps
theorem muchFrom_false : ∀ (ps : List ByteArray) (i n : Nat), muchFrom i n ps = false → n ≤ 5000 → i ≤ 201 → i + ps.length ≤ 201 ∧ ∀ p ∈ ps, p.size ≤ 5000
  | [], i, _, _, _, hi => ⟨by simpa using hi, by simp⟩
  | p :: ps, i, n, h, hn, hi => by
    unfold muchFrom at h
    by_cases hc : 5000 < n + p.size ∨ 200 < i
    · rw [if_pos hc] at h; cases h
    · rw [if_neg hc] at h
      obtain ⟨h1, h2⟩ := muchFrom_false ps (i + 1) (n + p.size) h (by omega) (by omega)
      refine ⟨by simp only [List.length_cons]; omega, fun q hq => ?_⟩
      rcases List.mem_cons.1 hq with rfl | hq
      · omega
      · exact h2 q hq
theorem much_false {ps : List ByteArray} (h : muchB ps = false) : ps.length ≤ 201 ∧ ∀ p ∈ ps, p.size ≤ 5000 := by
  have := muchFrom_false ps 0 0 h (by omega) (by omega)
  exact ⟨by omega, this.2⟩
end Go.Proofs.Ytdjdldcpaidmnaa
namespace Go.Proofs.Ytdjdldcpaidmnaa
open Go.RowKit Xor
theorem twice_at (a b : ByteArray) (i : Nat) : byteAt (foldS [foldS [a, b], b]) i = byteAt a i := by
  rw [byteAt_foldS, xorAt_two, byteAt_foldS, xorAt_two, UInt8.xor_assoc, UInt8.xor_self, UInt8.xor_zero]
theorem byteAt_head (s : ByteArray) (k i : Nat) : byteAt (s.extract 0 k) i = if i < k then byteAt s i else 0 := by
  unfold byteAt
  rw [ByteArray.data_extract, Array.toList_extract, List.getD_eq_getElem?_getD, List.getD_eq_getElem?_getD]
  simp only [List.extract, List.drop_zero, Nat.sub_zero, List.getElem?_take]
  split <;> rfl
theorem size_extract_head (s : ByteArray) (k : Nat) (h : k ≤ s.size) : (s.extract 0 k).size = k := by rw [ByteArray.size_extract]; omega
theorem twice_head (a b : ByteArray) : (foldS [foldS [a, b], b]).extract 0 a.size = a := by
  have hs : (foldS [foldS [a, b], b]).size = max (max a.size b.size) b.size := by rw [size_two, size_two]
  refine text_ext (size_extract_head _ _ (by omega)) fun i hi => ?_
  rw [size_extract_head _ _ (by omega)] at hi
  rw [byteAt_head, if_pos hi, twice_at]
theorem twice_tail (a b : ByteArray) : emptyB ((foldS [foldS [a, b], b]).extract a.size (foldS [foldS [a, b], b]).size) = true :=
  emptyB_mk fun i _ => by rw [byteAt_extract, twice_at, byteAt_ge (by omega)]
end Go.Proofs.Ytdjdldcpaidmnaa
namespace Go.Proofs.Ytdjdldcpaidmnaa
open Go.RowKit Xor
/-- A text with so many noughts behind it. -/
def pad (p : ByteArray) (n : Nat) : ByteArray := p ++ ⟨(List.replicate (n - p.size) 0).toArray⟩
theorem size_pad {p : ByteArray} {n : Nat} (h : p.size ≤ n) : (pad p n).size = n := by
  unfold pad
  rw [ByteArray.size_append]
  have : (⟨(List.replicate (n - p.size) 0).toArray⟩ : ByteArray).size = n - p.size := by rw [ofList_size]; simp
  omega
theorem byteAt_append (p z : ByteArray) (i : Nat) : byteAt (p ++ z) i = if i < p.size then byteAt p i else byteAt z (i - p.size) := by
  unfold byteAt
  rw [ByteArray.data_append, Array.toList_append, List.getD_eq_getElem?_getD]
  have hs : p.data.toList.length = p.size := by rw [Array.length_toList]; rfl
  by_cases h : i < p.size
  · rw [if_pos h, List.getElem?_append_left (by omega), ← List.getD_eq_getElem?_getD]
  · rw [if_neg h, List.getElem?_append_right (by omega), hs, ← List.getD_eq_getElem?_getD]
theorem byteAt_noughts (m i : Nat) : byteAt (⟨(List.replicate m 0).toArray⟩ : ByteArray) i = 0 := by
  unfold byteAt
  show (List.replicate m (0 : UInt8)).getD i 0 = 0
  rw [List.getD_eq_getElem?_getD, List.getElem?_replicate]
  split <;> rfl
theorem byteAt_pad (p : ByteArray) (n i : Nat) : byteAt (pad p n) i = byteAt p i := by
  unfold pad
  rw [byteAt_append, byteAt_noughts]
  split
  · rfl
  · rw [byteAt_ge (by omega)]
def padL (ps : List ByteArray) (n : Nat) : List ByteArray := ps.map fun p => pad p n
theorem padL_take (ps : List ByteArray) (n k : Nat) (h : k < ps.length) : padL (ps.take k) n ++ [pad ps[k] n] = padL (ps.take (k + 1)) n := by
  unfold padL; rw [List.take_succ_eq_append_getElem h, List.map_append]; rfl
theorem longest_same {L : List ByteArray} {n : Nat} (h0 : 0 < L.length) (h : ∀ p ∈ L, p.size = n) : longest L = n := by
  have h1 := longest_le (n := n) fun p hp => Nat.le_of_eq (h p hp)
  have h2 := longest_ge (List.getElem_mem h0)
  rw [h _ (List.getElem_mem h0)] at h2
  omega
theorem size_padL {ps : List ByteArray} {n : Nat} (h : longest ps ≤ n) : ∀ p ∈ padL ps n, p.size = n := fun p hp => by
  obtain ⟨q, hq, rfl⟩ := List.mem_map.1 hp
  exact size_pad (Nat.le_trans (longest_ge hq) h)
/-- The texts but one, so far. -/
def Others (L O : List ByteArray) (l k n : Nat) : Prop := (∀ t, xorAt O t = xorAt (L.take k) t ^^^ (if l < k then byteAt (L.getD l ByteArray.empty) t else 0)) ∧ (∀ p ∈ O, p.size = n) ∧ O.length + (if l < k then 1 else 0) = k
theorem Others.start (L : List ByteArray) (l n : Nat) : Others L [] l 0 n := ⟨fun t => by rw [if_neg (by omega), UInt8.xor_zero]; rfl, by simp, by simp⟩
theorem xorAt_take' (L : List ByteArray) (k i : Nat) (h : k < L.length) : xorAt (L.take (k + 1)) i = xorAt (L.take k) i ^^^ byteAt L[k] i := by
  rw [List.take_succ_eq_append_getElem h, xorAt_snoc]
theorem Others.skip {L O : List ByteArray} {l n : Nat} (h : Others L O l l n) (hl : l < L.length) : Others L O l (l + 1) n := by
  obtain ⟨o1, o2, o3⟩ := h
  rw [if_neg (by omega)] at o3
  refine ⟨fun t => ?_, o2, by rw [if_pos (by omega)]; omega⟩
  have hgd : L.getD l ByteArray.empty = L[l] := by rw [List.getD_eq_getElem?_getD, List.getElem?_eq_getElem hl]; rfl
  rw [o1 t, xorAt_take' L l t hl, if_neg (by omega), if_pos (by omega), hgd, UInt8.xor_assoc, UInt8.xor_self]
theorem Others.more {L O : List ByteArray} {l k n : Nat} (h : Others L O l k n) (hk : k < L.length) (hne : k ≠ l) (hs : L[k].size = n) : Others L (O ++ [L[k]]) l (k + 1) n := by
  obtain ⟨o1, o2, o3⟩ := h
  refine ⟨fun t => ?_, fun p hp => ?_, ?_⟩
  · rw [xorAt_snoc, o1 t, xorAt_take' L k t hk, UInt8.xor_assoc, UInt8.xor_assoc]
    congr 1
    by_cases hc : l < k
    · rw [if_pos hc, if_pos (by omega), UInt8.xor_comm]
    · rw [if_neg hc, if_neg (by omega), UInt8.zero_xor, UInt8.xor_zero]
  · rcases List.mem_append.1 hp with hp | hp
    · exact o2 p hp
    · rw [List.mem_singleton.1 hp]; exact hs
  · rw [List.length_append, List.length_singleton]
    by_cases hc : l < k
    · rw [if_pos hc] at o3; rw [if_pos (by omega)]; omega
    · rw [if_neg hc] at o3; rw [if_neg (by omega)]; omega
theorem Others.tells {L O : List ByteArray} {l n : Nat} (h : Others L O l L.length n) (hl : l < L.length) (hL : ∀ p ∈ L, p.size = n) : foldS [foldS L, foldS O] = L[l] := by
  obtain ⟨o1, o2, o3⟩ := h
  have hgd : L.getD l ByteArray.empty = L[l] := by rw [List.getD_eq_getElem?_getD, List.getElem?_eq_getElem hl]; rfl
  have hO : longest O ≤ n := longest_le fun p hp => Nat.le_of_eq (o2 p hp)
  have hLn := longest_same (by omega) hL
  refine text_ext (by rw [size_two, size_foldS, size_foldS, hLn, hL _ (List.getElem_mem hl)]; omega) fun i _ => ?_
  rw [byteAt_foldS, xorAt_two, byteAt_foldS, byteAt_foldS, o1 i, List.take_length, if_pos hl, hgd, ← UInt8.xor_assoc, UInt8.xor_self, UInt8.zero_xor]
end Go.Proofs.Ytdjdldcpaidmnaa
namespace Go.Proofs.Ytdjdldcpaidmnaa
open Go.RowKit Xor
theorem xor_u8 (x y : UInt8) : bits .xor .u8 (x.toNat : Int) (y.toNat : Int) = ((x ^^^ y).toNat : Int) := by
  show IntKind.u8.wrap ((BitVec.ofInt 8 (x.toNat : Int) ^^^ BitVec.ofInt 8 (y.toNat : Int)).toNat : Int) = _
  have hx := x.toNat_lt
  have hy := y.toNat_lt
  have e : ∀ z : Nat, z < 256 → (BitVec.ofInt 8 (z : Int)).toNat = z := fun z hz => by rw [BitVec.ofInt_natCast, BitVec.toNat_ofNat]; exact Nat.mod_eq_of_lt hz
  rw [BitVec.toNat_xor, e _ hx, e _ hy, UInt8.toNat_xor]
  have hl : x.toNat ^^^ y.toNat < 2 ^ 8 := Nat.xor_lt_two_pow hx hy
  rw [IntKind.wrap_u8]; omega
/-- So many bytes of the sum have been laid. -/
def LaidB (w wr : World) (v : Value) (f : Nat → UInt8) (j : Nat) : Prop := wr.ownsRow w.heap.size 5 1 v j (bytesV f j) ∧ (v = .slice none 0 0 ↔ j = 0) ∧ Below w.heap.size w wr
theorem LaidB.step {w wr w' : World} {v v' : Value} {f : Nat → UInt8} {j : Nat} {o : Obj} (h : LaidB w wr v f j) (hown : w'.ownsRow w.heap.size 5 1 v' (j + 1) (bytesV f j ++ [.int .u8 ((f j).toNat : Int)])) (hg : (wr.alloc o).grownBy w' v.ownBlock) : LaidB w w' v' f (j + 1) := by
  obtain ⟨h1, h2, h3⟩ := h
  refine ⟨by rw [← bytesV_succ]; exact hown, ?_, (h3.alloc h3.size o).grown hg (by have := h3.size; simp; omega) fun k e => (h1.lt k e).1⟩
  constructor
  · intro e
    obtain ⟨g, cap, hv, _⟩ := hown.form (by omega)
    rw [e] at hv; cases hv
  · omega
end Go.Proofs.Ytdjdldcpaidmnaa
namespace Go.Proofs.Ytdjdldcpaidmnaa
open Go.RowKit
def bkB (D Z B O A zone row drive : Int) : Bool := decide (0 ≤ parV D Z B O A zone row) && decide (drive ≠ parV D Z B O A zone row) && betB drive 0 (D - 1)
def bkV (D Z B O A zone row drive : Int) : Int := if bkB D Z B O A zone row drive = true then row * (D - 1) + (drive - parV D Z B O A zone row - 1 + D) % D else 0
set_option maxHeartbeats 1000000 in
theorem back_any (D Z B O A zone row drive : Int) (w : World) :
    Calls Try.prog 27 #[.agg #[.int .i64 D, .int .i64 Z, .int .i64 B, .int .i64 O, .int .i64 A], .int .i64 zone, .int .i64 row, .int .i64 drive] w fun e w' => e = .returned (.tuple #[.int .i64 (bkV D Z B O A zone row drive), .bool (bkB D Z B O A zone row drive)]) ∧ Below w.heap.size w w' := by
  have c1 := fun W => parity_any D Z B O A zone row W
  obtain ⟨pb1, pb2⟩ := parV_bd D Z B O A zone row
  unfold bkV bkB
  generalize parV D Z B O A zone row = p at c1 pb1 pb2 ⊢
  have c1H := Lib.hid c1
  clear c1
  by_cases hp : p < 0
  · rw [decide_eq_false (show ¬ 0 ≤ p by omega), Bool.false_and, Bool.false_and, if_neg (by decide)]
    clear pb1 pb2
    have hN := GeoAt.new w D Z B O A 30
    have hB0 : Below w.heap.size w (w.alloc (.cells #[.int .i64 D, .int .i64 Z, .int .i64 B, .int .i64 O, .int .i64 A] 30)) := (Below.refl _ _).alloc (Nat.le_refl _) _
    have hNH := Lib.hid hN
    have hBH := Lib.hid hB0
    clear hN hB0
    go_enter Try.func27, Try.ntmps27
    go_wp2_with fail
    (with_reducible refine (c1H.out _).mono ?_)
    rintro e w1 ⟨rfl, hb1⟩
    have hG := hNH.out.below hb1
    have hB := bmore hBH.out hb1
    clear hNH hBH hb1

    have hGH := Lib.hid hG
    have hBH := Lib.hid hB
    clear hB
    obtain ⟨h0, h1, h2, h3, h4, _⟩ := hG
    go_wp2
    go_ret2
    exact ⟨rfl, hBH.out⟩
  · have hp0 : 0 ≤ p := by omega
    rw [decide_eq_true hp0, Bool.true_and]
    obtain ⟨⟨g1, g2, g3, g4, g5, g6, _⟩, r1, r2, z1, z2, _, p2⟩ := pb2.resolve_left (by omega)
    clear hp pb1 pb2
    by_cases hd : drive = p
    · subst hd
      rw [decide_eq_false (fun h => h rfl), Bool.false_and, if_neg (by decide)]
      have hN := GeoAt.new w D Z B O A 30
      have hB0 : Below w.heap.size w (w.alloc (.cells #[.int .i64 D, .int .i64 Z, .int .i64 B, .int .i64 O, .int .i64 A] 30)) := (Below.refl _ _).alloc (Nat.le_refl _) _
      have hNH := Lib.hid hN
      have hBH := Lib.hid hB0
      clear hN hB0
      go_enter Try.func27, Try.ntmps27
      go_wp2_with fail
      (with_reducible refine (c1H.out _).mono ?_)
      rintro e w1 ⟨rfl, hb1⟩
      have hG := hNH.out.below hb1
      have hB := bmore hBH.out hb1
      clear hNH hBH hb1

      have hGH := Lib.hid hG
      have hBH := Lib.hid hB
      clear hB
      obtain ⟨h0, h1, h2, h3, h4, _⟩ := hG
      go_wp2
      go_ret2
      exact ⟨rfl, hBH.out⟩
    · rw [decide_eq_true hd, Bool.true_and]
      have hpf : decide (p < 0) = false := decide_eq_false (by omega)
      have hdf : (drive == p) = false := by rw [beq_eq_false_iff_ne]; exact hd
      have c2 := fun W => between_any drive 0 (D - 1) W
      by_cases hb : betB drive 0 (D - 1) = true
      · rw [if_pos hb, hb]
        rw [hb] at c2
        obtain ⟨d1, d2⟩ := betB_iff.1 hb
        clear hb
        have c2H := Lib.hid c2
        have c3H := Lib.hid (fun W => perRow_any D Z B O A W ⟨g1, g2⟩)
        have hm := mul_bd (a := row) (b := D - 1) (m := 256) (n := 16) (by omega) (by omega) (by omega) (by omega)
        have hk1 := Int.emod_nonneg (drive - p - 1 + D) (show D ≠ 0 by omega)
        have hk2 := Int.emod_lt_of_pos (drive - p - 1 + D) (show 0 < D by omega)
        obtain ⟨m, hm0⟩ : ∃ m, row * (D - 1) = m := ⟨_, rfl⟩
        obtain ⟨k, hk0⟩ : ∃ k, (drive - p - 1 + D) % D = k := ⟨_, rfl⟩
        rw [hm0] at hm ⊢
        rw [hk0] at hk1 hk2 ⊢
        obtain ⟨m1, m2⟩ := hm
        have e1 : (drive - p - 1 + D).tmod D = k := by rw [Int.tmod_eq_emod_of_nonneg (by omega)]; exact hk0
        have hm0H := Lib.hid hm0
        have hk0H := Lib.hid hk0
        have e1H := Lib.hid e1
        have hD0 : ¬ D = 0 := by omega
        clear c2 hm0 hk0 e1
        have hN := GeoAt.new w D Z B O A 30
        have hB0 : Below w.heap.size w (w.alloc (.cells #[.int .i64 D, .int .i64 Z, .int .i64 B, .int .i64 O, .int .i64 A] 30)) := (Below.refl _ _).alloc (Nat.le_refl _) _
        have hNH := Lib.hid hN
        have hBH := Lib.hid hB0
        clear hN hB0
        go_enter Try.func27, Try.ntmps27
        go_wp2_with fail
        (with_reducible refine (c1H.out _).mono ?_)
        rintro e w1 ⟨rfl, hb1⟩
        have hG := hNH.out.below hb1
        have hB := bmore hBH.out hb1
        clear hNH hBH hb1

        have hGH := Lib.hid hG
        have hBH := Lib.hid hB
        clear hB
        obtain ⟨h0, h1, h2, h3, h4, _⟩ := hG
        go_wp2_with fail
        (with_reducible refine (c2H.out _).mono ?_)
        rintro e w2 ⟨rfl, rfl⟩
        have hk0 := hk0H.out
        go_wp2_with fail
        (with_reducible refine (c3H.out _).mono ?_)
        rintro e w3 ⟨rfl, hb3⟩
        have hG := hGH.out.below hb3
        have hB := bmore hBH.out hb3
        clear hGH hBH hb3
        clear h0 h1 h2 h3 h4
        have hGH := Lib.hid hG
        have hBH := Lib.hid hB
        clear hB
        obtain ⟨h0, h1, h2, h3, h4, _⟩ := hG
        have hm0 := hm0H.out
        go_wp2
        go_ret2
        exact ⟨rfl, hBH.out⟩
      · rw [if_neg hb]
        rw [Bool.not_eq_true] at hb
        rw [hb] at c2 ⊢
        clear hb
        have c2H := Lib.hid c2
        clear c2
        have hN := GeoAt.new w D Z B O A 30
        have hB0 : Below w.heap.size w (w.alloc (.cells #[.int .i64 D, .int .i64 Z, .int .i64 B, .int .i64 O, .int .i64 A] 30)) := (Below.refl _ _).alloc (Nat.le_refl _) _
        have hNH := Lib.hid hN
        have hBH := Lib.hid hB0
        clear hN hB0
        go_enter Try.func27, Try.ntmps27
        go_wp2_with fail
        (with_reducible refine (c1H.out _).mono ?_)
        rintro e w1 ⟨rfl, hb1⟩
        have hG := hNH.out.below hb1
        have hB := bmore hBH.out hb1
        clear hNH hBH hb1

        have hGH := Lib.hid hG
        have hBH := Lib.hid hB
        clear hB
        obtain ⟨h0, h1, h2, h3, h4, _⟩ := hG
        go_wp2_with fail
        (with_reducible refine (c2H.out _).mono ?_)
        rintro e w2 ⟨rfl, rfl⟩
        go_wp2
        go_ret2
        exact ⟨rfl, hBH.out⟩
end Go.Proofs.Ytdjdldcpaidmnaa
namespace Go.Proofs.Ytdjdldcpaidmnaa
open Go.RowKit
set_option maxHeartbeats 1000000 in
theorem refgood_any (D Z B O A : Int) (w : World) :
    Calls Try.prog 9 #[.agg #[.int .i64 D, .int .i64 Z, .int .i64 B, .int .i64 O, .int .i64 A]] w fun e w' => e = .returned (.bool (goodB D Z B O A)) ∧ Below w.heap.size w w' := by
  by_cases h0 : D < 3
  · have e : goodB D Z B O A = false := decide_eq_false (by unfold GoodP; omega)
    rw [e]; clear e
    go_enter Try.func9, Try.ntmps9
    go_wp2
    go_ret
    exact ⟨rfl, (Below.refl _ _).alloc (Nat.le_refl _) _⟩
  by_cases h1 : 16 < D
  · have e : goodB D Z B O A = false := decide_eq_false (by unfold GoodP; omega)
    rw [e]; clear e
    go_enter Try.func9, Try.ntmps9
    go_wp2
    go_ret
    exact ⟨rfl, (Below.refl _ _).alloc (Nat.le_refl _) _⟩
  by_cases h2 : Z < 5
  · have e : goodB D Z B O A = false := decide_eq_false (by unfold GoodP; omega)
    rw [e]; clear e
    go_enter Try.func9, Try.ntmps9
    go_wp2
    go_ret
    exact ⟨rfl, (Below.refl _ _).alloc (Nat.le_refl _) _⟩
  by_cases h3 : 64 < Z
  · have e : goodB D Z B O A = false := decide_eq_false (by unfold GoodP; omega)
    rw [e]; clear e
    go_enter Try.func9, Try.ntmps9
    go_wp2
    go_ret
    exact ⟨rfl, (Below.refl _ _).alloc (Nat.le_refl _) _⟩
  by_cases h4 : B < 4
  · have e : goodB D Z B O A = false := decide_eq_false (by unfold GoodP; omega)
    rw [e]; clear e
    go_enter Try.func9, Try.ntmps9
    go_wp2
    go_ret
    exact ⟨rfl, (Below.refl _ _).alloc (Nat.le_refl _) _⟩
  by_cases h5 : 256 < B
  · have e : goodB D Z B O A = false := decide_eq_false (by unfold GoodP; omega)
    rw [e]; clear e
    go_enter Try.func9, Try.ntmps9
    go_wp2
    go_ret
    exact ⟨rfl, (Below.refl _ _).alloc (Nat.le_refl _) _⟩
  by_cases h6 : O < 1
  · have e : goodB D Z B O A = false := decide_eq_false (by unfold GoodP; omega)
    rw [e]; clear e
    go_enter Try.func9, Try.ntmps9
    go_wp2
    go_ret
    exact ⟨rfl, (Below.refl _ _).alloc (Nat.le_refl _) _⟩
  by_cases h7 : A < O
  · have e : goodB D Z B O A = false := decide_eq_false (by unfold GoodP; omega)
    rw [e]; clear e
    go_enter Try.func9, Try.ntmps9
    go_wp2
    go_ret
    exact ⟨rfl, (Below.refl _ _).alloc (Nat.le_refl _) _⟩
  by_cases h8 : Z < A
  · have e : goodB D Z B O A = false := decide_eq_false (by unfold GoodP; omega)
    rw [e]; clear e
    have k9 : decide (A ≤ Z) = false := decide_eq_false (by omega)
    go_enter Try.func9, Try.ntmps9
    go_wp2
    go_ret
    exact ⟨rfl, (Below.refl _ _).alloc (Nat.le_refl _) _⟩
  have e : goodB D Z B O A = true := decide_eq_true (by unfold GoodP; omega)
  rw [e]; clear e
  go_enter Try.func9, Try.ntmps9
  go_wp2
  go_ret
  exact ⟨rfl, (Below.refl _ _).alloc (Nat.le_refl _) _⟩
end Go.Proofs.Ytdjdldcpaidmnaa
namespace Go.Proofs.Ytdjdldcpaidmnaa
open Go.RowKit
theorem emod_small {a b : Int} (h0 : 0 ≤ a) (h1 : a < b) : a % b = a := Int.emod_eq_of_lt h0 h1
end Go.Proofs.Ytdjdldcpaidmnaa
