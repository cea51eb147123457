/- Texts whose bytes are known. -/
import Derived.Test.YtbgkmppngnedlaaDoorOBase
import Derived.Test.YtbgkmppngnedlaaDoorOCrc
import Derived.Test.YtbgkmppngnedlaaDoorOMath
import Derived.Laws.EntriesVeiled
import Derived.Test.YtbgkmppngnedlaaDoorOXor
namespace Go.Proofs.YtbgkmppngnedlaaDoor.Rec
/-- A record: its kind, its number, four numbers, its body. -/
structure Rc where
  k : Int
  s : Int
  a : Int
  b : Int
  c : Int
  d : Int
  body : ByteArray
end Go.Proofs.YtbgkmppngnedlaaDoor.Rec
namespace Go.Proofs.YtbgkmppngnedlaaDoor
open Go.RowKit Rec
instance : Inhabited Rc := ⟨⟨0, 0, 0, 0, 0, 0, ⟨#[]⟩⟩⟩
/-- The value of a record. -/
def Rec.Rc.val (r : Rc) : Value := .agg #[.int .i64 r.k, .int .i64 r.s, .int .i64 r.a, .int .i64 r.b, .int .i64 r.c, .int .i64 r.d, .string r.body]
/-- A record in a box. -/
structure RcAt (W : World) (B : Nat) (r : Rc) : Prop where
  c0 : W.cell? ⟨B, 0, none⟩ = some (.int .i64 r.k)
  c1 : W.cell? ⟨B, 1, none⟩ = some (.int .i64 r.s)
  c2 : W.cell? ⟨B, 2, none⟩ = some (.int .i64 r.a)
  c3 : W.cell? ⟨B, 3, none⟩ = some (.int .i64 r.b)
  c4 : W.cell? ⟨B, 4, none⟩ = some (.int .i64 r.c)
  c5 : W.cell? ⟨B, 5, none⟩ = some (.int .i64 r.d)
  c6 : W.cell? ⟨B, 6, none⟩ = some (.string r.body)
theorem RcAt.lt {W : World} {B : Nat} {r : Rc} (h : RcAt W B r) : B < W.heap.size := lt_of_cell h.c0
theorem RcAt.below {W W' : World} {B : Nat} {r : Rc} (h : RcAt W B r) (hb : Below W.heap.size W W') : RcAt W' B r :=
  ⟨(hb.cell (p := ⟨B, 0, none⟩) h.lt).trans h.c0, (hb.cell (p := ⟨B, 1, none⟩) h.lt).trans h.c1, (hb.cell (p := ⟨B, 2, none⟩) h.lt).trans h.c2, (hb.cell (p := ⟨B, 3, none⟩) h.lt).trans h.c3, (hb.cell (p := ⟨B, 4, none⟩) h.lt).trans h.c4, (hb.cell (p := ⟨B, 5, none⟩) h.lt).trans h.c5, (hb.cell (p := ⟨B, 6, none⟩) h.lt).trans h.c6⟩
theorem RcAt.new (w : World) (r : Rc) (t : TypeId) : RcAt (w.alloc (.cells #[.int .i64 r.k, .int .i64 r.s, .int .i64 r.a, .int .i64 r.b, .int .i64 r.c, .int .i64 r.d, .string r.body] t)) w.heap.size r :=
  ⟨by go_simp, by go_simp, by go_simp, by go_simp, by go_simp, by go_simp, by go_simp⟩
/-- A record of noughts. -/
def zeroR : Rc := ⟨0, 0, 0, 0, 0, 0, ⟨#[]⟩⟩
/-- A record in a box that may be written. -/
structure RcW (W : World) (B : Nat) (r : Rc) : Prop where
  at_ : RcAt W B r
  fr : ∀ j, W.frozen? ⟨B, j, none⟩ = false
theorem RcW.lt {W : World} {B : Nat} {r : Rc} (h : RcW W B r) : B < W.heap.size := h.at_.lt
theorem RcW.below {W W' : World} {B : Nat} {r : Rc} (h : RcW W B r) (hb : Below W.heap.size W W') : RcW W' B r :=
  ⟨h.at_.below hb, fun j => (hb.frozen (p := ⟨B, j, none⟩) h.lt).trans (h.fr j)⟩
theorem RcW.far {W : World} {B C : Nat} {r : Rc} (h : RcW W B r) (hc : C ≠ B) (j : Nat) (v : Value) : RcW (W.setCell ⟨C, j, none⟩ v) B r :=
  ⟨⟨(World.cell?_setCell_other _ _ _ _ (by intro e; injection e with e1; exact hc e1)).trans h.at_.c0, (World.cell?_setCell_other _ _ _ _ (by intro e; injection e with e1; exact hc e1)).trans h.at_.c1, (World.cell?_setCell_other _ _ _ _ (by intro e; injection e with e1; exact hc e1)).trans h.at_.c2, (World.cell?_setCell_other _ _ _ _ (by intro e; injection e with e1; exact hc e1)).trans h.at_.c3, (World.cell?_setCell_other _ _ _ _ (by intro e; injection e with e1; exact hc e1)).trans h.at_.c4, (World.cell?_setCell_other _ _ _ _ (by intro e; injection e with e1; exact hc e1)).trans h.at_.c5, (World.cell?_setCell_other _ _ _ _ (by intro e; injection e with e1; exact hc e1)).trans h.at_.c6⟩, fun j => by rw [World.frozen?_setCell]; exact h.fr j⟩
theorem RcW.put0 {W : World} {B : Nat} {r : Rc} (h : RcW W B r) (v : Int) : RcW (W.setCell ⟨B, 0, none⟩ (.int .i64 v)) B { r with k := v } :=
  ⟨⟨World.cell?_setCell_same' _ _ _ (by rw [h.at_.c0]; rfl), (World.cell?_setCell_other _ _ _ _ (by intro e; injection e with _ e; omega)).trans h.at_.c1, (World.cell?_setCell_other _ _ _ _ (by intro e; injection e with _ e; omega)).trans h.at_.c2, (World.cell?_setCell_other _ _ _ _ (by intro e; injection e with _ e; omega)).trans h.at_.c3, (World.cell?_setCell_other _ _ _ _ (by intro e; injection e with _ e; omega)).trans h.at_.c4, (World.cell?_setCell_other _ _ _ _ (by intro e; injection e with _ e; omega)).trans h.at_.c5, (World.cell?_setCell_other _ _ _ _ (by intro e; injection e with _ e; omega)).trans h.at_.c6⟩, fun j => by rw [World.frozen?_setCell]; exact h.fr j⟩
theorem RcW.put1 {W : World} {B : Nat} {r : Rc} (h : RcW W B r) (v : Int) : RcW (W.setCell ⟨B, 1, none⟩ (.int .i64 v)) B { r with s := v } :=
  ⟨⟨(World.cell?_setCell_other _ _ _ _ (by intro e; injection e with _ e; omega)).trans h.at_.c0, World.cell?_setCell_same' _ _ _ (by rw [h.at_.c1]; rfl), (World.cell?_setCell_other _ _ _ _ (by intro e; injection e with _ e; omega)).trans h.at_.c2, (World.cell?_setCell_other _ _ _ _ (by intro e; injection e with _ e; omega)).trans h.at_.c3, (World.cell?_setCell_other _ _ _ _ (by intro e; injection e with _ e; omega)).trans h.at_.c4, (World.cell?_setCell_other _ _ _ _ (by intro e; injection e with _ e; omega)).trans h.at_.c5, (World.cell?_setCell_other _ _ _ _ (by intro e; injection e with _ e; omega)).trans h.at_.c6⟩, fun j => by rw [World.frozen?_setCell]; exact h.fr j⟩
theorem RcW.put2 {W : World} {B : Nat} {r : Rc} (h : RcW W B r) (v : Int) : RcW (W.setCell ⟨B, 2, none⟩ (.int .i64 v)) B { r with a := v } :=
  ⟨⟨(World.cell?_setCell_other _ _ _ _ (by intro e; injection e with _ e; omega)).trans h.at_.c0, (World.cell?_setCell_other _ _ _ _ (by intro e; injection e with _ e; omega)).trans h.at_.c1, World.cell?_setCell_same' _ _ _ (by rw [h.at_.c2]; rfl), (World.cell?_setCell_other _ _ _ _ (by intro e; injection e with _ e; omega)).trans h.at_.c3, (World.cell?_setCell_other _ _ _ _ (by intro e; injection e with _ e; omega)).trans h.at_.c4, (World.cell?_setCell_other _ _ _ _ (by intro e; injection e with _ e; omega)).trans h.at_.c5, (World.cell?_setCell_other _ _ _ _ (by intro e; injection e with _ e; omega)).trans h.at_.c6⟩, fun j => by rw [World.frozen?_setCell]; exact h.fr j⟩
theorem RcW.put3 {W : World} {B : Nat} {r : Rc} (h : RcW W B r) (v : Int) : RcW (W.setCell ⟨B, 3, none⟩ (.int .i64 v)) B { r with b := v } :=
  ⟨⟨(World.cell?_setCell_other _ _ _ _ (by intro e; injection e with _ e; omega)).trans h.at_.c0, (World.cell?_setCell_other _ _ _ _ (by intro e; injection e with _ e; omega)).trans h.at_.c1, (World.cell?_setCell_other _ _ _ _ (by intro e; injection e with _ e; omega)).trans h.at_.c2, World.cell?_setCell_same' _ _ _ (by rw [h.at_.c3]; rfl), (World.cell?_setCell_other _ _ _ _ (by intro e; injection e with _ e; omega)).trans h.at_.c4, (World.cell?_setCell_other _ _ _ _ (by intro e; injection e with _ e; omega)).trans h.at_.c5, (World.cell?_setCell_other _ _ _ _ (by intro e; injection e with _ e; omega)).trans h.at_.c6⟩, fun j => by rw [World.frozen?_setCell]; exact h.fr j⟩
theorem RcW.put4 {W : World} {B : Nat} {r : Rc} (h : RcW W B r) (v : Int) : RcW (W.setCell ⟨B, 4, none⟩ (.int .i64 v)) B { r with c := v } :=
  ⟨⟨(World.cell?_setCell_other _ _ _ _ (by intro e; injection e with _ e; omega)).trans h.at_.c0, (World.cell?_setCell_other _ _ _ _ (by intro e; injection e with _ e; omega)).trans h.at_.c1, (World.cell?_setCell_other _ _ _ _ (by intro e; injection e with _ e; omega)).trans h.at_.c2, (World.cell?_setCell_other _ _ _ _ (by intro e; injection e with _ e; omega)).trans h.at_.c3, World.cell?_setCell_same' _ _ _ (by rw [h.at_.c4]; rfl), (World.cell?_setCell_other _ _ _ _ (by intro e; injection e with _ e; omega)).trans h.at_.c5, (World.cell?_setCell_other _ _ _ _ (by intro e; injection e with _ e; omega)).trans h.at_.c6⟩, fun j => by rw [World.frozen?_setCell]; exact h.fr j⟩
theorem RcW.put5 {W : World} {B : Nat} {r : Rc} (h : RcW W B r) (v : Int) : RcW (W.setCell ⟨B, 5, none⟩ (.int .i64 v)) B { r with d := v } :=
  ⟨⟨(World.cell?_setCell_other _ _ _ _ (by intro e; injection e with _ e; omega)).trans h.at_.c0, (World.cell?_setCell_other _ _ _ _ (by intro e; injection e with _ e; omega)).trans h.at_.c1, (World.cell?_setCell_other _ _ _ _ (by intro e; injection e with _ e; omega)).trans h.at_.c2, (World.cell?_setCell_other _ _ _ _ (by intro e; injection e with _ e; omega)).trans h.at_.c3, (World.cell?_setCell_other _ _ _ _ (by intro e; injection e with _ e; omega)).trans h.at_.c4, World.cell?_setCell_same' _ _ _ (by rw [h.at_.c5]; rfl), (World.cell?_setCell_other _ _ _ _ (by intro e; injection e with _ e; omega)).trans h.at_.c6⟩, fun j => by rw [World.frozen?_setCell]; exact h.fr j⟩
theorem RcW.put6 {W : World} {B : Nat} {r : Rc} (h : RcW W B r) (v : ByteArray) : RcW (W.setCell ⟨B, 6, none⟩ (.string v)) B { r with body := v } :=
  ⟨⟨(World.cell?_setCell_other _ _ _ _ (by intro e; injection e with _ e; omega)).trans h.at_.c0, (World.cell?_setCell_other _ _ _ _ (by intro e; injection e with _ e; omega)).trans h.at_.c1, (World.cell?_setCell_other _ _ _ _ (by intro e; injection e with _ e; omega)).trans h.at_.c2, (World.cell?_setCell_other _ _ _ _ (by intro e; injection e with _ e; omega)).trans h.at_.c3, (World.cell?_setCell_other _ _ _ _ (by intro e; injection e with _ e; omega)).trans h.at_.c4, (World.cell?_setCell_other _ _ _ _ (by intro e; injection e with _ e; omega)).trans h.at_.c5, World.cell?_setCell_same' _ _ _ (by rw [h.at_.c6]; rfl)⟩, fun j => by rw [World.frozen?_setCell]; exact h.fr j⟩
theorem RcW.all {W : World} {B : Nat} {r0 : Rc} (h : RcW W B r0) (r : Rc) : RcW (((((((W.setCell ⟨B, 0, none⟩ (.int .i64 r.k)).setCell ⟨B, 1, none⟩ (.int .i64 r.s)).setCell ⟨B, 2, none⟩ (.int .i64 r.a)).setCell ⟨B, 3, none⟩ (.int .i64 r.b)).setCell ⟨B, 4, none⟩ (.int .i64 r.c)).setCell ⟨B, 5, none⟩ (.int .i64 r.d)).setCell ⟨B, 6, none⟩ (.string r.body)) B r :=
  ((((((h.put0 r.k).put1 r.s).put2 r.a).put3 r.b).put4 r.c).put5 r.d).put6 r.body
theorem fresh_post {P : Program} {f : Func} {post : Ending → World → Prop} {e : Exit} {a : Act} {W : World} (R : World → Prop) (hR : R W) (h : ∀ W2, R W2 → bodyPost P f post e a W2) : bodyPost P f post e a W := h W hR
theorem RcW.new (w : World) (r : Rc) (t : TypeId) : RcW (w.alloc (.cells #[.int .i64 r.k, .int .i64 r.s, .int .i64 r.a, .int .i64 r.b, .int .i64 r.c, .int .i64 r.d, .string r.body] t)) w.heap.size r :=
  ⟨RcAt.new w r t, fun j => (World.frozen?_alloc_mark w _ t 0 0 j).trans (by simp)⟩
end Go.Proofs.YtbgkmppngnedlaaDoor
namespace Go.Proofs.YtbgkmppngnedlaaDoor.Rec
open Crc Num
def nBlocks (k : Int) : Nat := if k < 1 ∨ 6 < k then 0 else if k = 4 then 2 else 1
def NumOk (r : Rc) : Prop := (1 ≤ r.k ∧ r.k ≤ 6) ∧ (0 ≤ r.s ∧ r.s ≤ 1099511627776) ∧ (0 ≤ r.a ∧ r.a ≤ 65535) ∧ (0 ≤ r.b ∧ r.b ≤ 65535) ∧ (0 ≤ r.c ∧ r.c ≤ 1099511627776) ∧ (0 ≤ r.d ∧ r.d ≤ 65535)
instance (r : Rc) : Decidable (NumOk r) := by unfold NumOk; infer_instance
def numOk (r : Rc) : Bool := decide (NumOk r)
def Good (r : Rc) : Prop := NumOk r ∧ r.body.size = (nBlocks r.k - 1) * 64
instance (r : Rc) : Decidable (Good r) := by unfold Good; infer_instance
def good (r : Rc) : Bool := decide (Good r)
theorem numOk_iff {r : Rc} : numOk r = true ↔ NumOk r := decide_eq_true_iff
theorem good_iff {r : Rc} : good r = true ↔ Good r := decide_eq_true_iff
def headL (r : Rc) : List UInt8 := [67, 66] ++ putL r.k.toNat 1 ++ putL r.s.toNat 6 ++ putL r.a.toNat 2 ++ putL r.b.toNat 2 ++ putL r.c.toNat 6 ++ putL r.d.toNat 2
def sumB (l : List UInt8) : List UInt8 := putL (sumW l).toNat 4
def encL (r : Rc) : List UInt8 := headL r ++ sumB (headL r ++ r.body.data.toList) ++ List.replicate 39 0 ++ r.body.data.toList
theorem headL_len (r : Rc) : (headL r).length = 21 := by unfold headL; simp [putL_length]
theorem sumB_len (l : List UInt8) : (sumB l).length = 4 := putL_length _ _
theorem nBlocks_pos {r : Rc} (h : NumOk r) : 1 ≤ nBlocks r.k ∧ nBlocks r.k ≤ 2 := by
  unfold nBlocks
  rw [if_neg (by have := h.1; omega)]
  split <;> omega
theorem body_len (b : ByteArray) : b.data.toList.length = b.size := Array.length_toList
theorem encL_len {r : Rc} (h : Good r) : (encL r).length = 64 * nBlocks r.k := by
  have := nBlocks_pos h.1
  unfold encL
  rw [List.length_append, List.length_append, List.length_append, headL_len, sumB_len, List.length_replicate, body_len, h.2]
  omega
def encS (r : Rc) : ByteArray := if good r = true then ⟨(encL r).toArray⟩ else ByteArray.empty
theorem encS_good {r : Rc} (h : Good r) : encS r = ⟨(encL r).toArray⟩ := if_pos (good_iff.2 h)
theorem encS_bad {r : Rc} (h : ¬ Good r) : encS r = ByteArray.empty := if_neg (by rw [good_iff]; exact h)
theorem encS_size {r : Rc} (h : Good r) : (encS r).size = 64 * nBlocks r.k := by
  rw [encS_good h]
  show (encL r).toArray.size = _
  rw [List.size_toArray]; exact encL_len h
theorem encS_ne {r : Rc} (h : Good r) : encS r ≠ ByteArray.empty := fun e => by
  have h1 := encS_size h
  have := nBlocks_pos h.1
  rw [e] at h1
  simp at h1
  omega
end Go.Proofs.YtbgkmppngnedlaaDoor.Rec
namespace Go.Proofs.YtbgkmppngnedlaaDoor
open Go.RowKit
theorem size_of_list {t : ByteArray} {l : List UInt8} (h : t.data.toList = l) : t.size = l.length := by
  rw [← h, Array.length_toList]; rfl
theorem not_empty_of {t : ByteArray} (h : 0 < t.size) : ¬ t.toList = [] ∧ t.toList.isEmpty = false := by
  have h1 : ¬ t.toList = [] := by
    rw [ByteArray.toList_eq]
    intro e
    have := size_of_list e
    rw [List.length_nil] at this; omega
  exact ⟨h1, by simpa using h1⟩
theorem full_of {s : ByteArray} (h : ¬ s = ⟨#[]⟩) : 0 < s.size := Nat.pos_of_ne_zero fun e => h (by
  have := ByteArray.size_eq_zero_iff.1 e
  exact this)
end Go.Proofs.YtbgkmppngnedlaaDoor
namespace Go.Proofs.YtbgkmppngnedlaaDoor
open Go.RowKit Rec Crc Num
end Go.Proofs.YtbgkmppngnedlaaDoor
namespace Go.Proofs.YtbgkmppngnedlaaDoor
open Go.RowKit Rec Crc Num
/-- The first numbers are as they may be. -/
def okTo (r : Rc) : Nat → Prop
  | 0 => True
  | 1 => (0 ≤ r.k ∧ r.k ≤ 6) ∧ True
  | 2 => (0 ≤ r.k ∧ r.k ≤ 6) ∧ (0 ≤ r.s ∧ r.s ≤ 1099511627776) ∧ True
  | 3 => (0 ≤ r.k ∧ r.k ≤ 6) ∧ (0 ≤ r.s ∧ r.s ≤ 1099511627776) ∧ (0 ≤ r.a ∧ r.a ≤ 65535) ∧ True
  | 4 => (0 ≤ r.k ∧ r.k ≤ 6) ∧ (0 ≤ r.s ∧ r.s ≤ 1099511627776) ∧ (0 ≤ r.a ∧ r.a ≤ 65535) ∧ (0 ≤ r.b ∧ r.b ≤ 65535) ∧ True
  | 5 => (0 ≤ r.k ∧ r.k ≤ 6) ∧ (0 ≤ r.s ∧ r.s ≤ 1099511627776) ∧ (0 ≤ r.a ∧ r.a ≤ 65535) ∧ (0 ≤ r.b ∧ r.b ≤ 65535) ∧ (0 ≤ r.c ∧ r.c ≤ 1099511627776) ∧ True
  | 6 => (0 ≤ r.k ∧ r.k ≤ 6) ∧ (0 ≤ r.s ∧ r.s ≤ 1099511627776) ∧ (0 ≤ r.a ∧ r.a ≤ 65535) ∧ (0 ≤ r.b ∧ r.b ≤ 65535) ∧ (0 ≤ r.c ∧ r.c ≤ 1099511627776) ∧ (0 ≤ r.d ∧ r.d ≤ 65535) ∧ True
  | _ => True
end Go.Proofs.YtbgkmppngnedlaaDoor
namespace Go.Proofs.YtbgkmppngnedlaaDoor
open Go.RowKit Rec Crc Num
/-- A text whose bytes are known. -/
def TextOf (s : ByteArray) (l : List UInt8) : Prop := s.data.toList = l
theorem TextOf.size {s : ByteArray} {l : List UInt8} (h : TextOf s l) : s.size = l.length := by rw [← h]; exact Array.length_toList.symm
theorem TextOf.eq {s : ByteArray} {l : List UInt8} (h : TextOf s l) : s = ⟨l.toArray⟩ := by rw [← h]
theorem TextOf.mk (l : List UInt8) : TextOf ⟨l.toArray⟩ l := rfl
theorem TextOf.append {s t : ByteArray} {l m : List UInt8} (h : TextOf s l) (k : TextOf t m) : TextOf (s ++ t) (l ++ m) := by
  unfold TextOf at *
  rw [← h, ← k]; simp
/-- The first bytes of a record's block. -/
def headTo (r : Rc) : Nat → List UInt8
  | 0 => [67, 66]
  | 1 => [67, 66] ++ putL r.k.toNat 1
  | 2 => [67, 66] ++ putL r.k.toNat 1 ++ putL r.s.toNat 6
  | 3 => [67, 66] ++ putL r.k.toNat 1 ++ putL r.s.toNat 6 ++ putL r.a.toNat 2
  | 4 => [67, 66] ++ putL r.k.toNat 1 ++ putL r.s.toNat 6 ++ putL r.a.toNat 2 ++ putL r.b.toNat 2
  | 5 => [67, 66] ++ putL r.k.toNat 1 ++ putL r.s.toNat 6 ++ putL r.a.toNat 2 ++ putL r.b.toNat 2 ++ putL r.c.toNat 6
  | 6 => [67, 66] ++ putL r.k.toNat 1 ++ putL r.s.toNat 6 ++ putL r.a.toNat 2 ++ putL r.b.toNat 2 ++ putL r.c.toNat 6 ++ putL r.d.toNat 2
  | _ => []
theorem headTo_all (r : Rc) : headTo r 6 = headL r := rfl
theorem put_field (v : Int) (k : Nat) (M : Int) (hv : 0 ≤ v ∧ v ≤ M) (h1 : 1 ≤ k) (h7 : k ≤ 7) (hM : M < ((256 ^ k : Nat) : Int)) (W : World) :
    Calls Tryd.prog 14 #[.int .i64 v, .int .i64 (k : Int)] W fun e w' => ∃ t, e = .returned (.string t) ∧ TextOf t (putL v.toNat k) ∧ Below W.heap.size W w' := by
  have h := put_ok v.toNat k W h1 h7 (by omega)
  rw [Int.toNat_of_nonneg hv.1] at h
  exact h.mono fun e w' ⟨h1, h2⟩ => ⟨_, h1, rfl, h2⟩
end Go.Proofs.YtbgkmppngnedlaaDoor
namespace Go.Proofs.YtbgkmppngnedlaaDoor
open Go.RowKit Rec Crc Num
/-- The record whose first numbers a block begins with. -/
def numsR (s : ByteArray) : Nat → Rc
  | 0 => ⟨0, 0, 0, 0, 0, 0, ⟨#[]⟩⟩
  | 1 => ⟨getN (s.extract 2 3), 0, 0, 0, 0, 0, ⟨#[]⟩⟩
  | 2 => ⟨getN (s.extract 2 3), getN (s.extract 3 9), 0, 0, 0, 0, ⟨#[]⟩⟩
  | 3 => ⟨getN (s.extract 2 3), getN (s.extract 3 9), getN (s.extract 9 11), 0, 0, 0, ⟨#[]⟩⟩
  | 4 => ⟨getN (s.extract 2 3), getN (s.extract 3 9), getN (s.extract 9 11), getN (s.extract 11 13), 0, 0, ⟨#[]⟩⟩
  | 5 => ⟨getN (s.extract 2 3), getN (s.extract 3 9), getN (s.extract 9 11), getN (s.extract 11 13), getN (s.extract 13 19), 0, ⟨#[]⟩⟩
  | _ => ⟨getN (s.extract 2 3), getN (s.extract 3 9), getN (s.extract 9 11), getN (s.extract 11 13), getN (s.extract 13 19), getN (s.extract 19 21), ⟨#[]⟩⟩
/-- A block has the form of a record's first. -/
def formOk (s : ByteArray) : Bool := decide (64 ≤ s.size) && decide (s.extract 0 2 = ⟨#[67, 66]⟩) && emptyB (s.extract 25 64)
def parsed (s : ByteArray) : Rc := if formOk s = true then numsR s 6 else zeroR
def parseOk (s : ByteArray) : Bool := formOk s && numOk (numsR s 6)
end Go.Proofs.YtbgkmppngnedlaaDoor
namespace Go.Proofs.YtbgkmppngnedlaaDoor
open Go.RowKit Rec Crc Num Xor
def sumS (h b : ByteArray) : ByteArray := ⟨(sumB (h.data.toList ++ b.data.toList)).toArray⟩
/-- The record that a text begins with, its blocks, the error's number. -/
def withBody (s : ByteArray) : Rc := { numsR s 6 with body := s.extract 64 (nBlocks (numsR s 6).k * 64) }
def dec (s : ByteArray) : Rc × Int × Int :=
  if s = ⟨#[]⟩ then (zeroR, 0, 13) else if parseOk s = false then (zeroR, 0, 10) else if s.size < nBlocks (numsR s 6).k * 64 then (zeroR, 0, 10) else
    if s.extract 21 25 = sumS (s.extract 0 21) (withBody s).body then (withBody s, (nBlocks (numsR s 6).k : Int), 0) else (zeroR, 0, 11)
theorem TextOf.inj {s t : ByteArray} {l : List UInt8} (h : TextOf s l) (k : TextOf t l) : s = t := h.eq.trans k.eq.symm
theorem cut_of {s : ByteArray} {A B C : List UInt8} {a b : Nat} (h : TextOf s (A ++ B ++ C)) (ha : A.length = a) (hb : a + B.length = b) : TextOf (s.extract a b) B := by
  unfold TextOf at *
  rw [ByteArray.data_extract, Array.toList_extract, h]
  subst ha; subst hb
  simp [List.extract]
theorem getN_put {t : ByteArray} {n : Int} {k : Nat} (h : TextOf t (putL n.toNat k)) (hn : 0 ≤ n) (hk : 1 ≤ k) (hk7 : k ≤ 7) (hm : n < ((256 ^ k : Nat) : Int)) : getN t = n := by
  have hs : t.size = k := by rw [h.size, putL_length]
  unfold getN
  rw [if_pos (by omega), show t.data.toList = putL n.toNat k from h, num_put_of _ _ (by omega)]
  omega
theorem empty_zeros {t : ByteArray} {k : Nat} (h : TextOf t (List.replicate k 0)) : emptyB t = true := by
  unfold emptyB
  apply decide_eq_true
  intro i hi
  unfold byteAt
  have e := h.eq
  subst e
  have hi' : i < k := by rw [ofList_size, List.length_replicate] at hi; exact hi
  simp [hi']
/-- What Encode has written is read, whatever follows. -/
theorem nums_enc {s : ByteArray} {r : Rc} (hg : Rec.Good r) (rest : List UInt8) (h : TextOf s (encL r ++ rest)) : numsR s 6 = { r with body := ⟨#[]⟩ } := by
  obtain ⟨n0, n1, n2, n3, n4, n5⟩ := hg.1
  unfold encL headL at h
  have e0 := getN_put (cut_of (s := s) (A := [67, 66]) (B := putL r.k.toNat 1) (a := 2) (b := 3) (C := _) (by simpa only [List.append_assoc] using h) rfl (by rw [putL_length])) (by omega) (by omega) (by omega) (by omega)
  have e1 := getN_put (cut_of (s := s) (A := [67, 66] ++ putL r.k.toNat 1) (B := putL r.s.toNat 6) (a := 3) (b := 9) (C := _) (by simpa only [List.append_assoc] using h) (by simp [putL_length]) (by rw [putL_length])) (by omega) (by omega) (by omega) (by omega)
  have e2 := getN_put (cut_of (s := s) (A := [67, 66] ++ putL r.k.toNat 1 ++ putL r.s.toNat 6) (B := putL r.a.toNat 2) (a := 9) (b := 11) (C := _) (by simpa only [List.append_assoc] using h) (by simp [putL_length]) (by rw [putL_length])) (by omega) (by omega) (by omega) (by omega)
  have e3 := getN_put (cut_of (s := s) (A := [67, 66] ++ putL r.k.toNat 1 ++ putL r.s.toNat 6 ++ putL r.a.toNat 2) (B := putL r.b.toNat 2) (a := 11) (b := 13) (C := _) (by simpa only [List.append_assoc] using h) (by simp [putL_length]) (by rw [putL_length])) (by omega) (by omega) (by omega) (by omega)
  have e4 := getN_put (cut_of (s := s) (A := [67, 66] ++ putL r.k.toNat 1 ++ putL r.s.toNat 6 ++ putL r.a.toNat 2 ++ putL r.b.toNat 2) (B := putL r.c.toNat 6) (a := 13) (b := 19) (C := _) (by simpa only [List.append_assoc] using h) (by simp [putL_length]) (by rw [putL_length])) (by omega) (by omega) (by omega) (by omega)
  have e5 := getN_put (cut_of (s := s) (A := [67, 66] ++ putL r.k.toNat 1 ++ putL r.s.toNat 6 ++ putL r.a.toNat 2 ++ putL r.b.toNat 2 ++ putL r.c.toNat 6) (B := putL r.d.toNat 2) (a := 19) (b := 21) (C := _) (by simpa only [List.append_assoc] using h) (by simp [putL_length]) (by rw [putL_length])) (by omega) (by omega) (by omega) (by omega)
  unfold numsR
  rw [e0, e1, e2, e3, e4, e5]
  rfl
theorem dec_enc {s : ByteArray} {r : Rc} (hg : Rec.Good r) (rest : List UInt8) (h : TextOf s (encL r ++ rest)) : dec s = (r, (nBlocks r.k : Int), 0) := by
  have hn := nums_enc hg rest h
  have hp := nBlocks_pos hg.1
  have hsz : s.size = 64 * nBlocks r.k + rest.length := by rw [h.size, List.length_append, encL_len hg]
  have hne : ¬ s = ⟨#[]⟩ := fun e => by rw [e] at hsz; have : (⟨#[]⟩ : ByteArray).size = 0 := rfl; omega
  have hform : formOk s = true := by
    unfold formOk
    rw [decide_eq_true (show 64 ≤ s.size by omega)]
    have h1 : s.extract 0 2 = ⟨#[67, 66]⟩ := (cut_of (A := []) (B := [67, 66]) (C := _) (by unfold encL headL at h; simpa only [List.append_assoc, List.nil_append] using h) rfl rfl).eq
    rw [decide_eq_true h1]
    have h2 := empty_zeros (cut_of (s := s) (a := 25) (b := 64) (A := headL r ++ sumB (headL r ++ r.body.data.toList)) (B := List.replicate 39 0) (C := r.body.data.toList ++ rest) (by unfold encL at h; simpa only [List.append_assoc] using h) (by rw [List.length_append, headL_len, sumB_len]) (by rw [List.length_replicate]))
    rw [h2]; rfl
  have hok : parseOk s = true := by
    unfold parseOk
    rw [hform, hn]
    exact decide_eq_true (show NumOk { r with body := ⟨#[]⟩ } from hg.1)
  have hbody : s.extract 64 (nBlocks r.k * 64) = r.body := by
    have h1 := cut_of (s := s) (a := 64) (b := nBlocks r.k * 64) (A := headL r ++ sumB (headL r ++ r.body.data.toList) ++ List.replicate 39 0) (B := r.body.data.toList) (C := rest) (by unfold encL at h; simpa only [List.append_assoc] using h) (by rw [List.length_append, List.length_append, headL_len, sumB_len, List.length_replicate]) (by rw [body_len, hg.2]; omega)
    exact h1.inj rfl
  have hwb : withBody s = r := by unfold withBody; rw [hn]; show (⟨r.k, r.s, r.a, r.b, r.c, r.d, s.extract 64 (nBlocks r.k * 64)⟩ : Rc) = r; rw [hbody]
  have hsum : s.extract 21 25 = sumS (s.extract 0 21) r.body := by
    have h1 := cut_of (s := s) (a := 21) (b := 25) (A := headL r) (B := sumB (headL r ++ r.body.data.toList)) (C := List.replicate 39 0 ++ r.body.data.toList ++ rest) (by unfold encL at h; simpa only [List.append_assoc] using h) (headL_len r) (by rw [sumB_len])
    have h2 := cut_of (s := s) (a := 0) (b := 21) (A := []) (B := headL r) (C := sumB (headL r ++ r.body.data.toList) ++ List.replicate 39 0 ++ r.body.data.toList ++ rest) (by unfold encL at h; simpa only [List.append_assoc, List.nil_append] using h) rfl (by rw [headL_len])
    unfold sumS
    rw [show (s.extract 0 21).data.toList = headL r from h2]
    exact h1.eq
  unfold dec
  rw [if_neg hne, if_neg (by rw [hok]; simp), hn, if_neg (by show ¬ s.size < nBlocks r.k * 64; omega), hwb, if_pos hsum]
end Go.Proofs.YtbgkmppngnedlaaDoor
namespace Go.Proofs.YtbgkmppngnedlaaDoor
open Go.RowKit Rec Crc Num
theorem upd_zero : ∀ (m l : List UInt8) (p : Nat), (∀ b ∈ m, b = 0) → upd l p m = l
  | [], _, _, _ => rfl
  | b :: m, l, p, h => by
    show upd (l.set p (l.getD p 0 ^^^ b)) (p + 1) m = l
    have e : l.set p (l.getD p 0 ^^^ b) = l := by
      rw [h b (by simp), UInt8.xor_zero]
      by_cases hp : p < l.length
      · rw [show l.getD p 0 = l[p] by simp [List.getD, hp]]; exact List.set_getElem_self hp
      · exact List.set_eq_of_length_le (by omega)
    rw [e]
    exact upd_zero m l (p + 1) (fun c hc => h c (by simp [hc]))
theorem upd_mid : ∀ (m A X C : List UInt8) (q : Nat), q + m.length ≤ X.length → upd (A ++ X ++ C) (A.length + q) m = A ++ upd X q m ++ C
  | [], _, _, _, _, _ => rfl
  | b :: m, A, X, C, q, h => by
    simp only [List.length_cons] at h
    show upd ((A ++ X ++ C).set (A.length + q) ((A ++ X ++ C).getD (A.length + q) 0 ^^^ b)) (A.length + q + 1) m = A ++ upd (X.set q (X.getD q 0 ^^^ b)) (q + 1) m ++ C
    have hq : q < X.length := by omega
    have e1 : (A ++ X ++ C).getD (A.length + q) 0 = X.getD q 0 := by
      simp [List.getD, List.getElem?_append, hq, show ¬ A.length + q < A.length by omega]
    have e2 : (A ++ X ++ C).set (A.length + q) (X.getD q 0 ^^^ b) = A ++ X.set q (X.getD q 0 ^^^ b) ++ C := by
      rw [List.append_assoc, List.set_append_right _ _ (by omega), Nat.add_sub_cancel_left, List.set_append_left _ _ hq, List.append_assoc]
    rw [e1, e2, Nat.add_assoc]
    exact upd_mid m A _ C (q + 1) (by rw [List.length_set]; omega)
theorem sumW_upd (l m : List UInt8) (p : Nat) (hm : m.length ≤ 4) (hp : p + m.length ≤ l.length) (h : m.any (· != 0) = true) : sumW (upd l p m) ≠ sumW l := fun e => by
  have h1 := reg_upd R0 m l p hp
  have h2 : sumW (upd l p m) = sumW l ^^^ zs (l.length - p - m.length) (reg 0#32 m) := by unfold sumW; rw [h1, not_xor]
  rw [h2] at e
  have e3 := congrArg (fun x => sumW l ^^^ x) e
  have e4 : zs (l.length - p - m.length) (reg 0#32 m) = 0#32 := by simpa [← BitVec.xor_assoc] using e3
  rw [(reg_tells m hm _).1 e4] at h
  cases h
theorem sumB_upd (l m : List UInt8) (p : Nat) (hm : m.length ≤ 4) (hp : p + m.length ≤ l.length) (h : m.any (· != 0) = true) : sumB (upd l p m) ≠ sumB l := fun e => by
  have h1 := (sumW (upd l p m)).isLt
  have h2 := (sumW l).isLt
  exact sumW_upd l m p hm hp h (BitVec.eq_of_toNat_eq (put_inj (k := 4) (by omega) (by omega) e))
theorem dec_rot {s : ByteArray} {r : Rc} {H B S : List UInt8} (hg : Rec.Good r) (h : TextOf s (H ++ S ++ List.replicate 39 0 ++ B)) (hS : S.length = 4) (hH : H.length = 21) (hB : B.length = r.body.size)
    (hk : H.take 3 = (headL r).take 3) (hne : S ≠ sumB (H ++ B)) : ∃ e : Int, e ≠ 0 ∧ dec s = (zeroR, 0, e) := by
  have hn := hg.1.1
  have hkd : (numsR s 6).k = r.k := by
    have e0 : TextOf s ([67, 66] ++ putL r.k.toNat 1 ++ (H.drop 3 ++ S ++ List.replicate 39 0 ++ B)) := by
      have h3 : (headL r).take 3 = [67, 66] ++ putL r.k.toNat 1 := by
        unfold headL
        simp only [List.append_assoc]
        rw [← List.append_assoc, List.take_append_of_le_length (by simp [putL_length]), List.take_of_length_le (by simp [putL_length])]
      have h4 : H = ([67, 66] ++ putL r.k.toNat 1) ++ H.drop 3 := by rw [← h3, ← hk, List.take_append_drop]
      rw [h4] at h
      simpa only [List.append_assoc] using h
    exact getN_put (cut_of (a := 2) (b := 3) e0 rfl (by rw [putL_length])) (by omega) (by omega) (by omega) (by omega)
  have hsz : s.size = 64 + B.length := by rw [h.size]; simp only [List.length_append, List.length_replicate, hH, hS]
  have h1 : s.extract 0 21 = ⟨H.toArray⟩ := (cut_of (A := []) (C := S ++ List.replicate 39 0 ++ B) (by simpa only [List.append_assoc, List.nil_append] using h) rfl (by simpa using hH)).eq
  have h2 : s.extract 21 25 = ⟨S.toArray⟩ := (cut_of (A := H) (C := List.replicate 39 0 ++ B) (by simpa only [List.append_assoc] using h) hH (by omega)).eq
  have hnb : nBlocks r.k * 64 = 64 + B.length := by have := nBlocks_pos hg.1; rw [hB, hg.2]; omega
  have h3 : s.extract 64 (nBlocks r.k * 64) = ⟨B.toArray⟩ := (cut_of (A := H ++ S ++ List.replicate 39 0) (C := []) (by rw [List.append_nil]; exact h) (by simp only [List.length_append, List.length_replicate, hH, hS]) (by omega)).eq
  have hne' : s.extract 21 25 ≠ sumS (s.extract 0 21) (withBody s).body := by
    unfold withBody sumS
    rw [hkd, h1, h2]
    show _ ≠ (⟨(sumB (H ++ (s.extract 64 (nBlocks r.k * 64)).data.toList)).toArray⟩ : ByteArray)
    rw [h3]
    intro e
    have e2 := congrArg (fun x : ByteArray => x.data.toList) e
    exact hne e2
  unfold dec
  by_cases c1 : s = ⟨#[]⟩
  · rw [if_pos c1]; exact ⟨13, by decide, rfl⟩
  rw [if_neg c1]
  by_cases c2 : parseOk s = false
  · rw [if_pos c2]; exact ⟨10, by decide, rfl⟩
  rw [if_neg c2]
  by_cases c3 : s.size < nBlocks (numsR s 6).k * 64
  · rw [if_pos c3]; exact ⟨10, by decide, rfl⟩
  rw [if_neg c3, if_neg hne']
  exact ⟨11, by decide, rfl⟩
/-- The four bytes m at p: in the numbers (3 to 21), or in the body (64 to 128). -/
theorem dec_turned {r : Rc} (hg : Rec.Good r) (m : List UInt8) (hm : m.length ≤ 4) (p : Nat) (hp : (3 ≤ p ∧ p + m.length ≤ 21) ∨ (64 ≤ p ∧ p + m.length ≤ 128 ∧ nBlocks r.k = 2)) :
    (m.any (· != 0) = true → ∃ e : Int, e ≠ 0 ∧ dec ⟨(upd (encL r) p m).toArray⟩ = (zeroR, 0, e)) ∧ (m.any (· != 0) = false → dec ⟨(upd (encL r) p m).toArray⟩ = (r, (nBlocks r.k : Int), 0)) := by
  constructor
  · intro h
    rcases hp with ⟨p3, p21⟩ | ⟨p64, p128, hn2⟩
    · have e1 : upd (encL r) p m = upd (headL r) p m ++ sumB (headL r ++ r.body.data.toList) ++ List.replicate 39 0 ++ r.body.data.toList := by
        have h0 := upd_mid m [] (headL r) (sumB (headL r ++ r.body.data.toList) ++ List.replicate 39 0 ++ r.body.data.toList) p (by rw [headL_len]; exact p21)
        simp only [List.nil_append, List.length_nil, Nat.zero_add] at h0
        unfold encL
        simpa only [List.append_assoc] using h0
      have e2 : upd (headL r ++ r.body.data.toList) p m = upd (headL r) p m ++ r.body.data.toList := by
        have h0 := upd_mid m [] (headL r) r.body.data.toList p (by rw [headL_len]; exact p21)
        simpa only [List.nil_append, List.length_nil, Nat.zero_add] using h0
      have e3 : (upd (headL r) p m).take 3 = (headL r).take 3 := by
        have h0 := upd_mid m ((headL r).take 3) ((headL r).drop 3) [] (p - 3) (by rw [List.length_drop, headL_len]; omega)
        rw [List.append_nil, List.append_nil, List.take_append_drop, List.length_take, headL_len, show min 3 21 + (p - 3) = p by omega] at h0
        rw [h0, List.take_append_of_le_length (by rw [List.length_take, headL_len]; omega), List.take_take]
        rfl
      refine dec_rot (S := sumB (headL r ++ r.body.data.toList)) (H := upd (headL r) p m) (B := r.body.data.toList) hg (by rw [e1]; rfl) (sumB_len _) (by rw [upd_length, headL_len]) (body_len _) e3 ?_
      rw [← e2]
      exact (sumB_upd _ m p hm (by rw [List.length_append, headL_len]; omega) h).symm
    · have hbl : r.body.data.toList.length = 64 := by rw [body_len, hg.2, hn2]
      have hAl : (headL r ++ sumB (headL r ++ r.body.data.toList) ++ List.replicate 39 0).length = 64 := by simp only [List.length_append, headL_len, sumB_len, List.length_replicate]
      have e1 : upd (encL r) p m = headL r ++ sumB (headL r ++ r.body.data.toList) ++ List.replicate 39 0 ++ upd r.body.data.toList (p - 64) m := by
        have h0 := upd_mid m (headL r ++ sumB (headL r ++ r.body.data.toList) ++ List.replicate 39 0) r.body.data.toList [] (p - 64) (by omega)
        rw [List.append_nil, List.append_nil, hAl, show 64 + (p - 64) = p by omega] at h0
        exact h0
      have e2 : upd (headL r ++ r.body.data.toList) (21 + (p - 64)) m = headL r ++ upd r.body.data.toList (p - 64) m := by
        have h0 := upd_mid m (headL r) r.body.data.toList [] (p - 64) (by omega)
        rwa [List.append_nil, List.append_nil, headL_len] at h0
      refine dec_rot (S := sumB (headL r ++ r.body.data.toList)) (H := headL r) (B := upd r.body.data.toList (p - 64) m) hg (by rw [e1]; rfl) (sumB_len _) (headL_len r) (by rw [upd_length, body_len]) rfl ?_
      rw [← e2]
      exact (sumB_upd _ m _ hm (by rw [List.length_append, headL_len]; omega) h).symm
  · intro h
    rw [upd_zero m _ p (by simpa using h)]
    exact dec_enc hg [] (by rw [List.append_nil]; rfl)
end Go.Proofs.YtbgkmppngnedlaaDoor
