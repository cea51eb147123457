/- Records in memory. -/
import Derived.Test.YtbgkmppngnedlabDoorOBase
namespace Go.Proofs.YtbgkmppngnedlabDoor.Rec
/-- A record: its kind, its number, four numbers, its body. -/
structure Rc where
  k : Int
  s : Int
  a : Int
  b : Int
  c : Int
  d : Int
  body : ByteArray
end Go.Proofs.YtbgkmppngnedlabDoor.Rec
namespace Go.Proofs.YtbgkmppngnedlabDoor
open Go.RowKit Rec
instance : Inhabited Rc := ⟨⟨0, 0, 0, 0, 0, 0, ⟨#[]⟩⟩⟩
/-- The value of a record. -/
def Rec.Rc.val (r : Rc) : Value := .agg #[.int .i64 r.k, .int .i64 r.s, .int .i64 r.a, .int .i64 r.b, .int .i64 r.c, .int .i64 r.d, .string r.body]
/-- A record in a box. -/
structure RcAt (W : World) (B : Nat) (r : Rc) : Prop where
  c0 : W.cell? ⟨B, 0, none⟩ = some (.int .i64 r.k)
  c1 : W.cell? ⟨B, 1, none⟩ = some (.int .i64 r.s)
  c2 : W.cell? ⟨B, 2, none⟩ = some (.int .i64 r.a)
  c3 : W.cell? ⟨B, 3, none⟩ = some (.int .i64 r.b)
  c4 : W.cell? ⟨B, 4, none⟩ = some (.int .i64 r.c)
  c5 : W.cell? ⟨B, 5, none⟩ = some (.int .i64 r.d)
  c6 : W.cell? ⟨B, 6, none⟩ = some (.string r.body)
theorem RcAt.lt {W : World} {B : Nat} {r : Rc} (h : RcAt W B r) : B < W.heap.size := lt_of_cell h.c0
theorem RcAt.below {W W' : World} {B : Nat} {r : Rc} (h : RcAt W B r) (hb : Below W.heap.size W W') : RcAt W' B r :=
  ⟨(hb.cell (p := ⟨B, 0, none⟩) h.lt).trans h.c0, (hb.cell (p := ⟨B, 1, none⟩) h.lt).trans h.c1, (hb.cell (p := ⟨B, 2, none⟩) h.lt).trans h.c2, (hb.cell (p := ⟨B, 3, none⟩) h.lt).trans h.c3, (hb.cell (p := ⟨B, 4, none⟩) h.lt).trans h.c4, (hb.cell (p := ⟨B, 5, none⟩) h.lt).trans h.c5, (hb.cell (p := ⟨B, 6, none⟩) h.lt).trans h.c6⟩
theorem RcAt.new (w : World) (r : Rc) (t : TypeId) : RcAt (w.alloc (.cells #[.int .i64 r.k, .int .i64 r.s, .int .i64 r.a, .int .i64 r.b, .int .i64 r.c, .int .i64 r.d, .string r.body] t)) w.heap.size r :=
  ⟨by go_simp, by go_simp, by go_simp, by go_simp, by go_simp, by go_simp, by go_simp⟩
/-- A record of noughts. -/
def zeroR : Rc := ⟨0, 0, 0, 0, 0, 0, ⟨#[]⟩⟩
/-- A record in a box that may be written. -/
structure RcW (W : World) (B : Nat) (r : Rc) : Prop where
  at_ : RcAt W B r
  fr : ∀ j, W.frozen? ⟨B, j, none⟩ = false
theorem RcW.lt {W : World} {B : Nat} {r : Rc} (h : RcW W B r) : B < W.heap.size := h.at_.lt
theorem RcW.below {W W' : World} {B : Nat} {r : Rc} (h : RcW W B r) (hb : Below W.heap.size W W') : RcW W' B r :=
  ⟨h.at_.below hb, fun j => (hb.frozen (p := ⟨B, j, none⟩) h.lt).trans (h.fr j)⟩
theorem RcW.far {W : World} {B C : Nat} {r : Rc} (h : RcW W B r) (hc : C ≠ B) (j : Nat) (v : Value) : RcW (W.setCell ⟨C, j, none⟩ v) B r :=
  ⟨⟨(World.cell?_setCell_other _ _ _ _ (by intro e; injection e with e1; exact hc e1)).trans h.at_.c0, (World.cell?_setCell_other _ _ _ _ (by intro e; injection e with e1; exact hc e1)).trans h.at_.c1, (World.cell?_setCell_other _ _ _ _ (by intro e; injection e with e1; exact hc e1)).trans h.at_.c2, (World.cell?_setCell_other _ _ _ _ (by intro e; injection e with e1; exact hc e1)).trans h.at_.c3, (World.cell?_setCell_other _ _ _ _ (by intro e; injection e with e1; exact hc e1)).trans h.at_.c4, (World.cell?_setCell_other _ _ _ _ (by intro e; injection e with e1; exact hc e1)).trans h.at_.c5, (World.cell?_setCell_other _ _ _ _ (by intro e; injection e with e1; exact hc e1)).trans h.at_.c6⟩, fun j => by rw [World.frozen?_setCell]; exact h.fr j⟩
theorem RcW.put0 {W : World} {B : Nat} {r : Rc} (h : RcW W B r) (v : Int) : RcW (W.setCell ⟨B, 0, none⟩ (.int .i64 v)) B { r with k := v } :=
  ⟨⟨World.cell?_setCell_same' _ _ _ (by rw [h.at_.c0]; rfl), (World.cell?_setCell_other _ _ _ _ (by intro e; injection e with _ e; omega)).trans h.at_.c1, (World.cell?_setCell_other _ _ _ _ (by intro e; injection e with _ e; omega)).trans h.at_.c2, (World.cell?_setCell_other _ _ _ _ (by intro e; injection e with _ e; omega)).trans h.at_.c3, (World.cell?_setCell_other _ _ _ _ (by intro e; injection e with _ e; omega)).trans h.at_.c4, (World.cell?_setCell_other _ _ _ _ (by intro e; injection e with _ e; omega)).trans h.at_.c5, (World.cell?_setCell_other _ _ _ _ (by intro e; injection e with _ e; omega)).trans h.at_.c6⟩, fun j => by rw [World.frozen?_setCell]; exact h.fr j⟩
theorem RcW.put1 {W : World} {B : Nat} {r : Rc} (h : RcW W B r) (v : Int) : RcW (W.setCell ⟨B, 1, none⟩ (.int .i64 v)) B { r with s := v } :=
  ⟨⟨(World.cell?_setCell_other _ _ _ _ (by intro e; injection e with _ e; omega)).trans h.at_.c0, World.cell?_setCell_same' _ _ _ (by rw [h.at_.c1]; rfl), (World.cell?_setCell_other _ _ _ _ (by intro e; injection e with _ e; omega)).trans h.at_.c2, (World.cell?_setCell_other _ _ _ _ (by intro e; injection e with _ e; omega)).trans h.at_.c3, (World.cell?_setCell_other _ _ _ _ (by intro e; injection e with _ e; omega)).trans h.at_.c4, (World.cell?_setCell_other _ _ _ _ (by intro e; injection e with _ e; omega)).trans h.at_.c5, (World.cell?_setCell_other _ _ _ _ (by intro e; injection e with _ e; omega)).trans h.at_.c6⟩, fun j => by rw [World.frozen?_setCell]; exact h.fr j⟩
theorem RcW.put2 {W : World} {B : Nat} {r : Rc} (h : RcW W B r) (v : Int) : RcW (W.setCell ⟨B, 2, none⟩ (.int .i64 v)) B { r with a := v } :=
  ⟨⟨(World.cell?_setCell_other _ _ _ _ (by intro e; injection e with _ e; omega)).trans h.at_.c0, (World.cell?_setCell_other _ _ _ _ (by intro e; injection e with _ e; omega)).trans h.at_.c1, World.cell?_setCell_same' _ _ _ (by rw [h.at_.c2]; rfl), (World.cell?_setCell_other _ _ _ _ (by intro e; injection e with _ e; omega)).trans h.at_.c3, (World.cell?_setCell_other _ _ _ _ (by intro e; injection e with _ e; omega)).trans h.at_.c4, (World.cell?_setCell_other _ _ _ _ (by intro e; injection e with _ e; omega)).trans h.at_.c5, (World.cell?_setCell_other _ _ _ _ (by intro e; injection e with _ e; omega)).trans h.at_.c6⟩, fun j => by rw [World.frozen?_setCell]; exact h.fr j⟩
theorem RcW.put3 {W : World} {B : Nat} {r : Rc} (h : RcW W B r) (v : Int) : RcW (W.setCell ⟨B, 3, none⟩ (.int .i64 v)) B { r with b := v } :=
  ⟨⟨(World.cell?_setCell_other _ _ _ _ (by intro e; injection e with _ e; omega)).trans h.at_.c0, (World.cell?_setCell_other _ _ _ _ (by intro e; injection e with _ e; omega)).trans h.at_.c1, (World.cell?_setCell_other _ _ _ _ (by intro e; injection e with _ e; omega)).trans h.at_.c2, World.cell?_setCell_same' _ _ _ (by rw [h.at_.c3]; rfl), (World.cell?_setCell_other _ _ _ _ (by intro e; injection e with _ e; omega)).trans h.at_.c4, (World.cell?_setCell_other _ _ _ _ (by intro e; injection e with _ e; omega)).trans h.at_.c5, (World.cell?_setCell_other _ _ _ _ (by intro e; injection e with _ e; omega)).trans h.at_.c6⟩, fun j => by rw [World.frozen?_setCell]; exact h.fr j⟩
theorem RcW.put4 {W : World} {B : Nat} {r : Rc} (h : RcW W B r) (v : Int) : RcW (W.setCell ⟨B, 4, none⟩ (.int .i64 v)) B { r with c := v } :=
  ⟨⟨(World.cell?_setCell_other _ _ _ _ (by intro e; injection e with _ e; omega)).trans h.at_.c0, (World.cell?_setCell_other _ _ _ _ (by intro e; injection e with _ e; omega)).trans h.at_.c1, (World.cell?_setCell_other _ _ _ _ (by intro e; injection e with _ e; omega)).trans h.at_.c2, (World.cell?_setCell_other _ _ _ _ (by intro e; injection e with _ e; omega)).trans h.at_.c3, World.cell?_setCell_same' _ _ _ (by rw [h.at_.c4]; rfl), (World.cell?_setCell_other _ _ _ _ (by intro e; injection e with _ e; omega)).trans h.at_.c5, (World.cell?_setCell_other _ _ _ _ (by intro e; injection e with _ e; omega)).trans h.at_.c6⟩, fun j => by rw [World.frozen?_setCell]; exact h.fr j⟩
theorem RcW.put5 {W : World} {B : Nat} {r : Rc} (h : RcW W B r) (v : Int) : RcW (W.setCell ⟨B, 5, none⟩ (.int .i64 v)) B { r with d := v } :=
  ⟨⟨(World.cell?_setCell_other _ _ _ _ (by intro e; injection e with _ e; omega)).trans h.at_.c0, (World.cell?_setCell_other _ _ _ _ (by intro e; injection e with _ e; omega)).trans h.at_.c1, (World.cell?_setCell_other _ _ _ _ (by intro e; injection e with _ e; omega)).trans h.at_.c2, (World.cell?_setCell_other _ _ _ _ (by intro e; injection e with _ e; omega)).trans h.at_.c3, (World.cell?_setCell_other _ _ _ _ (by intro e; injection e with _ e; omega)).trans h.at_.c4, World.cell?_setCell_same' _ _ _ (by rw [h.at_.c5]; rfl), (World.cell?_setCell_other _ _ _ _ (by intro e; injection e with _ e; omega)).trans h.at_.c6⟩, fun j => by rw [World.frozen?_setCell]; exact h.fr j⟩
theorem RcW.put6 {W : World} {B : Nat} {r : Rc} (h : RcW W B r) (v : ByteArray) : RcW (W.setCell ⟨B, 6, none⟩ (.string v)) B { r with body := v } :=
  ⟨⟨(World.cell?_setCell_other _ _ _ _ (by intro e; injection e with _ e; omega)).trans h.at_.c0, (World.cell?_setCell_other _ _ _ _ (by intro e; injection e with _ e; omega)).trans h.at_.c1, (World.cell?_setCell_other _ _ _ _ (by intro e; injection e with _ e; omega)).trans h.at_.c2, (World.cell?_setCell_other _ _ _ _ (by intro e; injection e with _ e; omega)).trans h.at_.c3, (World.cell?_setCell_other _ _ _ _ (by intro e; injection e with _ e; omega)).trans h.at_.c4, (World.cell?_setCell_other _ _ _ _ (by intro e; injection e with _ e; omega)).trans h.at_.c5, World.cell?_setCell_same' _ _ _ (by rw [h.at_.c6]; rfl)⟩, fun j => by rw [World.frozen?_setCell]; exact h.fr j⟩
theorem RcW.all {W : World} {B : Nat} {r0 : Rc} (h : RcW W B r0) (r : Rc) : RcW (((((((W.setCell ⟨B, 0, none⟩ (.int .i64 r.k)).setCell ⟨B, 1, none⟩ (.int .i64 r.s)).setCell ⟨B, 2, none⟩ (.int .i64 r.a)).setCell ⟨B, 3, none⟩ (.int .i64 r.b)).setCell ⟨B, 4, none⟩ (.int .i64 r.c)).setCell ⟨B, 5, none⟩ (.int .i64 r.d)).setCell ⟨B, 6, none⟩ (.string r.body)) B r :=
  ((((((h.put0 r.k).put1 r.s).put2 r.a).put3 r.b).put4 r.c).put5 r.d).put6 r.body
theorem fresh_post {P : Program} {f : Func} {post : Ending → World → Prop} {e : Exit} {a : Act} {W : World} (R : World → Prop) (hR : R W) (h : ∀ W2, R W2 → bodyPost P f post e a W2) : bodyPost P f post e a W := h W hR
theorem RcW.new (w : World) (r : Rc) (t : TypeId) : RcW (w.alloc (.cells #[.int .i64 r.k, .int .i64 r.s, .int .i64 r.a, .int .i64 r.b, .int .i64 r.c, .int .i64 r.d, .string r.body] t)) w.heap.size r :=
  ⟨RcAt.new w r t, fun j => (World.frozen?_alloc_mark w _ t 0 0 j).trans (by simp)⟩
end Go.Proofs.YtbgkmppngnedlabDoor
