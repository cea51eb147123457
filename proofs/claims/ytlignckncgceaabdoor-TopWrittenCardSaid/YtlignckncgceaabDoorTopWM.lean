/- The zone of TopWritten, and the slices that it grows. -/
import Derived.Test.YtlignckncgceaabDoorRecSpeak
import Derived.Test.YtlignckncgceaabDoorRecScan
import Derived.Test.YtlignckncgceaabDoorRecCat
import Derived.Test.YtlignckncgceaabDoorNumRow
import Derived.Test.YtlignckncgceaabDoorModIn
import Derived.Test.YtlignckncgceaabDoorZonDo
import Derived.Test.YtlignckncgceaabDoorZonNw
namespace Go.Proofs.YtlignckncgceaabDoor
open Go.RowKit Rec Crc Num Zon

def zst (b L : Int) : Zn := ⟨if L = 0 then 0 else if L = b then 4 else 1, L⟩
def Mw (b L : Int) : Mc := ⟨[zst b L], b, 1, 1⟩
theorem mw_new (b : Int) : newM 1 b 1 1 = Mw b 0 := rfl
theorem mw_ok {b L : Int} (h1 : 1 ≤ b) (h2 : b ≤ 4096) (h0 : 0 ≤ L) (hL : L ≤ b) : (Mw b L).Ok := by
  refine ⟨by show 1 ≤ [zst b L].length; simp, by show [zst b L].length ≤ 64; simp, h1, h2, by show (1 : Int) ≤ 1; omega, by show (1 : Int) ≤ 1; omega, by show (1 : Int) ≤ ([zst b L].length : Int); simp, fun z hz => ?_⟩
  obtain rfl : z = zst b L := by simpa [Mw] using hz
  unfold zOk zst
  dsimp only
  by_cases e0 : L = 0
  · simp [e0]; show 0 ≤ b; omega
  · by_cases eb : L = b
    · simp [eb]
      have : b ≠ 0 := by omega
      simp [this]
      show 0 ≤ b ∧ b ≤ b
      omega
    · simp [e0, eb]
      show 0 ≤ L ∧ L ≤ b ∧ 1 ≤ L
      omega
theorem mw_fits {b L n : Int} (h0 : 0 ≤ L) (hn : 1 ≤ n) (hL : L + n ≤ b) : doM (Mw b L) 2 0 0 n = (L, 0, [zst b (L + n)]) := by
  have hz : zAt (Mw b L).zs 0 = zst b L := rfl
  have hb : hasB (Mw b L) 0 = true := by unfold hasB Mw; simp
  have hw1 : withinB 0 n (Mw b L).b = true := by unfold withinB Mw; simp; omega
  have hs : ¬ (zst b L).s = 4 := by unfold zst; dsimp only; by_cases e : L = 0 <;> simp [e]; omega
  have hw2 : withinB (zst b L).l n (Mw b L).b = true := by unfold withinB Mw zst; simp; omega
  unfold doM
  rw [if_neg (by omega), if_neg (by rw [hb]; simp)]
  show app (Mw b L) 0 n = _
  unfold app
  rw [if_neg (by rw [hw1]; simp), hz, if_neg hs, if_neg (by rw [hw2]; simp)]
  have had : admit (Mw b L) 0 = (0, [zst b L]) := by
    unfold admit
    rw [hz]
    by_cases e : L = 0
    · subst e
      have e1 : openB (zst b 0).s = false := by unfold zst openB; simp
      have e2 : nAct (Mw b 0).zs = 0 := by unfold nAct Mw zst actB openB; simp
      have e3 : nOpen (Mw b 0).zs = 0 := by unfold nOpen Mw zst openB; simp
      rw [if_neg (by rw [e1]; simp), if_neg (by rw [e2]; show ¬ (_ ∧ (1 : Int) ≤ ((0 : Nat) : Int)); omega), if_pos (by rw [e3]; show ((0 : Nat) : Int) < 1; omega)]
      rfl
    · have e1 : openB (zst b L).s = true := by unfold zst openB; simp [e, show L ≠ b by omega]
      rw [if_pos e1]
      rfl
  unfold ext
  rw [had]
  dsimp only
  rw [if_pos rfl]
  have hx : extZ (Mw b L).b n (zst b L) = zst b (L + n) := by
    unfold extZ zst Mw
    dsimp only
    congr 1
    have e0 : ¬ L + n = 0 := by omega
    rw [if_neg e0]
    by_cases eb : L + n = b
    · rw [if_pos eb, if_pos eb]
    · rw [if_neg eb, if_neg eb]
      by_cases e : L = 0
      · simp [e]
      · simp [e, show ¬ L = b by omega]
  show ((zst b L).l, (0 : Int), [zst b L].set 0 (extZ (Mw b L).b n (zAt [zst b L] 0))) = _
  rw [show zAt [zst b L] 0 = zst b L from rfl, hx]
  rfl
theorem mw_full {b L n : Int} (hL : b < L + n) : ∃ e : Int, e ≠ 0 ∧ doM (Mw b L) 2 0 0 n = (0, e, [zst b L]) := by
  have hz : zAt (Mw b L).zs 0 = zst b L := rfl
  have hb : hasB (Mw b L) 0 = true := by unfold hasB Mw; simp
  unfold doM
  rw [if_neg (by omega), if_neg (by rw [hb]; simp)]
  show ∃ e : Int, e ≠ 0 ∧ app (Mw b L) 0 n = _
  unfold app
  by_cases c1 : withinB 0 n (Mw b L).b = false
  · rw [if_pos c1]; exact ⟨2, by decide, rfl⟩
  rw [if_neg c1, hz]
  by_cases c2 : (zst b L).s = 4
  · rw [if_pos c2]; exact ⟨4, by decide, rfl⟩
  rw [if_neg c2, if_pos (by unfold withinB Mw zst; simp; omega)]
  exact ⟨2, by decide, rfl⟩
theorem mw_get (b L : Int) : getM (Mw b L) 0 = zst b L := rfl

theorem MAt.low {w w' : World} {g z n : Nat} {m : Mc} (h : MAt w g z m) (hb : Below n w w') (hg : g < n) (hz : z < n) : MAt w' g z m := by
  have hbk := hb.block g hg
  have hzk := hb.block z hz
  obtain ⟨⟨cap, c0⟩, c1, c2, c3, ne, zl, za⟩ := h
  refine ⟨⟨cap, (World.cell?_of_block (a := ⟨g, 0, none⟩) hbk).trans c0⟩, (World.cell?_of_block (a := ⟨g, 1, none⟩) hbk).trans c1, (World.cell?_of_block (a := ⟨g, 2, none⟩) hbk).trans c2, (World.cell?_of_block (a := ⟨g, 3, none⟩) hbk).trans c3, ne,
    Nat.lt_of_lt_of_le zl hb.size, fun i hi => ?_⟩
  obtain ⟨h1, h2, h3, h4⟩ := za i hi
  exact ⟨(World.cell?_of_block (a := ⟨z, i * 2, none⟩) hzk).trans h1, (World.cell?_of_block (a := ⟨z, i * 2 + 1, none⟩) hzk).trans h2, (World.frozen?_of_block (a := ⟨z, i * 2, none⟩) hzk).trans h3, (World.frozen?_of_block (a := ⟨z, i * 2 + 1, none⟩) hzk).trans h4⟩
theorem RcAt.only {W W' : World} {X z : Nat} {r : Rc} (h : RcAt W X r) (hg : Only W W' z) (hne : X ≠ z) : RcAt W' X r :=
  ⟨hg.cell h.c0 hne, hg.cell h.c1 hne, hg.cell h.c2 hne, hg.cell h.c3 hne, hg.cell h.c4 hne, hg.cell h.c5 hne, hg.cell h.c6 hne⟩
theorem RRow.only {W W' : World} {base cap z : Nat} {t : TypeId} {A : Option Addr} {rs : List Rc} (h : RRow W base t A cap rs) (hg : Only W W' z) (hz : z < base) : RRow W' base t A cap rs := by
  refine World.ownsRow.kept h hg ?_
  rcases h.form with h0 | ⟨g, rfl, hb, _⟩
  · left; rw [h0.1]; rfl
  · right
    simp only [Value.ownBlock]
    intro e
    have := Option.some.inj e
    omega
theorem NRow.only {W W' : World} {base cap z : Nat} {A : Option Addr} {zs : List Int} (h : NRow W base A cap zs) (hg : Only W W' z) (hz : z < base) : NRow W' base A cap zs := by
  refine World.ownsRow.kept h hg ?_
  rcases h.form with h0 | ⟨g, rfl, hb, _⟩
  · left; rw [h0.1]; rfl
  · right
    simp only [Value.ownBlock]
    intro e
    have := Option.some.inj e
    omega

theorem dj_step {A A' E : Option Addr} {n : Nat} (h : A = none ∨ E = none ∨ A ≠ E) (hA' : A' = A ∨ A' = some ⟨n, 0, none⟩) (hE : E = none ∨ ∃ g, E = some ⟨g, 0, none⟩ ∧ g < n) : A' = none ∨ E = none ∨ A' ≠ E := by
  rcases hA' with rfl | rfl
  · exact h
  rcases hE with rfl | ⟨g, rfl, hlt⟩
  · exact .inr (.inl rfl)
  · refine .inr (.inr fun e => ?_)
    injection e with e
    injection e with e1
    omega
/-- How many blocks there are behind each record. -/
def endsB (qs : List Rc) : List Int := (List.range qs.length).map fun j => ((blk (qs.take (j + 1)) : Nat) : Int)
theorem endsB_len (qs : List Rc) : (endsB qs).length = qs.length := by unfold endsB; simp
theorem endsB_at {qs : List Rc} {j : Nat} (h : j < (endsB qs).length) : (endsB qs)[j] = ((blk (qs.take (j + 1)) : Nat) : Int) := by simp only [endsB, List.getElem_map, List.getElem_range]
theorem endsB_snoc (qs : List Rc) (q : Rc) : endsB (qs ++ [q]) = endsB qs ++ [((blk (qs ++ [q]) : Nat) : Int)] := by
  unfold endsB
  rw [List.length_append, List.length_singleton, List.range_succ, List.map_append, List.map_singleton]
  congr 1
  · refine List.map_congr_left fun j hj => ?_
    rw [List.take_append_of_le_length (by have := List.mem_range.1 hj; omega)]
  · rw [List.take_of_length_le (by simp)]
/-- The two slices that are grown. -/
def TwoB (W : World) (base : Nat) (A : Option Addr) (cap : Nat) (qs : List Rc) (E : Option Addr) (capE : Nat) : Prop := RRow W base 29 A cap qs ∧ NRow W base E capE (endsB qs) ∧ (A = none ∨ E = none ∨ A ≠ E)
theorem TwoB.below {W W' : World} {base : Nat} {A : Option Addr} {cap : Nat} {qs : List Rc} {E : Option Addr} {capE : Nat} (h : TwoB W base A cap qs E capE) (hb : Below W.heap.size W W') : TwoB W' base A cap qs E capE := ⟨h.1.below hb, h.2.1.below hb, h.2.2⟩
theorem TwoB.alloc {W : World} {base : Nat} {A : Option Addr} {cap : Nat} {qs : List Rc} {E : Option Addr} {capE : Nat} (h : TwoB W base A cap qs E capE) (o : Obj) : TwoB (W.alloc o) base A cap qs E capE := ⟨h.1.alloc o, h.2.1.alloc o, h.2.2⟩
/-- Both appended to, one behind the other. -/
theorem TwoB.append {W : World} {base : Nat} {A : Option Addr} {cap : Nat} {qs : List Rc} {E : Option Addr} {capE : Nat} (h : TwoB W base A cap qs E capE) (q : Rc) (z : Int) (hz : z = ((blk (qs ++ [q]) : Nat) : Int)) (hl : qs.length ≤ 1000) (hb : base ≤ W.heap.size) :
    ∃ A' cap' W1 E' capE' W2, (Builtin.append_ #[38, 38] 38 #[.slice A qs.length cap, .slice (some ⟨W.heap.size, 0, none⟩) 1 1]).run Tryd.prog (W.alloc (.cells #[.int .i64 q.k, .int .i64 q.s, .int .i64 q.a, .int .i64 q.b, .int .i64 q.c, .int .i64 q.d, .string q.body] 29)) = .ok (.slice A' (qs.length + 1) cap') W1 ∧
      (Builtin.append_ #[46, 46] 46 #[.slice E (endsB qs).length capE, .slice (some ⟨W1.heap.size, 0, none⟩) 1 1]).run Tryd.prog (W1.alloc (.cells #[.int .i64 z] 3)) = .ok (.slice E' ((endsB qs).length + 1) capE') W2 ∧
      TwoB W2 base A' cap' (qs ++ [q]) E' capE' ∧ Below base W W2 := by
  obtain ⟨hr, hn, hd⟩ := h
  have hEf : E = none ∨ ∃ g, E = some ⟨g, 0, none⟩ ∧ g < W.heap.size := by
    rcases hn.form with h | ⟨g, h, _, h2, _⟩
    · exact .inl h.1
    · exact .inr ⟨g, h, h2⟩
  have hAf : A = none ∨ ∃ g, A = some ⟨g, 0, none⟩ := by
    rcases hr.form with h | ⟨g, h, _⟩
    · exact .inl h.1
    · exact .inr ⟨g, h⟩
  have hEf' : E = none ∨ ∃ g, E = some ⟨g, 0, none⟩ := hEf.imp id fun ⟨g, h, _⟩ => ⟨g, h⟩
  have hd' : E = none ∨ A = none ∨ E ≠ A := by
    rcases hd with h | h | h
    · exact .inr (.inl h)
    · exact .inl h
    · exact .inr (.inr (Ne.symm h))
  have hr1 := hr.alloc (.cells #[.int .i64 q.k, .int .i64 q.s, .int .i64 q.a, .int .i64 q.b, .int .i64 q.c, .int .i64 q.d, .string q.body] 29)
  have hn1 := hn.alloc (.cells #[.int .i64 q.k, .int .i64 q.s, .int .i64 q.a, .int .i64 q.b, .int .i64 q.c, .int .i64 q.d, .string q.body] 29)
  obtain ⟨A', cap', W1, run1, hr2, hg1, hA'⟩ := hr1.append (RcAt.new W q 29) (by omega) (by simp; omega)
  have hB1 : Below base W W1 := ((Below.refl _ _).alloc hb _).trans (hr1.grown hg1 (by simp; omega))
  have hn2 := hn1.kept hg1 (own_ne hd' hEf' hAf)
  have hd2 : A' = none ∨ E = none ∨ A' ≠ E := dj_step hd hA' (hEf.imp id fun ⟨g, h, h2⟩ => ⟨g, h, by simp; omega⟩)
  have hA'f : A' = none ∨ ∃ g, A' = some ⟨g, 0, none⟩ ∧ g < W1.heap.size := by
    rcases hr2.form with h | ⟨g, h, _, h2, _⟩
    · exact .inl h.1
    · exact .inr ⟨g, h, h2⟩
  have hs1 := hB1.size
  have hn3 := hn2.alloc (.cells #[.int .i64 z] 3)
  have hr3 := hr2.alloc (.cells #[.int .i64 z] 3)
  obtain ⟨E', capE', W2, run2, hn4, hg2, hE'⟩ := hn3.append (m := W1.heap.size) (z := z) (by go_simp) (by rw [endsB_len]; omega) (by simp; omega)
  refine ⟨A', cap', W1, E', capE', W2, run1, run2, ⟨hr3.kept hg2 (own_ne hd2 (hA'f.imp id fun ⟨g, h, _⟩ => ⟨g, h⟩) hEf'), ?_, ?_⟩, hB1.trans (((Below.refl _ _).alloc (by omega) _).trans (hn3.grown hg2 (by simp; omega)))⟩
  · rw [endsB_snoc, ← hz]; exact hn4
  · have h1 := dj_step (A := E) (A' := E') (E := A') (n := (W1.alloc (.cells #[.int .i64 z] 3)).heap.size) (by
      rcases hd2 with h | h | h
      · exact .inr (.inl h)
      · exact .inl h
      · exact .inr (.inr (Ne.symm h))) hE' (hA'f.imp id fun ⟨g, h, h2⟩ => ⟨g, h, by simp; omega⟩)
    rcases h1 with h | h | h
    · exact .inr (.inl h)
    · exact .inl h
    · exact .inr (.inr (Ne.symm h))
theorem TwoB.only {W W' : World} {base z : Nat} {A : Option Addr} {cap : Nat} {qs : List Rc} {E : Option Addr} {capE : Nat} (h : TwoB W base A cap qs E capE) (hg : Only W W' z) (hz : z < base) : TwoB W' base A cap qs E capE := ⟨h.1.only hg hz, h.2.1.only hg hz, h.2.2⟩
end Go.Proofs.YtlignckncgceaabDoor
