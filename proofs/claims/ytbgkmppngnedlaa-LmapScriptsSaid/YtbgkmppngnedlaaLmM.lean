/- The newest entry of each block: plain; and the map that holds them. -/
import Derived.Test.YtbgkmppngnedlaaOBase
import Derived.Test.YtbgkmppngnedlaaOKRow
import Derived.Maps.OwnSet
import Derived.Lib.SlKeysI
namespace Go.Proofs.Ytbgkmppngnedlaa
open Go.RowKit Go.Maps

/-- An entry of the map: the Seq, a Trim?, the zone, the block, the index. -/
structure En where
  s : Int
  t : Bool
  z : Int
  a : Int
  e : Int
def enV (x : En) : Value := .agg #[.int .i64 x.s, .bool x.t, .int .i64 x.z, .int .i64 x.a, .int .i64 x.e]
def enD (x : En) : DataW Unit := .agg [.lit (.int .i64 x.s), .lit (.bool x.t), .lit (.int .i64 x.z), .lit (.int .i64 x.a), .lit (.int .i64 x.e)]
theorem enV_inj {x y : En} (h : enV x = enV y) : x = y := by
  unfold enV at h
  cases x; cases y
  simp only [Value.agg.injEq, Array.mk.injEq, List.cons.injEq, Value.int.injEq, Value.bool.injEq, true_and, and_true] at h
  obtain ⟨rfl, rfl, rfl, rfl, rfl⟩ := h
  rfl
theorem enD_inj {x y : En} (h : enD x = enD y) : x = y := by
  unfold enD at h
  cases x; cases y
  simp only [DataW.agg.injEq, List.cons.injEq, DataW.lit.injEq, Lit.int.injEq, Lit.bool.injEq, true_and, and_true] at h
  obtain ⟨rfl, rfl, rfl, rfl, rfl⟩ := h
  rfl
def enRdL : List Value → Option (DataW Unit × List MemPlace)
  | [.int .i64 s, .bool t, .int .i64 z, .int .i64 a, .int .i64 e] => some (enD ⟨s, t, z, a, e⟩, [])
  | _ => none
def enRd : Value → Option (DataW Unit × List MemPlace)
  | .agg cs => enRdL cs.toList
  | _ => none
theorem enRd_mk (x : En) : enRd (enV x) = some (enD x, []) := rfl
theorem enRdL_inv {cs : List Value} {y : DataW Unit × List MemPlace} (h : enRdL cs = some y) : ∃ x : En, cs = [.int .i64 x.s, .bool x.t, .int .i64 x.z, .int .i64 x.a, .int .i64 x.e] ∧ y = (enD x, []) := by
  unfold enRdL at h
  split at h
  · injection h with h
    exact ⟨⟨_, _, _, _, _⟩, rfl, h.symm⟩
  · cases h
theorem enRd_inv {v : Value} {y : DataW Unit × List MemPlace} (h : enRd v = some y) : ∃ x : En, v = enV x ∧ y = (enD x, []) := by
  cases v with
  | agg cs =>
    obtain ⟨x, h1, h2⟩ := enRdL_inv h
    refine ⟨x, ?_, h2⟩
    unfold enV
    rw [← h1]
  | _ => cases h
def zE : En := ⟨0, false, 0, 0, 0⟩
theorem enZero (W : World) : (zeroValue 117).run Try.prog W = .ok (enV zE) W := by kernel_rfl
/-- The newest entries, by blocks. -/
abbrev Mp := Int → Option En
def newer (y : Option En) (s : Int) : Bool := match y with | none => true | some y => decide (y.s ≤ s)
def beats (f : Mp) (b s : Int) : Bool := newer (f b) s
def setE (f : Mp) (b : Int) (x : En) : Mp := fun k => if k = b then some x else f k
def addE (f : Mp) (b : Int) (x : En) : Mp := if beats f b x.s then setE f b x else f
theorem setE_same (f : Mp) (b : Int) (x : En) : setE f b x b = some x := if_pos rfl
theorem setE_other {f : Mp} {b k : Int} (x : En) (h : k ≠ b) : setE f b x k = f k := if_neg h
theorem intKeyed : Keyed Try.prog 3 := int_keyed Try.underlying3
def WfI (n : Int) : Prop := (Lit.int .i64 n).wf = true
theorem wfI_of {n : Int} (h : -9223372036854775808 ≤ n ∧ n ≤ 9223372036854775807) : WfI n := by
  unfold WfI
  simp [Lit.wf, IntKind.min, IntKind.max, IntKind.signed, IntKind.bits]
  omega
theorem keyI {r : Int} (h : WfI r) : keyOf Try.prog 3 (.int .i64 r) = some (.int .i64 r) := by
  have hi := Try.underlying3
  unfold WfI at h
  simp [keyOf, hi, mapKey, h]
/-- Block b is a map of these entries, which n stores have made at most. -/
def MapE (W : World) (b n : Nat) (f : Mp) : Prop := ∃ D : DataW Unit, W.ownsMap Try.prog 3 enRd b n D ∧ ∀ k, has D (.int .i64 k) = (f k).isSome ∧ ∀ z, D.atKey (.int .i64 k) z = ((f k).map enD).getD z
theorem MapE.made (W : World) : MapE (W.alloc (.map #[] 0)) W.heap.size 0 (fun _ => none) := ⟨_, World.ownsMap_made W _ _ _, fun _ => ⟨rfl, fun _ => rfl⟩⟩
theorem MapE.kept {W W' : World} {b n : Nat} {f : Mp} {o : Option Nat} (h : MapE W b n f) (hg : W.grownBy W' o) (hne : some b ≠ o) : MapE W' b n f := by
  obtain ⟨D, h1, h2⟩ := h
  exact ⟨D, h1.kept hg hne, h2⟩
theorem MapE.below {W W' : World} {b n : Nat} {f : Mp} (h : MapE W b n f) (hb : Below W.heap.size W W') : MapE W' b n f :=
  h.kept (o := none) ⟨hb.os, hb.tape, hb.output, hb.size, fun k hk _ => hb.block k hk⟩ (by simp)
theorem MapE.lt {W : World} {b n : Nat} {f : Mp} (h : MapE W b n f) : b < W.heap.size := by obtain ⟨D, h1, _⟩ := h; exact h1.lt
theorem MapE.mono {W : World} {b n n' : Nat} {f : Mp} (h : MapE W b n f) (hn : n ≤ n') : MapE W b n' f := by obtain ⟨D, h1, h2⟩ := h; exact ⟨D, h1.mono hn, h2⟩
theorem MapE.look {W : World} {b n : Nat} {f : Mp} (h : MapE W b n f) {k : Int} (hk : WfI k) :
    (Instr.lookup 119 (.map (some b)) (.int .i64 k) true).run Try.prog W = .ok (.tuple #[enV ((f k).getD zE), .bool (f k).isSome]) W := by
  obtain ⟨D, h1, h2⟩ := h
  obtain ⟨e1, e2⟩ := h2 k
  obtain ⟨v, ps, hrun, hv⟩ := h1.look_ok intKeyed Try.underlying119 (enZero W) (zd := enD zE) (zp := []) rfl (keyI hk)
  rw [e2] at hv
  rw [e1] at hrun
  obtain ⟨x, rfl, hx⟩ := enRd_inv hv
  have hx1 := (Prod.mk.inj hx).1
  have : x = (f k).getD zE := by
    cases hf : f k with
    | none => rw [hf] at hx1; exact (enD_inj hx1).symm
    | some y => rw [hf] at hx1; exact (enD_inj hx1).symm
  rw [this] at hrun
  exact hrun
theorem MapE.step {W : World} {b n : Nat} {f : Mp} (h : MapE W b n f) (hn : n < maxLen) {k : Int} (hk : WfI k) (x : En) :
    ∃ W', (Instr.mapUpdate 119 (.map (some b)) (.int .i64 k) (enV x)).run Try.prog W = .ok () W' ∧ MapE W' b (n + 1) (setE f k x) ∧ W.grownBy W' (some b) := by
  obtain ⟨D, h1, h2⟩ := h
  obtain ⟨W', r1, r2, r3⟩ := h1.update intKeyed Try.underlying119 hn (keyI hk) (enRd_mk x)
  refine ⟨W', r1, ⟨_, r2, fun j => ?_⟩, r3⟩
  by_cases he : j = k
  · subst he
    rw [setE_same]
    exact ⟨has_put_same h1.isMap (show WideAt.IsKeyLit (.int .i64 j) from trivial) _, fun z => atKey_put_same h1.isMap (show WideAt.IsKeyLit (.int .i64 j) from trivial) _ z⟩
  · have hne : (Lit.int .i64 j) ≠ .int .i64 k := fun e => he (by injection e)
    rw [setE_other x he, has_put_other hne]
    exact ⟨(h2 j).1, fun z => by rw [atKey_put_other hne]; exact (h2 j).2 z⟩
/-- The entries of a group, added one behind the other. -/
def addL (f : Mp) (z a s : Int) : Nat → List (Int × Bool) → Mp
  | _, [] => f
  | i, x :: t => addL (addE f x.1 ⟨s, x.2, z, a, (i : Int)⟩) z a s (i + 1) t
theorem addL_snoc (f : Mp) (z a s : Int) : ∀ (i : Nat) (l : List (Int × Bool)) (x : Int × Bool), addL f z a s i (l ++ [x]) = addE (addL f z a s i l) x.1 ⟨s, x.2, z, a, ((i + l.length : Nat) : Int)⟩
  | i, [], x => rfl
  | i, y :: t, x => by
    show addL _ z a s (i + 1) (t ++ [x]) = _
    rw [addL_snoc _ z a s (i + 1) t x, List.length_cons, show i + 1 + t.length = i + (t.length + 1) by omega]
    rfl
/-- An entry of a group in memory. -/
def geE : Enc (Int × Bool) := ⟨fun x => [.int .i64 x.1, .bool x.2], 2, fun _ => rfl, fun _ u hu => by
  simp only [List.mem_cons, List.not_mem_nil, or_false] at hu
  rcases hu with rfl | rfl <;> rfl⟩
theorem ge_at {W : World} {A : Option Addr} {l : List (Int × Bool)} (h : geE.In W A l) {i : Nat} (hi : i < l.length) : ∃ b off, A = some ⟨b, off, none⟩ ∧ b < W.heap.size ∧ W.cell? ⟨b, off + i * 2, none⟩ = some (.int .i64 l[i].1) ∧ W.cell? ⟨b, off + i * 2 + 1, none⟩ = some (.bool l[i].2) := by
  obtain ⟨b, off, e, hlt, h⟩ := h.at_ hi
  exact ⟨b, off, e, hlt, h 0 (by decide), h 1 (by decide)⟩
theorem infGe : Enc.Inf Try.prog 110 2 16 := by unfold Enc.Inf; kernel_rfl
end Go.Proofs.Ytbgkmppngnedlaa
