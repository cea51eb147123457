/- What New does where it may be. -/
import Derived.Test.YtncbkegflkjlfaaZonSeven
import Derived.Test.YtncbkegflkjlfaaMake
import Derived.Test.YtncbkegflkjlfaaAppRun
import Derived.Laws.OwnMore
import Derived.OwnWalk
namespace Go.Proofs.Ytncbkegflkjlfaa
open Go.RowKit Zon

theorem infoZ : (Try.prog.info? 54).map (fun i => (i.zero, i.size, i.bytes)) = some (some (.agg #[.int .i64 0, .int .i64 0]), 2, 16) := by kernel_rfl

/-- A machine in new memory: its blocks are those of the call. -/
def MNew (w w' : World) (g z : Nat) (m : Mc) : Prop := MAt w' g z m ∧ w.heap.size ≤ z ∧ w.heap.size ≤ g ∧ Below w.heap.size w w'

theorem made_two (v : Value) (n j : Nat) (hj : j < n * 2) : (madeCells #[v, v] (n * 2))[j]? = some v := by
  unfold madeCells
  rw [Array.getElem?_map, Array.getElem?_range, if_pos hj]
  simp only [Option.map_some]
  congr 1
  have : j % 2 = 0 ∨ j % 2 = 1 := by omega
  rcases this with h | h <;> simp [h]
theorem made_zones (w : World) (n : Nat) (t : TypeId) : ZAt (w.alloc (.cells (madeCells #[.int .i64 0, .int .i64 0] (n * 2)) t)) w.heap.size (List.replicate n ⟨0, 0⟩) := fun i hi => by
  have hi' : i < n := by simpa using hi
  rw [World.cell?_alloc_new, World.cell?_alloc_new, made_two _ _ _ (by omega), made_two _ _ _ (by omega), List.getElem_replicate]
  have hf := fun j => World.frozen?_alloc_mark w (madeCells #[.int .i64 0, .int .i64 0] (n * 2)) t 0 0 j
  refine ⟨rfl, rfl, (hf _).trans (by simp), (hf _).trans (by simp)⟩

theorem mnew_made (w : World) (n : Nat) (b o a : Int) (t t' : TypeId) :
    MNew w ((w.alloc (.cells (madeCells #[.int .i64 0, .int .i64 0] (n * 2)) t)).alloc (.cells #[.slice (some ⟨w.heap.size, 0, none⟩) n n, .int .i64 b, .int .i64 o, .int .i64 a] t')) (w.heap.size + 1) w.heap.size (newM n b o a) := by
  have hz := made_zones w n t
  have hg := World.grownBy_alloc (w.alloc (.cells (madeCells #[.int .i64 0, .int .i64 0] (n * 2)) t)) (.cells #[.slice (some ⟨w.heap.size, 0, none⟩) n n, .int .i64 b, .int .i64 o, .int .i64 a] t') none
  refine ⟨⟨⟨n, ?_⟩, ?_, ?_, ?_, by omega, by simp; omega, ?_⟩, Nat.le_refl _, by omega, ((Below.refl _ _).alloc (Nat.le_refl _) _).alloc (by simp) _⟩
  · show _ = some (Value.slice _ (List.replicate _ _).length n)
    rw [List.length_replicate, Int.toNat_natCast]
    go_simp
  · show _ = some (Value.int .i64 b); go_simp
  · show _ = some (Value.int .i64 o); go_simp
  · show _ = some (Value.int .i64 a); go_simp
  · show ZAt _ _ (List.replicate (n : Int).toNat _)
    rw [Int.toNat_natCast]
    exact hz.kept (by simp) hg (by simp)
/-- What New answers where it may be. -/
def NewPost (w : World) (k : IntKind) (z b o a : Int) (e : Ending) (w' : World) : Prop := ∃ g y, e = .returned (.tuple #[.pointer (some ⟨g, 0, none⟩), .int k 0]) ∧ MNew w w' g y (newM z b o a)
def NewPost1 (w : World) (z b o a : Int) (e : Ending) (w' : World) : Prop := ∃ g y, e = .returned (.pointer (some ⟨g, 0, none⟩)) ∧ MNew w w' g y (newM z b o a)

theorem new_good (z b o a : Int) (w : World) (h : newOk z b o a = true) :
    Calls Try.prog 56 #[.int .i64 z, .int .i64 b, .int .i64 o, .int .i64 a] w (NewPost w .i64 z b o a) := by
  obtain ⟨h1, h2, h3, h4, h5, h6, h7⟩ := Zon.newOk_iff.1 h
  obtain ⟨n, rfl⟩ := Int.eq_ofNat_of_zero_le (show 0 ≤ z by omega)
  obtain ⟨i0, hi, hz0, hz1, hz2⟩ := info_parts infoZ
  have hmk := fun W => run_make_m (P := Try.prog) 114 54 i0 (.agg #[.int .i64 0, .int .i64 0]) Try.underlying114 hi hz0 .i64 .i64 n n (Nat.le_refl _) (by rw [hz2]; omega) (by omega) W
  rw [hz1] at hmk
  clear hi hz0 hz1 hz2 h
  go_enter Try.func56, Try.ntmps56
  go_wp2
  go_ret2
  exact ⟨_, _, rfl, mnew_made w n b o a _ _⟩
end Go.Proofs.Ytncbkegflkjlfaa
