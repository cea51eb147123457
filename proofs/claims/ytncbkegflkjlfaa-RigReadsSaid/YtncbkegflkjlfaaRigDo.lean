/- A rig's Do. -/
import Derived.Test.YtncbkegflkjlfaaRigOps
namespace Go.Proofs.Ytncbkegflkjlfaa
open Go.RowKit Zon Drv

section
variable {w W : World} {K : Nat → Prop} {r n : Nat} {d : Nat → Nat} {D : Nat → Dr} {s : Rs}
/-- The world behind a command's box. -/
def boxW (W : World) (k zz a x : Int) : World := W.alloc (.cells #[.int .i64 k, .int .i64 zz, .int .i64 a, .int .i64 x] 46)
def boxK (W : World) (K : Nat → Prop) : Nat → Prop := fun y => K y ∨ y = W.heap.size
theorem Rig.boxed (h : Rig w W K r n d D s) (k zz a x : Int) : Rig w (boxW W k zz a x) (boxK W K) r n d D s :=
  h.below ((Below.refl _ _).alloc (Nat.le_refl _) _) (fun y hy => hy.imp id fun e => Nat.le_of_eq e.symm) (fun y hy => by
    unfold boxW
    rcases hy with hy | rfl
    · have := h.fam.kb y hy; simp; omega
    · simp) (fun y _ hy => .inl hy)
theorem boxed_same {w' : World} {k zz a x : Int} (h : SameK (boxW W k zz a x) w' (KR (boxK W K) r)) : SameK W w' (KR K r) := by
  have hb : Below W.heap.size W (boxW W k zz a x) := (Below.refl _ _).alloc (Nat.le_refl _) _
  exact ⟨Nat.le_trans hb.size h.1, fun b hl hk => (h.2 b (Nat.lt_of_lt_of_le hl hb.size) ⟨.inl hk.1, hk.2⟩).trans (hb.block b hl)⟩
theorem boxed_post {w' : World} {k zz a x : Int} {D' : Nat → Dr} {s' : Rs} (h : Rig w w' (boxK W K) r n d D' s') (hs : SameK (boxW W k zz a x) w' (KR (boxK W K) r)) : RPost w W K r n d D' s' w' := ⟨boxK W K, fun _ => .inl, h, boxed_same hs⟩
/-- A command that does not reach its drive. -/
theorem rdo_no (i k zz a x : Int) (t : ByteArray) (er : Int) (P : World → Prop) (her : er ≠ 0) (hadm : Calls Try.prog 52 #[.pointer (some ⟨r, 0, none⟩), .int .i64 i, .bool (k != 7)] (boxW W k zz a x) fun e w' => e = .returned (.int .i64 er) ∧ P w') :
    Calls Try.prog 30 #[.pointer (some ⟨r, 0, none⟩), .int .i64 i, .agg #[.int .i64 k, .int .i64 zz, .int .i64 a, .int .i64 x], .string t] W fun e w' => e = .returned (.tuple #[.string ⟨#[]⟩, .int .i64 0, .int .i64 er]) ∧ P w' := by
  have ha := Lib.hid hadm
  have her' : (er != 0) = true := by simp [her]
  clear hadm
  go_enter Try.func30, Try.ntmps30
  go_wp2_with fail
  refine ha.out.mono ?_
  rintro e w1 ⟨rfl, hP⟩
  go_wp2_with fail
  go_ret3
  exact ⟨rfl, hP⟩
end
end Go.Proofs.Ytncbkegflkjlfaa
