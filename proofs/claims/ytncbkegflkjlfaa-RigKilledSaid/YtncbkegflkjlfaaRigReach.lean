/- A rig's Do that reaches its drive. -/
import Derived.Test.YtncbkegflkjlfaaRigOps
namespace Go.Proofs.Ytncbkegflkjlfaa
open Go.RowKit Zon Drv

section
variable {w W : World} {K : Nat → Prop} {r n : Nat} {d : Nat → Nat} {D : Nat → Dr} {s : Rs}
/-- What a command that reached its drive leaves. -/
def DoR (w W : World) (K : Nat → Prop) (r n : Nat) (d : Nat → Nat) (D : Nat → Dr) (i : Nat) (R : (List UInt8 × Int × Int) × Dr) (s : Rs) (e : Ending) (w' : World) : Prop :=
  e = .returned (.tuple #[.string ⟨R.1.1.toArray⟩, .int .i64 R.1.2.1, .int .i64 R.1.2.2]) ∧ RPost w W K r n d (upd D i R.2) s w'
theorem rdo_reach (i : Nat) (k zz a x : Int) (t : ByteArray) (hr : r < W.heap.size) (hi : i < n) (hok : (D i).Ok) (ha : a ≤ 9223372036854775807) (hs : t.size ≤ 9223372036854775807)
    (hadm : Calls Try.prog 52 #[.pointer (some ⟨r, 0, none⟩), .int .i64 (i : Int), .bool (k != 7)] (boxW W k zz a x) fun e w' => e = .returned (.int .i64 0) ∧ Rig w w' (boxK W K) r n d D s ∧ SameK (boxW W k zz a x) w' (KR (boxK W K) r)) :
    Calls Try.prog 30 #[.pointer (some ⟨r, 0, none⟩), .int .i64 (i : Int), .agg #[.int .i64 k, .int .i64 zz, .int .i64 a, .int .i64 x], .string t] W (DoR w W K r n d D i (doD (D i) k zz a x t.data.toList) s) := by
  have hA := Lib.hid hadm
  have hX : Bx W (boxW W k zz a x) W.heap.size k zz a x := Bx.new W k zz a x 46
  have hXH := Lib.hid hX
  have hdo := Lib.hid (fun W' (h : Fam w W' (boxK W K) n d D) => fam_do W' i k zz a x t h hi hok ha hs)
  clear hadm hX hok ha hs
  generalize doD (D i) k zz a x t.data.toList = R at hdo ⊢
  obtain ⟨⟨out, at', ev⟩, D'⟩ := R
  dsimp only at hdo
  go_enter Try.func30, Try.ntmps30
  go_wp2_with fail
  refine hA.out.mono ?_
  rintro e w5 ⟨rfl, hR, hk⟩
  go_wp2_with fail
  have hbk : KR (boxK W K) r W.heap.size := ⟨.inr rfl, by omega⟩
  have g0 := hk.cell hXH.out.x0 hbk
  have g1 := hk.cell hXH.out.x1 hbk
  have g2 := hk.cell hXH.out.x2 hbk
  have g3 := hk.cell hXH.out.x3 hbk
  obtain ⟨q, q1, q2, q3, q4⟩ := hR.row
  have p1 := q4 i hi
  have hnb := hR.nb
  have hf := Lib.hid (fun W' (hW : SameK w5 W' (boxK W K)) => (⟨hW.cell q1 hR.kr, hW.cell p1 q2, hW.cell g0 hbk.1, hW.cell g1 hbk.1, hW.cell g2 hbk.1, hW.cell g3 hbk.1⟩ : W'.cell? ⟨r, 0, none⟩ = some (.slice (some ⟨q, 0, none⟩) n n) ∧ W'.cell? ⟨q, i, none⟩ = some (.pointer (some ⟨d i, 0, none⟩)) ∧ W'.cell? ⟨W.heap.size, 0, none⟩ = some (.int .i64 k) ∧ W'.cell? ⟨W.heap.size, 1, none⟩ = some (.int .i64 zz) ∧ W'.cell? ⟨W.heap.size, 2, none⟩ = some (.int .i64 a) ∧ W'.cell? ⟨W.heap.size, 3, none⟩ = some (.int .i64 x)))
  have hS : SameK w5 w5.drew (boxK W K) := ⟨Nat.le_refl _, fun _ _ _ => rfl⟩
  have hF := hR.fam.below ((Below.refl _ w5).drew) (fun x hx => .inl hx) (fun x hx => hR.fam.kb x hx)
  have hex := Lib.hid (hdo.out _ hF)
  have hRH := Lib.hid hR
  have hkH := Lib.hid hk
  clear hR hk g0 g1 g2 g3 q1 q2 q3 q4 p1 hbk hF hdo hXH hA
  refine region_anyC (fun _ => true) (fun W' => SameK w5 W' (boxK W K)) (by kernel_rfl) ?_
  refine anyL_take 0 (v := ?_) rfl (by kernel_rfl) (fun _ _ _ h => h) (Or.inl ⟨by rfl, ?_⟩) hS ?_
  rotate_left
  focus (intro W hW; go_simp; try with_reducible rfl)
  simp only [Act.put, List.setIfInBounds_toArray, List.set_cons_zero, List.set_cons_succ]
  refine anyL_take 1 (v := ?_) rfl (by kernel_rfl) (fun _ _ _ h => h) (Or.inl ⟨by rfl, ?_⟩) hS ?_
  rotate_left
  focus (intro W hW; go_simp; try with_reducible rfl)
  simp only [Act.put, List.setIfInBounds_toArray, List.set_cons_zero, List.set_cons_succ]
  refine anyL_take 2 (v := ?_) rfl (by kernel_rfl) (fun _ _ _ h => h) (Or.inl ⟨by rfl, ?_⟩) hS ?_
  rotate_left
  focus (intro W hW; go_simp; try with_reducible rfl)
  simp only [Act.put, List.setIfInBounds_toArray, List.set_cons_zero, List.set_cons_succ]
  refine anyL_take 3 (v := ?_) rfl (by kernel_rfl) (fun _ _ _ h => h) (Or.inl ⟨by rfl, ?_⟩) hS ?_
  rotate_left
  focus (intro W hW; obtain ⟨f0, f1, f2, f3, f4, f5⟩ := hf.out W hW; go_simp; try with_reducible rfl)
  simp only [Act.put, List.setIfInBounds_toArray, List.set_cons_zero, List.set_cons_succ]
  refine anyL_take 4 (v := ?_) rfl (by kernel_rfl) (fun _ _ _ h => h) (Or.inl ⟨by rfl, ?_⟩) hS ?_
  rotate_left
  focus (intro W hW; go_simp; try with_reducible rfl)
  simp only [Act.put, List.setIfInBounds_toArray, List.set_cons_zero, List.set_cons_succ]
  refine anyL_take 5 (v := ?_) rfl (by kernel_rfl) (fun _ _ _ h => h) (Or.inl ⟨by rfl, ?_⟩) hS ?_
  rotate_left
  focus (intro W hW; go_simp; try with_reducible rfl)
  simp only [Act.put, List.setIfInBounds_toArray, List.set_cons_zero, List.set_cons_succ]
  refine anyL_take 6 (v := ?_) rfl (by kernel_rfl) (fun _ _ _ h => h) (Or.inl ⟨by rfl, ?_⟩) hS ?_
  rotate_left
  focus (intro W hW; obtain ⟨f0, f1, f2, f3, f4, f5⟩ := hf.out W hW; go_simp; try with_reducible rfl)
  simp only [Act.put, List.setIfInBounds_toArray, List.set_cons_zero, List.set_cons_succ]
  refine anyL_take 7 (v := ?_) rfl (by kernel_rfl) (fun _ _ _ h => h) (Or.inl ⟨by rfl, ?_⟩) hS ?_
  rotate_left
  focus (intro W hW; obtain ⟨f0, f1, f2, f3, f4, f5⟩ := hf.out W hW; go_simp; try with_reducible rfl)
  simp only [Act.put, List.setIfInBounds_toArray, List.set_cons_zero, List.set_cons_succ]
  refine anyL_take 8 (v := ?_) rfl (by kernel_rfl) (fun _ _ _ h => h) (Or.inl ⟨by rfl, ?_⟩) hS ?_
  rotate_left
  focus (intro W hW; go_simp; try with_reducible rfl)
  simp only [Act.put, List.setIfInBounds_toArray, List.set_cons_zero, List.set_cons_succ]
  refine anyL_one 9 rfl (by kernel_rfl) (fun K hK => ?_)
  go_simp
  refine (hex.out).mono ?_
  rintro e' w7 ⟨rfl, hD7, ht7⟩
  have ht8 := hS.trans ht7
  dsimp only
  refine hK.out _ _ (fun _ => ht8) ?_
  clear hK K
  try simp only [Act.put, List.setIfInBounds_toArray, List.set_cons_zero, List.set_cons_succ]
  refine anyL_take 10 (v := ?_) rfl (by kernel_rfl) (fun _ _ _ h => h) (Or.inl ⟨by rfl, ?_⟩) ht8 ?_
  rotate_left
  focus (intro W hW; go_simp; try with_reducible rfl)
  simp only [Act.put, List.setIfInBounds_toArray, List.set_cons_zero, List.set_cons_succ]
  refine anyL_take 11 (v := ?_) rfl (by kernel_rfl) (fun _ _ _ h => h) (Or.inl ⟨by rfl, ?_⟩) ht8 ?_
  rotate_left
  focus (intro W hW; go_simp; try with_reducible rfl)
  simp only [Act.put, List.setIfInBounds_toArray, List.set_cons_zero, List.set_cons_succ]
  refine anyL_take 12 (v := ?_) rfl (by kernel_rfl) (fun _ _ _ h => h) (Or.inl ⟨by rfl, ?_⟩) ht8 ?_
  rotate_left
  focus (intro W hW; go_simp; try with_reducible rfl)
  simp only [Act.put, List.setIfInBounds_toArray, List.set_cons_zero, List.set_cons_succ]
  refine anyL_take 13 (v := ?_) rfl (by kernel_rfl) (fun _ _ _ h => h) (Or.inl ⟨by rfl, ?_⟩) ht8 ?_
  rotate_left
  focus (intro W hW; go_simp; try with_reducible rfl)
  simp only [Act.put, List.setIfInBounds_toArray, List.set_cons_zero, List.set_cons_succ]
  refine anyL_take 14 (v := ?_) rfl (by kernel_rfl) (fun _ _ _ h => h) (Or.inl ⟨by rfl, ?_⟩) ht8 ?_
  rotate_left
  focus (intro W hW; go_simp; try with_reducible rfl)
  simp only [Act.put, List.setIfInBounds_toArray, List.set_cons_zero, List.set_cons_succ]
  refine anyL_take 15 (v := ?_) rfl (by kernel_rfl) (fun _ _ _ h => h) (Or.inl ⟨by rfl, ?_⟩) ht8 ?_
  rotate_left
  focus (intro W hW; go_simp; try with_reducible rfl)
  simp only [Act.put, List.setIfInBounds_toArray, List.set_cons_zero, List.set_cons_succ]
  refine anyC_done (by kernel_rfl) ?_ _
  go_wp2
  go_ret3
  refine ⟨rfl, ?_⟩
  exact boxed_post (hRH.out.drives hD7 ht8 (fun b hb => (hD7.b.block b hb).trans (hRH.out.fam.b.block b hb).symm)) (hkH.out.trans (ht8.kr r))
end
end Go.Proofs.Ytncbkegflkjlfaa
