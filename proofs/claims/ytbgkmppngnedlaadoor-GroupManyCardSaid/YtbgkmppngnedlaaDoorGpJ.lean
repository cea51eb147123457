/- strings.Join: the library's contract, laid at this dump's numbers. -/
import Derived.Test.YtbgkmppngnedlaaDoorGpA
import Derived.Shelf.Strings.OnBuilder
namespace Go.Proofs.YtbgkmppngnedlaaDoor
open Go.RowKit Go.Shelf Rec Crc Num

def joinRen : Go.Shelf.Ren := ⟨fun | 156 => 16 | 165 => 26 | 166 => 27 | 169 => 28 | 240 => 32 | 241 => 33 | 276 => 35 | 277 => 36 | n => n, fun | 31 => 24 | 9 => 9 | 3 => 3 | 4 => 4 | 0 => 0 | 20 => 20 | 72 => 66 | 76 => 70 | 70 => 64 | 37 => 44 | 75 => 69 | 127 => 78 | 164 => 80 | 5 => 5 | 80 => 72 | n => n, fun | n => n⟩
theorem joinLay : Go.Proofs.Lays.n156 Tryd.prog joinRen := {
  mixed := by kernel_rfl
  f156 := Tryd.func16.trans (congrArg some (by kernel_rfl))
  f165 := Tryd.func26.trans (congrArg some (by kernel_rfl))
  f166 := Tryd.func27.trans (congrArg some (by kernel_rfl))
  f169 := Tryd.func28.trans (congrArg some (by kernel_rfl))
  f240 := Tryd.func32.trans (congrArg some (by kernel_rfl))
  f241 := Tryd.func33.trans (congrArg some (by kernel_rfl))
  f276 := Tryd.func35.trans (congrArg some (by kernel_rfl))
  f277 := Tryd.func36.trans (congrArg some (by kernel_rfl))
  t0 := Tryd.underlying0
  a0 := Tryd.isAgg0
  z0 := Tryd.sizeOf0
  v0 := Tryd.zeroValue0
  t3 := Tryd.underlying3
  a3 := Tryd.isAgg3
  z3 := Tryd.sizeOf3
  v3 := Tryd.zeroValue3
  t4 := Tryd.underlying4
  a4 := Tryd.isAgg4
  z4 := Tryd.sizeOf4
  v4 := Tryd.zeroValue4
  t9 := Tryd.underlying9
  a9 := Tryd.isAgg9
  z9 := Tryd.sizeOf9
  v9 := Tryd.zeroValue9
  t20 := Tryd.underlying20
  a20 := Tryd.isAgg20
  z20 := Tryd.sizeOf20
  v20 := Tryd.zeroValue20
  t31 := Tryd.underlying24
  a31 := Tryd.isAgg24
  z31 := Tryd.sizeOf24
  v31 := Tryd.zeroValue24
  t37 := Tryd.underlying44
  a37 := Tryd.isAgg44
  z37 := Tryd.sizeOf44
  v37 := Tryd.zeroValue44
  t70 := Tryd.underlying64
  a70 := Tryd.isAgg64
  z70 := Tryd.sizeOf64
  v70 := Tryd.zeroValue64
  t72 := Tryd.underlying66
  a72 := Tryd.isAgg66
  z72 := Tryd.sizeOf66
  v72 := Tryd.zeroValue66
  t75 := Tryd.underlying69
  a75 := Tryd.isAgg69
  z75 := Tryd.sizeOf69
  v75 := Tryd.zeroValue69
  t76 := Tryd.underlying70
  a76 := Tryd.isAgg70
  z76 := Tryd.sizeOf70
  v76 := Tryd.zeroValue70
  t127 := Tryd.underlying78
  a127 := Tryd.isAgg78
  z127 := Tryd.sizeOf78
  v127 := Tryd.zeroValue78
  t164 := Tryd.underlying80
  a164 := Tryd.isAgg80
  z164 := Tryd.sizeOf80
  v164 := Tryd.zeroValue80 }

theorem joinExtra : Builder.Extra Tryd.prog joinRen := { sizeBuilder := by kernel_rfl, liesBuilder := by kernel_rfl, t5 := Tryd.underlying5, a5 := Tryd.isAgg5, z5 := Tryd.sizeOf5, v5 := Tryd.zeroValue5, infoByte := by kernel_rfl, cellsByte := by kernel_rfl, sizeByte := by kernel_rfl, neB5 := by decide }
theorem join_flat : ∀ ds : List ByteArray, Go.Lib.join (ds.map (·.data.toList)) [] = flat ds
  | [] => rfl
  | d :: ds => by
    rw [List.map_cons, Go.Lib.join_cons]
    unfold Go.Lib.joinTail flat
    simp
    rfl
theorem join_any (w : World) (A : Option Addr) (cap : Nat) (ds : List ByteArray) (hI : stE.In w A ds) (hcap : ds.length ≤ cap) (hl : ds.length ≤ 1000) (hsz : (flat ds).length ≤ 1000000) :
    Calls Tryd.prog 16 #[.slice A ds.length cap, .string ⟨#[]⟩] w fun e w' => e = .returned (.string ⟨(flat ds).toArray⟩) ∧ Below w.heap.size w w' := by
  rcases hI with rfl | ⟨b, off, rfl, hlt, hc⟩
  · exact (Any.strings_Join_none joinLay joinExtra A cap ⟨#[]⟩ w).mono fun e w' ⟨h1, h2⟩ => ⟨h1, by rw [h2]; exact Below.refl _ _⟩
  · have h := Any.strings_Join joinLay joinExtra b off cap ds ⟨#[]⟩ w (fun j x hx => by
      obtain ⟨hj, rfl⟩ := List.getElem?_eq_some_iff.1 hx
      have h1 := hc j hj 0 (by decide)
      rw [show j * stE.k = j from Nat.mul_one j, Nat.add_zero] at h1
      exact h1) hlt (by omega) hcap (by rw [show (⟨#[]⟩ : ByteArray).data.toList = [] from rfl, join_flat]; omega)
    rw [show (⟨#[]⟩ : ByteArray).data.toList = [] from rfl, join_flat] at h
    exact h
end Go.Proofs.YtbgkmppngnedlaaDoor
