/- strings.Join: the library's contract, laid at this dump's numbers. -/
import Derived.Test.YtchipfpnikkbeaaDoorGpA
import Derived.Shelf.Strings.OnBuilder
namespace Go.Proofs.YtchipfpnikkbeaaDoor
open Go.RowKit Go.Shelf Rec Crc Num

def joinRen : Go.Shelf.Ren := ⟨fun | 156 => 17 | 165 => 27 | 166 => 28 | 169 => 29 | 240 => 33 | 241 => 34 | 276 => 36 | 277 => 37 | n => n, fun | 31 => 24 | 9 => 9 | 3 => 3 | 4 => 4 | 0 => 0 | 20 => 20 | 72 => 68 | 76 => 72 | 70 => 66 | 37 => 44 | 75 => 71 | 127 => 80 | 164 => 82 | 5 => 5 | 80 => 74 | n => n, fun | n => n⟩
theorem joinLay : Go.Proofs.Lays.n156 Tryd.prog joinRen := {
  mixed := by kernel_rfl
  f156 := Tryd.func17.trans (congrArg some (by kernel_rfl))
  f165 := Tryd.func27.trans (congrArg some (by kernel_rfl))
  f166 := Tryd.func28.trans (congrArg some (by kernel_rfl))
  f169 := Tryd.func29.trans (congrArg some (by kernel_rfl))
  f240 := Tryd.func33.trans (congrArg some (by kernel_rfl))
  f241 := Tryd.func34.trans (congrArg some (by kernel_rfl))
  f276 := Tryd.func36.trans (congrArg some (by kernel_rfl))
  f277 := Tryd.func37.trans (congrArg some (by kernel_rfl))
  t0 := Tryd.underlying0
  a0 := Tryd.isAgg0
  z0 := Tryd.sizeOf0
  v0 := Tryd.zeroValue0
  t3 := Tryd.underlying3
  a3 := Tryd.isAgg3
  z3 := Tryd.sizeOf3
  v3 := Tryd.zeroValue3
  t4 := Tryd.underlying4
  a4 := Tryd.isAgg4
  z4 := Tryd.sizeOf4
  v4 := Tryd.zeroValue4
  t9 := Tryd.underlying9
  a9 := Tryd.isAgg9
  z9 := Tryd.sizeOf9
  v9 := Tryd.zeroValue9
  t20 := Tryd.underlying20
  a20 := Tryd.isAgg20
  z20 := Tryd.sizeOf20
  v20 := Tryd.zeroValue20
  t31 := Tryd.underlying24
  a31 := Tryd.isAgg24
  z31 := Tryd.sizeOf24
  v31 := Tryd.zeroValue24
  t37 := Tryd.underlying44
  a37 := Tryd.isAgg44
  z37 := Tryd.sizeOf44
  v37 := Tryd.zeroValue44
  t70 := Tryd.underlying66
  a70 := Tryd.isAgg66
  z70 := Tryd.sizeOf66
  v70 := Tryd.zeroValue66
  t72 := Tryd.underlying68
  a72 := Tryd.isAgg68
  z72 := Tryd.sizeOf68
  v72 := Tryd.zeroValue68
  t75 := Tryd.underlying71
  a75 := Tryd.isAgg71
  z75 := Tryd.sizeOf71
  v75 := Tryd.zeroValue71
  t76 := Tryd.underlying72
  a76 := Tryd.isAgg72
  z76 := Tryd.sizeOf72
  v76 := Tryd.zeroValue72
  t127 := Tryd.underlying80
  a127 := Tryd.isAgg80
  z127 := Tryd.sizeOf80
  v127 := Tryd.zeroValue80
  t164 := Tryd.underlying82
  a164 := Tryd.isAgg82
  z164 := Tryd.sizeOf82
  v164 := Tryd.zeroValue82 }

theorem joinExtra : Builder.Extra Tryd.prog joinRen := { sizeBuilder := by kernel_rfl, liesBuilder := by kernel_rfl, t5 := Tryd.underlying5, a5 := Tryd.isAgg5, z5 := Tryd.sizeOf5, v5 := Tryd.zeroValue5, infoByte := by kernel_rfl, cellsByte := by kernel_rfl, sizeByte := by kernel_rfl, neB5 := by decide }
theorem join_flat : ∀ ds : List ByteArray, Go.Lib.join (ds.map (·.data.toList)) [] = flat ds
  | [] => rfl
  | d :: ds => by
    rw [List.map_cons, Go.Lib.join_cons]
    unfold Go.Lib.joinTail flat
    simp
    rfl
theorem join_any (w : World) (A : Option Addr) (cap : Nat) (ds : List ByteArray) (hI : stE.In w A ds) (hcap : ds.length ≤ cap) (hl : ds.length ≤ 1000) (hsz : (flat ds).length ≤ 1000000) :
    Calls Tryd.prog 17 #[.slice A ds.length cap, .string ⟨#[]⟩] w fun e w' => e = .returned (.string ⟨(flat ds).toArray⟩) ∧ Below w.heap.size w w' := by
  rcases hI with rfl | ⟨b, off, rfl, hlt, hc⟩
  · exact (Any.strings_Join_none joinLay joinExtra A cap ⟨#[]⟩ w).mono fun e w' ⟨h1, h2⟩ => ⟨h1, by rw [h2]; exact Below.refl _ _⟩
  · have h := Any.strings_Join joinLay joinExtra b off cap ds ⟨#[]⟩ w (fun j x hx => by
      obtain ⟨hj, rfl⟩ := List.getElem?_eq_some_iff.1 hx
      have h1 := hc j hj 0 (by decide)
      rw [show j * stE.k = j from Nat.mul_one j, Nat.add_zero] at h1
      exact h1) hlt (by omega) hcap (by rw [show (⟨#[]⟩ : ByteArray).data.toList = [] from rfl, join_flat]; omega)
    rw [show (⟨#[]⟩ : ByteArray).data.toList = [] from rfl, join_flat] at h
    exact h
end Go.Proofs.YtchipfpnikkbeaaDoor
