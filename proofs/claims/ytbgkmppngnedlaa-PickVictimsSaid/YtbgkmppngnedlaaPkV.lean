/- PickVictims: the walk. -/
import Derived.Test.YtbgkmppngnedlaaPkZ
import Derived.Test.YtbgkmppngnedlaaPkE
namespace Go.Proofs.Ytbgkmppngnedlaa
open Go.RowKit Go.Shelf

set_option maxRecDepth 100000 in
set_option maxHeartbeats 4000000 in
theorem victims_law (w : World) (A : Option Addr) (cap : Nat) (l : List Pz) (hI : pzE.In w A l) (hlen : l.length ≤ 9223372036854775807) :
    Calls Try.prog 3 #[.slice A l.length cap] w fun e w' => e = .returned (.bool true) ∧ Below w.heap.size w w' := by
  have hsp := Lib.hid (speaks20 w)
  have hz := Lib.hid (fun W (hb : Below w.heap.size w W) => zones_any W A cap l (hI.below hb) hlen)
  unfold ZoPost at hz
  clear hI
  go_enter Try.func3, Try.ntmps3
  go_wp2_with fail
  (with_reducible refine hsp.out.mono ?_)
  rintro e w1 ⟨rfl, hb1⟩
  have hz1 := Lib.hid (hz.out w1 hb1)
  have hB1 := Lib.hid hb1
  clear hsp hz hb1
  go_wp2_with fail
  (with_reducible refine hz1.out.mono ?_)
  rintro e w2 ⟨X, Y, rfl, hX, hY, hR, hb2⟩
  have hB2 := Lib.hid (hB1.out.trans (hb2.mono hB1.out.size))
  have hXl : X.xs.length ≤ 1000 := by rw [hX, List.length_take]; omega
  have hYX : Y.xs = X.xs := by rw [hX, hY]
  have hl2 := Lib.hid hXl
  have hem := Lib.hid (fun W (hb : Below w2.heap.size w2 W) => empty_any20 W X.A X.c X.xs (hR.rX.in_.below hb) hXl)
  have hvi := Lib.hid (fun W (hb : Below w2.heap.size w2 W) => victim_any W X.A X.c X.xs (hR.rX.in_.below hb) hXl)
  have hre := Lib.hid (fun W (hb : Below w2.heap.size w2 W) => rempty_any W Y.A Y.c X.xs (hYX ▸ hR.rY.in_.below hb) hXl)
  have hrv := Lib.hid (fun W (hb : Below w2.heap.size w2 W) => rvictim_any W Y.A Y.c X.xs (hYX ▸ hR.rY.in_.below hb) hXl)
  rw [hYX]
  clear hz1 hB1 hb2 hX hY hR hXl hYX
  generalize headI (clK Pz.e X.xs X.xs.length) = f at hem hre
  generalize ((clK Pz.e X.xs X.xs.length).length : Int) = m at hem hre
  generalize vicI (vicK X.xs X.xs.length) = v at hvi hrv
  generalize X.xs.length = xl at *
  generalize X.A = XA at *
  generalize X.c = Xc at *
  generalize Y.A = YA at *
  generalize Y.c = Yc at *
  clear hl2
  go_wp2_with fail
  (with_reducible refine (hem.out _ (Below.refl _ _)).mono ?_)
  rintro e w3 ⟨rfl, hb3⟩
  have h3 := Lib.hid hb3
  clear hb3
  go_wp2_with fail
  (with_reducible refine (hre.out _ h3.out).mono ?_)
  rintro e w4 ⟨rfl, rfl⟩
  go_wp2_with fail
  (with_reducible refine (hvi.out _ h3.out).mono ?_)
  rintro e w4 ⟨rfl, hb4⟩
  have h4 := Lib.hid (h3.out.trans (hb4.mono h3.out.size))
  clear hb4
  go_wp2_with fail
  (with_reducible refine (hrv.out _ h4.out).mono ?_)
  rintro e w5 ⟨rfl, hb5⟩
  have h5 := Lib.hid (hB2.out.trans ((h4.out.trans (hb5.mono h4.out.size)).mono hB2.out.size))
  clear hb5
  have q1 : (v == v) = true := by simp
  have q2 : (f == f) = true := by simp
  have q3 : (m == m) = true := by simp
  go_wp2_with fail
  go_ret
  exact ⟨rfl, h5.out⟩
end Go.Proofs.Ytbgkmppngnedlaa
