/- What the law DriveNil does. -/
import Derived.Test.YtncbkegflkjlfaaDrvSpk
import Derived.Test.YtncbkegflkjlfaaZonEq
namespace Go.Proofs.Ytncbkegflkjlfaa
open Go.RowKit Zon Drv

theorem fresh_world_C {P : Program} {f : FuncId} {args : Array Value} {W : World} {Q : Ending → World → Prop} (R : World → Prop) (hR : R W) (h : ∀ W2, R W2 → Calls P f args W2 Q) : Calls P f args W Q := h W hR
theorem doD_dead {D : Dr} (h : D.dead = true) (k zz a n : Int) (data : List UInt8) : doD D k zz a n data = (([], 0, 7), D) := if_pos h
set_option maxRecDepth 100000 in
set_option maxHeartbeats 2000000 in
theorem drvnil_law (k z : Int) (w : World) :
    Calls Try.prog 5 #[.int .i64 k, .int .i64 z] w fun e w' => e = .returned (.bool true) ∧ Below w.heap.size w w' := by
  have heq := fun W => (zone_eql W 0 0 0 0).1
  simp only [beq_self_eq_true, Bool.and_self] at heq
  have ok0 : (newD 2 4 1 1).Ok := newD_ok (by decide)
  have ok1 : ({ newD 2 4 1 1 with dead := true } : Dr).Ok := ⟨ok0.m, ok0.cl, ok0.ll, ok0.cz, ok0.lz⟩
  have hd := Lib.hid (fun w0 W d (h : Own w0 W d (newD 2 4 1 1)) => own_die W d _ h)
  have ho := Lib.hid (fun w0 W d (h : Own w0 W d ({ newD 2 4 1 1 with dead := true } : Dr)) => by have := own_do W d _ k z 0 1 ByteArray.empty h ok1 (by decide) (by decide); rw [doD_dead rfl] at this; exact this)
  have hf := Lib.hid (fun w0 W d (h : Own w0 W d ({ newD 2 4 1 1 with dead := true } : Dr)) => by have := own_flush W d _ h ok1; rw [if_pos rfl, show flushD ({ newD 2 4 1 1 with dead := true } : Dr) = { newD 2 4 1 1 with dead := true } from rfl] at this; exact this)
  have hq := Lib.hid (fun w0 W d (h : Own w0 W d ({ newD 2 4 1 1 with dead := true } : Dr)) => own_dead W d _ h)
  clear ok0 ok1
  obtain ⟨D9, hD9⟩ : ∃ x, x = ({ newD 2 4 1 1 with dead := true } : Dr) := ⟨_, rfl⟩
  rw [← hD9] at hd ho hf hq
  have hdead : D9.dead = true := by rw [hD9]
  clear hD9
  go_enter Try.func5, Try.ntmps5
  go_wp2_with fail
  refine (speaks7 _).mono ?_
  rintro e w1 ⟨rfl, hB1⟩
  go_wp2_with fail
  refine (ddo_nil _ k z 0 0 ByteArray.empty).mono ?_
  rintro e w2 ⟨rfl, hb2⟩
  have hB2 := hB1.trans (hb2.mono hB1.size)
  clear hB1 hb2
  go_wp2_with fail
  refine (dzone_nil _ z).mono ?_
  rintro e w3 ⟨rfl, hb3⟩
  have hB3 := hB2.trans (hb3.mono hB2.size)
  clear hB2 hb3
  go_wp2_with fail
  refine (dlose_nil _ _ _ _).mono ?_
  rintro e w4 ⟨rfl, rfl⟩
  go_wp2_with fail
  refine (die_nil _).mono ?_
  rintro e w5 ⟨rfl, rfl⟩
  go_wp2_with fail
  refine fresh_world_C (fun W => Below w.heap.size w W ∧ Zn2 W w3.heap.size 0 0) ⟨(hB3.alloc hB3.size _).alloc (Nat.le_trans hB3.size (by simp)) _, by constructor <;> go_simp⟩ ?_
  rintro W4 ⟨hB4, x0, x1⟩
  clear hB3
  have hx : ∀ W, Below W4.heap.size W4 W → Zn2 W w3.heap.size 0 0 := fun W hb => ⟨(hb.cell (p := ⟨w3.heap.size, 0, none⟩) (lt_of_cell x0)).trans x0, (hb.cell (p := ⟨w3.heap.size, 1, none⟩) (lt_of_cell x0)).trans x1⟩
  have hxH := Lib.hid hx
  clear hx x0 x1
  refine (own_new W4 2 4 1 1 (Below.refl _ _) (by decide)).mono ?_
  rintro e w5 ⟨d, rfl, hD5, _⟩
  go_wp2_with fail
  refine (hd.out W4 _ d hD5).mono ?_
  rintro e w6 ⟨rfl, hD6⟩
  clear hD5 hd
  go_wp2_with fail
  refine (ho.out W4 _ d hD6).mono ?_
  rintro e w7 ⟨rfl, hD7⟩
  clear hD6 ho
  obtain ⟨x0, x1⟩ := hxH.out _ hD7.b
  have hfd := Lib.hid (hf.out W4 w7 d hD7)
  clear hD7
  go_wp2_with fail
  refine (dflush_nil _).mono ?_
  rintro e w8 ⟨rfl, rfl⟩
  go_wp2_with fail
  refine (lasts_nil _ z).mono ?_
  rintro e w8 ⟨rfl, rfl⟩
  go_wp2_with fail
  refine (ddead_nil _).mono ?_
  rintro e w8 ⟨rfl, rfl⟩
  go_wp2_with fail
  refine hfd.out.mono ?_
  rintro e w8 ⟨rfl, hD8⟩
  have hB8 := hB4.trans (hD8.b.mono hB4.size)
  go_wp2_with fail
  refine (hq.out W4 _ d hD8).mono ?_
  rintro e w9 ⟨rfl, rfl⟩
  rw [hdead]
  go_wp2_with fail
  go_ret
  exact ⟨rfl, hB8⟩
end Go.Proofs.Ytncbkegflkjlfaa
