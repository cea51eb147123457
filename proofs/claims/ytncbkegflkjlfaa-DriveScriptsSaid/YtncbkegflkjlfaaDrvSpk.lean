/- Two blocks that last: what drive's law asks first. -/
import Derived.Test.YtncbkegflkjlfaaDrvOwn
namespace Go.Proofs.Ytncbkegflkjlfaa
open Go.RowKit Zon Drv

theorem fresh_world_C {P : Program} {f : FuncId} {args : Array Value} {W : World} {Q : Ending → World → Prop} (R : World → Prop) (hR : R W) (h : ∀ W2, R W2 → Calls P f args W2 Q) : Calls P f args W Q := h W hR
/-- So many noughts. -/
def zeroB (n : Nat) : ByteArray := ⟨(List.replicate n (0 : UInt8)).toArray⟩
theorem zeroB_size (n : Nat) : (zeroB n).size = n := by
  show (List.replicate n (0 : UInt8)).toArray.size = n
  simp
theorem zeroB_list (n : Nat) : (zeroB n).data.toList = List.replicate n 0 := by simp [zeroB]
theorem zeros_at (W : World) (n : Nat) : BytesAt (W.alloc (.cells (madeCells #[.int .u8 0] n) 5)) W.heap.size (List.replicate n 0) := fun j hj => by
  have hj' : j < n := by simpa using hj
  rw [made_noughts W 5 _ n j hj', List.getElem_replicate]
  rfl
theorem zeros_text (W : World) (n : Nat) : (convert 68 9 (.slice (some ⟨W.heap.size, 0, none⟩) n n)).run Try.prog (W.alloc (.cells (madeCells #[.int .u8 0] n) 5)) = .ok (.string (zeroB n)) (W.alloc (.cells (madeCells #[.int .u8 0] n) 5)) :=
  back (zeros_at W n) (List.length_replicate ..) Try.underlying68 Try.underlying5 Try.underlying9

/-- The state of speaks' drive. -/
def spk (s l : Int) (c : List UInt8) (n : Nat) : Dr := ⟨⟨[⟨s, l⟩], 4, 1, 1⟩, [c], [n], false⟩
theorem spk_new : newD 1 4 1 1 = spk 0 0 [] 0 := rfl
theorem spk_1 (x : List UInt8) (hx : x.length = 128) : doD (spk 0 0 [] 0) 2 0 0 2 x = (([], 0, 0), spk 1 2 x 0) := by
  unfold doD
  rw [if_neg (show ¬ (spk 0 0 [] 0).dead = true by decide), if_pos (show fits 2 2 x.length = true by rw [hx]; decide)]
  unfold exec
  rw [if_pos (show (doM (spk 0 0 [] 0).m 2 0 0 2).2.1 = 0 by decide)]
  rfl
theorem spk_2 (x : List UInt8) (hx : x.length = 128) : flushD (spk 1 2 x 0) = spk 1 2 x 2 := by
  show Dr.mk _ _ [x.length / 64] _ = _
  rw [hx]
  rfl
theorem spk_3 (x y : List UInt8) (hy : y.length = 64) : doD (spk 1 2 x 2) 2 0 0 1 y = (([], 2, 0), spk 1 3 (x ++ y) 2) := by
  unfold doD
  rw [if_neg (show ¬ (spk 1 2 x 2).dead = true by simp [spk]), if_pos (show fits 2 1 y.length = true by rw [hy]; decide)]
  unfold exec
  rw [if_pos (show (doM (spk 1 2 x 2).m 2 0 0 1).2.1 = 0 from (by decide : (doM (spk 1 2 [] 2).m 2 0 0 1).2.1 = 0))]
  rfl
theorem spk_4 (x y : List UInt8) (hx : x.length = 128) (hy : y.length = 64) : loseD (spk 1 3 (x ++ y) 2) [0] = spk 3 2 x 2 := by
  have hr : rem (spk 1 3 (x ++ y) 2) [0] 0 = 2 := by
    show 2 + kept [0] 0 ((x ++ y).length / 64 - 2) = 2
    rw [List.length_append, hx, hy]
    decide
  show Dr.mk (Mc.with _ (lost _ [((rem (spk 1 3 (x ++ y) 2) [0] 0 : Nat) : Int)])) [(x ++ y).take (64 * rem (spk 1 3 (x ++ y) 2) [0] 0)] [rem (spk 1 3 (x ++ y) 2) [0] 0] false = _
  rw [hr, show 64 * 2 = x.length by rw [hx], List.take_left]
  rfl
theorem spk_5 (x : List UInt8) (hx : x.length = 128) : doD (spk 3 2 x 2) 7 0 0 2 [] = ((x, 0, 0), spk 3 2 x 2) := by
  unfold doD
  rw [if_neg (show ¬ (spk 3 2 x 2).dead = true by simp [spk]), if_pos (show fits 7 2 ([] : List UInt8).length = true by decide)]
  unfold exec
  rw [if_pos (show (doM (spk 3 2 x 2).m 7 0 0 2).2.1 = 0 from (by decide : (doM (spk 3 2 [] 2).m 7 0 0 2).2.1 = 0))]
  show ((x.take 128, _, _), _) = _
  rw [← hx, List.take_length]
  rfl

set_option maxRecDepth 100000 in
set_option maxHeartbeats 2000000 in
theorem speaks7 (w : World) : Calls Try.prog 12 #[] w fun e w' => e = .returned (.bool true) ∧ Below w.heap.size w w' := by
  obtain ⟨i0, hi, hz0, hz1, hz2⟩ := info_parts infoU8
  have hmk0 := fun W => run_make_m (P := Try.prog) 68 5 i0 (.int .u8 0) Try.underlying68 hi hz0 .i64 .i64 128 128 (Nat.le_refl _) (by rw [hz2]; omega) (by omega) W
  rw [hz1] at hmk0
  have hmk : ∀ W : World, (Instr.makeSlice 68 (.int .i64 128) (.int .i64 128)).run Try.prog W = .ok (.slice (some ⟨W.heap.size, 0, none⟩) 128 128) (W.alloc (.cells (madeCells #[.int .u8 0] 128) 5)) := hmk0
  clear hi hz0 hz1 hz2 hmk0
  have hcb := fun W => zeros_text W 128
  have hXs : (zeroB 128).size = 128 := zeroB_size 128
  have hXl : (zeroB 128).data.toList.length = 128 := hXs
  generalize zeroB 128 = X at hcb hXs hXl
  have hY : (X.extract 0 64).size = 64 := by rw [ByteArray.size_extract, hXs]; rfl
  have hYl : (X.extract 0 64).data.toList.length = 64 := hY
  have hBr := Below.refl w.heap.size w
  have hnew := Lib.hid (own_new w 1 4 1 1 hBr (by decide))
  rw [spk_new] at hnew
  have ok0 : (spk 0 0 [] 0).Ok := newD_ok (show newOk 1 4 1 1 = true by decide)
  have ok1 : (spk 1 2 X.data.toList 0).Ok := by have := doD_ok ok0 2 0 0 2 X.data.toList; rw [spk_1 _ hXl] at this; exact this
  have ok2 : (spk 1 2 X.data.toList 2).Ok := by have := flushD_ok ok1; rw [spk_2 _ hXl] at this; exact this
  have ok3 : (spk 1 3 (X.data.toList ++ (X.extract 0 64).data.toList) 2).Ok := by have := doD_ok ok2 2 0 0 1 (X.extract 0 64).data.toList; rw [spk_3 _ _ hYl] at this; exact this
  have ok4 : (spk 3 2 X.data.toList 2).Ok := by have := loseD_ok ok3 [0]; rw [spk_4 _ _ hXl hYl] at this; exact this
  have h1 := Lib.hid (fun W d (h : Own w W d (spk 0 0 [] 0)) => by have := own_do W d _ 2 0 0 2 X h ok0 (by decide) (by omega); rw [spk_1 _ hXl] at this; exact this)
  have h2 := Lib.hid (fun W d (h : Own w W d (spk 1 2 X.data.toList 0)) => by have := own_flush W d _ h ok1; rw [spk_2 _ hXl] at this; exact this)
  have h3 := Lib.hid (fun W d (h : Own w W d (spk 1 2 X.data.toList 2)) => by have := own_do W d _ 2 0 0 1 (X.extract 0 64) h ok2 (by decide) (by omega); rw [spk_3 _ _ hYl] at this; exact this)
  have h4 := Lib.hid (fun W1 W d A (h : Own w W1 d (spk 1 3 (X.data.toList ++ (X.extract 0 64).data.toList) 2)) hb hI hA => by have := own_lose W1 W d _ A 1 [0] h hb ok3 hI hA (by simp) (by simp [maxLen]); rw [spk_4 _ _ hXl hYl] at this; exact this)
  have h5 := Lib.hid (fun W d (h : Own w W d (spk 3 2 X.data.toList 2)) => by have := own_do W d _ 7 0 0 2 ByteArray.empty h ok4 (by decide) (by decide); rw [show ByteArray.empty.data.toList = [] from rfl, spk_5 _ hXl] at this; exact this)
  have h6 := Lib.hid (fun W d (h : Own w W d (spk 3 2 X.data.toList 2)) => own_zone W d _ 0 h)
  rw [show (getM (spk 3 2 X.data.toList 2).m 0).s = 3 from rfl, show (getM (spk 3 2 X.data.toList 2).m 0).l = 2 from rfl, show hasB (spk 3 2 X.data.toList 2).m 0 = true from rfl] at h6
  clear ok0 ok1 ok2 ok3 ok4 hXl hYl
  go_enter Try.func12, Try.ntmps12
  go_wp2_with fail
  refine hnew.out.mono ?_
  rintro e w1 ⟨d, rfl, hD1, _⟩
  go_wp2_with fail
  refine (h1.out _ d (hD1.below ((Below.refl _ _).alloc (Nat.le_refl _) _))).mono ?_
  rintro e w2 ⟨rfl, hD2⟩
  clear hD1 hmk hcb h1 hnew
  go_wp2_with fail
  refine (h2.out _ d hD2).mono ?_
  rintro e w3 ⟨rfl, hD3⟩
  clear hD2 h2
  go_wp2_with fail
  refine (h3.out _ d hD3).mono ?_
  rintro e w4 ⟨rfl, hD4⟩
  clear hD3 h3
  go_wp2_with fail
  have hI : IntsIn (w4.alloc (.cells #[.int .i64 0] 3)) (some ⟨w4.heap.size, 0, none⟩) [0] := .inr ⟨w4.heap.size, 0, rfl, by simp, fun i hi => by
    have : i = 0 := by simpa using hi
    subst this
    go_simp⟩
  refine (h4.out w4 _ d _ hD4 ((Below.refl _ _).alloc (Nat.le_refl _) _) hI (fun _ b off e => by injection e with e; injection e with e; right; omega)).mono ?_
  rintro e w5 ⟨rfl, hD5⟩
  clear hD4 h4 hI
  go_wp2_with fail
  refine (h5.out _ d hD5).mono ?_
  rintro e w6 ⟨rfl, hD6⟩
  clear hD5 h5
  go_wp2_with fail
  refine (h6.out _ d hD6).mono ?_
  rintro e w7 ⟨rfl, hb7⟩
  have hB7 := (hD6.below hb7).b
  clear hD6 h6 hb7
  go_wp2_with fail
  go_ret
  exact ⟨rfl, hB7.alloc (by have := hB7.size; omega) _⟩
end Go.Proofs.Ytncbkegflkjlfaa
