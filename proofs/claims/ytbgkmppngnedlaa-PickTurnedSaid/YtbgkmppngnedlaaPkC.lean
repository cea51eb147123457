/- Victim, Empty and Split of pick. -/
import Derived.Test.YtbgkmppngnedlaaPkB
namespace Go.Proofs.Ytbgkmppngnedlaa
open Go.RowKit Go.Shelf

set_option maxRecDepth 100000 in
set_option maxHeartbeats 2000000 in
theorem victim_any (w : World) (A : Option Addr) (cap : Nat) (l : List Pz) (hI : pzE.In w A l) (hl : l.length ≤ 1000) : Calls Try.prog 16 #[.slice A l.length cap] w fun e w' => e = .returned (.int .i64 (vicI (vicK l l.length))) ∧ Below w.heap.size w w' := by
  have hal := (Below.refl w.heap.size w).alloc (Nat.le_refl _) (.cells #[.slice A l.length cap] 24)
  have hIa := hI.below hal
  have hcl := Lib.hid (closed_w (w.alloc (.cells #[.slice A l.length cap] 24)) A cap l hIa hl)
  have hbx : (w.alloc (.cells #[.slice A l.length cap] 24)).cell? ⟨w.heap.size, 0, none⟩ = some (.slice A l.length cap) := by rw [World.cell?_alloc_new]; rfl
  have hmf := Lib.hid (fun W C ccap c hR hI hC h0 hlen hm => minfunc_any W C ccap c w.heap.size A cap l hR hI hC h0 hlen hm)
  rw [vicK_min]
  have hlt : ∀ i ∈ clK Pz.w l l.length, i < l.length := fun i h => clK_lt h
  have hll := clK_len Pz.w l l.length
  unfold ClPost at hcl
  generalize clK Pz.w l l.length = c at hcl hlt hll ⊢
  have hltH := Lib.hid hlt
  have halH := Lib.hid hal
  have hIaH := Lib.hid hIa
  have hbxH := Lib.hid hbx
  clear hal hIa hlt hI hbx
  obtain ⟨n, hn⟩ : ∃ n, l.length = n := ⟨_, rfl⟩
  rw [hn] at hcl hl hll hmf hIaH halH hbxH hltH ⊢
  clear hn
  go_enter Try.func16, Try.ntmps16
  go_wp2_with fail
  (with_reducible refine hcl.out.mono ?_)
  rintro e w1 ⟨C, ccap, rfl, hrow, hb1⟩
  have hB1 := Lib.hid (halH.out.trans (hb1.mono halH.out.size))
  cases c with
  | nil =>
    clear hrow hb1 hcl hmf
    go_wp2_with fail
    go_ret
    exact ⟨rfl, hB1.out⟩
  | cons x t =>
    have hcall := Lib.hid (hmf.out w1 C ccap (x :: t) ((hb1.cell (p := ⟨w.heap.size, 0, none⟩) (by simp)).trans hbxH.out) (hIaH.out.below hb1) hrow.in_ (by simp) (by omega) hltH.out)
    rw [minK_all] at hcall
    obtain ⟨m, hm⟩ : ∃ m, (x :: t).length = m := ⟨_, rfl⟩
    have hm0 : 0 < m := by rw [← hm]; simp
    have hne : ¬ (m : Int) = 0 := by omega
    have hne2 : ((m : Int) == 0) = false := by simp; omega
    rw [hm] at hcall ⊢
    clear hm hrow hb1 hcl hmf
    go_wp2_with fail
    (with_reducible refine hcall.out.mono ?_)
    rintro e w2 ⟨rfl, hb2⟩
    have hB2 := Lib.hid (hB1.out.trans (hb2.mono hB1.out.size))
    clear hb2 hcall
    go_wp2_with fail
    go_ret
    exact ⟨rfl, hB2.out⟩
set_option maxRecDepth 100000 in
set_option maxHeartbeats 2000000 in
theorem empty_any20 (w : World) (A : Option Addr) (cap : Nat) (l : List Pz) (hI : pzE.In w A l) (hl : l.length ≤ 1000) : Calls Try.prog 14 #[.slice A l.length cap] w fun e w' => e = .returned (.tuple #[.int .i64 (headI (clK Pz.e l l.length)), .int .i64 ((clK Pz.e l l.length).length : Int)]) ∧ Below w.heap.size w w' := by
  have hcl := Lib.hid (closed_e w A cap l hI hl)
  unfold ClPost at hcl
  generalize clK Pz.e l l.length = c at hcl ⊢
  clear hI
  go_enter Try.func14, Try.ntmps14
  go_wp2_with fail
  (with_reducible refine hcl.out.mono ?_)
  rintro e w1 ⟨C, ccap, rfl, hrow, hb1⟩
  have hB1 := Lib.hid hb1
  cases c with
  | nil =>
    clear hrow hb1 hcl
    go_wp2_with fail
    refine bodyPost_ret (v := .tuple #[.int .i64 (-1), .int .i64 0]) (by simp [results, Try.results14, go_sem]) rfl ⟨rfl, hB1.out⟩
  | cons x t =>
    obtain ⟨cb, co, rfl, -, e0⟩ := ix_at hrow.in_ (show 0 < (x :: t).length by simp)
    rw [Nat.add_zero, List.getElem_cons_zero] at e0
    obtain ⟨m, hm⟩ : ∃ m, (x :: t).length = m := ⟨_, rfl⟩
    have hm0 : 0 < m := by rw [← hm]; simp
    have hne : ¬ (m : Int) = 0 := by omega
    have hne2 : ((m : Int) == 0) = false := by simp; omega
    have hpos : (0 : Int) < (m : Int) := by omega
    have hmH := Lib.hid hm
    clear hm
    rw [hmH.out]
    clear hrow hb1 hcl
    go_wp2_with fail
    refine bodyPost_ret (v := .tuple #[.int .i64 (x : Int), .int .i64 (m : Int)]) (by simp [results, Try.results14, go_sem]) rfl ⟨by rw [hmH.out]; rfl, hB1.out⟩
/-- A list of sizes is a row. -/
def izE : Enc Int := ⟨fun i => [.int .i64 i], 1, fun _ => rfl, fun x u hu => by
  simp only [List.mem_cons, List.not_mem_nil, or_false] at hu
  rcases hu with rfl
  rfl⟩
def splI (a : Int) : List Int := if 1 ≤ a ∧ a ≤ 1048576 then spl a.toNat else []
def SpPost (w : World) (a : Int) (e : Ending) (w' : World) : Prop := ∃ A cap, e = .returned (.slice A (splI a).length cap) ∧ izE.Row w' w.heap.size 3 A cap (splI a) ∧ Below w.heap.size w w'
theorem infIz : Enc.Inf Try.prog 3 1 8 := by unfold Enc.Inf; kernel_rfl
theorem spl_end {N k : Nat} (h1 : 6 * k < N) (h2 : N ≤ 6 * k + 6) : spl N = List.replicate k 6 ++ [((N - 6 * k : Nat) : Int)] := by
  unfold spl
  rw [show (N - 1) / 6 = k by omega, Nat.mul_comm k 6]
set_option maxRecDepth 100000 in
set_option maxHeartbeats 2000000 in
theorem split_any (w : World) (a : Int) : Calls Try.prog 19 #[.int .i64 a] w (SpPost w a) := by
  have hbt := Lib.hid (fun W => pbetween_any a 1 1048576 W)
  unfold SpPost
  by_cases ha : 1 ≤ a ∧ a ≤ 1048576
  case neg =>
    have e : splI a = [] := if_neg ha
    rw [e]
    rw [decide_eq_false ha] at hbt
    clear e ha
    go_enter Try.func19, Try.ntmps19
    go_wp2_with fail
    (with_reducible refine (hbt.out _).mono ?_)
    rintro e w1 ⟨rfl, rfl⟩
    go_wp2_with fail
    go_ret
    exact ⟨none, 0, rfl, Enc.Row.nil _ _ _, Below.refl _ _⟩
  case pos =>
    have e : splI a = spl a.toNat := if_pos ha
    rw [e]
    rw [decide_eq_true ha] at hbt
    obtain ⟨N, rfl⟩ : ∃ N : Nat, a = (N : Int) := ⟨a.toNat, by omega⟩
    rw [Int.toNat_natCast]
    have hN1 : 1 ≤ N := by omega
    have hNm : N ≤ 1048576 := by omega
    have hR0 : Hid (izE.Row w w.heap.size 3 none 0 (List.replicate 0 6)) := Lib.hid (Enc.Row.nil _ _ _)
    have hB0 := Lib.hid (Below.refl w.heap.size w)
    clear e ha
    go_enter Try.func19, Try.ntmps19
    go_wp2_with fail
    (with_reducible refine (hbt.out _).mono ?_)
    rintro e w1 ⟨rfl, rfl⟩
    clear hbt
    go_wp2_with fail
    go_loopw [0, 3] (fun nv sv wr => ∃ (k m : Nat) (A2 : Option Addr) (c2 : Nat), Hid (6 * k < N) ∧ Hid (m + 6 * k = N) ∧ nv = .int .i64 (m : Int) ∧ sv = .slice A2 k c2 ∧ Hid (izE.Row wr w.heap.size 3 A2 c2 (List.replicate k 6)) ∧ Hid (Below w.heap.size w wr)) (fun nv _ _ => (intOf nv).toNat)
    case atStart => exact ⟨0, N, none, 0, Lib.hid (by omega), Lib.hid (by omega), rfl, rfl, hR0, hB0⟩
    case round =>
      clear hR0 hB0
      obtain ⟨k, m, A2, c2, hk, hmk, rfl, rfl, hR, hB⟩ := hrel
      have hkk := hk.out
      have hmm := hmk.out
      by_cases hlt : 6 < m
      case pos =>
        have hltI : (6 : Int) < (m : Int) := by omega
        have hmw : IntKind.i64.wrap ((m : Int) - 6) = ((m - 6 : Nat) : Int) := by rw [show (m : Int) - 6 = ((m - 6 : Nat) : Int) by omega]; exact IntWalk.i64_in _ (by omega)
        have hal6 := (Below.refl wr.heap.size wr).alloc (Nat.le_refl _) (.cells #[.int .i64 6] 3)
        have hR6 := hR.out.below hal6
        obtain ⟨A', cap', W7, hrun, hrow, hgr, hor⟩ := hR6.append (P := Try.prog) Try.underlying37 infIz (by decide) (by decide) (m := wr.heap.size) (x := 6) (fun j hj => by
          rw [World.cell?_alloc_new]
          have h1 : j < 1 := hj
          obtain rfl : j = 0 := by omega
          rfl) (by rw [List.length_replicate]; omega) (by have := hB.out.size; simp; omega) 37
        rw [List.length_replicate] at hrun
        have hB7 := Lib.hid (show Below w.heap.size w W7 from (hB.out.alloc hB.out.size _).trans (hR6.grown hgr (by have := hB.out.size; simp; omega)))
        have hrunH := Lib.hid hrun
        rw [show List.replicate k (6 : Int) ++ [6] = List.replicate (k + 1) 6 from List.replicate_succ'.symm] at hrow
        have hrowH := Lib.hid hrow
        have n1 := Lib.hid (show 6 * (k + 1) < N by omega)
        have n2 := Lib.hid (show m - 6 + 6 * (k + 1) = N by omega)
        have n3 := Lib.hid (show m - 6 < m by omega)
        clear hrun hrow hgr hor hR6 hal6 hB hR hk hmk hkk hmm hlt hN1 hNm
        generalize m - 6 = m6 at hmw n2 n3
        go_wp2_with (at_builtin; refine append_run_wp rfl _ _ _ rfl rfl rfl hrunH.out ?_; clear hrunH)
        go_roundw
        case rel => exact ⟨k + 1, m6, A', cap', n1, n2, by go_num, by go_num, hrowH, hB7⟩
        case measure => simp only [intOf]; have := n3.out; omega
      case neg =>
        have hltI : ¬ (6 : Int) < (m : Int) := by omega
        have hal6 := (Below.refl wr.heap.size wr).alloc (Nat.le_refl _) (.cells #[.int .i64 (m : Int)] 3)
        have hR6 := hR.out.below hal6
        obtain ⟨A', cap', W7, hrun, hrow, hgr, hor⟩ := hR6.append (P := Try.prog) Try.underlying37 infIz (by decide) (by decide) (m := wr.heap.size) (x := (m : Int)) (fun j hj => by
          rw [World.cell?_alloc_new]
          have h1 : j < 1 := hj
          obtain rfl : j = 0 := by omega
          rfl) (by rw [List.length_replicate]; omega) (by have := hB.out.size; simp; omega) 37
        rw [List.length_replicate] at hrun
        have hB7 := Lib.hid (show Below w.heap.size w W7 from (hB.out.alloc hB.out.size _).trans (hR6.grown hgr (by have := hB.out.size; simp; omega)))
        have hrunH := Lib.hid hrun
        rw [show List.replicate k (6 : Int) ++ [(m : Int)] = spl N by rw [spl_end hkk (by omega), show N - 6 * k = m by omega]] at hrow
        have hsl : Hid ((spl N).length = k + 1) := Lib.hid (by rw [spl_end hkk (by omega), List.length_append, List.length_replicate]; rfl)
        have hrowH := Lib.hid hrow
        clear hrun hrow hgr hor hR6 hal6 hB hR hk hmk hkk hmm hlt hN1 hNm
        go_wp2_with (at_builtin; refine append_run_wp rfl _ _ _ rfl rfl rfl hrunH.out ?_; clear hrunH)
        go_ret
        exact ⟨A', cap', by rw [hsl.out]; rfl, hrowH.out, hB7.out⟩
end Go.Proofs.Ytbgkmppngnedlaa
