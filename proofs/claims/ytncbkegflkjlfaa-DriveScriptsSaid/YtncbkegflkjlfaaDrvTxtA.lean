/- The bytes of any act. -/
import Derived.Test.YtncbkegflkjlfaaDrvText
namespace Go.Proofs.Ytncbkegflkjlfaa
open Go.RowKit Zon Drv

set_option maxRecDepth 100000 in
set_option maxHeartbeats 1000000 in
theorem text_one (p q r s t u i : Int) (v : Value) (w : World) (hp : p = 1) (hs : 0 < s) (hs2 : s < 40) :
    Calls Try.prog 20 #[.agg #[.int .i64 p, .int .i64 q, .int .i64 r, .int .i64 s, .int .i64 t, .int .u8 u, v], .int .i64 i] w (TextPost w (textN p s t)) := by
  obtain ⟨m, hm, hmask⟩ := mask_nat2 t 2 3 rfl (by omega)
  have hmask' : bits .and .i64 t 3 = (m : Int) := hmask
  have hmask2 : (IntKind.i64.wrap ((BitVec.ofInt 64 t &&& BitVec.ofInt 64 (3 : Int)).toNat : Int)) = (m : Int) := hmask
  obtain ⟨n, hn⟩ : ∃ n : Nat, (n : Int) = s * 64 + (m : Int) := ⟨(s * 64 + m).toNat, by omega⟩
  have hN : textN p s t = n := by unfold textN; rw [if_pos ⟨.inl hp, hs, hs2⟩, hmask']; omega
  rw [hN]
  clear hN
  have hw1 : IntKind.i64.wrap (s * 64) = s * 64 := IntWalk.i64_in _ (by omega)
  have hw2 : IntKind.i64.wrap (s * 64 + (m : Int)) = (n : Int) := by rw [IntWalk.i64_in _ (by omega)]; omega
  have hnn : n ≤ 4096 := by omega
  have hnm : s * 64 + (m : Int) = (n : Int) := hn.symm
  clear hn
  clear hmask hmask2
  obtain ⟨i0, hi, hz0, hz1, hz2⟩ := info_parts infoU8
  have hmk := fun W => run_make_m (P := Try.prog) 68 5 i0 (.int .u8 0) Try.underlying68 hi hz0 .i64 .i64 n n (Nat.le_refl _) (by rw [hz2]; omega) (by omega) W
  rw [hz1] at hmk
  clear hi hz0 hz1 hz2
  have hnew := Lib.hid (text_new w p q r s t u v n 33 5)
  subst hp
  go_enter Try.func20, Try.ntmps20
  go_wp2_with fail
  clear hmk
  refine fresh_world (fun W => TxtB w W (w.heap.size + 1) n u) hnew.out ?_
  intro W2 hS
  clear hnew
  generalize hg : w.heap.size + 1 = g at hS ⊢
  have hgH := Lib.hid hg
  clear hg
  go_loopw [7] (fun i wr => ∃ j : Nat, j ≤ n ∧ i = .int .i64 (j : Int) ∧ TxtB w wr g n u) (fun i _ => n - (intOf i).toNat)
  case atStart => exact ⟨0, Nat.zero_le _, rfl, hS⟩
  case round =>
    clear hS
    obtain ⟨j, hj, rfl, hS⟩ := hrel
    have hSH := Lib.hid hS
    by_cases hlt : j < n
    · obtain ⟨⟨l, hl, hB⟩, hf, _, _, hcu, hne⟩ := hS
      obtain ⟨v0, hc⟩ : ∃ v, wr.cell? ⟨g, j, none⟩ = some v := ⟨_, hB j (by omega)⟩
      have hfj := hf j hlt
      clear hB hf hl l
      go_wp2
      go_roundw
      case rel => exact ⟨j + 1, by omega, by go_num, hSH.out.set hlt _ (by omega) (by omega)⟩
      case measure => simp [intOf]; omega
    · obtain rfl : j = n := by omega
      obtain ⟨⟨l, hl, hB⟩, _, hW, _⟩ := hS
      have hcb := back hB hl (cap := j) Try.underlying68 Try.underlying5 Try.underlying9
      clear hB
      go_wp2
      refine bodyPost_ret (v := .string ⟨l.toArray⟩) (by simp [results, Try.results20, go_sem]) rfl ⟨⟨l.toArray⟩, ?_, rfl, hW⟩
      rw [ofList_size]; exact hl

set_option maxRecDepth 100000 in
set_option maxHeartbeats 1000000 in
theorem text_n1 (p q r s t u i : Int) (v : Value) (w : World) (hp : p = 1) (hs : s ≤ 0) :
    Calls Try.prog 20 #[.agg #[.int .i64 p, .int .i64 q, .int .i64 r, .int .i64 s, .int .i64 t, .int .u8 u, v], .int .i64 i] w (TextPost w (textN p s t)) := by
  obtain ⟨m, hm, hmask⟩ := mask_nat2 t 2 3 rfl (by omega)
  have hmask' : bits .and .i64 t 3 = (m : Int) := hmask
  have hmask2 : (IntKind.i64.wrap ((BitVec.ofInt 64 t &&& BitVec.ofInt 64 (3 : Int)).toNat : Int)) = (m : Int) := hmask
  obtain ⟨n, hn⟩ : ∃ n : Nat, n = m := ⟨_, rfl⟩
  have hN : textN p s t = n := by unfold textN; rw [if_neg (by omega), hmask']; omega
  rw [hN]
  clear hN
  subst hn
  have hw2 : IntKind.i64.wrap (0 + (n : Int)) = (n : Int) := by rw [IntWalk.i64_in _ (by omega)]; omega
  have hnn : n ≤ 4096 := by omega
  clear hmask hmask2
  obtain ⟨i0, hi, hz0, hz1, hz2⟩ := info_parts infoU8
  have hmk := fun W => run_make_m (P := Try.prog) 68 5 i0 (.int .u8 0) Try.underlying68 hi hz0 .i64 .i64 n n (Nat.le_refl _) (by rw [hz2]; omega) (by omega) W
  rw [hz1] at hmk
  clear hi hz0 hz1 hz2
  have hnew := Lib.hid (text_new w p q r s t u v n 33 5)
  subst hp
  go_enter Try.func20, Try.ntmps20
  go_wp2_with fail
  clear hmk
  refine fresh_world (fun W => TxtB w W (w.heap.size + 1) n u) hnew.out ?_
  intro W2 hS
  clear hnew
  generalize hg : w.heap.size + 1 = g at hS ⊢
  have hgH := Lib.hid hg
  clear hg
  go_loopw [7] (fun i wr => ∃ j : Nat, j ≤ n ∧ i = .int .i64 (j : Int) ∧ TxtB w wr g n u) (fun i _ => n - (intOf i).toNat)
  case atStart => exact ⟨0, Nat.zero_le _, rfl, hS⟩
  case round =>
    clear hS
    obtain ⟨j, hj, rfl, hS⟩ := hrel
    have hSH := Lib.hid hS
    by_cases hlt : j < n
    · obtain ⟨⟨l, hl, hB⟩, hf, _, _, hcu, hne⟩ := hS
      obtain ⟨v0, hc⟩ : ∃ v, wr.cell? ⟨g, j, none⟩ = some v := ⟨_, hB j (by omega)⟩
      have hfj := hf j hlt
      clear hB hf hl l
      go_wp2
      go_roundw
      case rel => exact ⟨j + 1, by omega, by go_num, hSH.out.set hlt _ (by omega) (by omega)⟩
      case measure => simp [intOf]; omega
    · obtain rfl : j = n := by omega
      obtain ⟨⟨l, hl, hB⟩, _, hW, _⟩ := hS
      have hcb := back hB hl (cap := j) Try.underlying68 Try.underlying5 Try.underlying9
      clear hB
      go_wp2
      refine bodyPost_ret (v := .string ⟨l.toArray⟩) (by simp [results, Try.results20, go_sem]) rfl ⟨⟨l.toArray⟩, ?_, rfl, hW⟩
      rw [ofList_size]; exact hl

set_option maxRecDepth 100000 in
set_option maxHeartbeats 1000000 in
theorem text_n1b (p q r s t u i : Int) (v : Value) (w : World) (hp : p = 1) (hs : 40 ≤ s) :
    Calls Try.prog 20 #[.agg #[.int .i64 p, .int .i64 q, .int .i64 r, .int .i64 s, .int .i64 t, .int .u8 u, v], .int .i64 i] w (TextPost w (textN p s t)) := by
  obtain ⟨m, hm, hmask⟩ := mask_nat2 t 2 3 rfl (by omega)
  have hmask' : bits .and .i64 t 3 = (m : Int) := hmask
  have hmask2 : (IntKind.i64.wrap ((BitVec.ofInt 64 t &&& BitVec.ofInt 64 (3 : Int)).toNat : Int)) = (m : Int) := hmask
  obtain ⟨n, hn⟩ : ∃ n : Nat, n = m := ⟨_, rfl⟩
  have hN : textN p s t = n := by unfold textN; rw [if_neg (by omega), hmask']; omega
  rw [hN]
  clear hN
  subst hn
  have hw2 : IntKind.i64.wrap (0 + (n : Int)) = (n : Int) := by rw [IntWalk.i64_in _ (by omega)]; omega
  have hnn : n ≤ 4096 := by omega
  clear hmask hmask2
  obtain ⟨i0, hi, hz0, hz1, hz2⟩ := info_parts infoU8
  have hmk := fun W => run_make_m (P := Try.prog) 68 5 i0 (.int .u8 0) Try.underlying68 hi hz0 .i64 .i64 n n (Nat.le_refl _) (by rw [hz2]; omega) (by omega) W
  rw [hz1] at hmk
  clear hi hz0 hz1 hz2
  have hnew := Lib.hid (text_new w p q r s t u v n 33 5)
  subst hp
  have hs3 : 0 < s := by omega
  go_enter Try.func20, Try.ntmps20
  go_wp2_with fail
  clear hmk
  refine fresh_world (fun W => TxtB w W (w.heap.size + 1) n u) hnew.out ?_
  intro W2 hS
  clear hnew
  generalize hg : w.heap.size + 1 = g at hS ⊢
  have hgH := Lib.hid hg
  clear hg
  go_loopw [7] (fun i wr => ∃ j : Nat, j ≤ n ∧ i = .int .i64 (j : Int) ∧ TxtB w wr g n u) (fun i _ => n - (intOf i).toNat)
  case atStart => exact ⟨0, Nat.zero_le _, rfl, hS⟩
  case round =>
    clear hS
    obtain ⟨j, hj, rfl, hS⟩ := hrel
    have hSH := Lib.hid hS
    by_cases hlt : j < n
    · obtain ⟨⟨l, hl, hB⟩, hf, _, _, hcu, hne⟩ := hS
      obtain ⟨v0, hc⟩ : ∃ v, wr.cell? ⟨g, j, none⟩ = some v := ⟨_, hB j (by omega)⟩
      have hfj := hf j hlt
      clear hB hf hl l
      go_wp2
      go_roundw
      case rel => exact ⟨j + 1, by omega, by go_num, hSH.out.set hlt _ (by omega) (by omega)⟩
      case measure => simp [intOf]; omega
    · obtain rfl : j = n := by omega
      obtain ⟨⟨l, hl, hB⟩, _, hW, _⟩ := hS
      have hcb := back hB hl (cap := j) Try.underlying68 Try.underlying5 Try.underlying9
      clear hB
      go_wp2
      refine bodyPost_ret (v := .string ⟨l.toArray⟩) (by simp [results, Try.results20, go_sem]) rfl ⟨⟨l.toArray⟩, ?_, rfl, hW⟩
      rw [ofList_size]; exact hl

set_option maxRecDepth 100000 in
set_option maxHeartbeats 1000000 in
theorem text_n2 (p q r s t u i : Int) (v : Value) (w : World) (hp : p = 2) (hs : s ≤ 0) :
    Calls Try.prog 20 #[.agg #[.int .i64 p, .int .i64 q, .int .i64 r, .int .i64 s, .int .i64 t, .int .u8 u, v], .int .i64 i] w (TextPost w (textN p s t)) := by
  obtain ⟨m, hm, hmask⟩ := mask_nat2 t 2 3 rfl (by omega)
  have hmask' : bits .and .i64 t 3 = (m : Int) := hmask
  have hmask2 : (IntKind.i64.wrap ((BitVec.ofInt 64 t &&& BitVec.ofInt 64 (3 : Int)).toNat : Int)) = (m : Int) := hmask
  obtain ⟨n, hn⟩ : ∃ n : Nat, n = m := ⟨_, rfl⟩
  have hN : textN p s t = n := by unfold textN; rw [if_neg (by omega), hmask']; omega
  rw [hN]
  clear hN
  subst hn
  have hw2 : IntKind.i64.wrap (0 + (n : Int)) = (n : Int) := by rw [IntWalk.i64_in _ (by omega)]; omega
  have hnn : n ≤ 4096 := by omega
  clear hmask hmask2
  obtain ⟨i0, hi, hz0, hz1, hz2⟩ := info_parts infoU8
  have hmk := fun W => run_make_m (P := Try.prog) 68 5 i0 (.int .u8 0) Try.underlying68 hi hz0 .i64 .i64 n n (Nat.le_refl _) (by rw [hz2]; omega) (by omega) W
  rw [hz1] at hmk
  clear hi hz0 hz1 hz2
  have hnew := Lib.hid (text_new w p q r s t u v n 33 5)
  subst hp
  go_enter Try.func20, Try.ntmps20
  go_wp2_with fail
  clear hmk
  refine fresh_world (fun W => TxtB w W (w.heap.size + 1) n u) hnew.out ?_
  intro W2 hS
  clear hnew
  generalize hg : w.heap.size + 1 = g at hS ⊢
  have hgH := Lib.hid hg
  clear hg
  go_loopw [7] (fun i wr => ∃ j : Nat, j ≤ n ∧ i = .int .i64 (j : Int) ∧ TxtB w wr g n u) (fun i _ => n - (intOf i).toNat)
  case atStart => exact ⟨0, Nat.zero_le _, rfl, hS⟩
  case round =>
    clear hS
    obtain ⟨j, hj, rfl, hS⟩ := hrel
    have hSH := Lib.hid hS
    by_cases hlt : j < n
    · obtain ⟨⟨l, hl, hB⟩, hf, _, _, hcu, hne⟩ := hS
      obtain ⟨v0, hc⟩ : ∃ v, wr.cell? ⟨g, j, none⟩ = some v := ⟨_, hB j (by omega)⟩
      have hfj := hf j hlt
      clear hB hf hl l
      go_wp2
      go_roundw
      case rel => exact ⟨j + 1, by omega, by go_num, hSH.out.set hlt _ (by omega) (by omega)⟩
      case measure => simp [intOf]; omega
    · obtain rfl : j = n := by omega
      obtain ⟨⟨l, hl, hB⟩, _, hW, _⟩ := hS
      have hcb := back hB hl (cap := j) Try.underlying68 Try.underlying5 Try.underlying9
      clear hB
      go_wp2
      refine bodyPost_ret (v := .string ⟨l.toArray⟩) (by simp [results, Try.results20, go_sem]) rfl ⟨⟨l.toArray⟩, ?_, rfl, hW⟩
      rw [ofList_size]; exact hl

set_option maxRecDepth 100000 in
set_option maxHeartbeats 1000000 in
theorem text_n2b (p q r s t u i : Int) (v : Value) (w : World) (hp : p = 2) (hs : 40 ≤ s) :
    Calls Try.prog 20 #[.agg #[.int .i64 p, .int .i64 q, .int .i64 r, .int .i64 s, .int .i64 t, .int .u8 u, v], .int .i64 i] w (TextPost w (textN p s t)) := by
  obtain ⟨m, hm, hmask⟩ := mask_nat2 t 2 3 rfl (by omega)
  have hmask' : bits .and .i64 t 3 = (m : Int) := hmask
  have hmask2 : (IntKind.i64.wrap ((BitVec.ofInt 64 t &&& BitVec.ofInt 64 (3 : Int)).toNat : Int)) = (m : Int) := hmask
  obtain ⟨n, hn⟩ : ∃ n : Nat, n = m := ⟨_, rfl⟩
  have hN : textN p s t = n := by unfold textN; rw [if_neg (by omega), hmask']; omega
  rw [hN]
  clear hN
  subst hn
  have hw2 : IntKind.i64.wrap (0 + (n : Int)) = (n : Int) := by rw [IntWalk.i64_in _ (by omega)]; omega
  have hnn : n ≤ 4096 := by omega
  clear hmask hmask2
  obtain ⟨i0, hi, hz0, hz1, hz2⟩ := info_parts infoU8
  have hmk := fun W => run_make_m (P := Try.prog) 68 5 i0 (.int .u8 0) Try.underlying68 hi hz0 .i64 .i64 n n (Nat.le_refl _) (by rw [hz2]; omega) (by omega) W
  rw [hz1] at hmk
  clear hi hz0 hz1 hz2
  have hnew := Lib.hid (text_new w p q r s t u v n 33 5)
  subst hp
  have hs3 : 0 < s := by omega
  go_enter Try.func20, Try.ntmps20
  go_wp2_with fail
  clear hmk
  refine fresh_world (fun W => TxtB w W (w.heap.size + 1) n u) hnew.out ?_
  intro W2 hS
  clear hnew
  generalize hg : w.heap.size + 1 = g at hS ⊢
  have hgH := Lib.hid hg
  clear hg
  go_loopw [7] (fun i wr => ∃ j : Nat, j ≤ n ∧ i = .int .i64 (j : Int) ∧ TxtB w wr g n u) (fun i _ => n - (intOf i).toNat)
  case atStart => exact ⟨0, Nat.zero_le _, rfl, hS⟩
  case round =>
    clear hS
    obtain ⟨j, hj, rfl, hS⟩ := hrel
    have hSH := Lib.hid hS
    by_cases hlt : j < n
    · obtain ⟨⟨l, hl, hB⟩, hf, _, _, hcu, hne⟩ := hS
      obtain ⟨v0, hc⟩ : ∃ v, wr.cell? ⟨g, j, none⟩ = some v := ⟨_, hB j (by omega)⟩
      have hfj := hf j hlt
      clear hB hf hl l
      go_wp2
      go_roundw
      case rel => exact ⟨j + 1, by omega, by go_num, hSH.out.set hlt _ (by omega) (by omega)⟩
      case measure => simp [intOf]; omega
    · obtain rfl : j = n := by omega
      obtain ⟨⟨l, hl, hB⟩, _, hW, _⟩ := hS
      have hcb := back hB hl (cap := j) Try.underlying68 Try.underlying5 Try.underlying9
      clear hB
      go_wp2
      refine bodyPost_ret (v := .string ⟨l.toArray⟩) (by simp [results, Try.results20, go_sem]) rfl ⟨⟨l.toArray⟩, ?_, rfl, hW⟩
      rw [ofList_size]; exact hl

set_option maxRecDepth 100000 in
set_option maxHeartbeats 1000000 in
theorem text_n0 (p q r s t u i : Int) (v : Value) (w : World) (hp : p ≠ 1) (hp2 : p ≠ 2) :
    Calls Try.prog 20 #[.agg #[.int .i64 p, .int .i64 q, .int .i64 r, .int .i64 s, .int .i64 t, .int .u8 u, v], .int .i64 i] w (TextPost w (textN p s t)) := by
  obtain ⟨m, hm, hmask⟩ := mask_nat2 t 2 3 rfl (by omega)
  have hmask' : bits .and .i64 t 3 = (m : Int) := hmask
  have hmask2 : (IntKind.i64.wrap ((BitVec.ofInt 64 t &&& BitVec.ofInt 64 (3 : Int)).toNat : Int)) = (m : Int) := hmask
  obtain ⟨n, hn⟩ : ∃ n : Nat, n = m := ⟨_, rfl⟩
  have hN : textN p s t = n := by unfold textN; rw [if_neg (by omega), hmask']; omega
  rw [hN]
  clear hN
  subst hn
  have hw2 : IntKind.i64.wrap (0 + (n : Int)) = (n : Int) := by rw [IntWalk.i64_in _ (by omega)]; omega
  have hnn : n ≤ 4096 := by omega
  clear hmask hmask2
  obtain ⟨i0, hi, hz0, hz1, hz2⟩ := info_parts infoU8
  have hmk := fun W => run_make_m (P := Try.prog) 68 5 i0 (.int .u8 0) Try.underlying68 hi hz0 .i64 .i64 n n (Nat.le_refl _) (by rw [hz2]; omega) (by omega) W
  rw [hz1] at hmk
  clear hi hz0 hz1 hz2
  have hnew := Lib.hid (text_new w p q r s t u v n 33 5)
  have hq1 : (p == 1) = false := by simp [hp]
  have hq2 : (p == 2) = false := by simp [hp2]
  go_enter Try.func20, Try.ntmps20
  go_wp2_with fail
  clear hmk
  refine fresh_world (fun W => TxtB w W (w.heap.size + 1) n u) hnew.out ?_
  intro W2 hS
  clear hnew
  generalize hg : w.heap.size + 1 = g at hS ⊢
  have hgH := Lib.hid hg
  clear hg
  go_loopw [7] (fun i wr => ∃ j : Nat, j ≤ n ∧ i = .int .i64 (j : Int) ∧ TxtB w wr g n u) (fun i _ => n - (intOf i).toNat)
  case atStart => exact ⟨0, Nat.zero_le _, rfl, hS⟩
  case round =>
    clear hS
    obtain ⟨j, hj, rfl, hS⟩ := hrel
    have hSH := Lib.hid hS
    by_cases hlt : j < n
    · obtain ⟨⟨l, hl, hB⟩, hf, _, _, hcu, hne⟩ := hS
      obtain ⟨v0, hc⟩ : ∃ v, wr.cell? ⟨g, j, none⟩ = some v := ⟨_, hB j (by omega)⟩
      have hfj := hf j hlt
      clear hB hf hl l
      go_wp2
      go_roundw
      case rel => exact ⟨j + 1, by omega, by go_num, hSH.out.set hlt _ (by omega) (by omega)⟩
      case measure => simp [intOf]; omega
    · obtain rfl : j = n := by omega
      obtain ⟨⟨l, hl, hB⟩, _, hW, _⟩ := hS
      have hcb := back hB hl (cap := j) Try.underlying68 Try.underlying5 Try.underlying9
      clear hB
      go_wp2
      refine bodyPost_ret (v := .string ⟨l.toArray⟩) (by simp [results, Try.results20, go_sem]) rfl ⟨⟨l.toArray⟩, ?_, rfl, hW⟩
      rw [ofList_size]; exact hl

theorem text_all (p q r s t u i : Int) (v : Value) (w : World) :
    Calls Try.prog 20 #[.agg #[.int .i64 p, .int .i64 q, .int .i64 r, .int .i64 s, .int .i64 t, .int .u8 u, v], .int .i64 i] w (TextPost w (textN p s t)) := by
  by_cases h1 : p = 1
  · by_cases hs : 0 < s
    · by_cases hs2 : s < 40
      · exact text_one p q r s t u i v w h1 hs hs2
      · exact text_n1b p q r s t u i v w h1 (by omega)
    · exact text_n1 p q r s t u i v w h1 (by omega)
  · by_cases h2 : p = 2
    · by_cases hs : 0 < s
      · by_cases hs2 : s < 40
        · exact text_two p q r s t u i v w h2 hs hs2
        · exact text_n2b p q r s t u i v w h2 (by omega)
      · exact text_n2 p q r s t u i v w h2 (by omega)
    · exact text_n0 p q r s t u i v w h1 h2
theorem textN_le (p s t : Int) : textN p s t ≤ 4096 := by
  obtain ⟨m, hm, hmask⟩ := mask_nat2 t 2 3 rfl (by omega)
  have hmask' : bits .and .i64 t 3 = (m : Int) := hmask
  unfold textN
  rw [hmask']
  split <;> omega
end Go.Proofs.Ytncbkegflkjlfaa
