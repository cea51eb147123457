/- slices.Repeat. -/
import Derived.Test.YtdjdldcpaidmnaaNPm
import Derived.Laws.CopyRow
import Derived.Laws.CopyOwn
namespace Go.Proofs.Ytdjdldcpaidmnaa
open Go.RowKit Pl Tl
theorem copy_run_wp {P : Program} {ops : Array Oper} {rest : List Oper} {o : Oper} {a : Act} {w w' : World} {Q : Exit → Act → World → Prop} (hw : Region.wanted o (yielded ops a.tmps) = true) (s x : Operand) (t : TypeId)
    (ho : o.op = .call { callee := .builtin .copy, args := #[s, x], argTypes := #[t, t] }) {vs vx r : Value} (hs : a.eval s = vs) (hx : a.eval x = vx) (hrun : (Builtin.copy_ #[t, t] o.type #[vs, vx]).run P w = .ok r w')
    (h : wpList P ops Q rest (a.put o.dst r) w') : wpList P ops Q (o :: rest) a w :=
  wpList_step fun K hK => by
    rw [if_pos hw]
    unfold Oper.wp execOp
    simp only [ho, resolve, invoke, builtin, Sem.run_bind, Sem.run_pure, Result.andThen_ok, List.map_toArray, List.map_cons, List.map_nil, hs, hx, hrun]
    exact hK _ _ h
theorem copy_run_step {P : Program} {ops : Array Oper} {o : Oper} {a : Act} {w w' : World} {K : Act → World → Prop} {Q : Exit → Act → World → Prop} {E : Prop} (hg : o.guard = none) (s x : Operand) (t : TypeId)
    (ho : o.op = .call { callee := .builtin .copy, args := #[s, x], argTypes := #[t, t] }) {vs vx r : Value} (hs : a.eval s = vs) (hx : a.eval x = vx) (hrun : (Builtin.copy_ #[t, t] o.type #[vs, vx]).run P w = .ok r w')
    (h : K (a.put o.dst r) w') : if Region.wanted o (yielded ops a.tmps) = true then Oper.wp P o a w K Q else E := by
  have hw : Region.wanted o (yielded ops a.tmps) = true := by simp [Region.wanted, hg]
  rw [if_pos hw]
  unfold Oper.wp execOp
  simp only [ho, resolve, invoke, builtin, Sem.run_bind, Sem.run_pure, Result.andThen_ok, List.map_toArray, List.map_cons, List.map_nil, hs, hx, hrun]
  exact h
/-- The first k of n numbers are v. -/
def rep (n k : Nat) (v : Int) : List Value := List.replicate k (Value.int .i64 v) ++ List.replicate (n - k) (.int .i64 0)
theorem rep_len {n k : Nat} {v : Int} (h : k ≤ n) : (rep n k v).length = n := by unfold rep; simp; omega
theorem rep_copy {n k c : Nat} {v : Int} : (rep n k v).take k ++ List.replicate c (Value.int .i64 v) ++ (rep n k v).drop (k + c) = rep n (k + c) v := by
  unfold rep
  have h1 : (List.replicate k (Value.int .i64 v)).length = k := List.length_replicate
  rw [List.take_append, List.drop_append, h1, Nat.sub_self, List.take_zero, List.append_nil, List.take_of_length_le (by rw [h1]; exact Nat.le_refl _), List.drop_eq_nil_of_le (by rw [h1]; omega), List.nil_append, Nat.add_sub_cancel_left, List.drop_replicate, List.replicate_append_replicate, show n - k - c = n - (k + c) by omega]
theorem rep_full (n : Nat) (v : Int) : rep n n v = List.replicate n (Value.int .i64 v) := by unfold rep; rw [Nat.sub_self]; simp
theorem rep_at {n k j : Nat} {v : Int} (h : j < k) : (rep n k v)[j]? = some (.int .i64 v) := by
  unfold rep
  rw [List.getElem?_append_left (by simp; exact h), List.getElem?_replicate, if_pos h]
/-- A row of numbers in a block of its own. -/
def RepW (W : World) (G : Nat) (l : List Value) : Prop := W.heap[G]? = some (.cells l.toArray 3 (0, 0))
theorem RepW.copy {W : World} {G n k c : Nat} {v : Int} (h : RepW W G (rep n k v)) : RepW (W.setRow G ((rep n k v).toArray.toList.take k ++ List.replicate c (Value.int .i64 v) ++ (rep n k v).toArray.toList.drop (k + c)).toArray) G (rep n (k + c) v) := by
  rw [List.toList_toArray, rep_copy]
  exact setRow_heap W G _ _ _ _ h
theorem info1 : (Try.prog.info? 3).map (·.size) = some 1 := by kernel_rfl
theorem infoI : (Try.prog.info? 3).map (fun i => (i.zero, i.size, i.bytes)) = some (some (.int .i64 0), 1, 8) := by kernel_rfl
theorem made_rep (W : World) (n : Nat) (v : Int) : RepW (W.alloc (.cells (madeCells #[.int .i64 0] n) 3)) W.heap.size (rep n 0 v) := by
  have h := heap_alloc_new W (Obj.cells (madeCells #[Value.int .i64 0] n) 3)
  unfold RepW
  rw [h]
  congr 2
  apply Array.ext'
  rw [toList_madeCells_one]
  rfl
/-- The copy of the first number; the copy of what is there behind it. -/
theorem copy_first {W : World} {G g n : Nat} {v : Int} (h : RepW W G (rep n 0 v)) (hg : W.cell? ⟨g, 0, none⟩ = some (.int .i64 v)) (h1 : 1 ≤ n) (ty : TypeId) :
    ∃ W', (Builtin.copy_ #[26, 26] ty #[.slice (some ⟨G, 0, none⟩) n n, .slice (some ⟨g, 0, none⟩) 1 1]).run Try.prog W = .ok (.int .i64 1) W' ∧ RepW W' G (rep n 1 v) ∧ ∀ B w, Below B w W → B ≤ G → Below B w W' := by
  have hr := run_copy_row (P := Try.prog) W 26 26 ty 3 G 0 n n ⟨g, 0, none⟩ 1 1 (rep n 0 v).toArray 3 (List.replicate 1 (Value.int .i64 v)) Try.underlying26 info1 h (by rw [List.length_replicate]; exact (Nat.min_eq_left h1).symm) (fun j u hu => by
    match j, hu with
    | 0, hu => injection hu with hu; rw [← hu, Go.WideShapes.add_plain]; exact hg
    | j + 1, hu => simp at hu) (by rw [List.length_replicate, List.size_toArray, rep_len (by omega)]; omega) (by intro u hu; simp at hu; rw [hu]; rfl)
  have hc := h.copy (c := 1)
  rw [List.length_replicate] at hr
  exact ⟨_, hr, hc, fun B w hb hB => below_setRow hb hB _⟩
theorem copy_next {W : World} {G n k : Nat} {v : Int} (h : RepW W G (rep n k v)) (hk : k < n) (hk1 : 1 ≤ k) (ty : TypeId) :
    ∃ (W' : World) (c : Nat), (Builtin.copy_ #[26, 26] ty #[.slice (some ⟨G, k, none⟩) (n - k) (n - k), .slice (some ⟨G, 0, none⟩) k n]).run Try.prog W = .ok (.int .i64 (c : Int)) W' ∧ 0 < c ∧ k + c ≤ n ∧ RepW W' G (rep n (k + c) v) ∧ ∀ B w, Below B w W → B ≤ G → Below B w W' := by
  have hcmin : (min k (n - k)) ≤ k := Nat.min_le_left _ _
  have hcmin2 : (min k (n - k)) ≤ n - k := Nat.min_le_right _ _
  have hcpos : 0 < min k (n - k) := by omega
  obtain ⟨c, hc⟩ : ∃ c, min k (n - k) = c := ⟨_, rfl⟩
  rw [hc] at hcmin hcmin2 hcpos
  have hr := run_copy_row (P := Try.prog) W 26 26 ty 3 G k (n - k) (n - k) ⟨G, 0, none⟩ k n (rep n k v).toArray 3 (List.replicate c (Value.int .i64 v)) Try.underlying26 info1 h (by rw [List.length_replicate]; exact hc.symm) (fun j u hu => by
    rw [List.getElem?_replicate] at hu
    split at hu
    · rename_i hj
      injection hu with hu
      rw [← hu, Go.WideShapes.add_plain, cell_of_row W G _ _ _ _ h, List.getElem?_toArray, Nat.zero_add]
      exact rep_at (by omega)
    · cases hu) (by rw [List.length_replicate, List.size_toArray, rep_len (Nat.le_of_lt hk)]; omega) (by intro u hu; rw [(List.mem_replicate.1 hu).2]; rfl)
  have hc2 := h.copy (c := c)
  rw [List.length_replicate] at hr
  exact ⟨_, c, hr, hcpos, by omega, hc2, fun B w hb hB => below_setRow hb hB _⟩
def RpPost (w : World) (n : Nat) (v : Int) (e : Ending) (w' : World) : Prop := ∃ G, e = .returned (.slice (some ⟨G, 0, none⟩) n n) ∧ RepW w' G (List.replicate n (Value.int .i64 v)) ∧ w.heap.size ≤ G ∧ Below w.heap.size w w'
set_option maxRecDepth 100000 in
set_option maxHeartbeats 2000000 in
theorem repeat_any (v : Int) (n : Nat) (h1 : 1 ≤ n) (hn : n ≤ 16) (w : World) (g : Nat) (hg : w.cell? ⟨g, 0, none⟩ = some (.int .i64 v)) :
    Calls Try.prog 75 #[.slice (some ⟨g, 0, none⟩) 1 1, .int .i64 (n : Int)] w (RpPost w n v) := by
  have c := Lib.hid (fun W => mul_one64 n hn W)
  obtain ⟨i0, hi, hz0, hz1, hz2⟩ := info_parts infoI
  have hmk := fun W => run_make_m (P := Try.prog) 26 3 i0 (.int .i64 0) Try.underlying26 hi hz0 .i64 .i64 n n (Nat.le_refl _) (by rw [hz2]; omega) (by omega) W
  rw [hz1, Nat.mul_one] at hmk
  have k0 : ¬ ((n : Int) < 0) := by omega
  have k1 : IntKind.u64.wrap (n : Int) = (n : Int) := Mul64.wrapN n (by omega)
  have k2 : ¬ ((9223372036854775807 : Int) < (n : Int)) := by omega
  have k3 : IntKind.i64.wrap (n : Int) = (n : Int) := IntWalk.i64_in _ (by omega)
  have hgl := lt_of_cell hg
  have hgH := Lib.hid hg
  clear hi hz0 hz1 hz2
  go_enter Try.func75, Try.ntmps75
  go_wp2_with fail
  (with_reducible refine (c.out _).mono ?_)
  rintro e w1 ⟨rfl, rfl⟩
  go_upto_region 7 with fail
  have hm := made_rep w n v
  have hb := (Below.refl w.heap.size w).alloc (Nat.le_refl _) (.cells (madeCells #[.int .i64 0] n) 3)
  have hg2 := (hb.cell (p := ⟨g, 0, none⟩) hgl).trans hgH.out
  obtain ⟨W2, hrun2, hR2, hB2⟩ := copy_first hm hg2 h1 3
  have hbW := hB2 _ _ hb (Nat.le_refl _)
  have hrun2H := Lib.hid hrun2
  have hR2H := Lib.hid hR2
  have hbWH := Lib.hid hbW
  clear hm hb hg2 hrun2 hR2 hB2 hbW hmk hgH hg
  have hrun2 := hrun2H.out
  go_wp2_with fail
  go_loopw [8] (fun s wr => ∃ (k : Nat), s = .int .i64 (k : Int) ∧ 1 ≤ k ∧ k ≤ n ∧ Hid (RepW wr w.heap.size (rep n k v)) ∧ Hid (Below w.heap.size w wr)) (fun s _ => n - (intOf s).toNat)
  case atStart => exact ⟨1, rfl, Nat.le_refl _, h1, hR2H, hbWH⟩
  case round =>
    clear hR2H hbWH hrun2H hrun2
    obtain ⟨k, rfl, hk1, hkn, hR, hb⟩ := hrel
    by_cases hlt : k < n
    case neg =>
      have e : k = n := by omega
      subst e
      have hF : RpPost w k v (.returned (.slice (some ⟨w.heap.size, 0, none⟩) k k)) wr := ⟨w.heap.size, rfl, by have := hR.out; rw [rep_full] at this; exact this, Nat.le_refl _, hb.out⟩
      have hFH := Lib.hid hF
      clear hF hR hb
      go_wp2
      go_ret
      exact hFH.out
    case pos =>
      have kn : ¬ (k = n) := by omega
      have kn3 : ¬ (n = k) := by omega
      have kle : (k : Int) ≤ (n : Int) := by omega
      have kn2 : ¬ ((k : Int) = (n : Int)) := by omega
      go_upto_region 9 with fail
      obtain ⟨W3, c3, hrun3, hc0, hcn, hR3, hB3⟩ := copy_next (W := wr.drew) (show RepW wr.drew _ _ from hR.out) hlt hk1 3
      have hb3 := hB3 _ _ hb.out.drew (Nat.le_refl _)
      have hrun3H := Lib.hid hrun3
      have hR3H := Lib.hid hR3
      have hb3H := Lib.hid hb3
      have kw : IntKind.i64.wrap ((k : Int) + (c3 : Int)) = ((k + c3 : Nat) : Int) := by rw [IntWalk.i64_in _ (by omega)]; omega
      have kwH := Lib.hid kw
      have hmea : n - (k + c3) < n - k := by omega
      have hk3 : 1 ≤ k + c3 := by omega
      have hS0 : Below w.heap.size w wr.drew := hb.out.drew
      clear hrun3 hR3 hB3 hb3 hR hb c kw
      refine region_anyC (fun _ => true) (fun W => Below w.heap.size w W) (by kernel_rfl) ?_
      refine anyL_take 0 (v := ?_) rfl (by kernel_rfl) (fun _ _ _ h => h) (Or.inl ⟨by rfl, ?_⟩) hS0 ?_
      rotate_left
      focus (intro W hW; go_simp; try with_reducible rfl)
      simp only [Act.put, List.setIfInBounds_toArray, List.set_cons_zero, List.set_cons_succ]
      refine anyL_take 1 (v := ?_) rfl (by kernel_rfl) (fun _ _ _ h => h) (Or.inl ⟨by rfl, ?_⟩) hS0 ?_
      rotate_left
      focus (intro W hW; go_simp; try with_reducible rfl)
      simp only [Act.put, List.setIfInBounds_toArray, List.set_cons_zero, List.set_cons_succ]
      refine anyL_take 2 (v := ?_) rfl (by kernel_rfl) (fun _ _ _ h => h) (Or.inl ⟨by rfl, ?_⟩) hS0 ?_
      rotate_left
      focus (intro W hW; go_simp; try with_reducible rfl)
      simp only [Act.put, List.setIfInBounds_toArray, List.set_cons_zero, List.set_cons_succ]
      refine anyL_take 3 (v := ?_) rfl (by kernel_rfl) (fun _ _ _ h => h) (Or.inl ⟨by rfl, ?_⟩) hS0 ?_
      rotate_left
      focus (intro W hW; go_simp; try with_reducible rfl)
      simp only [Act.put, List.setIfInBounds_toArray, List.set_cons_zero, List.set_cons_succ]
      refine anyL_take 4 (v := ?_) rfl (by kernel_rfl) (fun _ _ _ h => h) (Or.inl ⟨by rfl, ?_⟩) hS0 ?_
      rotate_left
      focus (intro W hW; go_simp; try with_reducible rfl)
      simp only [Act.put, List.setIfInBounds_toArray, List.set_cons_zero, List.set_cons_succ]
      refine anyL_take 5 (v := ?_) rfl (by kernel_rfl) (fun _ _ _ h => h) (Or.inl ⟨by rfl, ?_⟩) hS0 ?_
      rotate_left
      focus (intro W hW; go_simp; try with_reducible rfl)
      simp only [Act.put, List.setIfInBounds_toArray, List.set_cons_zero, List.set_cons_succ]
      refine anyL_take 6 (v := ?_) rfl (by kernel_rfl) (fun _ _ _ h => h) (Or.inl ⟨by rfl, ?_⟩) hS0 ?_
      rotate_left
      focus (intro W hW; go_simp; try with_reducible rfl)
      simp only [Act.put, List.setIfInBounds_toArray, List.set_cons_zero, List.set_cons_succ]
      refine anyL_one 7 rfl (by kernel_rfl) (fun K hK => ?_)
      refine copy_run_step rfl (.tmp 41) (.tmp 44) 26 rfl rfl rfl hrun3H.out ?_
      refine hK.out _ _ (fun _ => hb3H.out) ?_
      clear hK K
      try simp only [Act.put, List.setIfInBounds_toArray, List.set_cons_zero, List.set_cons_succ]
      have kw := kwH.out
      refine anyL_take 8 (v := ?_) rfl (by kernel_rfl) (fun _ _ _ h => h) (Or.inl ⟨by rfl, ?_⟩) hb3H.out ?_
      rotate_left
      focus (intro W hW; go_simp; try with_reducible rfl)
      simp only [Act.put, List.setIfInBounds_toArray, List.set_cons_zero, List.set_cons_succ]
      refine anyL_one 9 rfl (by kernel_rfl) (fun K hK => ?_)
      go_simp
      refine hK.out _ _ (fun _ => hb3H.out) ?_
      clear hK K
      try simp only [Act.put, List.setIfInBounds_toArray, List.set_cons_zero, List.set_cons_succ]
      refine anyC_done (by kernel_rfl) ?_ _
      go_wp2_with fail
      go_roundw
      case rel => exact ⟨k + c3, by go_num, hk3, hcn, hR3H, hb3H⟩
      case measure => simp [intOf]; omega
end Go.Proofs.Ytdjdldcpaidmnaa
