/- Records that are searched and struck out of a slice of the call's own. -/
import Derived.Test.YtpmhfalhieinjaaGreatDoorMlgE
import Derived.Test.YtpmhfalhieinjaaGreatDoorMKRow
import Derived.Laws.IdiomCopy
import Derived.Lib.SlBuf
namespace Go.Proofs.YtpmhfalhieinjaaGreatDoor
open Go.RowKit Rec

/-- How a record stands in its cells. -/
def rcE : Enc Rc := ⟨Rec.Rc.cellsL, 7, fun _ => rfl, fun x u hu => by
  unfold Rec.Rc.cellsL at hu
  simp only [List.mem_cons, List.not_mem_nil, or_false] at hu
  rcases hu with rfl | rfl | rfl | rfl | rfl | rfl | rfl <;> rfl⟩
theorem flatR_eq : ∀ rs : List Rc, flatR rs = rcE.flat rs
  | [] => rfl
  | r :: rs => by
    show r.cellsL ++ flatR rs = r.cellsL ++ rcE.flat rs
    rw [flatR_eq rs]
theorem RRow.row {W : World} {base cap : Nat} {t : TypeId} {A : Option Addr} {rs : List Rc} (h : RRow W base t A cap rs) : rcE.Row W base t A cap rs := by
  unfold RRow at h
  rw [flatR_eq] at h
  exact h
theorem RRow.of {W : World} {base cap : Nat} {t : TypeId} {A : Option Addr} {rs : List Rc} (h : rcE.Row W base t A cap rs) : RRow W base t A cap rs := by
  unfold RRow
  rw [flatR_eq]
  exact h
/-- The first of which f holds. -/
def FirstAt (f : Rc → Bool) (rs : List Rc) (i : Int) : Prop := (i = -1 ∧ rs.any f = false) ∨ ∃ k : Nat, i = (k : Int) ∧ ∃ h : k < rs.length, f rs[k] = true ∧ (rs.take k).any f = false
/-- Is it the Done of that generation? -/
def isDn (g : Int) (r : Rc) : Bool := decide (r.k = 2 ∧ r.c = g)
theorem done_any (r : Rc) (g : Int) (W : World) (c : Nat) (hc : W.cell? ⟨c, 0, none⟩ = some (.int .i64 g)) :
    Calls Tryz.prog 63 #[.agg #[.int .i64 r.k, .int .i64 r.s, .int .i64 r.a, .int .i64 r.b, .int .i64 r.c, .int .i64 r.d, .string r.body], .pointer (some ⟨c, 0, none⟩)] W fun e w' => e = .returned (.bool (isDn g r)) ∧ Below W.heap.size W w' := by
  have hl := lt_of_cell hc
  have hne : ¬ c = W.heap.size := by omega
  unfold isDn
  by_cases h1 : r.k = 2
  · have h1b : (r.k == 2) = true := by simp [h1]
    by_cases h2 : r.c = g
    · have h2b : (r.c == g) = true := by simp [h2]
      rw [decide_eq_true ⟨h1, h2⟩]
      clear h1 h2
      go_enter Tryz.func63, Tryz.ntmps63
      go_wp2
      go_ret
      exact ⟨rfl, (Below.refl _ _).alloc (Nat.le_refl _) _⟩
    · have h2b : (r.c == g) = false := by simp [h2]
      rw [decide_eq_false (fun h => h2 h.2)]
      clear h1 h2
      go_enter Tryz.func63, Tryz.ntmps63
      go_wp2
      go_ret
      exact ⟨rfl, (Below.refl _ _).alloc (Nat.le_refl _) _⟩
  · have h1b : (r.k == 2) = false := by simp [h1]
    rw [decide_eq_false (fun h => h1 h.1)]
    clear h1
    go_enter Tryz.func63, Tryz.ntmps63
    go_wp2
    go_ret
    exact ⟨rfl, (Below.refl _ _).alloc (Nat.le_refl _) _⟩
set_option maxRecDepth 100000 in
set_option maxHeartbeats 1000000 in
theorem rindexdn_any (W : World) (A : Option Addr) (cap : Nat) (rs : List Rc) (g : Int) (c : Nat) (hI : RecsIn W A rs) (hl : rs.length ≤ 1000000) (hc : W.cell? ⟨c, 0, none⟩ = some (.int .i64 g)) :
    Calls Tryz.prog 89 #[.slice A rs.length cap, .func (.func 63) #[] #[.pointer (some ⟨c, 0, none⟩)]] W fun e w' => ∃ i : Int, e = .returned (.int .i64 i) ∧ FirstAt (isDn g) rs i ∧ Below W.heap.size W w' := by
  have hIH := Lib.hid (fun W' (hb : Below W.heap.size W W') => hI.below hb)
  have hcl := lt_of_cell hc
  have h1 := Lib.hid (fun r W' (hb : Below W.heap.size W W') => done_any r g W' c ((hb.cell (p := ⟨c, 0, none⟩) hcl).trans hc))
  have eg : ∀ args w, (callFunc 63 args).run Tryz.prog w = .ok (.enter 63 args) w := enters_of Tryz.func63 (by kernel_rfl) rfl
  obtain ⟨f, hf⟩ : ∃ f : Rc → Bool, f = isDn g := ⟨_, rfl⟩
  rw [← hf]
  rw [← hf] at h1
  clear hI hf hc hcl
  go_enter Tryz.func89, Tryz.ntmps89
  go_wp2_with fail
  go_loopw [8] (fun i wr => ∃ k : Nat, k ≤ rs.length ∧ i = .int .i64 (k : Int) ∧ (rs.take k).any f = false ∧ Below W.heap.size W wr) (fun i _ => rs.length - (intOf i).toNat)
  case atStart => exact ⟨0, Nat.zero_le _, rfl, rfl, Below.refl _ _⟩
  case round =>
    obtain ⟨k, hk, rfl, hno, hB⟩ := hrel
    by_cases hlt : k < rs.length
    case pos =>
      have g1 : (k : Int) < (rs.length : Int) := by omega
      obtain ⟨b, rfl, -, s0, s1, s2, s3, s4, s5, s6⟩ := (hIH.out _ hB).at_ hlt
      have hst : (rs.take (k + 1)).any f = f rs[k] := by rw [List.take_succ_eq_append_getElem hlt, List.any_append, hno]; simp
      have hstH := Lib.hid hst
      have hnoH := Lib.hid hno
      have hBH := Lib.hid hB
      have h1k := Lib.hid (h1.out rs[k] wr hB)
      have hkw : IntKind.i64.wrap ((k : Int) + 1) = (k : Int) + 1 := IntWalk.i64_in _ (by omega)
      have hrx : ∀ v, f rs[k] = v → f rs[k] = v := fun _ h => h
      have hrxH := Lib.hid hrx
      clear hno hst hB h1 hrx
      obtain ⟨x, hx⟩ : ∃ x, x = rs[k] := ⟨_, rfl⟩
      rw [← hx] at s0 s1 s2 s3 s4 s5 s6 h1k
      have hxH := Lib.hid hx
      clear hx
      obtain ⟨v, hv⟩ : ∃ v, v = f x := ⟨_, rfl⟩
      rw [← hv] at h1k
      have hvH := Lib.hid hv
      clear hv
      cases v with
      | true =>
        go_wp2_with (go_at_fn 63; refine h1k.out.mono ?_; rintro e w1 ⟨rfl, hb1⟩)
        go_ret
        exact ⟨k, rfl, .inr ⟨k, rfl, hlt, by rw [← hxH.out]; exact hvH.out.symm, hnoH.out⟩, hBH.out.trans (hb1.mono hBH.out.size)⟩
      | false =>
        go_wp2_with (go_at_fn 63; refine h1k.out.mono ?_; rintro e w1 ⟨rfl, hb1⟩)
        go_roundw
        case rel => exact ⟨k + 1, by omega, by go_num, by rw [hstH.out, ← hxH.out]; exact hvH.out.symm, hBH.out.trans (hb1.mono hBH.out.size)⟩
        case measure => simp only [intOf]; omega
    case neg =>
      have g1 : ¬ (k : Int) < (rs.length : Int) := by omega
      have hke : k = rs.length := by omega
      rw [hke, List.take_length] at hno
      have hnoH := Lib.hid hno
      clear hno hke hlt
      go_wp2_with fail
      go_ret
      exact ⟨-1, rfl, .inl ⟨rfl, hnoH.out⟩, hB⟩
set_option maxRecDepth 100000 in
set_option maxHeartbeats 1000000 in
theorem rindexmk_any (W : World) (A : Option Addr) (cap : Nat) (rs : List Rc) (hI : RecsIn W A rs) (hl : rs.length ≤ 1000000) :
    Calls Tryz.prog 89 #[.slice A rs.length cap, .func (.func 65) #[] #[]] W fun e w' => ∃ i : Int, e = .returned (.int .i64 i) ∧ FirstAt (isMk) rs i ∧ Below W.heap.size W w' := by
  have hIH := Lib.hid (fun W' (hb : Below W.heap.size W W') => hI.below hb)
  have h1 := Lib.hid (fun r W' (_ : Below W.heap.size W W') => mark_is r W')
  have eg : ∀ args w, (callFunc 65 args).run Tryz.prog w = .ok (.enter 65 args) w := enters_of Tryz.func65 (by kernel_rfl) rfl
  obtain ⟨f, hf⟩ : ∃ f : Rc → Bool, f = isMk := ⟨_, rfl⟩
  rw [← hf]
  rw [← hf] at h1
  clear hI hf 
  go_enter Tryz.func89, Tryz.ntmps89
  go_wp2_with fail
  go_loopw [8] (fun i wr => ∃ k : Nat, k ≤ rs.length ∧ i = .int .i64 (k : Int) ∧ (rs.take k).any f = false ∧ Below W.heap.size W wr) (fun i _ => rs.length - (intOf i).toNat)
  case atStart => exact ⟨0, Nat.zero_le _, rfl, rfl, Below.refl _ _⟩
  case round =>
    obtain ⟨k, hk, rfl, hno, hB⟩ := hrel
    by_cases hlt : k < rs.length
    case pos =>
      have g1 : (k : Int) < (rs.length : Int) := by omega
      obtain ⟨b, rfl, -, s0, s1, s2, s3, s4, s5, s6⟩ := (hIH.out _ hB).at_ hlt
      have hst : (rs.take (k + 1)).any f = f rs[k] := by rw [List.take_succ_eq_append_getElem hlt, List.any_append, hno]; simp
      have hstH := Lib.hid hst
      have hnoH := Lib.hid hno
      have hBH := Lib.hid hB
      have h1k := Lib.hid (h1.out rs[k] wr hB)
      have hkw : IntKind.i64.wrap ((k : Int) + 1) = (k : Int) + 1 := IntWalk.i64_in _ (by omega)
      have hrx : ∀ v, f rs[k] = v → f rs[k] = v := fun _ h => h
      have hrxH := Lib.hid hrx
      clear hno hst hB h1 hrx
      obtain ⟨x, hx⟩ : ∃ x, x = rs[k] := ⟨_, rfl⟩
      rw [← hx] at s0 s1 s2 s3 s4 s5 s6 h1k
      have hxH := Lib.hid hx
      clear hx
      obtain ⟨v, hv⟩ : ∃ v, v = f x := ⟨_, rfl⟩
      rw [← hv] at h1k
      have hvH := Lib.hid hv
      clear hv
      cases v with
      | true =>
        go_wp2_with (go_at_fn 65; refine h1k.out.mono ?_; rintro e w1 ⟨rfl, hb1⟩)
        go_ret
        exact ⟨k, rfl, .inr ⟨k, rfl, hlt, by rw [← hxH.out]; exact hvH.out.symm, hnoH.out⟩, hBH.out.trans (hb1.mono hBH.out.size)⟩
      | false =>
        go_wp2_with (go_at_fn 65; refine h1k.out.mono ?_; rintro e w1 ⟨rfl, hb1⟩)
        go_roundw
        case rel => exact ⟨k + 1, by omega, by go_num, by rw [hstH.out, ← hxH.out]; exact hvH.out.symm, hBH.out.trans (hb1.mono hBH.out.size)⟩
        case measure => simp only [intOf]; omega
    case neg =>
      have g1 : ¬ (k : Int) < (rs.length : Int) := by omega
      have hke : k = rs.length := by omega
      rw [hke, List.take_length] at hno
      have hnoH := Lib.hid hno
      clear hno hke hlt
      go_wp2_with fail
      go_ret
      exact ⟨-1, rfl, .inl ⟨rfl, hnoH.out⟩, hB⟩
/-- ContainsFunc, of a Done. -/
theorem rhasdn_any (W : World) (A : Option Addr) (cap : Nat) (rs : List Rc) (g : Int) (c : Nat) (hI : RecsIn W A rs) (hl : rs.length ≤ 1000000) (hc : W.cell? ⟨c, 0, none⟩ = some (.int .i64 g)) :
    Calls Tryz.prog 62 #[.slice A rs.length cap, .func (.func 63) #[] #[.pointer (some ⟨c, 0, none⟩)]] W fun e w' => e = .returned (.bool (rs.any (isDn g))) ∧ Below W.heap.size W w' := by
  have h1 := Lib.hid (rindexdn_any W A cap rs g c hI hl hc)
  clear hI hc
  go_enter Tryz.func62, Tryz.ntmps62
  go_wp2_with fail
  refine h1.out.mono ?_
  rintro e w1 ⟨i, rfl, hi, hb⟩
  rcases hi with ⟨rfl, ha⟩ | ⟨k, rfl, hk, ha, -⟩
  · have hi' : ¬ (0 : Int) ≤ -1 := by decide
    go_wp2_with fail
    go_ret
    exact ⟨by rw [ha]; simp, hb⟩
  · have hi' : (0 : Int) ≤ (k : Int) := by omega
    have ha2 : rs.any (isDn g) = true := List.any_eq_true.2 ⟨_, List.getElem_mem hk, ha⟩
    clear ha
    go_wp2_with fail
    go_ret
    exact ⟨by rw [ha2]; simp, hb⟩
end Go.Proofs.YtpmhfalhieinjaaGreatDoor
