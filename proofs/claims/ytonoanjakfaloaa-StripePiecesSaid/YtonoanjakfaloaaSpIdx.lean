/- What Restore of stripe does. -/
import Derived.Test.YtonoanjakfaloaaSpPar
import Derived.Test.YtonoanjakfaloaaSpCat
import Derived.Test.YtonoanjakfaloaaSRef
import Derived.Shelf.GgClosure.Gives
namespace Go.Proofs.Ytonoanjakfaloaa
open Go.RowKit Sp Xor

/-- Is it no block? -/
def noB (s : ByteArray) : Bool := !decide (s.size = 64)
theorem res1_any (s : ByteArray) (w : World) (hs : s.size ≤ maxLen) : Calls Try.prog 45 #[.string s] w fun e w' => e = .returned (.bool (noB s)) ∧ w = w' := by
  have c1 := fun W => isBlock_any s W hs
  unfold noB
  generalize decide (s.size = 64) = v at c1 ⊢
  have c1H := Lib.hid c1
  clear c1
  cases v
  · go_enter Try.func45, Try.ntmps45
    go_wp2_with fail
    (with_reducible refine (c1H.out _).mono ?_)
    rintro e w1 ⟨rfl, rfl⟩
    go_wp2
    go_ret
    exact ⟨rfl, rfl⟩
  · go_enter Try.func45, Try.ntmps45
    go_wp2_with fail
    (with_reducible refine (c1H.out _).mono ?_)
    rintro e w1 ⟨rfl, rfl⟩
    go_wp2
    go_ret
    exact ⟨rfl, rfl⟩
/-- The first of which f holds. -/
def FirstS (f : ByteArray → Bool) (ps : List ByteArray) (i : Int) : Prop := (i = -1 ∧ ps.any f = false) ∨ ∃ k : Nat, i = (k : Int) ∧ ps.any f = true
set_option maxHeartbeats 1000000 in
theorem sindex_any (W : World) (A : Option Addr) (cap : Nat) (ps : List ByteArray) (hS : StrsIn W A ps) (hl : ps.length ≤ 1000000) (hz : ∀ p ∈ ps, p.size ≤ maxLen) :
    Calls Try.prog 66 #[.slice A ps.length cap, .func (.func 45) #[] #[]] W fun e w' => ∃ i : Int, e = .returned (.int .i64 i) ∧ FirstS noB ps i ∧ W = w' := by
  have hSH := Lib.hid hS
  have h1 := Lib.hid (fun (s : ByteArray) (hs : s.size ≤ maxLen) W' => res1_any s W' hs)
  have hzH := Lib.hid hz
  have eg : ∀ args w, (callFunc 45 args).run Try.prog w = .ok (.enter 45 args) w := enters_of Try.func45 (by kernel_rfl) rfl
  obtain ⟨f, hf⟩ : ∃ f : ByteArray → Bool, f = noB := ⟨_, rfl⟩
  rw [← hf]
  rw [← hf] at h1
  clear hS hf hz
  go_enter Try.func66, Try.ntmps66
  go_wp2_with fail
  go_loopw [8] (fun i wr => ∃ k : Nat, k ≤ ps.length ∧ i = .int .i64 (k : Int) ∧ (ps.take k).any f = false ∧ W = wr) (fun i _ => ps.length - (intOf i).toNat)
  case atStart => exact ⟨0, Nat.zero_le _, rfl, rfl, rfl⟩
  case round =>
    obtain ⟨k, hk, rfl, hno, rfl⟩ := hrel
    by_cases hlt : k < ps.length
    case pos =>
      have g1 : (k : Int) < (ps.length : Int) := by omega
      obtain ⟨b, off, rfl, -, s0⟩ := hSH.out.at_ hlt
      have hst : (ps.take (k + 1)).any f = f ps[k] := by rw [List.take_succ_eq_append_getElem hlt, List.any_append, hno]; simp
      have hall : f ps[k] = true → ps.any f = true := fun h => List.any_eq_true.2 ⟨_, List.getElem_mem hlt, h⟩
      have hstH := Lib.hid hst
      have hallH := Lib.hid hall
      have h1k := Lib.hid (h1.out ps[k] (hzH.out _ (List.getElem_mem hlt)))
      have hkw : IntKind.i64.wrap ((k : Int) + 1) = (k : Int) + 1 := IntWalk.i64_in _ (by omega)
      clear hno hst h1 hall
      generalize f ps[k] = v at hstH hallH h1k
      cases v
      case false =>
        go_wp2_with fail
        (with_reducible refine (h1k.out _).mono ?_)
        rintro e w1 ⟨rfl, rfl⟩
        go_wp2_with fail
        go_roundw
        case rel => exact ⟨k + 1, by omega, by first | rfl | go_num, hstH.out, trivial⟩
        case measure => simp [intOf]; omega
      case true =>
        go_wp2_with fail
        (with_reducible refine (h1k.out _).mono ?_)
        rintro e w1 ⟨rfl, rfl⟩
        go_wp2
        go_ret
        exact ⟨_, rfl, .inr ⟨k, rfl, hallH.out trivial⟩, rfl⟩
    case neg =>
      have e : k = ps.length := by omega
      subst e
      rw [List.take_length] at hno
      have hnoH := Lib.hid hno
      clear hno
      go_wp2
      go_ret
      exact ⟨-1, rfl, .inl ⟨rfl, hnoH.out⟩, rfl⟩
theorem scontains_any (W : World) (A : Option Addr) (cap : Nat) (ps : List ByteArray) (hS : StrsIn W A ps) (hl : ps.length ≤ 1000000) (hz : ∀ p ∈ ps, p.size ≤ maxLen) :
    Calls Try.prog 46 #[.slice A ps.length cap, .func (.func 45) #[] #[]] W fun e w' => e = .returned (.bool (ps.any noB)) ∧ W = w' := by
  have h1 := Lib.hid (sindex_any W A cap ps hS hl hz)
  clear hS
  obtain ⟨v, hv0⟩ : ∃ v, ps.any noB = v := ⟨_, rfl⟩
  rw [hv0]
  have hv0H := Lib.hid hv0
  clear hv0
  go_enter Try.func46, Try.ntmps46
  go_wp2_with fail
  (with_reducible refine h1.out.mono ?_)
  rintro e w1 ⟨i, rfl, hi, rfl⟩
  clear h1
  rcases hi with ⟨rfl, hv⟩ | ⟨k, rfl, hv⟩
  · go_wp2
    go_ret
    exact ⟨by rw [← hv0H.out, hv]; rfl, rfl⟩
  · go_wp2
    go_ret
    exact ⟨by rw [← hv0H.out, hv]; rfl, rfl⟩

end Go.Proofs.Ytonoanjakfaloaa
