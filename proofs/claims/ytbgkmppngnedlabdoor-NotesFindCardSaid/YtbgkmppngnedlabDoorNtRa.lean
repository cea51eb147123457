/- The document's Last of notes: the walk. -/
import Derived.Test.YtbgkmppngnedlabDoorNtRl
import Derived.Test.YtbgkmppngnedlabDoorNtRf
import Derived.BigQuiet
namespace Go.Proofs.YtbgkmppngnedlabDoor
open Go.RowKit Rec Go.Maps Crc

theorem in_takeN {W : World} {A : Option Addr} {l : List Nt} (h : ntE.In W A l) (c : Nat) : ntE.In W A (l.take c) := by
  rcases h with h0 | ⟨b, off, e, hl, hc⟩
  · left; rw [h0, List.take_nil]
  · refine .inr ⟨b, off, e, hl, fun i hi j hj => ?_⟩
    rw [List.getElem_take]
    exact hc i (by rw [List.length_take] at hi; omega) j hj
theorem in_dropN {W : World} {b : Nat} {l : List Nt} (h : ntE.In W (some ⟨b, 0, none⟩) l) (c : Nat) : ntE.In W (some ⟨b, c * 3, none⟩) (l.drop c) := by
  rcases h with h0 | ⟨b', off, e, hl, hc⟩
  · left; rw [h0, List.drop_nil]
  · injection e with e; injection e with e1 e2
    subst e1; subst e2
    refine .inr ⟨b, c * 3, rfl, hl, fun i hi j hj => ?_⟩
    rw [List.getElem_drop]
    have h1 := hc (c + i) (by rw [List.length_drop] at hi; omega) j hj
    rw [show 0 + (c + i) * ntE.k + j = c * 3 + i * ntE.k + j by show 0 + (c + i) * 3 + j = c * 3 + i * 3 + j; omega] at h1
    exact h1
theorem ap_noneN (W : World) (base : Nat) (B : Option Addr) (capB : Nat) (l : List Nt) (h : ntE.Row W base 51 B capB l) : (Builtin.append_ #[33, 33] 33 #[.slice B l.length capB, .slice none 0 0]).run Tryd.prog W = .ok (.slice B l.length capB) W := by
  have hinf := infRn
  unfold Enc.Inf at hinf
  rw [Option.map_eq_some_iff] at hinf
  obtain ⟨i0, hi, _⟩ := hinf
  exact run_append_owned_none _ base 33 33 51 i0 3 Tryd.underlying33 hi _ _ _ h
theorem rn_cells (W : World) (x : Nt) (t : TypeId) : ∀ j, j < ntE.k → (W.alloc (.cells #[.int .i64 x.r, .int .i64 x.c, .string x.p] t)).cell? ⟨W.heap.size, j, none⟩ = (ntE.c x)[j]? := fun j hj => by
  rw [World.cell?_alloc_new]
  have h3 : j < 3 := hj
  rcases (by omega : j = 0 ∨ j = 1 ∨ j = 2) with rfl | rfl | rfl <;> rfl
def RLPost (w : World) (l : List Nt) (e : Ending) (w' : World) : Prop := ∃ L A cap, LastL l L ∧ e = .returned (.slice A L.length cap) ∧ ntE.Row w' w.heap.size 51 A cap L ∧ Below w.heap.size w w'
set_option maxRecDepth 100000 in
set_option maxHeartbeats 4000000 in
theorem refLast_any (w : World) (A : Option Addr) (cap : Nat) (l : List Nt) (hI : ntE.In w A l) (hl : l.length ≤ 900000) :
    Calls Tryd.prog 11 #[.slice A l.length cap] w (RLPost w l) := by
  have hIH := Lib.hid (fun W (hb : Below w.heap.size w W) => hI.below hb)
  clear hI
  have hR0 : Hid (ntE.Row w w.heap.size 51 none 0 []) := Lib.hid (Enc.Row.nil _ _ _)
  have hB0 := Lib.hid (Below.refl w.heap.size w)
  obtain ⟨n, hn⟩ : ∃ n, l.length = n := ⟨_, rfl⟩
  rw [hn] at hl ⊢
  have hnH := Lib.hid hn
  clear hn
  go_enter Tryd.func11, Tryd.ntmps11
  go_wp2_with fail
  go_loopw [3, 4] (fun s i wr => ∃ (k nb : Nat) (B : Option Addr) (capB : Nat) (out : List Nt), k ≤ n ∧ i = .int .i64 (k : Int) ∧ s = .slice B nb capB ∧ Hid (nb = out.length) ∧ Hid (InvL l k out ∧ out.length ≤ k) ∧ Hid (ntE.Row wr w.heap.size 51 B capB out) ∧ Hid (Below w.heap.size w wr)) (fun _ i _ => n - (intOf i).toNat)
  case atStart => exact ⟨0, 0, none, 0, [], Nat.zero_le _, rfl, rfl, Lib.hid rfl, Lib.hid ⟨InvL.start l, Nat.le_refl _⟩, hR0, hB0⟩
  case round =>
    clear hR0 hB0
    obtain ⟨k, nb, B, capB, out, hkn, rfl, rfl, hnb, hV, hR, hB⟩ := hrel
    by_cases hlt : k < n
    case neg =>
      have hnI : ¬ (k : Int) < (n : Int) := by omega
      have hLL : LastL l out := InvL.last (by have h := hV.out.1; rwa [show k = l.length by rw [hnH.out]; omega] at h)
      have hLH := Lib.hid hLL
      clear hLL hV
      go_wp2_with fail
      go_ret
      exact ⟨out, B, capB, hLH.out, by rw [hnb.out]; rfl, hR.out, hB.out⟩
    case pos =>
      have hkl : k < l.length := by rw [hnH.out]; exact hlt
      have hlI : (k : Int) < (n : Int) := by omega
      have hkw : IntKind.i64.wrap ((k : Int) + 1) = (k : Int) + 1 := IntWalk.i64_in _ (by omega)
      obtain ⟨K, hK⟩ : ∃ K : Nat, k + 1 = K := ⟨_, rfl⟩
      have hKI : (k : Int) + 1 = (K : Int) := by omega
      rw [hKI] at hkw
      go_upto_region 7 with fail
      go_loopw [5, 6] (fun s i wr => ∃ (b : Bool) (j : Nat), K ≤ j ∧ j ≤ n ∧ i = .int .i64 (j : Int) ∧ s = .bool b ∧ Hid (b = true ↔ ∃ (q : Nat) (hq : q < l.length), k < q ∧ q < j ∧ l[q].r = l[k].r) ∧ Hid (ntE.Row wr w.heap.size 51 B capB out) ∧ Hid (Below w.heap.size w wr)) (fun _ i _ => n - (intOf i).toNat)
      case atStart => exact ⟨false, K, Nat.le_refl _, by omega, rfl, rfl, Lib.hid ⟨fun h => (by cases h), fun ⟨q, hq, h1, h2, h3⟩ => by omega⟩, hR, hB⟩
      case round =>
        clear hR hB
        obtain ⟨b, j, hKj, hjn, rfl, rfl, hb, hR, hB⟩ := hrel
        by_cases hlt2 : j < n
        case pos =>
          have hjl : j < l.length := by rw [hnH.out]; exact hlt2
          have hjI : (j : Int) < (n : Int) := by omega
          have hjw : IntKind.i64.wrap ((j : Int) + 1) = (j : Int) + 1 := IntWalk.i64_in _ (by omega)
          obtain ⟨t, ht⟩ : ∃ t : Bool, (t = true ↔ ∃ (q : Nat) (hq : q < l.length), k < q ∧ q < j + 1 ∧ l[q].r = l[k].r) := ⟨decide (∃ (q : Nat) (hq : q < l.length), k < q ∧ q < j + 1 ∧ l[q].r = l[k].r), by simp⟩
          have htH := Lib.hid ht
          have hR8 := Lib.hid (fun m => hR.out.below (below_drewN (Below.refl _ wr) m))
          have hB8 := Lib.hid (fun m => bmore hB.out (below_drewN (Below.refl _ wr) m))
          obtain ⟨g, off, e8, _, n0, _, _⟩ := nt_at (hIH.out wr hB.out) hjl
          obtain ⟨g9, o9, e9, _, q0, _, _⟩ := nt_at (hIH.out wr hB.out) hkl
          subst e8
          injection e9 with e9
          injection e9 with e9 e10
          subst e9
          subst e10
          clear ht hB hR
          cases b with
          | true =>
            have hte : t = true := by
              obtain ⟨q, hq, h1, h2, h3⟩ := hb.out.1 rfl
              exact htH.out.2 ⟨q, hq, h1, by omega, h3⟩
            subst hte
            have hex : Hid (∃ (q : Nat) (hq : q < l.length), k < q ∧ q < j + 1 ∧ l[q].r = l[k].r) := Lib.hid (htH.out.1 rfl)
            clear n0 q0 hb htH
            go_wp2_with fail
            go_quiet (fail)
            go_wp2_with fail
            first
              | exact ⟨⟨true, j + 1, by omega, by omega, by go_num, rfl, Lib.hid ⟨fun _ => hex.out, fun _ => rfl⟩, Lib.hid (hR8.out _), Lib.hid (hB8.out _)⟩, by simp only [intOf]; omega⟩
              | (go_roundw
                 case rel => exact ⟨true, j + 1, by omega, by omega, by go_num, rfl, Lib.hid ⟨fun _ => hex.out, fun _ => rfl⟩, Lib.hid (hR8.out _), Lib.hid (hB8.out _)⟩
                 case measure => simp only [intOf]; omega)
          | false =>
            have hte : t = (l[j].r == l[k].r) := by
              rw [Bool.eq_iff_iff, htH.out, beq_iff_eq]
              constructor
              · rintro ⟨q, hq, h1, h2, h3⟩
                by_cases he : q = j
                · subst he; exact h3
                · exact absurd (hb.out.2 ⟨q, hq, h1, by omega, h3⟩) (by simp)
              · intro h
                exact ⟨j, hjl, by omega, by omega, h⟩
            have hteH := Lib.hid hte
            generalize l[j] = x at n0 hteH hte
            generalize hyk : l[k] = y at q0 hteH hte
            clear hte hb
            have hyH := Lib.hid hyk
            clear hyk
            by_cases he : x.r = y.r
            case pos =>
              have hte : t = true := by rw [hteH.out]; simp [he]
              have hbb : (x.r == y.r) = true := by simp [he]
              subst hte
              have hex : Hid (∃ (q : Nat) (hq : q < l.length), k < q ∧ q < j + 1 ∧ l[q].r = y.r) := Lib.hid (by rw [← hyH.out]; exact htH.out.1 rfl)
              clear he hteH htH
              go_wp2_with fail
              go_quiet (fail)
              clear hbb
              go_wp2_with fail
              first
                | exact ⟨⟨true, j + 1, by omega, by omega, by go_num, rfl, Lib.hid ⟨fun _ => hex.out, fun _ => rfl⟩, Lib.hid (hR8.out _), Lib.hid (hB8.out _)⟩, by simp only [intOf]; omega⟩
                | (go_roundw
                   case rel => exact ⟨true, j + 1, by omega, by omega, by go_num, rfl, Lib.hid ⟨fun _ => hex.out, fun _ => rfl⟩, Lib.hid (hR8.out _), Lib.hid (hB8.out _)⟩
                   case measure => simp only [intOf]; omega)
            case neg =>
              have hte : t = false := by rw [hteH.out]; simp [he]
              have hbb : (x.r == y.r) = false := by simp [he]
              subst hte
              have hex : Hid (¬ (∃ (q : Nat) (hq : q < l.length), k < q ∧ q < j + 1 ∧ l[q].r = y.r)) := Lib.hid (by rw [← hyH.out]; exact fun h => absurd (htH.out.2 h) (by simp))
              clear he hteH htH
              go_wp2_with fail
              go_quiet (fail)
              clear hbb
              go_wp2_with fail
              first
                | exact ⟨⟨false, j + 1, by omega, by omega, by go_num, rfl, Lib.hid ⟨fun h => (by cases h), fun h => absurd h hex.out⟩, Lib.hid (hR8.out _), Lib.hid (hB8.out _)⟩, by simp only [intOf]; omega⟩
                | (go_roundw
                   case rel => exact ⟨false, j + 1, by omega, by omega, by go_num, rfl, Lib.hid ⟨fun h => (by cases h), fun h => absurd h hex.out⟩, Lib.hid (hR8.out _), Lib.hid (hB8.out _)⟩
                   case measure => simp only [intOf]; omega)
        case neg =>
          have hnj : ¬ (j : Int) < (n : Int) := by omega
          have hje : j = n := by omega
          cases b with
          | true =>
            have hV2 : Hid (InvL l K out ∧ out.length ≤ K) := Lib.hid (by
              obtain ⟨q, hq, h1, h2, h3⟩ := hb.out.1 rfl
              rw [← hK]
              exact ⟨hV.out.1.skip hkl ⟨q, hq, h1, h3⟩, by have := hV.out.2; omega⟩)
            clear hb hV
            go_wp2_with fail
            first
              | exact ⟨⟨K, nb, B, capB, out, by omega, by go_num, rfl, hnb, hV2, hR, hB⟩, by simp only [intOf]; omega⟩
              | (go_roundw
                 case rel => exact ⟨K, nb, B, capB, out, by omega, by go_num, rfl, hnb, hV2, hR, hB⟩
                 case measure => simp only [intOf]; omega)
          | false =>
            have hno : Hid (∀ (q : Nat) (hq : q < l.length), k < q → l[q].r ≠ l[k].r) := Lib.hid (fun q hq h1 h2 => by
              exact absurd (hb.out.2 ⟨q, hq, h1, by have := hnH.out; omega, h2⟩) (by simp))
            clear hb
            go_upto_region 12 with fail
            go_loopw [7] (fun i wr => ∃ (p : Nat), p ≤ nb ∧ i = .int .i64 (p : Int) ∧ Hid (∀ (q : Nat) (hq : q < out.length), q < p → out[q].r < l[k].r) ∧ Hid (ntE.Row wr w.heap.size 51 B capB out) ∧ Hid (Below w.heap.size w wr)) (fun i _ => nb - (intOf i).toNat)
            case atStart => exact ⟨0, Nat.zero_le _, rfl, Lib.hid (fun q hq h => absurd h (Nat.not_lt_zero _)), hR, hB⟩
            case round =>
              clear hR hB
              obtain ⟨p, hpn, rfl, hlo, hR, hB⟩ := hrel
              obtain ⟨t, ht⟩ : ∃ t : Bool, (t = true ↔ ∃ (hq : p < out.length), out[p].r < l[k].r) := ⟨decide (∃ (hq : p < out.length), out[p].r < l[k].r), by simp⟩
              have htH := Lib.hid ht
              clear ht
              have hB8 : Hid (∀ m, Below wr.heap.size wr (wr.drewN m)) := Lib.hid (fun m => below_drewN (Below.refl _ wr) m)
              go_upto_region 12 with fail
              go_cut [54] from 38 to 56 (fun c wx => c = .bool t ∧ Hid (Below wr.heap.size wr wx))
              case first =>
                obtain ⟨g9, o9, e9, _, q0, _, _⟩ := nt_at (hIH.out wr hB.out) hkl
                subst e9
                by_cases hpb : p < nb
                case neg =>
                  have hf : t = false := by cases t with
                    | false => rfl
                    | true => exact absurd (htH.out.1 rfl) (fun ⟨h, _⟩ => by have := hnb.out; omega)
                  have hpI : ¬ (p : Int) < (nb : Int) := by omega
                  subst hf
                  clear q0
                  go_wp2_with fail
                  go_quiet (fail)
                  go_wp2_with fail
                  go_meet
                  exact ⟨rfl, Lib.hid (hB8.out _)⟩
                case pos =>
                  have hpI : (p : Int) < (nb : Int) := by omega
                  have hpo : p < out.length := by have := hnb.out; omega
                  obtain ⟨g8, o8, e8, _, n0, _, _⟩ := nt_at hR.out.in_ hpo
                  subst e8
                  have hteH : Hid (t = decide (out[p].r < l[k].r)) := Lib.hid (by
                    rw [Bool.eq_iff_iff, htH.out, decide_eq_true_eq]
                    exact ⟨fun ⟨_, h⟩ => h, fun h => ⟨hpo, h⟩⟩)
                  generalize out[p] = x at n0 hteH
                  generalize hyk : l[k] = y at q0 hteH
                  clear hyk
                  go_wp2_with fail
                  go_quiet (fail)
                  go_wp2_with fail
                  go_meet
                  exact ⟨by rw [hteH.out], Lib.hid (hB8.out _)⟩
              case rest =>
                obtain ⟨rfl, hbx⟩ := hcut
                have hR2 := Lib.hid (hR.out.below hbx.out)
                have hB2 := Lib.hid (bmore hB.out hbx.out)
                clear hR hB hbx hB8
                cases t with
                | true =>
                  obtain ⟨hpo, hpr⟩ := htH.out.1 rfl
                  have hpb : p < nb := by have := hnb.out; omega
                  have hlo2 : Hid (∀ (q : Nat) (hq : q < out.length), q < p + 1 → out[q].r < l[k].r) := Lib.hid (fun q hq h => by
                    by_cases he : q = p
                    · subst he; exact hpr
                    · exact hlo.out q hq (by omega))
                  have hpw : IntKind.i64.wrap ((p : Int) + 1) = (p : Int) + 1 := IntWalk.i64_in _ (by have := hV.out.2; have := hnb.out; omega)
                  clear hpr htH hlo
                  go_wp2_with fail
                  first
                    | exact ⟨⟨p + 1, by omega, by go_num, hlo2, hR2, hB2⟩, by simp only [intOf]; omega⟩
                    | (go_roundw
                       case rel => exact ⟨p + 1, by omega, by go_num, hlo2, hR2, hB2⟩
                       case measure => simp only [intOf]; omega)
                | false =>
                  have hV2 : Hid (InvL l K (out.take p ++ l[k] :: out.drop p) ∧ (out.take p ++ l[k] :: out.drop p).length ≤ K) := Lib.hid (by
                    rw [← hK]
                    refine ⟨hV.out.1.put hkl hno.out (by have := hnb.out; omega) hlo.out (fun hq h => ?_), ?_⟩
                    · exact absurd (htH.out.2 ⟨hq, h⟩) (by simp)
                    · rw [List.length_append, List.length_cons, List.length_take, List.length_drop]
                      have := hV.out.2
                      have := hnb.out
                      omega)
                  have hnbk : nb ≤ k := by have := hV.out.2; have := hnb.out; omega
                  have hform := Lib.hid hR2.out.form
                  have hin0 := Lib.hid hR2.out.in_
                  have hpnH := Lib.hid hpn
                  have hnbkH := Lib.hid hnbk
                  clear htH hlo hno hV
                  obtain ⟨y, hy⟩ : ∃ y, l[k] = y := ⟨_, rfl⟩
                  have hV3 : Hid (InvL l K (out.take p ++ [y] ++ out.drop p) ∧ (out.take p ++ [y] ++ out.drop p).length ≤ K) := Lib.hid (by rw [List.append_assoc, List.singleton_append, ← hy]; exact hV2.out)
                  have htl : Hid ((out.take p).length = p) := Lib.hid (by rw [List.length_take]; have := hnb.out; omega)
                  have hdl : Hid ((out.drop p).length = nb - p) := Lib.hid (by rw [List.length_drop]; have := hnb.out; omega)
                  have hyH := Lib.hid hy
                  clear hV2 hy
                  generalize wc = w5 at hR2 hB2 hform hin0 ⊢
                  have hBr : Hid (Below w5.heap.size w5 w5) := Lib.hid (Below.refl _ _)
                  go_upto_region 15 with fail
                  go_cut [8] from 57 to 61 (fun v8 wx => ∃ (B' : Option Addr) (cap' : Nat), v8 = .slice B' p cap' ∧ Hid (ntE.Row wx w5.heap.size 51 B' cap' (out.take p)) ∧ Hid (Below w5.heap.size w5 wx))
                  case first =>
                    rcases hform.out with ⟨rfl, rfl, hla⟩ | ⟨g, rfl, _, hgl, hlc⟩
                    case inl =>
                      have hn0 : nb = 0 := by rw [hnb.out, hla]; rfl
                      have hp0 : p = 0 := by have := hpnH.out; omega
                      have hrun := Lib.hid (ap_noneN w5 w5.heap.size none 0 [] (Enc.Row.nil _ _ _))
                      have hfin : Hid (ntE.Row w5 w5.heap.size 51 none 0 (out.take 0)) := Lib.hid (by rw [List.take_zero]; exact Enc.Row.nil _ _ _)
                      clear hnb hla hpn hnbk
                      subst hn0
                      subst hp0
                      go_wp2_with (at_builtin; refine append_run_wp rfl _ _ _ rfl rfl rfl hrun.out ?_; clear hrun)
                      go_meet
                      exact ⟨none, 0, rfl, hfin, hBr⟩
                    case inr =>
                      have hcc : p ≤ capB := by have := hpnH.out; have := hnb.out; omega
                      have hccI : (p : Int) ≤ (capB : Int) := by omega
                      have hccN : ¬ (capB : Int) < (p : Int) := by omega
                      have hin : ntE.In w5 (some ⟨g, 0, none⟩) (out.take p) := in_takeN hin0.out p
                      obtain ⟨B', cap', W6, hrun, hrow, hgr, _⟩ := (Enc.Row.nil (E := ntE) w5 w5.heap.size 51).concat (P := Tryd.prog) Tryd.underlying33 infRn (by decide) (by decide) (ad := ⟨g, 0, none⟩) (c2 := capB) (ys := out.take p) hin (by show 0 ≤ 1000000; omega) (by rw [htl.out]; have := hpnH.out; have := hnbkH.out; omega) (Nat.le_refl _) 33
                      rw [htl.out] at hrun
                      rw [List.nil_append] at hrow
                      have hrun2 : (Builtin.append_ #[33, 33] 33 #[.slice none 0 0, .slice (some ⟨g, 0, none⟩) p capB]).run Tryd.prog w5 = .ok (.slice B' p cap') W6 := by
                        have h1 := hrun
                        rw [List.length_nil, Nat.zero_add] at h1
                        exact h1
                      have hrunH := Lib.hid hrun2
                      have hrowH := Lib.hid hrow
                      have hB6 := Lib.hid ((Enc.Row.nil (E := ntE) w5 w5.heap.size 51).grown hgr (Nat.le_refl _))
                      clear hrun hrow hgr hin hrun2
                      go_wp2_with (at_builtin; refine append_run_wp rfl _ _ _ rfl rfl rfl hrunH.out ?_; clear hrunH)
                      go_meet
                      exact ⟨B', cap', rfl, hrowH, hB6⟩
                  case rest =>
                    obtain ⟨B', cap', rfl, hRb, hBb⟩ := hcut
                    obtain ⟨g9, o9, e9, _, n0, n1, n2⟩ := nt_at (hIH.out wc (bmore hB2.out hBb.out)) hkl
                    rw [hyH.out] at n0 n1 n2
                    subst e9
                    have hal := (Below.refl wc.heap.size wc).alloc (Nat.le_refl _) (.cells #[.int .i64 y.r, .int .i64 y.c, .string y.p] 51)
                    have hR3 := hRb.out.below hal
                    have hB3 := bmore hBb.out hal
                    obtain ⟨A3, cap3, W6, hrun6, hR6, hG6, _⟩ := hR3.append (P := Tryd.prog) Tryd.underlying33 infRn (by decide) (by decide) (m := wc.heap.size) (x := y) (rn_cells wc y 51) (by rw [htl.out]; have := hpnH.out; have := hnbkH.out; omega) hB3.size 33
                    rw [htl.out] at hrun6
                    have hrun6H := Lib.hid hrun6
                    have hB6 := Lib.hid (hB3.trans (hR3.grown hG6 hB3.size))
                    have hR6H := Lib.hid hR6
                    clear hrun6 hR6 hG6 hR3 hB3 hal hRb hBb hBr
                    go_upto_region 17 with (at_builtin; refine append_run_wp rfl _ _ _ rfl rfl rfl hrun6H.out ?_; clear hrun6H)
                    clear n0 n1 n2
                    have hl1 : (out.take p ++ [y]).length = p + 1 := by rw [List.length_append, htl.out]; rfl
                    rcases hform.out with ⟨rfl, rfl, hla⟩ | ⟨g, rfl, _, hgl, hlc⟩
                    case inl =>
                      have hn0 : nb = 0 := by rw [hnb.out, hla]; rfl
                      have hp0 : p = 0 := by have := hpnH.out; omega
                      have hrun := ap_noneN W6 w5.heap.size A3 cap3 (out.take p ++ [y]) hR6H.out
                      rw [hl1] at hrun
                      have hrunH := Lib.hid hrun
                      have hd0 : out.drop p = [] := by rw [hla]; exact List.drop_nil
                      have hn3 : Hid (p + 1 = (out.take p ++ [y] ++ out.drop p).length) := Lib.hid (by rw [hd0, List.append_nil, hl1])
                      have hfin : Hid (ntE.Row W6 w.heap.size 51 A3 cap3 (out.take p ++ [y] ++ out.drop p)) := Lib.hid (by rw [hd0, List.append_nil]; exact hR6H.out.mono hB2.out.size)
                      have hbf := Lib.hid (bmore hB2.out hB6.out)
                      clear hrun hd0 hla hl1 hnb hdl htl hpn hnbk
                      subst hn0
                      subst hp0
                      go_wp2_with (at_builtin; refine append_run_wp rfl _ _ _ rfl rfl rfl hrunH.out ?_; clear hrunH)
                      first
                        | exact ⟨⟨K, 1, A3, cap3, _, by omega, by go_num, rfl, hn3, hV3, hfin, hbf⟩, by simp only [intOf]; omega⟩
                        | (go_roundw
                           case rel => exact ⟨K, 1, A3, cap3, _, by omega, by go_num, rfl, hn3, hV3, hfin, hbf⟩
                           case measure => simp only [intOf]; omega)
                    case inr =>
                      have hcap : nb ≤ capB := by have := hnb.out; omega
                      have hin6 : ntE.In W6 (some ⟨g, 0, none⟩) out := hin0.out.below hB6.out
                      obtain ⟨nd, hnd⟩ : ∃ nd, nb - p = nd := ⟨_, rfl⟩
                      have hdl2 : (out.drop p).length = nd := by rw [hdl.out, hnd]
                      have hnbk2 := hnbkH.out
                      have hpn2 := hpnH.out
                      by_cases hcc : capB = p
                      case pos =>
                        have hd0 : out.drop p = [] := List.drop_eq_nil_of_le (by have := hnb.out; omega)
                        have hkc : nb = p := by omega
                        have hin : ntE.In W6 (some ⟨g, 0, none⟩) (out.drop p) := by rw [hd0]; exact .inl rfl
                        obtain ⟨B3, cap4, W7, hrun, hrow, hgr, _⟩ := hR6H.out.concat (P := Tryd.prog) Tryd.underlying33 infRn (by decide) (by decide) (ad := ⟨g, 0, none⟩) (c2 := 0) (ys := out.drop p) hin (by rw [hl1]; omega) (by rw [hdl2]; omega) hB6.out.size 33
                        rw [hl1, hd0] at hrun
                        have hrunH := Lib.hid (show (Builtin.append_ #[33, 33] 33 #[.slice A3 (p + 1) cap3, .slice (some ⟨g, 0, none⟩) 0 0]).run Tryd.prog W6 = .ok (.slice B3 (p + 1) cap4) W7 from hrun)
                        have hrowH := Lib.hid (hrow.mono hB2.out.size)
                        have hn3 : Hid (p + 1 = (out.take p ++ [y] ++ out.drop p).length) := Lib.hid (by rw [hd0, List.append_nil, hl1])
                        have hB7 := Lib.hid (bmore hB2.out (hB6.out.trans (hR6H.out.grown hgr hB6.out.size)))
                        clear hrun hrow hgr hin hdl2 hd0 hin6 hR6H hnb hnd hl1 hdl htl hpn hnbk hnbk2 hpn2
                        subst hkc
                        subst hcc
                        go_wp2_with (at_builtin; refine append_run_wp rfl _ _ _ rfl rfl rfl hrunH.out ?_; clear hrunH)
                        first
                          | exact ⟨⟨K, _, B3, cap4, _, by omega, by go_num, rfl, hn3, hV3, hrowH, hB7⟩, by simp only [intOf]; omega⟩
                          | (go_roundw
                             case rel => exact ⟨K, _, B3, cap4, _, by omega, by go_num, rfl, hn3, hV3, hrowH, hB7⟩
                             case measure => simp only [intOf]; omega)
                      case neg =>
                        have hin : ntE.In W6 (some ⟨g, p * 3, none⟩) (out.drop p) := in_dropN hin6 p
                        obtain ⟨cd, hcd⟩ : ∃ cd, capB - p = cd := ⟨_, rfl⟩
                        obtain ⟨B3, cap4, W7, hrun, hrow, hgr, _⟩ := hR6H.out.concat (P := Tryd.prog) Tryd.underlying33 infRn (by decide) (by decide) (ad := ⟨g, p * 3, none⟩) (c2 := cd) (ys := out.drop p) hin (by rw [hl1]; omega) (by rw [hdl2]; omega) hB6.out.size 33
                        have hn3 : Hid (p + 1 + (nb - p) = (out.take p ++ [y] ++ out.drop p).length) := Lib.hid (by rw [List.length_append, hdl.out, hl1])
                        rw [hl1, hdl2] at hrun
                        rw [← hnd, ← hcd] at hrun
                        have hrunH := Lib.hid hrun
                        have hrowH := Lib.hid (hrow.mono hB2.out.size)
                        have hB7 := Lib.hid (bmore hB2.out (hB6.out.trans (hR6H.out.grown hgr hB6.out.size)))
                        have i1 : (p : Int) ≤ (nb : Int) := by omega
                        have i2 : (nb : Int) ≤ (capB : Int) := by omega
                        have i3 : p ≤ capB := by omega
                        clear hrun hrow hgr hin hdl2 hin6 hR6H hnb hnd hcd hl1 hdl htl
                        go_wp2_with (at_builtin; refine append_run_wp rfl _ _ _ rfl rfl rfl hrunH.out ?_; clear hrunH)
                        first
                          | exact ⟨⟨K, p + 1 + (nb - p), B3, cap4, _, by omega, by go_num, rfl, hn3, hV3, hrowH, hB7⟩, by simp only [intOf]; omega⟩
                          | (go_roundw
                             case rel => exact ⟨K, p + 1 + (nb - p), B3, cap4, _, by omega, by go_num, rfl, hn3, hV3, hrowH, hB7⟩
                             case measure => simp only [intOf]; omega)
end Go.Proofs.YtbgkmppngnedlabDoor
