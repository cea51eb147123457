/- What Source of tail does with a block that there is. -/
import Derived.Test.YtdjdldcpaidmnaaTlSr
import Derived.Test.YtdjdldcpaidmnaaFreshC
namespace Go.Proofs.Ytdjdldcpaidmnaa
open Go.RowKit Tl

/-- The cases of a source. -/
theorem src_in {D zone : Int} {v : Vw} {block row idx s par : Int} {r : Nat} {la : Int} (h1 : block / (D - 1) = row) (h2 : block % (D - 1) = idx) (h3 : slotK D zone row idx.toNat = s) (h4 : (zone + row) % D = par) (h5 : reach v D zone row = r) (h6 : lastI (useP row idx (r : Int)) v.ns = la) :
    srcIn D zone v block = if hasB v row s = true then (1, 0) else if s ≠ v.m then (0, 0) else if (r : Int) = D - 1 ∧ hasB v row par = true then (2, 0) else if la < 0 then (0, 0) else (3, la) := by
  have e : noteP v D zone row idx = useP row idx (r : Int) := by
    funext n
    unfold noteP useP
    rw [h5]
  unfold srcIn
  rw [h1, h2, h3, h4, h5, e, h6]
theorem num_wraps {D block idx : Int} {n : Nat} (hD : 3 ≤ D ∧ D ≤ 16) (hn : (n : Int) = D - 1) (hb : 0 ≤ block ∧ block ≤ 4000) (hi : block % (D - 1) = idx) (h0 : 0 ≤ idx) (h1 : idx ≤ D - 2) : wrap64 (D - 1) = (n : Int) ∧ IntKind.i64.wrap (D - 1) = (n : Int) ∧ block.tmod (n : Int) = idx ∧ IntKind.i64.wrap idx = idx ∧ wrap64 idx = idx := by
  refine ⟨?_, ?_, ?_, IntWalk.i64_in _ (by omega), IntWalk.wrap64_in _ (by omega)⟩
  · rw [IntWalk.wrap64_in _ (by omega)]; omega
  · rw [IntWalk.i64_in _ (by omega)]; omega
  · rw [hn, Int.tmod_eq_emod_of_nonneg hb.1]; exact hi
theorem store_func (W : World) (t : TypeId) (fv : Value) (h1 : fv.oneCell' = true) (m : Mode) : (store ⟨W.heap.size, 0, none⟩ fv m).run Try.prog (W.alloc (.cells #[.nilFunc] t)) = .ok () (W.alloc (.cells #[fv] t)) := by
  have hc := (Boxed.new W t .nilFunc).cell
  have hf := (Boxed.new W t .nilFunc).frozen
  rw [run_store _ _ _ _ _ h1, hc]
  simp only [hf]
  go_simp
/-- The boxes of Source up to the closure's. -/
structure Sr6 (w W : World) (br bh : Nat) (D Z Bk O Ac zone : Int) (A : Option Addr) (ca : Nat) (B : Option Addr) (cb : Nat) (v : Vw) (block row : Int) : Prop where
  s : Sr4 w W D Z Bk O Ac zone A ca B cb v block
  r : W.cell? ⟨br, 0, none⟩ = some (.int .i64 row)
  h : W.cell? ⟨bh, 0, none⟩ = some (.func (.func 41) #[] #[.pointer (some ⟨w.heap.size + 2, 0, none⟩), .pointer (some ⟨br, 0, none⟩)])
theorem Sr6.below {w W W' : World} {br bh : Nat} {D Z Bk O Ac zone : Int} {A : Option Addr} {ca : Nat} {B : Option Addr} {cb : Nat} {v : Vw} {block row : Int} (h : Sr6 w W br bh D Z Bk O Ac zone A ca B cb v block row) (hb : Below W.heap.size W W') : Sr6 w W' br bh D Z Bk O Ac zone A ca B cb v block row :=
  ⟨h.s.below hb, keepC h.r hb, keepC h.h hb⟩
set_option maxRecDepth 100000 in
set_option maxHeartbeats 4000000 in
theorem source_yes (D Z Bk O Ac zone : Int) (A : Option Addr) (ca : Nat) (B : Option Addr) (cb : Nat) (v : Vw) (block : Int) (w : World) (h : VwIn w A B v) (hl : v.ls.length ≤ 1000000) (hnl : v.ns.length ≤ 1000000) (hp : plB D Z Bk O Ac zone block = true) (hv : okB D Bk v = true) :
    Calls Try.prog 14 #[.agg #[.int .i64 D, .int .i64 Z, .int .i64 Bk, .int .i64 O, .int .i64 Ac], .int .i64 zone, .agg #[.slice A v.ls.length ca, .int .i64 v.m, .slice B v.ns.length cb], .int .i64 block] w (SrPost w (srcIn D zone v block)) := by
  obtain ⟨hg, z1, z2, b1, b2⟩ := plB_true hp
  obtain ⟨e1, e2⟩ := slot_pl hp
  have hrow := row_bd hg.1 b1 b2
  have hD : 3 ≤ D ∧ D ≤ 16 := ⟨hg.1, hg.2.1⟩
  have hsb := slotK_bd (zone := zone) (row := block / (D - 1)) (show 0 < D by omega) (block % (D - 1)).toNat
  have hpb : 0 ≤ (zone + block / (D - 1)) % D ∧ (zone + block / (D - 1)) % D < D := ⟨Int.emod_nonneg _ (by omega), Int.emod_lt_of_pos _ (by omega)⟩
  obtain ⟨hvl, hm1, hm2, -⟩ := okB_iff hv
  have hCb := mul_bd (a := D - 1) (b := Bk) (m := 15) (n := 256) (by omega) (by omega) (by have := hg.2.2.2.2.1; omega) (by have := hg.2.2.2.2.2.1; omega)
  have hbb : 0 ≤ block ∧ block ≤ 4000 := ⟨b1, by omega⟩
  have hpl := fun W => place_any D Z Bk O Ac zone block W
  rw [e1, e2, hp] at hpl
  have hva := Lib.hid (fun W (h : VwIn W A B v) => valid_any12 D Z Bk O Ac A ca B cb v W h hl)
  rw [hv] at hva
  have hpr := fun W => parity_any D Z Bk O Ac zone (block / (D - 1)) W
  rw [parV_good hg z1 z2 hrow.1 hrow.2.1] at hpr
  obtain ⟨n, hn⟩ : ∃ n : Nat, (n : Int) = D - 1 := ⟨(D - 1).toNat, by omega⟩
  have hnt : (D - 1).toNat = n := by omega
  have hs2 := fun (br bh bi : Nat) (k : Nat) (hk : k < n) W (h : SrcB W w.heap.size (w.heap.size + 1) (w.heap.size + 2) (w.heap.size + 3) br bh bi D Z Bk O Ac zone A ca B cb v block (block / (D - 1)) (block % (D - 1))) => s2_any hp hv (k := k) (by omega) W h
  have hreach : reach v D zone (block / (D - 1)) = lead (fun k => decide (slotK D zone (block / (D - 1)) k = v.m) || hasB v (block / (D - 1)) (slotK D zone (block / (D - 1)) k)) n := by unfold reach; rw [hnt]
  have hpk : ∃ pk : Nat → Bool, pk = fun k => decide (slotK D zone (block / (D - 1)) k = v.m) || hasB v (block / (D - 1)) (slotK D zone (block / (D - 1)) k) := ⟨_, rfl⟩
  obtain ⟨pk, hpk⟩ := hpk
  have hs2' := fun (br bh bi : Nat) (k : Nat) (hk : k < n) W h => by
    have := hs2 br bh bi k hk W h
    rw [show (decide (slotK D zone (block / (D - 1)) k = v.m) || hasB v (block / (D - 1)) (slotK D zone (block / (D - 1)) k)) = pk k by rw [hpk]] at this
    exact this
  rw [← hpk] at hreach
  clear hs2 hpk
  obtain ⟨row, hrw⟩ : ∃ row, block / (D - 1) = row := ⟨_, rfl⟩
  obtain ⟨idx, hix⟩ : ∃ idx, block % (D - 1) = idx := ⟨_, rfl⟩
  rw [hrw] at hpl hpr hs2' hreach hsb hpb hrow
  rw [hix] at hpl hs2' hsb hrow
  obtain ⟨s, hs⟩ : ∃ s, slotK D zone row idx.toNat = s := ⟨_, rfl⟩
  obtain ⟨par, hpar⟩ : ∃ par, (zone + row) % D = par := ⟨_, rfl⟩
  rw [hs] at hpl hsb
  rw [hpar] at hpr hpb
  obtain ⟨r, hr⟩ : ∃ r, lead pk n = r := ⟨_, rfl⟩
  have hrn : r ≤ n := by rw [← hr]; exact lead_le pk n
  rw [hr] at hreach
  obtain ⟨la, hla⟩ : ∃ la, lastI (useP row idx (r : Int)) v.ns = la := ⟨_, rfl⟩
  obtain ⟨rs, hrs⟩ : ∃ rs, srcIn D zone v block = rs := ⟨_, rfl⟩
  rw [hrs]
  rw [src_in hrw hix hs hpar hreach hla] at hrs
  have hrsH := Lib.hid hrs
  clear hrs
  have hfi := Lib.hid (fun W x1 x2 x3 x4 x5 x6 (R : World → Prop) (hR : ∀ W W', R W → Below W.heap.size W W' → R W') (hw : R W) hc => firstS_any n (by omega) x1 x2 x3 x4 x5 x6 pk R hR W hw hc)
  rw [hr] at hfi
  have hlb := Lib.hid (fun W br bi bc (hI : VwIn W A B v) h1 h2 h3 => last_any B cb v.ns row idx (r : Int) br bi bc W hI.ns h1 h2 h3 hnl)
  rw [hla] at hlb
  have hwr := Lib.hid (num_wraps hD hn hbb hix hrow.2.2.1 hrow.2.2.2)
  have hh := Lib.hid (fun (x : Int) (hx : x = v.m ∨ (0 ≤ x ∧ x < D)) (br bv : Nat) W (h1 : VwB W bv A ca B cb v) (h2 : W.cell? ⟨br, 0, none⟩ = some (.int .i64 row)) => has_any12 v W bv br A ca B cb row x h1 h2 (by rw [hvl]; exact hx))
  have hs2H := Lib.hid hs2'
  have hplH := Lib.hid hpl
  have hprH := Lib.hid hpr
  have hN := Lib.hid (Sr4.new D Z Bk O Ac zone (ca := ca) (cb := cb) block h)
  have hsD := Lib.hid (And.intro hsb hpb)
  have hnD := Lib.hid hn
  have hnne : ¬ ((n : Int) = 0) ∧ ¬ ((n : Int) = -1) ∧ ¬ (n = 0) := by omega
  obtain ⟨ne1, ne2, ne3⟩ := hnne
  have hrnH := Lib.hid hrn
  have eg33 : ∀ args w, (callFunc 41 args).run Try.prog w = .ok (.enter 41 args) w := enters_of Try.func41 (by kernel_rfl) rfl
  clear h hl hnl hp hv hg z1 z2 b1 b2 e1 e2 hrow hD hsb hpb hvl hm1 hm2 hCb hbb hpl hpr hn hnt hs2' hreach hrw hix hs hpar hr hrn hla
  go_enter Try.func14, Try.ntmps14
  go_upto_region 1 with fail
  refine fresh_world (fun W => Sr4 w W D Z Bk O Ac zone A ca B cb v block) hN.out ?_
  clear hN
  rintro W1 hW1
  have hW1H := Lib.hid hW1
  obtain ⟨g0, g1, g2, g3, g4, _⟩ := hW1.g
  have y1 := hW1.z
  have y2 := hW1.b
  clear hW1
  go_wp2_with fail
  (with_reducible refine (hplH.out _).mono ?_)
  rintro e w2 ⟨rfl, hb2⟩
  have hW2 := hW1H.out.below hb2
  have hW2H := Lib.hid (hW2.below ((Below.refl _ _).alloc (Nat.le_refl _) (.cells #[.int .i64 row] 3)))
  have hR2 := Lib.hid (Boxed.new w2 3 (.int .i64 row)).cell
  clear hW1H hb2 g0 g1 g2 g3 g4 y1 y2 hW2
  go_upto_region 2 with fail
  generalize w2.heap.size = br at hR2 ⊢
  refine fresh_world (fun W => Sr4 w W D Z Bk O Ac zone A ca B cb v block ∧ W.cell? ⟨br, 0, none⟩ = some (.int .i64 row)) ⟨hW2H.out, hR2.out⟩ ?_
  clear hW2H hR2
  rintro W3 ⟨hW3, hR3⟩
  have hW3H := Lib.hid hW3
  have hR3H := Lib.hid hR3
  obtain ⟨g0, g1, g2, g3, g4, _⟩ := hW3.g
  have y1 := hW3.vw.c0
  have y2 := hW3.vw.c1
  have y3 := hW3.vw.c2
  clear hW3 hR3
  go_wp2_with fail
  (with_reducible refine (hva.out _ hW3H.out.vw.i).mono ?_)
  rintro e w4 ⟨rfl, hb4⟩
  have hW4 := hW3H.out.below hb4
  have hR4 := keepC hR3H.out hb4
  have hA := (Below.refl w4.heap.size w4).alloc (Nat.le_refl _) (.cells #[.func (.func 41) #[] #[.pointer (some ⟨w.heap.size + 2, 0, none⟩), .pointer (some ⟨br, 0, none⟩)]] 94)
  have hW5H := Lib.hid (show Sr6 w _ br w4.heap.size D Z Bk O Ac zone A ca B cb v block row from ⟨hW4.below hA, keepC hR4 hA, (Boxed.new w4 94 _).cell⟩)
  clear hW3H hR3H hb4 g0 g1 g2 g3 g4 y1 y2 y3 hW4 hR4 hA hva hplH
  have hst := fun m => store_func w4 94 (.func (.func 41) #[] #[.pointer (some ⟨w.heap.size + 2, 0, none⟩), .pointer (some ⟨br, 0, none⟩)]) rfl m
  go_upto_region 5 with fail
  clear hst
  generalize w4.heap.size = bh at hW5H ⊢
  refine fresh_world (fun W => Sr6 w W br bh D Z Bk O Ac zone A ca B cb v block row) hW5H.out ?_
  clear hW5H
  rintro W5 hW5
  have hW5H := Lib.hid hW5
  have y1 := hW5.h
  clear hW5
  go_wp2_with fail
  (with_reducible refine (hh.out s (.inr hsD.out.1) _ _ _ hW5H.out.s.vw hW5H.out.r).mono ?_)
  rintro e w6 ⟨rfl, hb6⟩
  have hW6H := Lib.hid (hW5H.out.below hb6)
  clear hW5H hb6 y1
  cases hs1 : hasB v row s with
  | true =>
    obtain rfl : rs = (1, 0) := by rw [← hrsH.out, if_pos hs1]
    have hF := Lib.hid hW6H.out.s.bw
    go_wp2
    go_ret2
    exact ⟨rfl, hF.out⟩
  | false =>
    have hrs2 := hrsH.out
    rw [if_neg (by rw [hs1]; decide)] at hrs2
    have hrs2H := Lib.hid hrs2
    clear hrs2 hrsH
    have y1 := hW6H.out.s.vw.c1
    by_cases hsm : s = v.m
    case neg =>
      obtain rfl : rs = (0, 0) := by rw [← hrs2H.out, if_pos hsm]
      have hF := Lib.hid hW6H.out.s.bw
      have hsb2 : (s != v.m) = true := by rw [bne_iff_ne]; exact hsm
      clear hs1
      go_wp2
      go_ret2
      exact ⟨rfl, hF.out⟩
    case pos =>
      have hrs3 := hrs2H.out
      rw [if_neg (by rw [hsm]; simp)] at hrs3
      have hrs3H := Lib.hid hrs3
      clear hrs3 hrs2H
      have hsb2 : (s != v.m) = false := by rw [hsm]; simp
      obtain ⟨g0, g1, g2, g3, g4, _⟩ := hW6H.out.s.g
      have y2 := hW6H.out.s.b
      obtain ⟨k1, k2, k3, k4, k5⟩ := hwr.out
      clear hs1
      go_upto_region 11 with fail
      have hA := (Below.refl w6.heap.size w6).alloc (Nat.le_refl _) (.cells #[.int .i64 idx] 3)
      have hW7 : SrcB (w6.alloc (.cells #[.int .i64 idx] 3)) w.heap.size (w.heap.size + 1) (w.heap.size + 2) (w.heap.size + 3) br bh w6.heap.size D Z Bk O Ac zone A ca B cb v block row idx :=
        ⟨hW6H.out.s.g.below hA, keepC hW6H.out.s.z hA, hW6H.out.s.vw.below hA, keepC hW6H.out.s.b hA, keepC hW6H.out.r hA, keepC hW6H.out.h hA, (Boxed.new w6 3 _).cell⟩
      have hB7H := Lib.hid (bmore hW6H.out.s.bw hA)
      have hW7H := Lib.hid hW7
      clear hA hW7 hW6H g0 g1 g2 g3 g4 y1 y2 k3 k4 k5 k1 k2
      generalize w6.heap.size = bi at hW7H ⊢
      refine fresh_world (fun W => SrcB W w.heap.size (w.heap.size + 1) (w.heap.size + 2) (w.heap.size + 3) br bh bi D Z Bk O Ac zone A ca B cb v block row idx ∧ Below w.heap.size w W) ⟨hW7H.out, hB7H.out⟩ ?_
      clear hW7H hB7H
      rintro W8 ⟨hW8, hB8⟩
      have hW8H := Lib.hid hW8
      have hB8H := Lib.hid hB8
      clear hW8 hB8
      go_wp2_with fail
      (with_reducible refine (hfi.out _ _ _ _ _ _ _ (fun W => SrcB W w.heap.size (w.heap.size + 1) (w.heap.size + 2) (w.heap.size + 3) br bh bi D Z Bk O Ac zone A ca B cb v block row idx) (fun W W' h hb => h.below hb) hW8H.out (fun k hk W h => hs2H.out br bh bi k hk W h)).mono ?_)
      rintro e w9 ⟨rfl, hb9⟩
      have hA := (Below.refl w9.heap.size w9).alloc (Nat.le_refl _) (.cells #[.int .i64 (r : Int)] 3)
      have hW9H := Lib.hid ((hW8H.out.below hb9).below hA)
      have hB9H := Lib.hid (bmore (bmore hB8H.out hb9) hA)
      have hC9H := Lib.hid (Boxed.new w9 3 (.int .i64 (r : Int))).cell
      clear hA hb9 hW8H hB8H
      go_upto_region 12 with fail
      generalize w9.heap.size = bc at hC9H ⊢
      refine fresh_world (fun W => SrcB W w.heap.size (w.heap.size + 1) (w.heap.size + 2) (w.heap.size + 3) br bh bi D Z Bk O Ac zone A ca B cb v block row idx ∧ Below w.heap.size w W ∧ W.cell? ⟨bc, 0, none⟩ = some (.int .i64 (r : Int))) ⟨hW9H.out, hB9H.out, hC9H.out⟩ ?_
      clear hW9H hB9H hC9H
      rintro W10 ⟨hW10, hB10, hC10⟩
      have hS0 : SrcB W10.drew w.heap.size (w.heap.size + 1) (w.heap.size + 2) (w.heap.size + 3) br bh bi D Z Bk O Ac zone A ca B cb v block row idx ∧ Below w.heap.size w W10.drew ∧ W10.drew.cell? ⟨bc, 0, none⟩ = some (.int .i64 (r : Int)) := ⟨hW10.below (Below.refl _ _).drew, hB10.drew, keepC hC10 (Below.refl _ _).drew⟩
      clear hW10 hB10 hC10
      by_cases hrn : r = n
      case pos =>
        have q1 : ((r : Int) == (n : Int)) = true := by rw [hrn]; simp
        have q2 : (r == n) = true := by rw [hrn]; simp
        have hrD : (r : Int) = D - 1 := by rw [hrn]; exact hnD.out
        have hrDH := Lib.hid hrD
        clear hrn hrD
        refine region_anyC (fun _ => true) (fun W => SrcB W w.heap.size (w.heap.size + 1) (w.heap.size + 2) (w.heap.size + 3) br bh bi D Z Bk O Ac zone A ca B cb v block row idx ∧ Below w.heap.size w W ∧ W.cell? ⟨bc, 0, none⟩ = some (.int .i64 (r : Int))) (by kernel_rfl) ?_
        refine anyL_take 0 (v := ?_) rfl (by kernel_rfl) (fun _ _ _ h => h) (Or.inl ⟨by rfl, ?_⟩) hS0 ?_
        rotate_left
        focus (intro W hW; obtain ⟨hs, _, c9⟩ := hW; obtain ⟨g0, g1, g2, g3, g4, _⟩ := hs.g; have y1 := hs.z; have y2 := hs.r; have y3 := hs.h; go_simp; try with_reducible rfl)
        simp only [Act.put, List.setIfInBounds_toArray, List.set_cons_zero, List.set_cons_succ]
        refine anyL_take 1 (v := ?_) rfl (by kernel_rfl) (fun _ _ _ h => h) (Or.inl ⟨by rfl, ?_⟩) hS0 ?_
        rotate_left
        focus (intro W hW; go_simp; try with_reducible rfl)
        simp only [Act.put, List.setIfInBounds_toArray, List.set_cons_zero, List.set_cons_succ]
        refine anyL_take 2 (v := ?_) rfl (by kernel_rfl) (fun _ _ _ h => h) (Or.inl ⟨by rfl, ?_⟩) hS0 ?_
        rotate_left
        focus (intro W hW; go_simp; try with_reducible rfl)
        simp only [Act.put, List.setIfInBounds_toArray, List.set_cons_zero, List.set_cons_succ]
        refine anyL_take 3 (v := ?_) rfl (by kernel_rfl) (fun _ _ _ h => h) (Or.inl ⟨by rfl, ?_⟩) hS0 ?_
        rotate_left
        focus (intro W hW; go_simp; try with_reducible rfl)
        simp only [Act.put, List.setIfInBounds_toArray, List.set_cons_zero, List.set_cons_succ]
        refine anyL_take 4 (v := ?_) rfl (by kernel_rfl) (fun _ _ _ h => h) (Or.inl ⟨by rfl, ?_⟩) hS0 ?_
        rotate_left
        focus (intro W hW; obtain ⟨hs, _, c9⟩ := hW; obtain ⟨g0, g1, g2, g3, g4, _⟩ := hs.g; have y1 := hs.z; have y2 := hs.r; have y3 := hs.h; go_simp; try with_reducible rfl)
        simp only [Act.put, List.setIfInBounds_toArray, List.set_cons_zero, List.set_cons_succ]
        refine anyL_take 5 (v := ?_) rfl (by kernel_rfl) (fun _ _ _ h => h) (Or.inl ⟨by rfl, ?_⟩) hS0 ?_
        rotate_left
        focus (intro W hW; obtain ⟨hs, _, c9⟩ := hW; obtain ⟨g0, g1, g2, g3, g4, _⟩ := hs.g; have y1 := hs.z; have y2 := hs.r; have y3 := hs.h; go_simp; try with_reducible rfl)
        simp only [Act.put, List.setIfInBounds_toArray, List.set_cons_zero, List.set_cons_succ]
        refine anyL_take 6 (v := ?_) rfl (by kernel_rfl) (fun _ _ _ h => h) (Or.inl ⟨by rfl, ?_⟩) hS0 ?_
        rotate_left
        focus (intro W hW; obtain ⟨hs, _, c9⟩ := hW; obtain ⟨g0, g1, g2, g3, g4, _⟩ := hs.g; have y1 := hs.z; have y2 := hs.r; have y3 := hs.h; go_simp; try with_reducible rfl)
        simp only [Act.put, List.setIfInBounds_toArray, List.set_cons_zero, List.set_cons_succ]
        refine anyL_take 7 (v := ?_) rfl (by kernel_rfl) (fun _ _ _ h => h) (Or.inl ⟨by rfl, ?_⟩) hS0 ?_
        rotate_left
        focus (intro W hW; obtain ⟨hs, _, c9⟩ := hW; obtain ⟨g0, g1, g2, g3, g4, _⟩ := hs.g; have y1 := hs.z; have y2 := hs.r; have y3 := hs.h; go_simp; try with_reducible rfl)
        simp only [Act.put, List.setIfInBounds_toArray, List.set_cons_zero, List.set_cons_succ]
        refine anyL_one 8 rfl (by kernel_rfl) (fun K hK => ?_)
        go_simp
        refine (hprH.out _).mono ?_
        rintro e' wa ⟨rfl, hba⟩
        have hS1 : (fun W => SrcB W w.heap.size (w.heap.size + 1) (w.heap.size + 2) (w.heap.size + 3) br bh bi D Z Bk O Ac zone A ca B cb v block row idx ∧ Below w.heap.size w W ∧ W.cell? ⟨bc, 0, none⟩ = some (.int .i64 (r : Int))) wa := ⟨hS0.1.below hba, bmore hS0.2.1 hba, keepC hS0.2.2 hba⟩
        refine hK.out _ _ (fun _ => hS1) ?_
        clear hK K
        try simp only [Act.put, List.setIfInBounds_toArray, List.set_cons_zero, List.set_cons_succ]
        refine anyL_one 9 rfl (by kernel_rfl) (fun K hK => ?_)
        go_simp
        refine (hh.out par (.inr hsD.out.2) _ _ _ hS1.1.vw hS1.1.r).mono ?_
        rintro e' wb ⟨rfl, hbb⟩
        have hS2 : (fun W => SrcB W w.heap.size (w.heap.size + 1) (w.heap.size + 2) (w.heap.size + 3) br bh bi D Z Bk O Ac zone A ca B cb v block row idx ∧ Below w.heap.size w W ∧ W.cell? ⟨bc, 0, none⟩ = some (.int .i64 (r : Int))) wb := ⟨hS1.1.below hbb, bmore hS1.2.1 hbb, keepC hS1.2.2 hbb⟩
        refine hK.out _ _ (fun _ => hS2) ?_
        clear hK K
        try simp only [Act.put, List.setIfInBounds_toArray, List.set_cons_zero, List.set_cons_succ]
        refine anyL_take 10 (v := ?_) rfl (by kernel_rfl) (fun _ _ _ h => h) (Or.inl ⟨by rfl, ?_⟩) hS2 ?_
        rotate_left
        focus (intro W hW; go_simp; try with_reducible rfl)
        simp only [Act.put, List.setIfInBounds_toArray, List.set_cons_zero, List.set_cons_succ]
        refine anyC_done (by kernel_rfl) ?_ _
        clear q1 q2
        cases hpx : hasB v row par with
        | true =>
          obtain rfl : rs = (2, 0) := by rw [← hrs3H.out, if_pos ⟨hrDH.out, hpx⟩]
          have hF := Lib.hid hS2.2.1
          clear hpx hS0 hS1 hS2
          go_wp2
          go_ret2
          exact ⟨rfl, hF.out⟩
        | false =>
          have hrs4 := hrs3H.out
          rw [if_neg (fun h => by rw [hpx] at h; cases h.2)] at hrs4
          have hrs4H := Lib.hid hrs4
          have hS2H := Lib.hid hS2
          clear hrs4 hrs3H hpx hS0 hS1 hS2
          obtain ⟨hsx, hbx, c9⟩ := hS2H.out
          have y2 := hsx.vw.c2
          go_wp2_with fail
          (with_reducible refine (hlb.out _ br bi bc hsx.vw.i hsx.r hsx.i c9).mono ?_)
          rintro e w11 ⟨rfl, hb11⟩
          have hF := Lib.hid (bmore hbx hb11)
          clear hsx hbx c9 y2 hb11 hS2H
          by_cases hla : la < 0
          · obtain rfl : rs = (0, 0) := by rw [← hrs4H.out, if_pos hla]
            go_wp2
            go_ret2
            exact ⟨rfl, hF.out⟩
          · obtain rfl : rs = (3, la) := by rw [← hrs4H.out, if_neg hla]
            go_wp2
            go_ret2
            exact ⟨rfl, hF.out⟩
      case neg =>
        have q1 : ((r : Int) == (n : Int)) = false := by rw [beq_eq_false_iff_ne]; intro h; exact hrn (by omega)
        have q2 : (r == n) = false := by rw [beq_eq_false_iff_ne]; exact hrn
        have hrs4 := hrs3H.out
        rw [if_neg (fun h => hrn (by have h1 := hnD.out; have h2 := h.1; omega))] at hrs4
        have hrs4H := Lib.hid hrs4
        clear hrs4 hrs3H hrn
        refine region_anyC (fun _ => true) (fun W => SrcB W w.heap.size (w.heap.size + 1) (w.heap.size + 2) (w.heap.size + 3) br bh bi D Z Bk O Ac zone A ca B cb v block row idx ∧ Below w.heap.size w W ∧ W.cell? ⟨bc, 0, none⟩ = some (.int .i64 (r : Int))) (by kernel_rfl) ?_
        refine anyL_take 0 (v := ?_) rfl (by kernel_rfl) (fun _ _ _ h => h) (Or.inl ⟨by rfl, ?_⟩) hS0 ?_
        rotate_left
        focus (intro W hW; obtain ⟨hs, _, c9⟩ := hW; obtain ⟨g0, g1, g2, g3, g4, _⟩ := hs.g; have y1 := hs.z; have y2 := hs.r; have y3 := hs.h; go_simp; try with_reducible rfl)
        simp only [Act.put, List.setIfInBounds_toArray, List.set_cons_zero, List.set_cons_succ]
        refine anyL_take 1 (v := ?_) rfl (by kernel_rfl) (fun _ _ _ h => h) (Or.inl ⟨by rfl, ?_⟩) hS0 ?_
        rotate_left
        focus (intro W hW; go_simp; try with_reducible rfl)
        simp only [Act.put, List.setIfInBounds_toArray, List.set_cons_zero, List.set_cons_succ]
        refine anyL_take 2 (v := ?_) rfl (by kernel_rfl) (fun _ _ _ h => h) (Or.inl ⟨by rfl, ?_⟩) hS0 ?_
        rotate_left
        focus (intro W hW; go_simp; try with_reducible rfl)
        simp only [Act.put, List.setIfInBounds_toArray, List.set_cons_zero, List.set_cons_succ]
        refine anyL_take 3 (v := ?_) rfl (by kernel_rfl) (fun _ _ _ h => h) (Or.inl ⟨by rfl, ?_⟩) hS0 ?_
        rotate_left
        focus (intro W hW; go_simp; try with_reducible rfl)
        simp only [Act.put, List.setIfInBounds_toArray, List.set_cons_zero, List.set_cons_succ]
        refine anyL_take 4 (v := undef) rfl (by kernel_rfl) (fun _ _ _ h => h) (Or.inr ⟨by rfl, rfl⟩) hS0 ?_
        simp only [Act.put, List.setIfInBounds_toArray, List.set_cons_zero, List.set_cons_succ]
        refine anyL_take 5 (v := undef) rfl (by kernel_rfl) (fun _ _ _ h => h) (Or.inr ⟨by rfl, rfl⟩) hS0 ?_
        simp only [Act.put, List.setIfInBounds_toArray, List.set_cons_zero, List.set_cons_succ]
        refine anyL_take 6 (v := undef) rfl (by kernel_rfl) (fun _ _ _ h => h) (Or.inr ⟨by rfl, rfl⟩) hS0 ?_
        simp only [Act.put, List.setIfInBounds_toArray, List.set_cons_zero, List.set_cons_succ]
        refine anyL_take 7 (v := undef) rfl (by kernel_rfl) (fun _ _ _ h => h) (Or.inr ⟨by rfl, rfl⟩) hS0 ?_
        simp only [Act.put, List.setIfInBounds_toArray, List.set_cons_zero, List.set_cons_succ]
        refine anyL_one 8 rfl (by kernel_rfl) (fun K hK => ?_)
        go_simp
        refine hK.out _ _ (fun _ => hS0) ?_
        clear hK K
        try simp only [Act.put, List.setIfInBounds_toArray, List.set_cons_zero, List.set_cons_succ]
        refine anyL_one 9 rfl (by kernel_rfl) (fun K hK => ?_)
        go_simp
        refine hK.out _ _ (fun _ => hS0) ?_
        clear hK K
        try simp only [Act.put, List.setIfInBounds_toArray, List.set_cons_zero, List.set_cons_succ]
        refine anyL_take 10 (v := ?_) rfl (by kernel_rfl) (fun _ _ _ h => h) (Or.inl ⟨by rfl, ?_⟩) hS0 ?_
        rotate_left
        focus (intro W hW; go_simp; try with_reducible rfl)
        simp only [Act.put, List.setIfInBounds_toArray, List.set_cons_zero, List.set_cons_succ]
        refine anyC_done (by kernel_rfl) ?_ _
        clear q1 q2
        have hS2H := Lib.hid hS0
        clear hS0
        obtain ⟨hsx, hbx, c9⟩ := hS2H.out
        have y2 := hsx.vw.c2
        go_wp2_with fail
        (with_reducible refine (hlb.out _ br bi bc hsx.vw.i hsx.r hsx.i c9).mono ?_)
        rintro e w11 ⟨rfl, hb11⟩
        have hF := Lib.hid (bmore hbx hb11)
        clear hsx hbx c9 y2 hb11 hS2H
        by_cases hla : la < 0
        · obtain rfl : rs = (0, 0) := by rw [← hrs4H.out, if_pos hla]
          go_wp2
          go_ret2
          exact ⟨rfl, hF.out⟩
        · obtain rfl : rs = (3, la) := by rw [← hrs4H.out, if_neg hla]
          go_wp2
          go_ret2
          exact ⟨rfl, hF.out⟩
end Go.Proofs.Ytdjdldcpaidmnaa
