/- What the small functions of group do. -/
import Derived.Test.YtbgkmppngnedlaaDoorGpR
import Derived.Test.YtbgkmppngnedlaaDoorOKRow
namespace Go.Proofs.YtbgkmppngnedlaaDoor
open Go.RowKit Rec Crc Num Xor

def geE : Enc (Int × Bool) := ⟨fun x => [.int .i64 x.1, .bool x.2], 2, fun _ => rfl, fun _ u hu => by
  simp only [List.mem_cons, List.not_mem_nil, or_false] at hu
  rcases hu with rfl | rfl <;> rfl⟩
theorem ge_at {W : World} {A : Option Addr} {l : List (Int × Bool)} (h : geE.In W A l) {i : Nat} (hi : i < l.length) : ∃ b off, A = some ⟨b, off, none⟩ ∧ b < W.heap.size ∧ W.cell? ⟨b, off + i * 2, none⟩ = some (.int .i64 l[i].1) ∧ W.cell? ⟨b, off + i * 2 + 1, none⟩ = some (.bool l[i].2) := by
  obtain ⟨b, off, e, hlt, h⟩ := h.at_ hi
  exact ⟨b, off, e, hlt, h 0 (by decide), h 1 (by decide)⟩
theorem infGe : Enc.Inf Tryd.prog 47 2 16 := by unfold Enc.Inf; kernel_rfl
/-- A slice of texts. -/
def stE : Enc ByteArray := ⟨fun x => [.string x], 1, fun _ => rfl, fun _ u hu => by
  simp only [List.mem_cons, List.not_mem_nil, or_false] at hu
  subst hu; rfl⟩
theorem st_at {W : World} {A : Option Addr} {l : List ByteArray} (h : stE.In W A l) {i : Nat} (hi : i < l.length) : ∃ b off, A = some ⟨b, off, none⟩ ∧ b < W.heap.size ∧ W.cell? ⟨b, off + i, none⟩ = some (.string l[i]) := by
  obtain ⟨b, off, e, hlt, h⟩ := h.at_ hi
  have h1 := h 0 (by decide)
  rw [show i * stE.k = i from Nat.mul_one i, Nat.add_zero] at h1
  exact ⟨b, off, e, hlt, h1⟩
theorem infSt : Enc.Inf Tryd.prog 9 1 16 := by unfold Enc.Inf; kernel_rfl
theorem dataBytes_any (x : Int × Bool) (w : World) : Calls Tryd.prog 21 #[.agg #[.int .i64 x.1, .bool x.2]] w fun e w' => e = .returned (.int .i64 (len1 x : Int)) ∧ Below w.heap.size w w' := by
  obtain ⟨b, t⟩ := x
  have hb := Lib.hid ((Below.refl w.heap.size w).alloc (Nat.le_refl _) (.cells #[.int .i64 b, .bool t] 47))
  cases t with
  | true =>
    show Calls _ _ _ _ fun e w' => e = .returned (.int .i64 0) ∧ _
    go_enter Tryd.func21, Tryd.ntmps21
    go_wp2_with fail
    go_ret
    exact ⟨rfl, hb.out⟩
  | false =>
    show Calls _ _ _ _ fun e w' => e = .returned (.int .i64 64) ∧ _
    go_enter Tryd.func21, Tryd.ntmps21
    go_wp2_with fail
    go_ret
    exact ⟨rfl, hb.out⟩
theorem number_any (x : Int × Bool) (hx : 0 ≤ x.1 ∧ x.1 < 2147483648) (w : World) : Calls Tryd.prog 15 #[.agg #[.int .i64 x.1, .bool x.2]] w fun e w' => e = .returned (.int .i64 (num1 x)) ∧ Below w.heap.size w w' := by
  obtain ⟨b, t⟩ := x
  have hb := Lib.hid ((Below.refl w.heap.size w).alloc (Nat.le_refl _) (.cells #[.int .i64 b, .bool t] 47))
  have hw : IntKind.i64.wrap (b + 2147483648) = b + 2147483648 := IntWalk.i64_in _ (by simp only at hx; omega)
  cases t with
  | true =>
    show Calls _ _ _ _ fun e w' => e = .returned (.int .i64 (b + 2147483648)) ∧ _
    clear hx
    go_enter Tryd.func15, Tryd.ntmps15
    go_wp2_with fail
    go_ret
    exact ⟨rfl, hb.out⟩
  | false =>
    show Calls _ _ _ _ fun e w' => e = .returned (.int .i64 b) ∧ _
    clear hx hw
    go_enter Tryd.func15, Tryd.ntmps15
    go_wp2_with fail
    go_ret
    exact ⟨rfl, hb.out⟩
theorem headBytes_any (k : Nat) (hk : k ≤ 1000) (w : World) : Calls Tryd.prog 23 #[.int .i64 (k : Int)] w fun e w' => e = .returned (.int .i64 ((9 + 4 * k : Nat) : Int)) ∧ w' = w := by
  have h1 : IntKind.i64.wrap ((k : Int) * 4) = (k : Int) * 4 := IntWalk.i64_in _ (by omega)
  have h2 : IntKind.i64.wrap (9 + (k : Int) * 4) = ((9 + 4 * k : Nat) : Int) := by rw [IntWalk.i64_in _ (by omega)]; omega
  go_enter Tryd.func23, Tryd.ntmps23
  go_wp2_with fail
  go_ret
  exact ⟨rfl, rfl⟩
theorem permitted_any (q : Int) (n : Nat) (w : World) : Calls Tryd.prog 25 #[.int .i64 q, .int .i64 (n : Int)] w fun e w' => e = .returned (.bool (decide (permOk q n))) ∧ w' = w := by
  by_cases h0 : 0 ≤ q
  case neg =>
    have e : decide (permOk q n) = false := decide_eq_false (fun h => h0 h.1.1)
    have h0b : decide (q ≥ 0) = false := by simp; omega
    rw [e]
    clear e
    go_enter Tryd.func25, Tryd.ntmps25
    go_wp2_with fail
    go_ret
    exact ⟨rfl, rfl⟩
  case pos =>
    have h0b : decide (q ≥ 0) = true := by simp [h0]
    by_cases h1 : q ≤ 1099511627776
    case neg =>
      have e : decide (permOk q n) = false := decide_eq_false (fun h => h1 h.1.2)
      have h1b : decide (q ≤ 1099511627776) = false := by simp; omega
      rw [e]
      clear e
      go_enter Tryd.func25, Tryd.ntmps25
      go_wp2_with fail
      go_ret
      exact ⟨rfl, rfl⟩
    case pos =>
      have h1b : decide (q ≤ 1099511627776) = true := by simp [h1]
      by_cases h2 : 1 ≤ n
      case neg =>
        have e : decide (permOk q n) = false := decide_eq_false (fun h => h2 h.2.1)
        have h2b : decide ((n : Int) ≥ 1) = false := by simp; omega
        have h2I : ¬ (1 : Int) ≤ (n : Int) := by omega
        rw [e]
        clear e
        go_enter Tryd.func25, Tryd.ntmps25
        go_wp2_with fail
        go_ret
        exact ⟨rfl, rfl⟩
      case pos =>
        have h2b : decide ((n : Int) ≥ 1) = true := by simp; omega
        have h2I : (1 : Int) ≤ (n : Int) := by omega
        have e : decide (permOk q n) = decide ((n : Int) ≤ 6) := decide_eq_decide.2 (by unfold permOk; omega)
        rw [e]
        clear e
        go_enter Tryd.func25, Tryd.ntmps25
        go_wp2_with fail
        go_ret
        exact ⟨rfl, rfl⟩
set_option maxRecDepth 100000 in
theorem blocks_anyG (w : World) (A : Option Addr) (cap : Nat) (l : List (Int × Bool)) (hI : geE.In w A l) (hl : l.length ≤ 1000) : Calls Tryd.prog 10 #[.slice A l.length cap] w fun e w' => e = .returned (.int .i64 (blkE l : Int)) ∧ Below w.heap.size w w' := by
  have hIH := Lib.hid (fun W (hb : Below w.heap.size w W) => hI.below hb)
  have hB0 := Lib.hid (Below.refl w.heap.size w)
  have hdb := Lib.hid dataBytes_any
  clear hI
  obtain ⟨nl, hnl⟩ : ∃ nl, l.length = nl := ⟨_, rfl⟩
  rw [hnl] at hl ⊢
  have hnlH := Lib.hid hnl
  clear hnl
  go_enter Tryd.func10, Tryd.ntmps10
  go_wp2_with fail
  go_loopw [3, 8] (fun nv iv wr => ∃ k : Nat, k ≤ nl ∧ iv = .int .i64 (k : Int) ∧ nv = .int .i64 (blkE (l.take k) : Int) ∧ Hid (Below w.heap.size w wr)) (fun _ iv _ => nl - (intOf iv).toNat)
  case atStart => exact ⟨0, Nat.zero_le _, rfl, rfl, hB0⟩
  case round =>
    clear hB0
    obtain ⟨k, hkn, rfl, rfl, hB⟩ := hrel
    by_cases hlt : k < nl
    case neg =>
      have hke : l.take k = l := by rw [show k = l.length by rw [hnlH.out]; omega, List.take_length]
      rw [hke]
      have hkI : ¬ (k : Int) < (nl : Int) := by omega
      clear hke
      go_wp2_with fail
      go_ret
      exact ⟨rfl, hB.out⟩
    case pos =>
      have hkl : k < l.length := by rw [hnlH.out]; exact hlt
      have hkI : (k : Int) < (nl : Int) := by omega
      have hkw : IntKind.i64.wrap ((k : Int) + 1) = (k : Int) + 1 := IntWalk.i64_in _ (by omega)
      obtain ⟨b, off, rfl, hbl, e0, e1⟩ := ge_at (hIH.out wr hB.out) hkl
      have htk := Lib.hid (show blkE (l.take (k + 1)) = blkE (l.take k) + wr1 l[k] by rw [List.take_succ_eq_append_getElem hkl, blkE_snoc])
      have hle := blkE_le (l.take k)
      rw [List.length_take] at hle
      generalize l[k] = x at e0 e1 htk
      have hlw := len1_wr x
      have hw1 := wr1_le x
      have hq : (len1 x : Int).tdiv 64 = (wr1 x : Int) := by
        rw [Int.tdiv_eq_ediv_of_nonneg (by omega)]
        omega
      have hqw : IntKind.i64.wrap ((len1 x : Int).tdiv 64) = (wr1 x : Int) := by rw [hq]; exact IntWalk.i64_in _ (by omega)
      have hsw : IntKind.i64.wrap ((blkE (l.take k) : Int) + (wr1 x : Int)) = (blkE (l.take k) : Int) + (wr1 x : Int) := IntWalk.i64_in _ (by omega)
      have hnx := Lib.hid (show (blkE (l.take (k + 1)) : Int) = (blkE (l.take k) : Int) + (wr1 x : Int) by rw [htk.out]; omega)
      have hal := Lib.hid (hB.out.alloc hB.out.size (.cells #[.int .i64 x.1, .bool x.2] 47))
      have hyw : IntKind.i64.wrap (wr1 x : Int) = (wr1 x : Int) := IntWalk.i64_in _ (by omega)
      clear hle hlw hw1 htk hB
      generalize wr1 x = y at hq hqw hsw hnx hyw
      generalize blkE (l.take k) = bk at hsw hnx ⊢
      have hdx := Lib.hid (dataBytes_any x)
      clear hdb
      generalize len1 x = lx at hq hqw hdx
      go_wp2_with fail
      refine (hdx.out _).mono ?_
      rintro e w5 ⟨rfl, hb5⟩
      have hB5 := Lib.hid (hal.out.trans (hb5.mono hal.out.size))
      clear hb5 hal
      go_wp2_with fail
      go_roundw
      case rel => exact ⟨k + 1, hlt, by go_num, by rw [hnx.out], hB5⟩
      case measure => simp only [intOf]; omega
set_option maxHeartbeats 1000000 in
theorem checksumG_any (h b : ByteArray) (w : World) (hT : Tab w) (hh : h.size ≤ 4096) (hb : b.size ≤ 4096) :
    Calls Tryd.prog 18 #[.string h, .string b] w fun e w' => e = .returned (.string ⟨(sumB (h.data.toList ++ b.data.toList)).toArray⟩) ∧ Below w.heap.size w w' := by
  have hBa : Below w.heap.size w (w.alloc (.cells #[.string h, .string b] 9)) := (Below.refl _ _).alloc (Nat.le_refl _) _
  have hs := sum_any [h, b] w.heap.size 0 2 (w.alloc (.cells #[.string h, .string b] 9)) (hT.below hBa) (by simp) (by
    intro s hs
    simp only [List.mem_cons, List.not_mem_nil, or_false] at hs
    unfold maxLen
    rcases hs with rfl | rfl <;> omega) (by
    intro i hi
    match i, hi with
    | 0, _ => go_simp
    | 1, _ => go_simp)
  have e1 : flat [h, b] = h.data.toList ++ b.data.toList := by simp [flat]
  rw [e1] at hs
  have hsH := Lib.hid hs
  have hlt := (sumW (h.data.toList ++ b.data.toList)).isLt
  have hput := Lib.hid (fun W => put_ok (sumW (h.data.toList ++ b.data.toList)).toNat 4 W (by omega) (by omega) (by omega))
  unfold sumB
  unfold sumI at hsH
  generalize (sumW (h.data.toList ++ b.data.toList)).toNat = n at hsH hput hlt
  clear hs e1
  go_enter Tryd.func18, Tryd.ntmps18
  go_wp2_with (first | (go_at_call 29; refine hsH.out.mono ?_; rintro e w1 ⟨rfl, rfl⟩) | (go_at_call 14; refine (hput.out _).mono ?_; rintro e w2 ⟨rfl, hb2⟩))
  go_ret
  exact ⟨rfl, hBa.trans (hb2.mono (by simp))⟩


/-- A group in memory: its Seq, its entries, its data. -/
structure GpW (W : World) (A1 : Option Addr) (A2 : Option Addr) (g : Gp) : Prop where
  e : geE.In W A1 g.es
  d : stE.In W A2 g.ds
theorem GpW.below {W W' : World} {A1 A2 : Option Addr} {g : Gp} (h : GpW W A1 A2 g) (hb : Below W.heap.size W W') : GpW W' A1 A2 g := ⟨h.e.below hb, h.d.below hb⟩
theorem fits_take {t : List (Int × Bool)} {u : List ByteArray} (hl : u.length = t.length) : (∀ i (h : i < t.length) (h2 : i < u.length), fit1 t[i] u[i]) ↔ fits t u = true := ⟨fits_of hl, fits_at⟩
set_option maxRecDepth 100000 in
set_option maxHeartbeats 4000000 in
theorem possible_anyG (w : World) (g : Gp) (A1 A2 : Option Addr) (c1 c2 : Nat) (h : GpW w A1 A2 g) (hl : g.es.length ≤ 1000) (hl2 : g.ds.length ≤ 1000) :
    Calls Tryd.prog 13 #[.agg #[.int .i64 g.q, .slice A1 g.es.length c1, .slice A2 g.ds.length c2]] w fun e w' => e = .returned (.bool (decide (GoodG g))) ∧ Below w.heap.size w w' := by
  obtain ⟨q, es, ds⟩ := g
  dsimp only at hl hl2 ⊢
  have heH := Lib.hid (fun W (hb : Below w.heap.size w W) => h.e.below hb)
  have hdH := Lib.hid (fun W (hb : Below w.heap.size w W) => h.d.below hb)
  dsimp only at heH hdH
  clear h
  obtain ⟨n, hn⟩ : ∃ n, es.length = n := ⟨_, rfl⟩
  obtain ⟨nl, hnl⟩ : ∃ nl, ds.length = nl := ⟨_, rfl⟩
  have hpe := Lib.hid (permitted_any q n)
  rw [hn] at hl ⊢
  rw [hnl] at hl2 ⊢
  have hnH := Lib.hid hn
  have hnlH := Lib.hid hnl
  clear hn hnl
  have hB1 := Lib.hid ((Below.refl w.heap.size w).alloc (Nat.le_refl _) (.cells #[.int .i64 q, .slice A1 n c1, .slice A2 nl c2] 30))
  by_cases hp : permOk q n
  case neg =>
    have hres : decide (GoodG ⟨q, es, ds⟩) = false := decide_eq_false (fun h => hp (by have := h.1; rwa [hnH.out] at this))
    rw [hres]
    rw [decide_eq_false hp] at hpe
    clear hp hres
    go_enter Tryd.func13, Tryd.ntmps13
    go_wp2_with fail
    refine (hpe.out _).mono ?_
    rintro e w1 ⟨rfl, rfl⟩
    go_wp2_with fail
    go_ret
    exact ⟨rfl, hB1.out⟩
  case pos =>
    have hpH := Lib.hid hp
    rw [decide_eq_true hp] at hpe
    clear hp
    by_cases hnn : nl = n
    case neg =>
      have hres : decide (GoodG ⟨q, es, ds⟩) = false := decide_eq_false (fun h => hnn (by have h2 := fits_len h.2; rw [hnH.out, hnlH.out] at h2; exact h2))
      have hneb : ((nl : Int) != (n : Int)) = true := by simp; omega
      rw [hres]
      clear hres
      go_enter Tryd.func13, Tryd.ntmps13
      go_wp2_with fail
      refine (hpe.out _).mono ?_
      rintro e w1 ⟨rfl, rfl⟩
      go_wp2_with fail
      go_ret
      exact ⟨rfl, hB1.out⟩
    case pos =>
      subst hnn
      have hneb : ((nl : Int) != (nl : Int)) = false := by simp
      obtain ⟨gg, hgg⟩ : ∃ gg : Bool, decide (GoodG ⟨q, es, ds⟩) = gg := ⟨_, rfl⟩
      rw [hgg]
      have hggH := Lib.hid hgg
      clear hgg
      have hst : Hid ((w.alloc (.cells #[.int .i64 q, .slice A1 nl c1, .slice A2 nl c2] 30)).cell? ⟨w.heap.size, 2, none⟩ = some (.slice A2 nl c2)) := Lib.hid (by go_simp)
      go_enter Tryd.func13, Tryd.ntmps13
      go_wp2_with fail
      refine (hpe.out _).mono ?_
      rintro e w1 ⟨rfl, rfl⟩
      go_wp2_with fail
      clear hneb
      refine fresh_world (fun W => W.cell? ⟨w.heap.size, 2, none⟩ = some (.slice A2 nl c2) ∧ Below w.heap.size w W) ⟨hst.out, hB1.out⟩ ?_
      clear hst hB1
      rintro W2 ⟨hx2, hb2⟩
      have hP := Lib.hid (And.intro hx2 hb2)
      clear hx2 hb2
      go_loopw [24] (fun iv wr => ∃ k : Nat, k ≤ nl ∧ iv = .int .i64 (k : Int) ∧ Hid (∀ i (h : i < es.length) (h2 : i < ds.length), i < k → fit1 es[i] ds[i]) ∧ Hid (wr.cell? ⟨w.heap.size, 2, none⟩ = some (.slice A2 nl c2) ∧ Below w.heap.size w wr)) (fun iv _ => nl - (intOf iv).toNat)
      case atStart => exact ⟨0, Nat.zero_le _, rfl, Lib.hid (fun i _ _ h => absurd h (Nat.not_lt_zero _)), hP⟩
      case round =>
        clear hP
        obtain ⟨k, hkn, rfl, hfit, hP⟩ := hrel
        by_cases hlt : k < nl
        case neg =>
          have hres : decide (GoodG ⟨q, es, ds⟩) = true := decide_eq_true ⟨by have := hpH.out; rwa [← hnH.out] at this, fits_of (by rw [hnH.out, hnlH.out]) (fun i (h1 : i < es.length) (h2 : i < ds.length) => hfit.out i h1 h2 (by have := hnH.out; omega))⟩
          have hgt := Lib.hid (hggH.out.symm.trans hres)
          have hkI : ¬ (k : Int) < (nl : Int) := by omega
          clear hres
          go_wp2_with fail
          go_ret
          exact ⟨by simp [hgt.out], hP.out.2⟩
        case pos =>
          have hkl : k < es.length := by rw [hnH.out]; exact hlt
          have hkl2 : k < ds.length := by rw [hnlH.out]; exact hlt
          have hkI : (k : Int) < (nl : Int) := by omega
          have hkw : IntKind.i64.wrap ((k : Int) + 1) = (k : Int) + 1 := IntWalk.i64_in _ (by omega)
          obtain ⟨eb, eo, rfl, hebl, e0, e1⟩ := ge_at (heH.out wr hP.out.2) hkl
          obtain ⟨db, dof, rfl, hdbl, d0⟩ := st_at (hdH.out wr hP.out.2) hkl2
          obtain ⟨x, hx⟩ : ∃ x, es[k] = x := ⟨_, rfl⟩
          obtain ⟨d, hd⟩ : ∃ d, ds[k] = d := ⟨_, rfl⟩
          rw [hx] at e0 e1
          rw [hd] at d0
          have hxd := Lib.hid (show (∀ i (h : i < es.length) (h2 : i < ds.length), i < k + 1 → fit1 es[i] ds[i]) ↔ fit1 x d from ⟨fun h => by have h1 := h k hkl hkl2 (by omega); rwa [hx, hd] at h1, fun h i h1 h2 h3 => by
            by_cases e : i = k
            · subst e; rw [hx, hd]; exact h
            · exact hfit.out i h1 h2 (by omega)⟩)
          have hbad := Lib.hid (show ¬ fit1 x d → decide (GoodG ⟨q, es, ds⟩) = false from fun h => decide_eq_false (fun hg => h (by have h1 := fits_at hg.2 k hkl hkl2; dsimp only at h1; rwa [hx, hd] at h1)))
          have hdb := Lib.hid (dataBytes_any x)
          have hal := (Below.refl wr.heap.size wr).alloc (Nat.le_refl _) (.cells #[.int .i64 x.1, .bool x.2] 47)
          have hS : Hid ((fun W : World => W.cell? ⟨wr.heap.size, 0, none⟩ = some (.int .i64 x.1) ∧ W.cell? ⟨wr.heap.size, 1, none⟩ = some (.bool x.2) ∧ W.cell? ⟨w.heap.size, 2, none⟩ = some (.slice (some ⟨db, dof, none⟩) nl c2) ∧ W.cell? ⟨db, dof + k, none⟩ = some (.string d) ∧ Below w.heap.size w W) (wr.alloc (.cells #[.int .i64 x.1, .bool x.2] 47))) := Lib.hid ⟨by go_simp, by go_simp, (hal.cell (lt_of_cell hP.out.1)).trans hP.out.1, (hal.cell hdbl).trans d0, bmore hP.out.2 hal⟩
          clear hx hd hal hfit hP hdbl hebl
          go_upto_region 6 with fail
          clear e0 e1 d0
          generalize wr.heap.size = Y at hS ⊢
          refine fresh_world (fun W : World => W.cell? ⟨Y, 0, none⟩ = some (.int .i64 x.1) ∧ W.cell? ⟨Y, 1, none⟩ = some (.bool x.2) ∧ W.cell? ⟨w.heap.size, 2, none⟩ = some (.slice (some ⟨db, dof, none⟩) nl c2) ∧ W.cell? ⟨db, dof + k, none⟩ = some (.string d) ∧ Below w.heap.size w W) hS.out ?_
          clear hS
          rintro W5 hS5
          have hS0 : (fun W : World => W.cell? ⟨Y, 0, none⟩ = some (.int .i64 x.1) ∧ W.cell? ⟨Y, 1, none⟩ = some (.bool x.2) ∧ W.cell? ⟨w.heap.size, 2, none⟩ = some (.slice (some ⟨db, dof, none⟩) nl c2) ∧ W.cell? ⟨db, dof + k, none⟩ = some (.string d) ∧ Below w.heap.size w W) W5.drew := ⟨hS5.1, hS5.2.1, hS5.2.2.1, hS5.2.2.2.1, hS5.2.2.2.2.drew⟩
          have hzt : ∀ t : Bool, True := fun _ => trivial
          clear hzt
          obtain ⟨t, ht⟩ : ∃ t : Bool, t = !decide (fit1 x d) := ⟨_, rfl⟩
          have htH := Lib.hid ht
          clear ht hS5
          go_cut [47] from 29 to 47 (fun c wx => c = .bool t ∧ (wx.cell? ⟨Y, 0, none⟩ = some (.int .i64 x.1) ∧ wx.cell? ⟨Y, 1, none⟩ = some (.bool x.2) ∧ wx.cell? ⟨w.heap.size, 2, none⟩ = some (.slice (some ⟨db, dof, none⟩) nl c2) ∧ wx.cell? ⟨db, dof + k, none⟩ = some (.string d) ∧ Below w.heap.size w wx))
          case first =>
            refine region_anyC (fun _ => true) (fun W : World => W.cell? ⟨Y, 0, none⟩ = some (.int .i64 x.1) ∧ W.cell? ⟨Y, 1, none⟩ = some (.bool x.2) ∧ W.cell? ⟨w.heap.size, 2, none⟩ = some (.slice (some ⟨db, dof, none⟩) nl c2) ∧ W.cell? ⟨db, dof + k, none⟩ = some (.string d) ∧ Below w.heap.size w W) (by kernel_rfl) ?_
            by_cases b0 : x.1 < 0
            case pos =>
              have b0b : decide (x.1 < 0) = true := by simp [b0]
              obtain rfl : t = true := by rw [htH.out, decide_eq_false (fun h => by have := h.1.1; omega)]; rfl
              clear b0
              refine anyL_take 0 (v := ?_) rfl (by kernel_rfl) (fun _ _ _ h => h) (Or.inl ⟨by rfl, ?_⟩) hS0 ?_
              rotate_left
              focus (intro W hW; go_simp; try with_reducible rfl)
              simp only [Act.put, List.setIfInBounds_toArray, List.set_cons_zero, List.set_cons_succ]
              refine anyL_take 1 (v := ?_) rfl (by kernel_rfl) (fun _ _ _ h => h) (Or.inl ⟨by rfl, ?_⟩) hS0 ?_
              rotate_left
              focus (intro W hW; obtain ⟨y0, y1, x2, e2, _⟩ := hW; go_simp; try with_reducible rfl)
              simp only [Act.put, List.setIfInBounds_toArray, List.set_cons_zero, List.set_cons_succ]
              refine anyL_take 2 (v := ?_) rfl (by kernel_rfl) (fun _ _ _ h => h) (Or.inl ⟨by rfl, ?_⟩) hS0 ?_
              rotate_left
              focus (intro W hW; go_simp; try with_reducible rfl)
              simp only [Act.put, List.setIfInBounds_toArray, List.set_cons_zero, List.set_cons_succ]
              refine anyL_take 3 (v := ?_) rfl (by kernel_rfl) (fun _ _ _ h => h) (Or.inl ⟨by rfl, ?_⟩) hS0 ?_
              rotate_left
              focus (intro W hW; go_simp; try with_reducible rfl)
              simp only [Act.put, List.setIfInBounds_toArray, List.set_cons_zero, List.set_cons_succ]
              refine anyL_take 4 (v := undef) rfl (by kernel_rfl) (fun _ _ _ h => h) (Or.inr ⟨by rfl, rfl⟩) hS0 ?_
              simp only [Act.put, List.setIfInBounds_toArray, List.set_cons_zero, List.set_cons_succ]
              refine anyL_take 5 (v := undef) rfl (by kernel_rfl) (fun _ _ _ h => h) (Or.inr ⟨by rfl, rfl⟩) hS0 ?_
              simp only [Act.put, List.setIfInBounds_toArray, List.set_cons_zero, List.set_cons_succ]
              refine anyL_take 6 (v := undef) rfl (by kernel_rfl) (fun _ _ _ h => h) (Or.inr ⟨by rfl, rfl⟩) hS0 ?_
              simp only [Act.put, List.setIfInBounds_toArray, List.set_cons_zero, List.set_cons_succ]
              refine anyL_take 7 (v := ?_) rfl (by kernel_rfl) (fun _ _ _ h => h) (Or.inl ⟨by rfl, ?_⟩) hS0 ?_
              rotate_left
              focus (intro W hW; go_simp; try with_reducible rfl)
              simp only [Act.put, List.setIfInBounds_toArray, List.set_cons_zero, List.set_cons_succ]
              refine anyL_take 8 (v := ?_) rfl (by kernel_rfl) (fun _ _ _ h => h) (Or.inl ⟨by rfl, ?_⟩) hS0 ?_
              rotate_left
              focus (intro W hW; go_simp; try with_reducible rfl)
              simp only [Act.put, List.setIfInBounds_toArray, List.set_cons_zero, List.set_cons_succ]
              refine anyL_take 9 (v := undef) rfl (by kernel_rfl) (fun _ _ _ h => h) (Or.inr ⟨by rfl, rfl⟩) hS0 ?_
              simp only [Act.put, List.setIfInBounds_toArray, List.set_cons_zero, List.set_cons_succ]
              refine anyL_take 10 (v := undef) rfl (by kernel_rfl) (fun _ _ _ h => h) (Or.inr ⟨by rfl, rfl⟩) hS0 ?_
              simp only [Act.put, List.setIfInBounds_toArray, List.set_cons_zero, List.set_cons_succ]
              refine anyL_take 11 (v := undef) rfl (by kernel_rfl) (fun _ _ _ h => h) (Or.inr ⟨by rfl, rfl⟩) hS0 ?_
              simp only [Act.put, List.setIfInBounds_toArray, List.set_cons_zero, List.set_cons_succ]
              refine anyL_take 12 (v := undef) rfl (by kernel_rfl) (fun _ _ _ h => h) (Or.inr ⟨by rfl, rfl⟩) hS0 ?_
              simp only [Act.put, List.setIfInBounds_toArray, List.set_cons_zero, List.set_cons_succ]
              refine anyL_take 13 (v := undef) rfl (by kernel_rfl) (fun _ _ _ h => h) (Or.inr ⟨by rfl, rfl⟩) hS0 ?_
              simp only [Act.put, List.setIfInBounds_toArray, List.set_cons_zero, List.set_cons_succ]
              refine anyL_take 14 (v := undef) rfl (by kernel_rfl) (fun _ _ _ h => h) (Or.inr ⟨by rfl, rfl⟩) hS0 ?_
              simp only [Act.put, List.setIfInBounds_toArray, List.set_cons_zero, List.set_cons_succ]
              refine anyL_take 15 (v := undef) rfl (by kernel_rfl) (fun _ _ _ h => h) (Or.inr ⟨by rfl, rfl⟩) hS0 ?_
              simp only [Act.put, List.setIfInBounds_toArray, List.set_cons_zero, List.set_cons_succ]
              refine anyL_take 16 (v := undef) rfl (by kernel_rfl) (fun _ _ _ h => h) (Or.inr ⟨by rfl, rfl⟩) hS0 ?_
              simp only [Act.put, List.setIfInBounds_toArray, List.set_cons_zero, List.set_cons_succ]
              refine anyL_take 17 (v := undef) rfl (by kernel_rfl) (fun _ _ _ h => h) (Or.inr ⟨by rfl, rfl⟩) hS0 ?_
              simp only [Act.put, List.setIfInBounds_toArray, List.set_cons_zero, List.set_cons_succ]
              refine anyL_take 18 (v := ?_) rfl (by kernel_rfl) (fun _ _ _ h => h) (Or.inl ⟨by rfl, ?_⟩) hS0 ?_
              rotate_left
              focus (intro W hW; go_simp; try with_reducible rfl)
              simp only [Act.put, List.setIfInBounds_toArray, List.set_cons_zero, List.set_cons_succ]
              refine anyC_done (by kernel_rfl) ?_ _
              go_wp2_with fail
              go_meet
              exact ⟨rfl, hS0⟩
            case neg =>
              have b0b : decide (x.1 < 0) = false := by simp; omega
              by_cases b1 : 2147483648 ≤ x.1
              case pos =>
                have b1b : decide (x.1 ≥ 2147483648) = true := by simp [b1]
                obtain rfl : t = true := by rw [htH.out, decide_eq_false (fun h => by have := h.1.2; omega)]; rfl
                clear b0 b1
                refine anyL_take 0 (v := ?_) rfl (by kernel_rfl) (fun _ _ _ h => h) (Or.inl ⟨by rfl, ?_⟩) hS0 ?_
                rotate_left
                focus (intro W hW; go_simp; try with_reducible rfl)
                simp only [Act.put, List.setIfInBounds_toArray, List.set_cons_zero, List.set_cons_succ]
                refine anyL_take 1 (v := ?_) rfl (by kernel_rfl) (fun _ _ _ h => h) (Or.inl ⟨by rfl, ?_⟩) hS0 ?_
                rotate_left
                focus (intro W hW; obtain ⟨y0, y1, x2, e2, _⟩ := hW; go_simp; try with_reducible rfl)
                simp only [Act.put, List.setIfInBounds_toArray, List.set_cons_zero, List.set_cons_succ]
                refine anyL_take 2 (v := ?_) rfl (by kernel_rfl) (fun _ _ _ h => h) (Or.inl ⟨by rfl, ?_⟩) hS0 ?_
                rotate_left
                focus (intro W hW; go_simp; try with_reducible rfl)
                simp only [Act.put, List.setIfInBounds_toArray, List.set_cons_zero, List.set_cons_succ]
                refine anyL_take 3 (v := ?_) rfl (by kernel_rfl) (fun _ _ _ h => h) (Or.inl ⟨by rfl, ?_⟩) hS0 ?_
                rotate_left
                focus (intro W hW; go_simp; try with_reducible rfl)
                simp only [Act.put, List.setIfInBounds_toArray, List.set_cons_zero, List.set_cons_succ]
                refine anyL_take 4 (v := ?_) rfl (by kernel_rfl) (fun _ _ _ h => h) (Or.inl ⟨by rfl, ?_⟩) hS0 ?_
                rotate_left
                focus (intro W hW; go_simp; try with_reducible rfl)
                simp only [Act.put, List.setIfInBounds_toArray, List.set_cons_zero, List.set_cons_succ]
                refine anyL_take 5 (v := ?_) rfl (by kernel_rfl) (fun _ _ _ h => h) (Or.inl ⟨by rfl, ?_⟩) hS0 ?_
                rotate_left
                focus (intro W hW; obtain ⟨y0, y1, x2, e2, _⟩ := hW; go_simp; try with_reducible rfl)
                simp only [Act.put, List.setIfInBounds_toArray, List.set_cons_zero, List.set_cons_succ]
                refine anyL_take 6 (v := ?_) rfl (by kernel_rfl) (fun _ _ _ h => h) (Or.inl ⟨by rfl, ?_⟩) hS0 ?_
                rotate_left
                focus (intro W hW; go_simp; try with_reducible rfl)
                simp only [Act.put, List.setIfInBounds_toArray, List.set_cons_zero, List.set_cons_succ]
                refine anyL_take 7 (v := ?_) rfl (by kernel_rfl) (fun _ _ _ h => h) (Or.inl ⟨by rfl, ?_⟩) hS0 ?_
                rotate_left
                focus (intro W hW; go_simp; try with_reducible rfl)
                simp only [Act.put, List.setIfInBounds_toArray, List.set_cons_zero, List.set_cons_succ]
                refine anyL_take 8 (v := ?_) rfl (by kernel_rfl) (fun _ _ _ h => h) (Or.inl ⟨by rfl, ?_⟩) hS0 ?_
                rotate_left
                focus (intro W hW; go_simp; try with_reducible rfl)
                simp only [Act.put, List.setIfInBounds_toArray, List.set_cons_zero, List.set_cons_succ]
                refine anyL_take 9 (v := undef) rfl (by kernel_rfl) (fun _ _ _ h => h) (Or.inr ⟨by rfl, rfl⟩) hS0 ?_
                simp only [Act.put, List.setIfInBounds_toArray, List.set_cons_zero, List.set_cons_succ]
                refine anyL_take 10 (v := undef) rfl (by kernel_rfl) (fun _ _ _ h => h) (Or.inr ⟨by rfl, rfl⟩) hS0 ?_
                simp only [Act.put, List.setIfInBounds_toArray, List.set_cons_zero, List.set_cons_succ]
                refine anyL_take 11 (v := undef) rfl (by kernel_rfl) (fun _ _ _ h => h) (Or.inr ⟨by rfl, rfl⟩) hS0 ?_
                simp only [Act.put, List.setIfInBounds_toArray, List.set_cons_zero, List.set_cons_succ]
                refine anyL_take 12 (v := undef) rfl (by kernel_rfl) (fun _ _ _ h => h) (Or.inr ⟨by rfl, rfl⟩) hS0 ?_
                simp only [Act.put, List.setIfInBounds_toArray, List.set_cons_zero, List.set_cons_succ]
                refine anyL_take 13 (v := undef) rfl (by kernel_rfl) (fun _ _ _ h => h) (Or.inr ⟨by rfl, rfl⟩) hS0 ?_
                simp only [Act.put, List.setIfInBounds_toArray, List.set_cons_zero, List.set_cons_succ]
                refine anyL_take 14 (v := undef) rfl (by kernel_rfl) (fun _ _ _ h => h) (Or.inr ⟨by rfl, rfl⟩) hS0 ?_
                simp only [Act.put, List.setIfInBounds_toArray, List.set_cons_zero, List.set_cons_succ]
                refine anyL_take 15 (v := undef) rfl (by kernel_rfl) (fun _ _ _ h => h) (Or.inr ⟨by rfl, rfl⟩) hS0 ?_
                simp only [Act.put, List.setIfInBounds_toArray, List.set_cons_zero, List.set_cons_succ]
                refine anyL_take 16 (v := undef) rfl (by kernel_rfl) (fun _ _ _ h => h) (Or.inr ⟨by rfl, rfl⟩) hS0 ?_
                simp only [Act.put, List.setIfInBounds_toArray, List.set_cons_zero, List.set_cons_succ]
                refine anyL_take 17 (v := undef) rfl (by kernel_rfl) (fun _ _ _ h => h) (Or.inr ⟨by rfl, rfl⟩) hS0 ?_
                simp only [Act.put, List.setIfInBounds_toArray, List.set_cons_zero, List.set_cons_succ]
                refine anyL_take 18 (v := ?_) rfl (by kernel_rfl) (fun _ _ _ h => h) (Or.inl ⟨by rfl, ?_⟩) hS0 ?_
                rotate_left
                focus (intro W hW; go_simp; try with_reducible rfl)
                simp only [Act.put, List.setIfInBounds_toArray, List.set_cons_zero, List.set_cons_succ]
                refine anyC_done (by kernel_rfl) ?_ _
                go_wp2_with fail
                go_meet
                exact ⟨rfl, hS0⟩
              case neg =>
                have b1b : decide (x.1 ≥ 2147483648) = false := by simp; omega
                have htd : Hid (t = ((d.size : Int) != (len1 x : Int))) := Lib.hid (by
                  rw [htH.out, Bool.eq_iff_iff, Bool.not_eq_true', decide_eq_false_iff_not, bne_iff_ne]
                  unfold fit1
                  omega)
                generalize len1 x = lx at hdb htd
                clear b0 b1
                refine anyL_take 0 (v := ?_) rfl (by kernel_rfl) (fun _ _ _ h => h) (Or.inl ⟨by rfl, ?_⟩) hS0 ?_
                rotate_left
                focus (intro W hW; go_simp; try with_reducible rfl)
                simp only [Act.put, List.setIfInBounds_toArray, List.set_cons_zero, List.set_cons_succ]
                refine anyL_take 1 (v := ?_) rfl (by kernel_rfl) (fun _ _ _ h => h) (Or.inl ⟨by rfl, ?_⟩) hS0 ?_
                rotate_left
                focus (intro W hW; obtain ⟨y0, y1, x2, e2, _⟩ := hW; go_simp; try with_reducible rfl)
                simp only [Act.put, List.setIfInBounds_toArray, List.set_cons_zero, List.set_cons_succ]
                refine anyL_take 2 (v := ?_) rfl (by kernel_rfl) (fun _ _ _ h => h) (Or.inl ⟨by rfl, ?_⟩) hS0 ?_
                rotate_left
                focus (intro W hW; go_simp; try with_reducible rfl)
                simp only [Act.put, List.setIfInBounds_toArray, List.set_cons_zero, List.set_cons_succ]
                refine anyL_take 3 (v := ?_) rfl (by kernel_rfl) (fun _ _ _ h => h) (Or.inl ⟨by rfl, ?_⟩) hS0 ?_
                rotate_left
                focus (intro W hW; go_simp; try with_reducible rfl)
                simp only [Act.put, List.setIfInBounds_toArray, List.set_cons_zero, List.set_cons_succ]
                refine anyL_take 4 (v := ?_) rfl (by kernel_rfl) (fun _ _ _ h => h) (Or.inl ⟨by rfl, ?_⟩) hS0 ?_
                rotate_left
                focus (intro W hW; go_simp; try with_reducible rfl)
                simp only [Act.put, List.setIfInBounds_toArray, List.set_cons_zero, List.set_cons_succ]
                refine anyL_take 5 (v := ?_) rfl (by kernel_rfl) (fun _ _ _ h => h) (Or.inl ⟨by rfl, ?_⟩) hS0 ?_
                rotate_left
                focus (intro W hW; obtain ⟨y0, y1, x2, e2, _⟩ := hW; go_simp; try with_reducible rfl)
                simp only [Act.put, List.setIfInBounds_toArray, List.set_cons_zero, List.set_cons_succ]
                refine anyL_take 6 (v := ?_) rfl (by kernel_rfl) (fun _ _ _ h => h) (Or.inl ⟨by rfl, ?_⟩) hS0 ?_
                rotate_left
                focus (intro W hW; go_simp; try with_reducible rfl)
                simp only [Act.put, List.setIfInBounds_toArray, List.set_cons_zero, List.set_cons_succ]
                refine anyL_take 7 (v := ?_) rfl (by kernel_rfl) (fun _ _ _ h => h) (Or.inl ⟨by rfl, ?_⟩) hS0 ?_
                rotate_left
                focus (intro W hW; go_simp; try with_reducible rfl)
                simp only [Act.put, List.setIfInBounds_toArray, List.set_cons_zero, List.set_cons_succ]
                refine anyL_take 8 (v := ?_) rfl (by kernel_rfl) (fun _ _ _ h => h) (Or.inl ⟨by rfl, ?_⟩) hS0 ?_
                rotate_left
                focus (intro W hW; go_simp; try with_reducible rfl)
                simp only [Act.put, List.setIfInBounds_toArray, List.set_cons_zero, List.set_cons_succ]
                refine anyL_take 9 (v := ?_) rfl (by kernel_rfl) (fun _ _ _ h => h) (Or.inl ⟨by rfl, ?_⟩) hS0 ?_
                rotate_left
                focus (intro W hW; go_simp; try with_reducible rfl)
                simp only [Act.put, List.setIfInBounds_toArray, List.set_cons_zero, List.set_cons_succ]
                refine anyL_take 10 (v := ?_) rfl (by kernel_rfl) (fun _ _ _ h => h) (Or.inl ⟨by rfl, ?_⟩) hS0 ?_
                rotate_left
                focus (intro W hW; obtain ⟨y0, y1, x2, e2, _⟩ := hW; go_simp; try with_reducible rfl)
                simp only [Act.put, List.setIfInBounds_toArray, List.set_cons_zero, List.set_cons_succ]
                refine anyL_take 11 (v := ?_) rfl (by kernel_rfl) (fun _ _ _ h => h) (Or.inl ⟨by rfl, ?_⟩) hS0 ?_
                rotate_left
                focus (intro W hW; go_simp; try with_reducible rfl)
                simp only [Act.put, List.setIfInBounds_toArray, List.set_cons_zero, List.set_cons_succ]
                refine anyL_take 12 (v := ?_) rfl (by kernel_rfl) (fun _ _ _ h => h) (Or.inl ⟨by rfl, ?_⟩) hS0 ?_
                rotate_left
                focus (intro W hW; go_simp; try with_reducible rfl)
                simp only [Act.put, List.setIfInBounds_toArray, List.set_cons_zero, List.set_cons_succ]
                refine anyL_take 13 (v := ?_) rfl (by kernel_rfl) (fun _ _ _ h => h) (Or.inl ⟨by rfl, ?_⟩) hS0 ?_
                rotate_left
                focus (intro W hW; obtain ⟨y0, y1, x2, e2, _⟩ := hW; go_simp; try with_reducible rfl)
                simp only [Act.put, List.setIfInBounds_toArray, List.set_cons_zero, List.set_cons_succ]
                refine anyL_take 14 (v := ?_) rfl (by kernel_rfl) (fun _ _ _ h => h) (Or.inl ⟨by rfl, ?_⟩) hS0 ?_
                rotate_left
                focus (intro W hW; go_simp; try with_reducible rfl)
                simp only [Act.put, List.setIfInBounds_toArray, List.set_cons_zero, List.set_cons_succ]
                refine anyL_take 15 (v := ?_) rfl (by kernel_rfl) (fun _ _ _ h => h) (Or.inl ⟨by rfl, ?_⟩) hS0 ?_
                rotate_left
                focus (intro W hW; obtain ⟨y0, y1, x2, e2, _⟩ := hW; go_simp; try with_reducible rfl)
                simp only [Act.put, List.setIfInBounds_toArray, List.set_cons_zero, List.set_cons_succ]
                refine anyL_one 16 rfl (by kernel_rfl) (fun K hK => ?_)
                go_simp
                refine (hdb.out _).mono ?_
                rintro e' w6 ⟨rfl, hb6⟩
                have hS1 : (fun W : World => W.cell? ⟨Y, 0, none⟩ = some (.int .i64 x.1) ∧ W.cell? ⟨Y, 1, none⟩ = some (.bool x.2) ∧ W.cell? ⟨w.heap.size, 2, none⟩ = some (.slice (some ⟨db, dof, none⟩) nl c2) ∧ W.cell? ⟨db, dof + k, none⟩ = some (.string d) ∧ Below w.heap.size w W) w6 := ⟨(hb6.cell (lt_of_cell hS0.1)).trans hS0.1, (hb6.cell (lt_of_cell hS0.2.1)).trans hS0.2.1, (hb6.cell (lt_of_cell hS0.2.2.1)).trans hS0.2.2.1, (hb6.cell (lt_of_cell hS0.2.2.2.1)).trans hS0.2.2.2.1, bmore hS0.2.2.2.2 hb6⟩
                dsimp only
                refine hK.out _ _ (fun _ => hS1) ?_
                clear hK K
                try simp only [Act.put, List.setIfInBounds_toArray, List.set_cons_zero, List.set_cons_succ]
                refine anyL_take 17 (v := ?_) rfl (by kernel_rfl) (fun _ _ _ h => h) (Or.inl ⟨by rfl, ?_⟩) hS1 ?_
                rotate_left
                focus (intro W hW; go_simp; try with_reducible rfl)
                simp only [Act.put, List.setIfInBounds_toArray, List.set_cons_zero, List.set_cons_succ]
                refine anyL_take 18 (v := ?_) rfl (by kernel_rfl) (fun _ _ _ h => h) (Or.inl ⟨by rfl, ?_⟩) hS1 ?_
                rotate_left
                focus (intro W hW; go_simp; try with_reducible rfl)
                simp only [Act.put, List.setIfInBounds_toArray, List.set_cons_zero, List.set_cons_succ]
                refine anyC_done (by kernel_rfl) ?_ _
                go_wp2_with fail
                go_meet
                exact ⟨by rw [htd.out], hS1⟩
          case rest =>
            obtain ⟨rfl, hS2⟩ := hcut
            have hP2 := Lib.hid (And.intro hS2.2.2.1 hS2.2.2.2.2)
            clear hS2 hS0
            cases t with
            | true =>
              have hres := hbad.out (fun h => by have h1 := htH.out; rw [decide_eq_true h] at h1; cases h1)
              have hgt := Lib.hid (hggH.out.symm.trans hres)
              clear hres
              go_wp2_with fail
              go_ret
              exact ⟨by simp [hgt.out], hP2.out.2⟩
            | false =>
              have hf : fit1 x d := of_decide_eq_true (by have h1 := htH.out; cases h2 : decide (fit1 x d) with
                | true => rfl
                | false => rw [h2] at h1; cases h1)
              have hfin := Lib.hid (hxd.out.2 hf)
              clear hf
              go_wp2_with fail
              go_roundw
              case rel => exact ⟨k + 1, hlt, by go_num, hfin, hP2⟩
              case measure => simp only [intOf]; omega
end Go.Proofs.YtbgkmppngnedlaaDoor
