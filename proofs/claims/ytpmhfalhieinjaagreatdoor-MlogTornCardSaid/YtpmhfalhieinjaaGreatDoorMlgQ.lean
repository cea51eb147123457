/- Drives of which only the first two zones are written, by Append and Reset: nothing is refused that fits. Nothing of the program stands here. -/
import Derived.Test.YtpmhfalhieinjaaGreatDoorMDk
namespace Go.Proofs.YtpmhfalhieinjaaGreatDoor
open Zon Drv

/-- A zone of a log's. -/
def ZL (b : Int) (v : Zn) : Prop := v.s ≠ 2 ∧ (v.s = 4 → v.l = b)
/-- A machine of which only the first two zones are written. -/
def MI (m : Mc) : Prop := ∃ x y rest, m.zs = x :: y :: rest ∧ (∀ v ∈ rest, v.s = 0) ∧ ZL m.b x ∧ ZL m.b y ∧ 2 ≤ m.a
theorem rest_open {rest : List Zn} (h : ∀ v ∈ rest, v.s = 0) : rest.countP (fun z => openB z.s) = 0 := by
  rw [List.countP_eq_zero]
  intro v hv
  rw [h v hv]
  decide
theorem rest_act {rest : List Zn} (h : ∀ v ∈ rest, v.s = 0) : rest.countP (fun z => actB z.s) = 0 := by
  rw [List.countP_eq_zero]
  intro v hv
  rw [h v hv]
  decide
theorem openB_one {s : Int} (h : s ≠ 2) (ho : openB s = true) : s = 1 := by
  unfold openB at ho
  simp at ho
  omega
theorem ZL.shut {b : Int} {v : Zn} : ZL b (shutZ v) := by
  unfold ZL shutZ
  constructor
  · show (if v.l = 0 then (0 : Int) else 3) ≠ 2
    split <;> decide
  · intro h
    have : (if v.l = 0 then (0 : Int) else 3) = 4 := h
    split at this <;> omega
theorem ZL.ext {b n : Int} {v : Zn} (h : v.s ≠ 2) : ZL b (extZ b n v) := by
  unfold ZL extZ
  constructor
  · show (if v.l + n = b then (4 : Int) else if v.s = 2 then 2 else 1) ≠ 2
    split
    · decide
    · decide
  · intro h4
    have h5 : (if v.l + n = b then (4 : Int) else if v.s = 2 then 2 else 1) = 4 := h4
    show v.l + n = b
    split at h5
    · assumption
    · omega
/-- Room is made for a zone of a log's. -/
theorem admit_log {m : Mc} (hok : m.Ok) (hm : MI m) {z : Nat} (hz : z < 2) (h4 : (zAt m.zs z).s ≠ 4) :
    (admit m z).1 = 0 ∧ ∃ x y rest, (admit m z).2 = x :: y :: rest ∧ (∀ v ∈ rest, v.s = 0) ∧ ZL m.b x ∧ ZL m.b y ∧ (zAt (admit m z).2 z) = zAt m.zs z := by
  obtain ⟨x, y, rest, hzs, hr, hx, hy, ha⟩ := hm
  have ho := hok.o1
  unfold admit
  by_cases h1 : openB (zAt m.zs z).s = true
  · rw [if_pos h1]
    exact ⟨rfl, x, y, rest, hzs, hr, hx, hy, rfl⟩
  · rw [if_neg h1]
    have hna : (nAct m.zs : Int) ≤ 2 := by
      unfold nAct
      rw [hzs, List.countP_cons, List.countP_cons, rest_act hr]
      split <;> split <;> omega
    by_cases h2 : (zAt m.zs z).s = 0 ∧ m.a ≤ nAct m.zs
    · exfalso
      have : (nAct m.zs : Int) ≤ 1 := by
        unfold nAct
        rw [hzs, List.countP_cons, List.countP_cons, rest_act hr]
        have hzz := h2.1
        match z, hz with
        | 0, _ =>
          have e : zAt m.zs 0 = x := by rw [hzs]; rfl
          rw [e] at hzz
          rw [hzz]
          rw [show actB 0 = false from rfl]
          simp only [Bool.false_eq_true, if_false]
          split <;> omega
        | 1, _ =>
          have e : zAt m.zs 1 = y := by rw [hzs]; rfl
          rw [e] at hzz
          rw [hzz]
          rw [show actB 0 = false from rfl]
          simp only [Bool.false_eq_true, if_false]
          split <;> omega
      omega
    · rw [if_neg h2]
      by_cases h3 : (nOpen m.zs : Int) < m.o
      · rw [if_pos h3]
        exact ⟨rfl, x, y, rest, hzs, hr, hx, hy, rfl⟩
      · rw [if_neg h3]
        have hno : 1 ≤ nOpen m.zs := by omega
        unfold nOpen at hno
        rw [hzs, List.countP_cons, List.countP_cons, rest_open hr] at hno
        match z, hz with
        | 0, _ =>
          have e : zAt m.zs 0 = x := by rw [hzs]; rfl
          rw [e] at h1 ⊢
          have h1f : openB x.s = false := by simpa using h1
          rw [h1f] at hno
          have hyo : openB y.s = true := by
            cases hq : openB y.s with
            | true => rfl
            | false => rw [hq] at hno; simp at hno
          have hy1 := openB_one hy.1 hyo
          have hx1 : ¬ x.s = 1 := fun h => by rw [h] at h1f; exact absurd h1f (by decide)
          have hsf : shutFirst m.zs = (0, x :: shutZ y :: rest) := by
            rw [hzs]
            show (if x.s = 1 then _ else _) = _
            rw [if_neg hx1]
            show ((if y.s = 1 then ((0 : Int), shutZ y :: rest) else _).1, x :: (if y.s = 1 then ((0 : Int), shutZ y :: rest) else _).2) = _
            rw [if_pos hy1]
          rw [hsf]
          exact ⟨rfl, x, shutZ y, rest, rfl, hr, hx, ZL.shut, rfl⟩
        | 1, _ =>
          have e : zAt m.zs 1 = y := by rw [hzs]; rfl
          rw [e] at h1 ⊢
          have h1f : openB y.s = false := by simpa using h1
          rw [h1f] at hno
          have hxo : openB x.s = true := by
            cases hq : openB x.s with
            | true => rfl
            | false => rw [hq] at hno; simp at hno
          have hx1 := openB_one hx.1 hxo
          have hsf : shutFirst m.zs = (0, shutZ x :: y :: rest) := by
            rw [hzs]
            show (if x.s = 1 then _ else _) = _
            rw [if_pos hx1]
          rw [hsf]
          exact ⟨rfl, shutZ x, y, rest, rfl, hr, ZL.shut, hy, rfl⟩
theorem MI.len {m : Mc} (h : MI m) : 2 ≤ m.zs.length := by
  obtain ⟨x, y, rest, hzs, _⟩ := h
  rw [hzs]; simp
theorem MI.four {m : Mc} (h : MI m) {z : Nat} (hz : z < 2) (h4 : (zAt m.zs z).s = 4) : (zAt m.zs z).l = m.b := by
  obtain ⟨x, y, rest, hzs, _, hx, hy, _⟩ := h
  match z, hz with
  | 0, _ => rw [hzs] at h4 ⊢; exact hx.2 h4
  | 1, _ => rw [hzs] at h4 ⊢; exact hy.2 h4
theorem MI.two {m : Mc} (h : MI m) {z : Nat} (hz : z < 2) : (zAt m.zs z).s ≠ 2 := by
  obtain ⟨x, y, rest, hzs, _, hx, hy, _⟩ := h
  match z, hz with
  | 0, _ => rw [hzs]; exact hx.1
  | 1, _ => rw [hzs]; exact hy.1
/-- Append. -/
theorem app_log {m : Mc} (hok : m.Ok) (hm : MI m) {z : Nat} (hz : z < 2) {n : Int} (hn : 1 ≤ n) (hl : (zAt m.zs z).l + n ≤ m.b) :
    (doM m 2 (z : Int) 0 n).2.1 = 0 ∧ MI (m.with (doM m 2 (z : Int) 0 n).2.2) := by
  have hlen := hm.len
  have hzo := hok.at_ (i := z) (by omega)
  have h4 : (zAt m.zs z).s ≠ 4 := fun h => by have := hm.four hz h; omega
  have hdo : doM m 2 (z : Int) 0 n = ext m z n := by
    unfold doM
    rw [if_neg (by omega)]
    have hb : hasB m (z : Int) = true := by unfold hasB; exact decide_eq_true (by omega)
    rw [if_neg (by rw [hb]; decide)]
    show act m 2 z 0 n = _
    unfold act
    rw [if_neg (by decide), if_pos (by decide)]
    unfold app
    rw [if_neg (by unfold withinB; simp; have := hzo.1; omega), if_neg h4, if_neg (by unfold withinB; simp; have := hzo.1; omega)]
  obtain ⟨h1, x, y, rest, h2, hr, hx, hy, h3⟩ := admit_log hok hm hz h4
  rw [hdo]
  unfold ext
  rw [if_pos h1]
  refine ⟨rfl, ?_⟩
  have hs2 := hm.two hz
  obtain ⟨_, _, _, _, _, _, _, ha⟩ := hm
  show MI { m with zs := (admit m z).2.set z (extZ m.b n (zAt (admit m z).2 z)) }
  rw [h3, h2]
  match z, hz with
  | 0, _ => exact ⟨extZ m.b n (zAt m.zs 0), y, rest, rfl, hr, ZL.ext hs2, hy, ha⟩
  | 1, _ => exact ⟨x, extZ m.b n (zAt m.zs 1), rest, rfl, hr, hx, ZL.ext hs2, ha⟩
/-- Reset. -/
theorem rst_log {m : Mc} (hm : MI m) {z : Nat} (hz : z < 2) : doM m 3 (z : Int) 0 0 = (0, 0, m.zs.set z ⟨0, 0⟩) ∧ MI (m.with (m.zs.set z ⟨0, 0⟩)) := by
  have hlen := hm.len
  constructor
  · unfold doM
    rw [if_neg (by omega)]
    have hb : hasB m (z : Int) = true := by unfold hasB; exact decide_eq_true (by omega)
    rw [if_neg (by rw [hb]; decide)]
    show act m 3 z 0 0 = _
    unfold act
    rw [if_neg (by decide), if_neg (by decide), if_pos (by decide)]
    rfl
  · obtain ⟨x, y, rest, hzs, hr, hx, hy, ha⟩ := hm
    have h0 : ZL m.b ⟨0, 0⟩ := ⟨by decide, fun h => absurd h (by decide)⟩
    show MI { m with zs := m.zs.set z ⟨0, 0⟩ }
    rw [hzs]
    match z, hz with
    | 0, _ => exact ⟨⟨0, 0⟩, y, rest, rfl, hr, h0, hy, ha⟩
    | 1, _ => exact ⟨x, ⟨0, 0⟩, rest, rfl, hr, hx, h0, ha⟩
/-- A loss of power. -/
theorem lostZ_log {b : Int} {ls : List Int} {i : Nat} {v : Zn} (h : ZL b v) : ZL b (lostZ ls i v) := by
  unfold lostZ
  split
  · exact ZL.shut
  · split
    · exact ZL.shut
    · exact h
theorem lost_log {m : Mc} (hok : m.Ok) (hm : MI m) (ls : List Int) : MI (m.with (lost m ls)) := by
  obtain ⟨x, y, rest, hzs, hr, hx, hy, ha⟩ := hm
  have hrest : ∀ (rest : List Zn) (k : Nat), (∀ v ∈ rest, v.s = 0 ∧ v.l = 0) → ∀ v ∈ lostL ls k rest, v.s = 0 := by
    intro rest
    induction rest with
    | nil => intro k _ v hv; cases hv
    | cons u rest ih =>
      intro k h v hv
      have hv' : v ∈ lostZ ls k u :: lostL ls (k + 1) rest := hv
      rcases List.mem_cons.1 hv' with rfl | hv'
      · have hu := h u (by simp)
        unfold lostZ
        split
        · rename_i hh
          have := hu.2
          omega
        · rw [hu.1]
          rw [if_neg (by decide)]
          exact hu.1
      · exact ih _ (fun w hw => h w (by simp [hw])) v hv'
  refine ⟨lostZ ls 0 x, lostZ ls 1 y, lostL ls 2 rest, ?_, hrest rest 2 (fun v hv => ⟨hr v hv, (hok.zz v (by rw [hzs]; simp [hv])).2.2.2.2.1 (hr v hv)⟩), lostZ_log hx, lostZ_log hy, ha⟩
  show lostL ls 0 m.zs = _
  rw [hzs]
  rfl
/-- A drive of which only the first two zones are written, b blocks a zone. -/
structure DL (b : Int) (D : Dr) : Prop where
  ok : D.Ok
  live : D.dead = false
  mi : MI D.m
  b : D.m.b = b
theorem DL.two {b : Int} {D : Dr} (h : DL b D) : 2 ≤ D.m.zs.length := h.mi.len
/-- What Append leaves. -/
theorem DL.app {b : Int} {D : Dr} (h : DL b D) {z n : Nat} (hz : z < 2) {t : List UInt8} (ht : t.length = 64 * n) (hn : 1 ≤ n) (hl : ((D.c z).length : Int) + 64 * n ≤ 64 * b) :
    ∃ D', (∃ a, doD D 2 (z : Int) 0 (n : Int) t = (([], a, 0), D')) ∧ DL b D' ∧ D'.cs = D.cs.set z (D.c z ++ t) ∧ D'.ls = D.ls := by
  have hlen := h.two
  have hcz := h.ok.cz z (by omega)
  obtain ⟨h1, h2⟩ := app_log h.ok.m h.mi hz (n := (n : Int)) (by omega) (by rw [h.b]; omega)
  have hf : fits 2 (n : Int) t.length = true := by
    unfold fits
    rw [if_pos ⟨rfl, by omega⟩]
    exact decide_eq_true (by rw [ht]; omega)
  have hd : doD D 2 (z : Int) 0 (n : Int) t = exec D 2 (z : Int) 0 (n : Int) t := by
    unfold doD
    rw [if_neg (by rw [h.live]; decide), if_pos hf]
  have hok := exec_ok h.ok hf (k := 2) (zz := (z : Int)) (a := 0)
  unfold exec at hok hd
  rw [if_pos h1] at hok hd
  refine ⟨_, ⟨_, hd⟩, ⟨hok, h.live, ?_, h.b⟩, ?_, ?_⟩
  · show MI (turned D 2 (z : Int).toNat (doM D.m 2 (z : Int) 0 (n : Int)).2.2 t).m
    exact h2
  · show (if writesB 2 = true then D.cs.set (z : Int).toNat (D.c (z : Int).toNat ++ t) else if (2 : Int) = 3 then D.cs.set (z : Int).toNat [] else D.cs) = _
    rw [if_pos (show writesB 2 = true from rfl), Int.toNat_natCast]
  · show (if (2 : Int) = 3 then D.ls.set (z : Int).toNat 0 else if (2 : Int) = 4 then D.ls.set (z : Int).toNat ((D.c (z : Int).toNat).length / 64) else D.ls) = D.ls
    rw [if_neg (by decide), if_neg (by decide)]
/-- What Reset leaves. -/
theorem DL.rst {b : Int} {D : Dr} (h : DL b D) {z : Nat} (hz : z < 2) :
    ∃ D', doD D 3 (z : Int) 0 0 [] = (([], 0, 0), D') ∧ DL b D' ∧ D'.cs = D.cs.set z [] ∧ D'.ls = D.ls.set z 0 := by
  obtain ⟨h1, h2⟩ := rst_log h.mi hz
  have hf : fits 3 0 ([] : List UInt8).length = true := by unfold fits; rw [if_neg (by unfold writesB; simp)]; rfl
  have hd : doD D 3 (z : Int) 0 0 [] = exec D 3 (z : Int) 0 0 [] := by
    unfold doD
    rw [if_neg (by rw [h.live]; decide), if_pos hf]
  have hok := exec_ok h.ok hf (k := 3) (zz := (z : Int)) (a := 0)
  unfold exec at hok hd
  rw [h1] at hok hd
  rw [if_pos rfl] at hok hd
  refine ⟨_, hd, ⟨hok, h.live, ?_, h.b⟩, ?_, ?_⟩
  · show MI (turned D 3 (z : Int).toNat (D.m.zs.set z ⟨0, 0⟩) []).m
    exact h2
  · show (if writesB 3 = true then D.cs.set (z : Int).toNat (D.c (z : Int).toNat ++ []) else if (3 : Int) = 3 then D.cs.set (z : Int).toNat [] else D.cs) = _
    rw [if_neg (show ¬ writesB 3 = true by unfold writesB; decide), if_pos rfl, Int.toNat_natCast]
  · show (if (3 : Int) = 3 then D.ls.set (z : Int).toNat 0 else if (3 : Int) = 4 then D.ls.set (z : Int).toNat ((D.c (z : Int).toNat).length / 64) else D.ls) = _
    rw [if_pos rfl, Int.toNat_natCast]
theorem DL.flush {b : Int} {D : Dr} (h : DL b D) : DL b (flushD D) ∧ (flushD D).cs = D.cs ∧ ∀ i, (flushD D).l i = if i < D.cs.length then (D.c i).length / 64 else D.l i := by
  have h1 := flushD_ok h.ok
  have e : flushD D = settleTo D D.cs.length := by unfold flushD; rw [if_neg (by rw [h.live]; decide)]
  obtain ⟨a1, a2, a3, a4⟩ := settleTo_m D D.cs.length
  rw [e] at h1 ⊢
  exact ⟨⟨h1, by rw [a3]; exact h.live, by rw [a1]; exact h.mi, by rw [a1]; exact h.b⟩, a2, settleTo_l D D.cs.length (by rw [h.ok.both]; exact Nat.le_refl _)⟩
theorem DL.lose {b : Int} {D : Dr} (h : DL b D) (ks : List Int) : DL b (loseD D ks) ∧ ∀ i, i < D.m.zs.length → (loseD D ks).c i = (D.c i).take (64 * rem D ks i) ∧ (loseD D ks).l i = rem D ks i := by
  refine ⟨⟨loseD_ok h.ok ks, ?_, lost_log h.ok.m h.mi _, h.b⟩, fun i hi => ⟨(loseD_at h.ok ks hi).1, (loseD_at h.ok ks hi).2.1⟩⟩
  exact (loseTo_m D ks _).2.1.trans h.live
end Go.Proofs.YtpmhfalhieinjaaGreatDoor
