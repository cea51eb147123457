/- A log on a rig whose power does not fail: what its calls leave, and what is found. -/
import Derived.Test.YtpmhfalhieinjaaGreatDoorMlgQ
import Derived.Test.YtpmhfalhieinjaaGreatDoorMlgV
namespace Go.Proofs.YtpmhfalhieinjaaGreatDoor
open Go.RowKit Zon Drv Rec Crc

/-- A rig with power, of drives of which only two zones are written. -/
structure GL (n : Nat) (b : Int) (G : Rg) : Prop where
  off : G.s.off = false
  due : G.s.due = 0
  bl : G.s.bl = b
  d : ∀ i, i < n → DL b (G.D i)
theorem adm_on {n : Nat} {b : Int} {G : Rg} (h : GL n b G) : adm n G true = (0, ⟨G.D, { G.s with due := 0, cnt := G.s.cnt + 1 }⟩) := by
  unfold adm
  rw [if_neg (by rw [h.off]; decide), if_neg (by decide), if_neg (by rw [h.due]; decide), h.due]
  rfl
theorem GL.put {n : Nat} {b : Int} {G : Rg} (h : GL n b G) (i : Nat) {E : Dr} (hE : DL b E) (x : Int) : GL n b ⟨upd G.D i E, { G.s with due := 0, cnt := x }⟩ :=
  ⟨h.off, rfl, h.bl, upd_all h.d i hE⟩
theorem rsP_on {n : Nat} {b : Int} {G : Rg} (h : GL n b G) {i z : Nat} (hi : i < n) (hz : z < 2) :
    ∃ G', rsP n G i (z : Int) = (0, G') ∧ GL n b G' ∧ G'.s.cnt = G.s.cnt + 1 ∧ (G'.D i).cs = (G.D i).cs.set z [] ∧ (G'.D i).ls = (G.D i).ls.set z 0 ∧ ∀ j, j ≠ i → G'.D j = G.D j := by
  obtain ⟨D', h1, h2, h3, h4⟩ := (h.d i hi).rst hz
  refine ⟨⟨upd G.D i D', { G.s with due := 0, cnt := G.s.cnt + 1 }⟩, ?_, h.put i h2 _, rfl, ?_, ?_, fun j hj => upd_ne _ hj _⟩
  · unfold rsP rgDo
    rw [show ((3 : Int) != 7) = true from rfl, adm_on h]
    simp only [if_true]
    rw [h1]
  · show (upd G.D i D' i).cs = _
    rw [upd_same]; exact h3
  · show (upd G.D i D' i).ls = _
    rw [upd_same]; exact h4
theorem wrP_on {n : Nat} {b : Int} {G : Rg} (h : GL n b G) {i z m : Nat} (hi : i < n) (hz : z < 2) {t : ByteArray} (ht : t.size = 64 * m) (hm : 1 ≤ m) (hl : (((G.D i).c z).length : Int) + 64 * m ≤ 64 * b) :
    ∃ G', wrP n G i (z : Int) t = (0, G') ∧ GL n b G' ∧ G'.s.cnt = G.s.cnt + 1 ∧ (G'.D i).cs = (G.D i).cs.set z ((G.D i).c z ++ t.data.toList) ∧ (G'.D i).ls = (G.D i).ls ∧ ∀ j, j ≠ i → G'.D j = G.D j := by
  obtain ⟨D', ⟨a, h1⟩, h2, h3, h4⟩ := (h.d i hi).app hz (t := t.data.toList) (n := m) (by rw [Array.length_toList]; exact ht) hm hl
  have e : t.size / 64 = m := by omega
  refine ⟨⟨upd G.D i D', { G.s with due := 0, cnt := G.s.cnt + 1 }⟩, ?_, h.put i h2 _, rfl, ?_, ?_, fun j hj => upd_ne _ hj _⟩
  · unfold wrP rgDo
    rw [show ((2 : Int) != 7) = true from rfl, adm_on h, e]
    simp only [if_true]
    rw [h1]
  · show (upd G.D i D' i).cs = _
    rw [upd_same]; exact h3
  · show (upd G.D i D' i).ls = _
    rw [upd_same]; exact h4
theorem flP_on {n : Nat} {b : Int} {G : Rg} (h : GL n b G) {i : Nat} (hi : i < n) :
    ∃ G', rgFlush n G i = (0, G') ∧ GL n b G' ∧ G'.s.cnt = G.s.cnt + 1 ∧ (G'.D i).cs = (G.D i).cs ∧ (∀ j, j < (G.D i).cs.length → (G'.D i).l j = ((G.D i).c j).length / 64) ∧ ∀ j, j ≠ i → G'.D j = G.D j := by
  obtain ⟨h1, h2, h3⟩ := (h.d i hi).flush
  refine ⟨⟨upd G.D i (flushD (G.D i)), { G.s with due := 0, cnt := G.s.cnt + 1 }⟩, ?_, h.put i h1 _, rfl, ?_, fun j hj => ?_, fun j hj => upd_ne _ hj _⟩
  · unfold rgFlush
    rw [adm_on h]
    simp only [if_true]
  · show (upd G.D i _ i).cs = _
    rw [upd_same]; exact h2
  · show (upd G.D i _ i).l j = _
    rw [upd_same, h3 j, if_pos hj]
theorem DL.cl {b : Int} {D : Dr} (h : DL b D) : 2 ≤ D.cs.length := by rw [h.ok.cl]; exact h.two
theorem c_set {D D' : Dr} {z : Nat} {t : List UInt8} (h : D'.cs = D.cs.set z t) (hz : z < D.cs.length) (j : Nat) : D'.c j = if j = z then t else D.c j := by
  unfold Dr.c
  rw [h]
  by_cases e : j = z
  · subst e; rw [if_pos rfl, at_set hz]
  · rw [if_neg e, at_set_ne (Ne.symm e)]
/-- A zone is begun. -/
theorem bgP_on {n : Nat} {b : Int} {G : Rg} (h : GL n b G) {i z m : Nat} (hi : i < n) (hz : z < 2) {t : ByteArray} (ht : t.size = 64 * m) (hm : 1 ≤ m) (hl : (m : Int) ≤ b) :
    ∃ G', bgP n G i (z : Int) t = (0, G') ∧ GL n b G' ∧ G'.s.cnt = G.s.cnt + 3 ∧ (∀ j, (G'.D i).c j = if j = z then t.data.toList else (G.D i).c j) ∧ (∀ j, j < 2 → (G'.D i).l j = ((G'.D i).c j).length / 64) ∧ ∀ j, j ≠ i → G'.D j = G.D j := by
  have hcl := (h.d i hi).cl
  obtain ⟨G1, a1, a2, a3, a4, a5, a6⟩ := rsP_on h hi hz
  have hc1 := c_set a4 (by omega)
  obtain ⟨G2, b1, b2, b3, b4, b5, b6⟩ := wrP_on a2 hi hz ht hm (by rw [hc1 z, if_pos rfl]; simp; omega)
  have hcl1 := (a2.d i hi).cl
  have hc2 := c_set b4 (by omega)
  obtain ⟨G3, c1, c2, c3, c4, c5, c6⟩ := flP_on b2 hi
  have hcl2 := (b2.d i hi).cl
  have hcc : ∀ j, (G3.D i).c j = (G2.D i).c j := fun j => by unfold Dr.c; rw [c4]
  refine ⟨G3, ?_, c2, by omega, fun j => ?_, fun j hj => ?_, fun j hj => (c6 j hj).trans ((b6 j hj).trans (a6 j hj))⟩
  · unfold bgP
    rw [a1]
    simp only [ne_eq, not_true_eq_false, if_false]
    rw [b1]
    simp only [not_true_eq_false, if_false]
    exact c1
  · rw [hcc j, hc2 j, hc1 z, if_pos rfl, List.nil_append, hc1 j]
    split
    · rfl
    · rfl
  · rw [hcc j]; exact c5 j (by omega)

/-- What stands in a zone scans as these records. -/
theorem scan_txt {G : Rg} {i z : Nat} {qs : List Rc} (hg : ∀ q ∈ qs, Rec.Good q) (h : (G.D i).c z = catL qs) : Scans (txtZ G i z) qs (blk qs) ∧ (txtZ G i z).size = 64 * blk qs := by
  have hl := catL_len hg
  have hsz : (txtZ G i z).size = 64 * blk qs := by rw [txtZ_size, h, hl]
  refine ⟨?_, hsz⟩
  have h1 := scan_cat qs qs.length (64 * blk qs) (txtZ G i z) hg (Nat.le_refl _) (by rw [List.take_length]; exact Nat.le_refl _) (fun h => absurd h (Nat.lt_irrefl _)) (fun _ => Nat.le_refl _) (by
    rw [List.take_of_length_le (by omega)]
    exact h)
  rw [List.take_length] at h1
  exact h1
theorem parP_log {g : Int} (base more : List Rc) : parP (begL g base ++ more) = some g := by
  have hl : 0 < (begL g base ++ more).length := by unfold begL; simp
  have h0 : (begL g base ++ more)[0] = markR 1 g := by unfold begL; rfl
  have hk : (begL g base ++ more)[0].k = 1 := by rw [h0]; rfl
  have hc : (begL g base ++ more)[0].c = g := by rw [h0]; rfl
  have ha : (begL g base ++ more).any (isDn (begL g base ++ more)[0].c) = true := by
    rw [hc]
    refine List.any_eq_true.2 ⟨markR 2 g, ?_, ?_⟩
    · unfold begL; simp
    · unfold isDn markR; exact decide_eq_true ⟨rfl, rfl⟩
  rw [parP_some hl hk ha, hc]
theorem nomk_all {rs : List Rc} (h : rs.all okM = true) : nomk rs = rs := by
  refine nomk_none ?_
  rw [List.any_eq_false]
  intro r hr
  have := (okM_good (List.all_eq_true.1 h r hr)).2
  rw [this]
  decide
theorem nomk_app (a b : List Rc) : nomk (a ++ b) = nomk a ++ nomk b := List.filter_append ..
theorem nomk_log {g : Int} {base more : List Rc} (hb : base.all okM = true) (hm : more.all okM = true) : nomk (begL g base ++ more) = base ++ more := by
  unfold begL
  rw [nomk_app, nomk_all hm]
  congr 1
  show nomk ([markR 1 g] ++ (base ++ [markR 2 g])) = base
  rw [nomk_app, nomk_app, nomk_all hb]
  have h1 : nomk [markR 1 g] = [] := rfl
  have h2 : nomk [markR 2 g] = [] := rfl
  rw [h1, h2]
  simp
theorem all_good {rs : List Rc} (h : rs.all okM = true) : ∀ q ∈ rs, Rec.Good q := fun q hq => (okM_good (List.all_eq_true.1 h q hq)).1
theorem log_good {g : Int} {base more : List Rc} (hg : 0 ≤ g ∧ g ≤ 1099511627776) (hb : base.all okM = true) (hm : more.all okM = true) : ∀ q ∈ begL g base ++ more, Rec.Good q := fun q hq => by
  rcases List.mem_append.1 hq with h | h
  · exact begL_good hg hb q h
  · exact all_good hm q h
/-- A log that is as its calls say. -/
structure LOn (b : Int) (G : Rg) (L : Lg) (base more : List Rc) : Prop where
  hz : L.z < 2
  g1 : 1 ≤ L.g ∧ L.g ≤ 1099511627776
  txt : (G.D L.i).c L.z = catL (begL L.g base ++ more)
  u : L.u = (blk (begL L.g base ++ more) : Int)
  ub : L.u ≤ b
  t : L.t = false
  okb : base.all okM = true
  okm : more.all okM = true
  old : ∀ l n, Scans (txtZ G L.i (1 - L.z)) l n → parP l = none ∨ ∃ g', parP l = some g' ∧ g' < L.g
theorem parP_nil : parP [] = none := rfl
theorem txt_empty {G : Rg} {i z : Nat} (h : (G.D i).c z = []) : ∀ l n, Scans (txtZ G i z) l n → parP l = none := fun l n hs => by
  have h1 := (scan_txt (qs := []) (G := G) (i := i) (z := z) (fun q hq => by cases hq) (by rw [h]; rfl)).1
  obtain ⟨e, _⟩ := hs.uniq h1
  rw [e]; rfl
theorem sel_log {b : Int} {G : Rg} {L : Lg} {base more : List Rc} (h : LOn b G L base more) {o : Option (Lg × List Rc)} (ho : SelR G L.i 2 o) : o = some (L, base ++ more) := by
  obtain ⟨o1, l1, n1, ⟨o0, l0, n0, h0, s0, e1⟩, s1, e2⟩ := ho
  have h0' : o0 = none := h0
  subst h0'
  obtain ⟨hsc, hsz⟩ := scan_txt (log_good ⟨by have := h.g1; omega, h.g1.2⟩ h.okb h.okm) h.txt
  have hpar := parP_log (g := L.g) base more
  have hno := nomk_log (g := L.g) h.okb h.okm
  have hL : ∀ z sz nn, z = L.z → sz = 64 * blk (begL L.g base ++ more) → nn = blk (begL L.g base ++ more) → (⟨L.i, z, L.g, ((sz / 64 : Nat) : Int), decide (nn < sz / 64)⟩ : Lg) = L := fun z sz nn e1 e2 e3 => by
    subst e1; subst e2; subst e3
    have hu := h.u
    have ht := h.t
    obtain ⟨Li, Lz, Lg', Lu, Lt⟩ := L
    dsimp only at hu ht ⊢
    have hd : 64 * blk (begL Lg' base ++ more) / 64 = blk (begL Lg' base ++ more) := by omega
    rw [hd, hu, ht, decide_eq_false (Nat.lt_irrefl _)]
  have hz := h.hz
  have hcase : L.z = 0 ∨ L.z = 1 := by omega
  rcases hcase with hz0 | hz1
  · rw [hz0] at hsc hsz
    obtain ⟨rfl, rfl⟩ := s0.uniq hsc
    have hold := h.old l1 n1 (by rw [hz0]; exact s1)
    rw [better_first hpar] at e1
    rw [hno, hL 0 _ _ hz0.symm hsz rfl] at e1
    rw [e2, e1]
    rcases hold with hn | ⟨g', hg, hlt⟩
    · exact better_no hn
    · exact better_old hg (by show ¬ L.g < g'; omega)
  · rw [hz1] at hsc hsz
    obtain ⟨rfl, rfl⟩ := s1.uniq hsc
    have hold := h.old l0 n0 (by rw [hz1]; exact s0)
    rcases hold with hn | ⟨g', hg, hlt⟩
    · rw [better_no hn] at e1
      rw [e2, e1, better_first hpar, hno, hL 1 _ _ hz1.symm hsz rfl]
    · rw [better_first hg] at e1
      rw [e2, e1, better_yes hpar hlt, hno, hL 1 _ _ hz1.symm hsz rfl]
/-- Format. -/
theorem fm_on {n : Nat} {b : Int} {G : Rg} (h : GL n b G) {i : Nat} (hi : i < n) {rs : List Rc} (hr : rs.all okM = true) (hf : (blk (begL 1 rs) : Int) ≤ b) :
    ∃ G', (rsP n G i 1).1 = 0 ∧ bgP n (rsP n G i 1).2 i 0 (begT 1 rs) = (0, G') ∧ GL n b G' ∧ G'.s.cnt = G.s.cnt + 4 ∧ LOn b G' ⟨i, 0, 1, blk (begL 1 rs), false⟩ rs [] ∧ (∀ j, j < 2 → (G'.D i).l j = ((G'.D i).c j).length / 64) ∧ ∀ j, j ≠ i → G'.D j = G.D j := by
  obtain ⟨G1, a1, a2, a3, a4, a5, a6⟩ := rsP_on h hi (z := 1) (by omega)
  have hcl := (h.d i hi).cl
  have hc1 := c_set a4 (by omega)
  have a1' : rsP n G i 1 = (0, G1) := a1
  obtain ⟨G2, b1, b2, b3, b4, b5, b6⟩ := bgP_on a2 hi (z := 0) (by omega) (begT_size (g := 1) (by omega) hr) (by rw [begL_blk]; omega) hf
  have b1' : bgP n G1 i 0 (begT 1 rs) = (0, G2) := b1
  refine ⟨G2, by rw [a1'], by rw [a1']; exact b1', b2, by omega, ?_, b5, fun j hj => (b6 j hj).trans (a6 j hj)⟩
  refine ⟨by show 0 < 2; omega, by show 1 ≤ (1 : Int) ∧ (1 : Int) ≤ 1099511627776; omega, ?_, by rw [List.append_nil], hf, rfl, hr, rfl, fun l n hs => .inl (txt_empty ?_ l n hs)⟩
  · show (G2.D i).c 0 = _
    rw [b4 0, if_pos rfl, List.append_nil]
    rfl
  · show (G2.D i).c 1 = _
    rw [b4 1, if_neg (by omega), hc1 1, if_pos rfl]
/-- Append. -/
theorem ap_on {n : Nat} {b : Int} {G : Rg} (h : GL n b G) {L : Lg} {base more : List Rc} (hi : L.i < n) (hL : LOn b G L base more) {x : Rc} (hx : okM x = true) (hf : (nBlocks x.k : Int) ≤ b - L.u) :
    ∃ G', apP n G L x = (0, G', { L with u := L.u + nBlocks x.k }) ∧ GL n b G' ∧ G'.s.cnt = G.s.cnt + 1 ∧ LOn b G' { L with u := L.u + nBlocks x.k } base (more ++ [x]) ∧ (G'.D L.i).ls = (G.D L.i).ls ∧ ∀ j, j ≠ L.i → G'.D j = G.D j := by
  have hgd := (okM_good hx).1
  have hnb := nBlocks_pos hgd.1
  have hlen := catL_len (log_good ⟨by have := hL.g1; omega, hL.g1.2⟩ hL.okb hL.okm)
  have hcl := (h.d L.i hi).cl
  have hz := hL.hz
  obtain ⟨G1, a1, a2, a3, a4, a5, a6⟩ := wrP_on h hi hL.hz (t := encS x) (m := nBlocks x.k) (encS_size hgd) hnb.1 (by rw [hL.txt, hlen]; have := hL.u; omega)
  have hc := c_set a4 (by omega)
  have hob : blk (begL L.g base ++ (more ++ [x])) = blk (begL L.g base ++ more) + nBlocks x.k := by
    rw [← List.append_assoc, blk_append]
    rfl
  refine ⟨G1, ?_, a2, a3, ⟨hL.hz, hL.g1, ?_, ?_, ?_, hL.t, hL.okb, ?_, fun l n hs => ?_⟩, a5, a6⟩
  · unfold apP
    rw [if_pos hx]
    have hl : ¬ leftP G.s.bl L < (nBlocks x.k : Int) := by
      unfold leftP
      rw [if_neg (by rw [hL.t]; decide), h.bl]
      omega
    rw [if_neg hl, a1]
    simp
  · show (G1.D L.i).c L.z = _
    rw [hc L.z, if_pos rfl, hL.txt, encS_data hgd, ← List.append_assoc, catL_append (begL L.g base ++ more) [x]]
    simp [catL]
  · show L.u + (nBlocks x.k : Int) = _
    rw [hob, hL.u]; omega
  · show L.u + (nBlocks x.k : Int) ≤ b
    omega
  · rw [List.all_append, hL.okm]; simp [hx]
  · refine hL.old l n ?_
    have e : txtZ G1 L.i (1 - L.z) = txtZ G L.i (1 - L.z) := by
      unfold txtZ
      rw [hc (1 - L.z), if_neg (by omega)]
    rw [← e]; exact hs
/-- Roll. -/
theorem rl_on {n : Nat} {b : Int} {G : Rg} (h : GL n b G) {L : Lg} {base more : List Rc} (hi : L.i < n) (hL : LOn b G L base more) {rs : List Rc} (hr : rs.all okM = true) (hg : L.g < 1099511627776) (hf : (blk (begL (L.g + 1) rs) : Int) ≤ b) :
    ∃ G', rlP n G L rs = (0, G', ⟨L.i, 1 - L.z, L.g + 1, blk (begL (L.g + 1) rs), false⟩) ∧ GL n b G' ∧ G'.s.cnt = G.s.cnt + 3 ∧ LOn b G' ⟨L.i, 1 - L.z, L.g + 1, blk (begL (L.g + 1) rs), false⟩ rs [] ∧ ∀ j, j ≠ L.i → G'.D j = G.D j := by
  have hz := hL.hz
  have hg1 := hL.g1
  obtain ⟨G2, b1, b2, b3, b4, b5, b6⟩ := bgP_on h hi (z := 1 - L.z) (by omega) (begT_size (g := L.g + 1) (rs := rs) (by omega) hr) (by rw [begL_blk]; omega) hf
  refine ⟨G2, ?_, b2, b3, ⟨?_, ?_, ?_, ?_, hf, rfl, hr, rfl, fun l n hs => .inr ⟨L.g, ?_, ?_⟩⟩, b6⟩
  · unfold rlP
    rw [if_pos hr, if_pos (by rw [h.bl]; exact hf), b1]
    simp
  · show 1 - L.z < 2; omega
  · show 1 ≤ L.g + 1 ∧ L.g + 1 ≤ 1099511627776; omega
  · show (G2.D L.i).c (1 - L.z) = _
    rw [b4 (1 - L.z), if_pos rfl, List.append_nil]
    rfl
  · show ((blk (begL (L.g + 1) rs) : Nat) : Int) = _
    rw [List.append_nil]
  · have hs' : Scans (txtZ G2 L.i (1 - (1 - L.z))) l n := hs
    have ez : 1 - (1 - L.z) = L.z := by omega
    rw [ez] at hs'
    have ht : (G2.D L.i).c L.z = catL (begL L.g base ++ more) := by rw [b4 L.z, if_neg (by omega)]; exact hL.txt
    obtain ⟨e, _⟩ := hs'.uniq (scan_txt (log_good ⟨by omega, hL.g1.2⟩ hL.okb hL.okm) ht).1
    rw [e]
    exact parP_log base more
  · show L.g < L.g + 1; omega
end Go.Proofs.YtpmhfalhieinjaaGreatDoor
