/- What the law MlogTorn does: its log, cut off within a record. -/
import Derived.Test.YtpmhfalhieinjaaGreatDoorMlgT
namespace Go.Proofs.YtpmhfalhieinjaaGreatDoor
open Go.RowKit Zon Drv Rec Crc

def zeroB (n : Nat) : ByteArray := ⟨(List.replicate n (0 : UInt8)).toArray⟩
theorem zeroB_size (n : Nat) : (zeroB n).size = n := by
  show (List.replicate n (0 : UInt8)).toArray.size = n
  simp
theorem zeroB_list (n : Nat) : (zeroB n).data.toList = List.replicate n 0 := by simp [zeroB]
theorem zeros_at (W : World) (n : Nat) : BytesAt (W.alloc (.cells (madeCells #[.int .u8 0] n) 5)) W.heap.size (List.replicate n 0) := fun j hj => by
  have hj' : j < n := by simpa using hj
  rw [made_noughts W 5 _ n j hj', List.getElem_replicate]
  rfl
theorem zeros_text (W : World) (n : Nat) : (convert 45 9 (.slice (some ⟨W.heap.size, 0, none⟩) n n)).run Tryz.prog (W.alloc (.cells (madeCells #[.int .u8 0] n) 5)) = .ok (.string (zeroB n)) (W.alloc (.cells (madeCells #[.int .u8 0] n) 5)) :=
  back (zeros_at W n) (List.length_replicate ..) Tryz.underlying45 Tryz.underlying5 Tryz.underlying9
theorem kept_one (x : Int) (m : Nat) (hx : 0 ≤ x ∧ x ≤ (m : Int)) (z : Nat) : kept [x] z m = x.toNat := by
  unfold kept
  rw [if_neg (by simp)]
  have e : z % [x].length = 0 := by show z % 1 = 0; omega
  rw [e]
  show ((if x < 0 then -(x + 1) else x) % ((m : Int) + 1)).toNat = _
  rw [if_neg (by omega), Int.emod_eq_of_lt (by omega) (by omega)]
theorem rotL_one (x : Int) (i : Nat) : rotL [x] i = [x] := by
  unfold rotL
  have e : i % [x].length = 0 := by show i % 1 = 0; omega
  rw [e]
  rfl
/-- The log of the law, with these records. -/
def Lm (more : List Rc) : Lg := ⟨0, 0, 1, (blk (begL 1 [] ++ more) : Int), false⟩
structure TrS (wb W : World) (r : Nat) (d : Nat → Nat) (p : Nat) (more : List Rc) (la : Nat) (c : Int) : Prop where
  ex : ∃ K G, LS wb W K r 1 1 d G p (Lm more) ∧ GL 1 24 G ∧ LOn 24 G (Lm more) [] more ∧ (G.D 0).c 1 = [] ∧ (G.D 0).l 0 = la ∧ 0 ≤ G.s.cnt ∧ G.s.cnt ≤ c
theorem Lm_blk (more : List Rc) : blk (begL 1 [] ++ more) = 2 + blk more := by rw [blk_append, begL_blk]; show 0 + 2 + blk more = _; omega
theorem Lm_push (more : List Rc) (x : Rc) : ({ Lm more with u := (Lm more).u + nBlocks x.k } : Lg) = Lm (more ++ [x]) := by
  unfold Lm
  have h : blk (begL 1 [] ++ (more ++ [x])) = blk (begL 1 [] ++ more) + nBlocks x.k := by
    rw [← List.append_assoc, blk_append]; rfl
  rw [h]
  congr 1
section
variable {wb W W' : World} {r p la : Nat} {d : Nat → Nat} {more : List Rc} {c : Int}
theorem TrS.grown (h : TrS wb W r d p more la c) (hb : Below W.heap.size W W') : TrS wb W' r d p more la c := by
  obtain ⟨K, G, h1, h2⟩ := h
  exact ⟨K, G, h1.grown hb, h2⟩
theorem TrS.b (h : TrS wb W r d p more la c) : Below wb.heap.size wb W := by
  obtain ⟨K, G, h1, h2⟩ := h
  exact h1.R.fam.b
theorem tr_format (hT : Tab wb) {K : Nat → Prop} (hR : Rig wb W K r 1 1 d (mdG 24).D (mdG 24).s) :
    Calls Tryz.prog 8 #[.pointer (some ⟨r, 0, none⟩), .int .i64 0, .slice none 0 0] W fun e w' => ∃ p, e = .returned (.tuple #[.pointer (some ⟨p, 0, none⟩), .int .i64 0]) ∧ TrS wb w' r d p [] 2 4 := by
  have hbk : (blk (begL 1 []) : Int) = 2 := by decide
  have hG := mdG_on 1 (b := 24) (by omega)
  obtain ⟨G', f1, f2, f3, f4, f5, f6, -⟩ := fm_on hG (i := 0) (by omega) (rs := []) rfl (by omega)
  have h := format_ok 0 none 0 [] hR (hG.rg (by decide) (c := 0) (by decide)) (by omega) (by omega) (by omega) ⟨rfl, by show (blk (begL 1 []) : Int) ≤ 24; omega⟩ f1 (by rw [f2]) hT (.inl rfl) (by decide)
  have hc1 : (G'.D 0).c 1 = [] := by
    obtain ⟨G1, a1, a2, a3, a4, a5, a6⟩ := rsP_on hG (i := 0) (by omega) (z := 1) (by omega)
    have hcl := (hG.d 0 (by omega)).cl
    have hc := c_set a4 (by omega)
    have a1' : rsP 1 (mdG 24) 0 1 = (0, G1) := a1
    obtain ⟨G2, b1, b2, b3, b4, b5, b6⟩ := bgP_on a2 (i := 0) (by omega) (z := 0) (by omega) (begT_size (g := 1) (rs := []) (by omega) rfl) (by rw [begL_blk]; omega) (by omega)
    have b1' : bgP 1 G1 0 0 (begT 1 []) = (0, G2) := b1
    rw [a1'] at f2
    have e : ((0 : Int), G2) = (0, G') := b1'.symm.trans f2
    injection e with _ e
    subst e
    rw [b4 1, if_neg (by omega), hc 1, if_pos rfl]
  rw [f2] at h
  have h4 : G'.s.cnt = 4 := f4
  have hla : (G'.D 0).l 0 = 2 := by
    rw [f6 0 (by omega)]
    have ht := f5.txt
    have ht2 : (G'.D 0).c 0 = catL (begL 1 [] ++ []) := ht
    rw [ht2, catL_len (log_good (by omega) rfl rfl)]
    decide
  unfold FPost at h
  refine h.mono ?_
  rintro e w' ⟨p, K', rfl, _, hS, _, _⟩
  exact ⟨p, rfl, K', G', hS, f3, f5, hc1, hla, by omega, by omega⟩
theorem tr_append (h : TrS wb W r d p more la c) (hT : Tab wb) (hc : c ≤ 1000) {x : Rc} (hx : okM x = true) (hf : (nBlocks x.k : Int) + (2 + blk more : Nat) ≤ 24) :
    Calls Tryz.prog 12 #[.pointer (some ⟨p, 0, none⟩), .agg #[.int .i64 x.k, .int .i64 x.s, .int .i64 x.a, .int .i64 x.b, .int .i64 x.c, .int .i64 x.d, .string x.body]] W fun e w' => e = .returned (.int .i64 0) ∧ TrS wb w' r d p (more ++ [x]) la (c + 1) := by
  obtain ⟨K, G, h1, h2, h3, h4, h5, h6, h7⟩ := h
  have hu : (Lm more).u = ((2 + blk more : Nat) : Int) := by show ((blk (begL 1 [] ++ more) : Nat) : Int) = _; rw [Lm_blk]
  obtain ⟨G', f1, f2, f3, f4, f5, f6⟩ := ap_on h2 (L := Lm more) (by show 0 < 1; omega) h3 hx (by omega)
  have h := mappend_any x h1 (h2.rg h6 h7) (by omega) hT (by show 0 < 1; omega) (by rw [h2.bl]; omega) (by omega)
  rw [f1] at h
  rw [Lm_push] at h f4
  have hc1 : (G'.D 0).c 1 = [] := by
    have hgd := (okM_good hx).1
    have hlen : (catL (begL 1 [] ++ more)).length = 64 * blk (begL 1 [] ++ more) := catL_len (log_good ⟨by have := h3.g1; omega, h3.g1.2⟩ h3.okb h3.okm)
    obtain ⟨G1, a1, a2, a3, a4, a5, a6⟩ := wrP_on h2 (i := 0) (by omega) (z := 0) (by omega) (t := encS x) (m := nBlocks x.k) (encS_size hgd) (nBlocks_pos hgd.1).1 (by
      have ht : (G.D 0).c 0 = catL (begL 1 [] ++ more) := h3.txt
      rw [ht, hlen]
      show ((64 * blk (begL 1 [] ++ more) : Nat) : Int) + 64 * (nBlocks x.k : Int) ≤ 64 * 24
      rw [Lm_blk]; omega)
    have hcl := (h2.d 0 (by omega)).cl
    have hcc := c_set a4 (by omega)
    have e : G' = G1 := by
      have h8 : apP 1 G (Lm more) x = (0, G1, { Lm more with u := (Lm more).u + nBlocks x.k }) := by
        unfold apP
        rw [if_pos hx]
        have hl : ¬ leftP G.s.bl (Lm more) < (nBlocks x.k : Int) := by
          unfold leftP
          rw [if_neg (by show ¬ false = true; decide), h2.bl]
          omega
        rw [if_neg hl]
        have a1' : wrP 1 G (Lm more).i ((Lm more).z : Int) (encS x) = (0, G1) := a1
        rw [a1']
        simp
      have h9 := h8.symm.trans f1
      injection h9 with _ h9
      injection h9 with h9 _
      exact h9.symm
    rw [e, hcc 1, if_neg (by omega)]
    exact h4
  refine h.mono ?_
  rintro e w' ⟨e1, K', k1, hS, _⟩
  refine ⟨e1, K', G', hS, f2, f4, hc1, ?_, by omega, by omega⟩
  have f5' : (G'.D 0).ls = (G.D 0).ls := f5
  unfold Dr.l at h5 ⊢
  rw [f5']
  exact h5
theorem tr_flush (h : TrS wb W r d p more la c) (hc : c ≤ 1000) :
    Calls Tryz.prog 15 #[.pointer (some ⟨r, 0, none⟩), .int .i64 0] W fun e w' => e = .returned (.int .i64 0) ∧ TrS wb w' r d p more (2 + blk more) (c + 1) := by
  obtain ⟨K, G, h1, h2, h3, h4, h5, h6, h7⟩ := h
  obtain ⟨G', f1, f2, f3, f4, f5, f6⟩ := flP_on h2 (i := 0) (by omega)
  have h := mflush_any 0 h1.R (h2.rg h6 h7) (by omega) (by omega)
  rw [f1] at h
  have hcl := (h2.d 0 (by omega)).cl
  have hcc : ∀ j, (G'.D 0).c j = (G.D 0).c j := fun j => by unfold Dr.c; rw [f4]
  have ht : (G.D 0).c 0 = catL (begL 1 [] ++ more) := h3.txt
  have hlen := catL_len (log_good ⟨by have := h3.g1; omega, h3.g1.2⟩ h3.okb h3.okm)
  have hlen' : (catL (begL 1 [] ++ more)).length = 64 * blk (begL 1 [] ++ more) := hlen
  refine h.mono ?_
  rintro e w' ⟨e1, hP⟩
  obtain ⟨K', k1, hS, _⟩ := h1.of_rig hP
  refine ⟨e1, K', G', hS, f2, ⟨h3.hz, h3.g1, ?_, h3.u, h3.ub, h3.t, h3.okb, h3.okm, fun l n hs => ?_⟩, by rw [hcc]; exact h4, ?_, by omega, by omega⟩
  · show (G'.D 0).c 0 = _
    rw [hcc]; exact ht
  · refine h3.old l n ?_
    have hs' : Scans (txtZ G' 0 1) l n := hs
    show Scans (txtZ G 0 1) l n
    unfold txtZ at hs' ⊢
    rw [← hcc 1]; exact hs'
  · rw [f5 0 (by omega), ht, hlen', Lm_blk]; omega
/-- Behind the loss of power: so many blocks of the records' are left. -/
structure TcS (wb W : World) (r : Nat) (d : Nat → Nat) (qs : List Rc) (m : Nat) (c : Int) : Prop where
  ex : ∃ K G, Rig wb W K r 1 1 d G.D G.s ∧ GL 1 24 G ∧ (G.D 0).c 0 = (catL qs).take (64 * m) ∧ (G.D 0).c 1 = [] ∧ 0 ≤ G.s.cnt ∧ G.s.cnt ≤ c
theorem tr_crash (h : TrS wb W r d p more la c) (x : Nat) (hx : x ≤ 1) (hm : 2 + blk more = la + 2) {b : Nat} (hb : Below W.heap.size W W') (hge : W.heap.size ≤ b) (hI : IntsIn W' (some ⟨b, 0, none⟩) [(x : Int)]) :
    Calls Tryz.prog 16 #[.pointer (some ⟨r, 0, none⟩), .slice (some ⟨b, 0, none⟩) 1 1] W' fun e w' => e = .returned (.tuple #[]) ∧ TcS wb w' r d (begL 1 [] ++ more) (la + x) c := by
  obtain ⟨K, G, h1, h2, h3, h4, h5, h6, h7⟩ := h
  have hR := h1.R.keepAll hb
  have hblt : b < W'.heap.size := by
    rcases hI with h0 | ⟨b2, off, e, hlt, _⟩
    · cases h0
    · injection e with e; injection e with e; omega
  have h := rcrash_any hR (fun i hi => (h2.d i hi).ok) (some ⟨b, 0, none⟩) 1 [(x : Int)] hI (fun _ b2 off e => by
    injection e with e; injection e with e
    subst e
    exact .inr (.inr ⟨hge, hblt⟩)) (by simp) (by simp) (fun y hy => by
    rw [List.mem_singleton.1 hy]
    unfold Rng
    omega)
  have hd0 := (h2.d 0 (by omega))
  obtain ⟨l1, l2⟩ := hd0.lose [(x : Int)]
  have ht : (G.D 0).c 0 = catL (begL 1 [] ++ more) := h3.txt
  have hlen : (catL (begL 1 [] ++ more)).length = 64 * blk (begL 1 [] ++ more) := catL_len (log_good ⟨by have := h3.g1; omega, h3.g1.2⟩ h3.okb h3.okm)
  have hrem : rem (G.D 0) [(x : Int)] 0 = la + x := by
    unfold rem
    rw [h5, ht, hlen, Lm_blk, show 64 * (2 + blk more) / 64 - la = 2 by omega, kept_one (x : Int) 2 (by omega)]
    omega
  refine h.mono ?_
  rintro e w' ⟨e1, hR', _⟩
  refine ⟨e1, _, ⟨lostN G.D [(x : Int)] 1, { G.s with off := false, due := 0, ks := [] }⟩, hR', ⟨rfl, rfl, h2.bl, fun i hi => ?_⟩, ?_, ?_, h6, h7⟩
  · obtain rfl : i = 0 := by omega
    show DL 24 (lostN G.D [(x : Int)] 1 0)
    unfold lostN
    rw [if_pos (by omega), rotL_one]
    exact l1
  · show (lostN G.D [(x : Int)] 1 0).c 0 = _
    unfold lostN
    rw [if_pos (by omega), rotL_one, (l2 0 (by have := hd0.two; omega)).1, hrem, ht]
  · show (lostN G.D [(x : Int)] 1 0).c 1 = _
    unfold lostN
    rw [if_pos (by omega), rotL_one, (l2 1 (by have := hd0.two; omega)).1, h4]
    simp
/-- What is found. -/
def Lt (n x : Nat) : Lg := ⟨0, 0, 1, ((2 + n + x : Nat) : Int), decide (2 + n < 2 + n + x)⟩
theorem tc_sel {G : Rg} {more : List Rc} {P : Rc} {x : Nat} (hok : more.all okM = true) (hP : okM P = true) (hk : nBlocks P.k = 2) (hx : x ≤ 1) (h0 : (G.D 0).c 0 = (catL (begL 1 [] ++ (more ++ [P]))).take (64 * (2 + blk more + x))) (h1 : (G.D 0).c 1 = [])
    {o : Option (Lg × List Rc)} (ho : SelR G 0 2 o) : o = some (Lt (blk more) x, more) := by
  have hokp : (more ++ [P]).all okM = true := by rw [List.all_append, hok]; simp [hP]
  have hg := log_good (g := 1) (base := []) (more := more ++ [P]) (by omega) rfl hokp
  have hlen : (catL (begL 1 [] ++ (more ++ [P]))).length = 64 * blk (begL 1 [] ++ (more ++ [P])) := catL_len hg
  have hbq : blk (begL 1 [] ++ (more ++ [P])) = 2 + blk more + 2 := by
    rw [Lm_blk, blk_append]
    show 2 + (blk more + (nBlocks P.k + 0)) = _
    omega
  have htk : (begL 1 [] ++ (more ++ [P])).take (2 + more.length) = begL 1 [] ++ more := by
    rw [← List.append_assoc]
    have : (begL 1 [] ++ more).length = 2 + more.length := by rw [List.length_append]; rfl
    rw [List.take_append_of_le_length (by omega), List.take_of_length_le (by omega)]
  have hln : (begL 1 [] ++ (more ++ [P])).length = 2 + more.length + 1 := by rw [List.length_append, List.length_append]; show 2 + (more.length + 1) = _; omega
  have hsz : (txtZ G 0 0).size = 64 * (2 + blk more + x) := by rw [txtZ_size, h0, List.length_take, hlen, hbq]; omega
  have hsc : Scans (txtZ G 0 0) (begL 1 [] ++ more) (blk (begL 1 [] ++ more)) := by
    have h := scan_cat (begL 1 [] ++ (more ++ [P])) (2 + more.length) (64 * (2 + blk more + x)) (txtZ G 0 0) hg (by omega) (by rw [htk, Lm_blk]; omega) (fun _ => by
      rw [List.take_of_length_le (by omega), hbq]; omega) (fun h => by omega) h0
    rw [htk] at h
    exact h
  obtain ⟨o1, l1, n1, ⟨o0, l0, n0, hn0, s0, e1⟩, s1, e2⟩ := ho
  have hn0' : o0 = none := hn0
  subst hn0'
  obtain ⟨rfl, rfl⟩ := s0.uniq hsc
  rw [better_first (parP_log (g := 1) [] more), nomk_log (g := 1) (base := []) rfl hok] at e1
  rw [e2, better_no (txt_empty h1 l1 n1 s1), e1]
  unfold Lt
  rw [hsz, Lm_blk, show 64 * (2 + blk more + x) / 64 = 2 + blk more + x by omega]
  rfl
/-- A log that was found, and its records. -/
structure TfS (wb W : World) (r : Nat) (d : Nat → Nat) (p : Nat) (A : Option Addr) (more : List Rc) (P : Rc) (x : Nat) (c : Int) : Prop where
  ex : ∃ K G, LS wb W K r 1 1 d G p (Lt (blk more) x) ∧ GL 1 24 G ∧ (G.D 0).c 0 = (catL (begL 1 [] ++ (more ++ [P]))).take (64 * (2 + blk more + x)) ∧ (G.D 0).c 1 = [] ∧ 0 ≤ G.s.cnt ∧ G.s.cnt ≤ c ∧ RecsIn W A more ∧ ∀ b off, A = some ⟨b, off, none⟩ → K b ∧ b ≠ r ∧ b ≠ p
theorem TfS.b {A : Option Addr} {P : Rc} {x : Nat} (h : TfS wb W r d p A more P x c) : Below wb.heap.size wb W := by
  obtain ⟨K, G, h1, h2⟩ := h
  exact h1.R.fam.b
theorem tf_open {P : Rc} {x : Nat} (h : TcS wb W r d (begL 1 [] ++ (more ++ [P])) (2 + blk more + x) c) (hT : Tab wb) (hc : c ≤ 1000) (hok : more.all okM = true) (hP : okM P = true) (hk : nBlocks P.k = 2) (hx : x ≤ 1) :
    Calls Tryz.prog 9 #[.pointer (some ⟨r, 0, none⟩), .int .i64 0] W fun e w' => ∃ p2 A cap, e = .returned (.tuple #[.pointer (some ⟨p2, 0, none⟩), .slice A more.length cap, .int .i64 0]) ∧ TfS wb w' r d p2 A more P x c := by
  obtain ⟨K, G, h1, h2, h3, h4, h6, h7⟩ := h
  have h := mopen_any 0 h1 (h2.rg h6 h7) (by omega) (by omega) h2.off (h2.d 0 (by omega)).two hT
  unfold OpPost at h
  refine h.mono ?_
  rintro e w' ⟨o, K', lv, rv, hsl, k1, hR, hs, hO, rfl⟩
  obtain rfl := tc_sel hok hP hk hx h3 h4 hsl
  obtain ⟨p2, A, cap, rfl, rfl, hl2, hp2, hn2, hg2, hrec, hA⟩ := hO
  exact ⟨p2, A, cap, rfl, K', G, ⟨hR, hl2, hp2, hn2, hg2, by omega⟩, h2, h3, h4, h6, h7, hrec, hA⟩
section
variable {A : Option Addr} {P : Rc}
/-- Nothing of the last record is left: the log goes on. -/
theorem TfS.whole (h : TfS wb W r d p A more P 0 c) (hok : more.all okM = true) (hP : okM P = true) (hl : 2 + blk more ≤ 24) : TrS wb W r d p more (((fun G : Rg => (G.D 0).l 0) (Classical.choose (Classical.choose_spec h.ex)))) c := by
  have hsp := Classical.choose_spec (Classical.choose_spec h.ex)
  generalize Classical.choose (Classical.choose_spec h.ex) = G at hsp ⊢
  generalize Classical.choose h.ex = K at hsp
  obtain ⟨h1, h2, h3, h4, h6, h7, _, _⟩ := hsp
  have hokp : (more ++ [P]).all okM = true := by rw [List.all_append, hok]; simp [hP]
  have hlen : (catL (begL 1 [] ++ more)).length = 64 * blk (begL 1 [] ++ more) := catL_len (log_good (g := 1) (base := []) (by omega) rfl hok)
  have ht : (G.D 0).c 0 = catL (begL 1 [] ++ more) := by
    rw [h3, ← List.append_assoc, catL_append, List.take_append_of_le_length (by rw [hlen, Lm_blk]; omega), List.take_of_length_le (by rw [hlen, Lm_blk]; omega)]
  have hL : Lt (blk more) 0 = Lm more := by
    unfold Lt Lm
    rw [Lm_blk, decide_eq_false (by omega)]
    rfl
  rw [hL] at h1
  exact ⟨K, G, h1, h2, ⟨by show 0 < 2; omega, by show 1 ≤ (1 : Int) ∧ (1 : Int) ≤ 1099511627776; omega, ht, rfl, by show ((blk (begL 1 [] ++ more) : Nat) : Int) ≤ 24; rw [Lm_blk]; omega, rfl, rfl, hok, fun l n hs => .inl (txt_empty (z := 1) h4 l n hs)⟩, h4, rfl, h6, h7⟩
end
end
end Go.Proofs.YtpmhfalhieinjaaGreatDoor
