/- What encoded and beginning of mlog do. -/
import Derived.Test.YtpmhfalhieinjaaGreatDoorMlgB
import Derived.Test.YtpmhfalhieinjaaGreatDoorMScn
namespace Go.Proofs.YtpmhfalhieinjaaGreatDoor
open Go.RowKit Zon Drv Rec Crc

theorem Lib.IsBuilder.below' {T e : TypeId} {B b : Nat} {bs : List Value} {w w' : World} (h : Lib.IsBuilder T e B b bs w) (hb : Below w.heap.size w w') : Lib.IsBuilder T e B b bs w' := by
  have h1 : ∀ p, Lib.BuilderAt T e B b p bs w → Lib.BuilderAt T e B b p bs w' := fun p hp => by
    obtain ⟨hB, v, hbk, hown, hne⟩ := hp
    refine ⟨hB, v, (hb.block b (Array.getElem?_eq_some_iff.1 hbk).1).trans hbk, ⟨hown.1, ?_⟩, hne⟩
    rcases hown.2 with hn | ⟨g, cap', cur, hv, hg, hgg, rest⟩
    · exact .inl hn
    · exact .inr ⟨g, cap', cur, hv, hg, by rw [hb.block g (Array.getElem?_eq_some_iff.1 hgg).1]; exact hgg, rest⟩
  exact h.imp (h1 _) (h1 _)
theorem unsafe_none (W : World) (q : Option Addr) : (Builtin.unsafeString_ #[176, 3] 9 #[.pointer q, .int .i64 0]).run Tryz.prog W = .ok (.string .empty) W :=
  Lib.run_unsafeString_none W _ _ _ q
set_option maxHeartbeats 2000000 in
set_option maxRecDepth 100000 in
theorem bld_nil (B b : Nat) (p : Value) (w : World) (hbk : w.heap[b]? = some (.cells #[p, .slice none 0 0] 133 (0, 0))) :
    Calls Tryz.prog 69 #[.pointer (some ⟨b, 0, none⟩)] w fun e w' => e = .returned (.string ⟨#[]⟩) ∧ Below B w w' := by
  have hUS := unsafe_none
  have c1 : w.drew.cell? ⟨b, 1, none⟩ = some (.slice none 0 0) := by
    have : w.drew.heap[b]? = some (.cells #[p, .slice none 0 0] 133 (0, 0)) := hbk
    rw [Lib.cell_of_heap this]; rfl
  have hSD : (Builtin.unsafeSliceData_ #[45] 176 #[.slice none 0 0]).run Tryz.prog w.drew = .ok (.pointer none) w.drew := rfl
  go_enter Tryz.func69, Tryz.ntmps69
  go_wp2
  go_region
  all_goals (go_wp2; go_ret; exact ⟨rfl, Below.drew (Below.refl B w)⟩)

/-- May a record be in a log? -/
def okM (r : Rc) : Bool := good r && !isMk r
theorem okM_good {r : Rc} (h : okM r = true) : Rec.Good r ∧ isMk r = false := by
  unfold okM at h
  simp only [Bool.and_eq_true, Bool.not_eq_true'] at h
  exact ⟨good_iff.1 h.1, h.2⟩
theorem encS_data {r : Rc} (h : Rec.Good r) : (encS r).data.toList = encL r := by rw [encS_good h]
/-- The builder of encoded, behind k records. -/
structure EnS (w W : World) (b : Nat) (l : List UInt8) : Prop where
  bw : Below w.heap.size w W
  bl : Bld w.heap.size b l W
  z : l = [] → ∃ p, W.heap[b]? = some (.cells #[p, .slice none 0 0] 133 (0, 0))
  hs : w.heap.size ≤ W.heap.size
theorem EnS.below {w W W' : World} {b : Nat} {l : List UInt8} (h : EnS w W b l) (hb : Below W.heap.size W W') : EnS w W' b l :=
  ⟨h.bw.trans (hb.mono h.hs), Lib.IsBuilder.below' h.bl hb, fun e => by
    obtain ⟨p, hp⟩ := h.z e
    exact ⟨p, (hb.block b (Array.getElem?_eq_some_iff.1 hp).1).trans hp⟩, Nat.le_trans h.hs hb.size⟩
set_option maxHeartbeats 4000000 in
set_option maxRecDepth 100000 in
theorem encoded_any (A : Option Addr) (cap : Nat) (rs : List Rc) (w : World) (hT : Tab w) (hI : RecsIn w A rs) (hl : rs.length ≤ 1000000) :
    Calls Tryz.prog 37 #[.slice A rs.length cap] w fun e w' => e = .returned (if rs.all okM = true then .tuple #[.string ⟨(catL rs).toArray⟩, .int .i64 0] else .tuple #[.string ⟨#[]⟩, .int .i64 1]) ∧ Below w.heap.size w w' := by
  have hTA := Lib.hid (fun W (h : Below w.heap.size w W) => hT.below h)
  have hIH := Lib.hid (fun W (h : Below w.heap.size w W) => hI.below h)
  have hst : EnS w (w.alloc (.cells #[.pointer none, .slice none 0 0] 133)) w.heap.size [] :=
    ⟨(Below.refl _ _).alloc (Nat.le_refl _) _, Lib.fresh_isBuilder _ _ w, fun _ => ⟨.pointer none, heap_alloc_new w _⟩, by simp⟩
  have hsH := Lib.hid hst
  clear hT hI hst
  obtain ⟨V, hV⟩ : ∃ V : Value, V = if rs.all okM = true then .tuple #[.string ⟨(catL rs).toArray⟩, .int .i64 0] else .tuple #[.string ⟨#[]⟩, .int .i64 1] := ⟨_, rfl⟩
  rw [← hV]
  have hVH := Lib.hid hV
  clear hV
  go_enter Tryz.func37, Tryz.ntmps37
  go_upto_region 2 with fail
  refine fresh_world (fun W => EnS w W w.heap.size []) hsH.out ?_
  clear hsH
  rintro W0 h0
  go_wp2_with fail
  go_loopw [11] (fun i wr => ∃ k : Nat, k ≤ rs.length ∧ i = .int .i64 (k : Int) ∧ (rs.take k).all okM = true ∧ EnS w wr w.heap.size (catL (rs.take k))) (fun i _ => rs.length - (intOf i).toNat)
  case atStart => exact ⟨0, Nat.zero_le _, rfl, by simp, by simpa [catL] using h0⟩
  case round =>
    clear h0
    obtain ⟨k, hk, rfl, hall, hE⟩ := hrel
    have hEH := Lib.hid hE
    have hallH := Lib.hid hall
    clear hall hE
    by_cases hlt : k < rs.length
    case pos =>
      have g1 : (k : Int) < (rs.length : Int) := by omega
      obtain ⟨ba, eA, -, s0, s1, s2, s3, s4, s5, s6⟩ := (hIH.out _ hEH.out.bw).at_ hlt
      subst eA
      have htk : rs.take (k + 1) = rs.take k ++ [rs[k]] := List.take_succ_eq_append_getElem hlt
      have hmem : rs[k] ∈ rs := List.getElem_mem hlt
      obtain ⟨x, hx⟩ : ∃ x, x = rs[k] := ⟨_, rfl⟩
      rw [← hx] at s0 s1 s2 s3 s4 s5 s6 htk hmem
      have htkH := Lib.hid htk
      clear hx htk
      have hbx := Lib.hid (hEH.out.below ((Below.refl wr.heap.size wr).alloc (Nat.le_refl _) (.cells #[.int .i64 x.k, .int .i64 x.s, .int .i64 x.a, .int .i64 x.b, .int .i64 x.c, .int .i64 x.d, .string x.body] 38)))
      have hrx := Lib.hid (RcAt.new wr x 38)
      clear hEH
      go_upto_region 5 with fail
      refine fresh_world (fun W => EnS w W w.heap.size (catL (rs.take k)) ∧ RcAt W wr.heap.size x) ⟨hbx.out, hrx.out⟩ ?_
      clear hbx hrx s0 s1 s2 s3 s4 s5 s6
      generalize wr.heap.size = X
      rintro W1 ⟨hE1, hx1⟩
      have hE1H := Lib.hid hE1
      have hx1H := Lib.hid hx1
      obtain ⟨s0, s1, s2, s3, s4, s5, s6⟩ := hx1
      have hen := Lib.hid (encode_any x W1 (hTA.out _ hE1.bw))
      clear hE1
      by_cases hg : okM x = true
      · obtain ⟨hgd, hmk⟩ := okM_good hg
        rw [if_pos (good_iff.2 hgd)] at hen
        have hed := Lib.hid (encS_data hgd)
        have hsz := Lib.hid (encS_size hgd)
        have hlx := Lib.hid (encL_len hgd)
        have hnb := Lib.hid (nBlocks_pos hgd.1)
        have hall2 := Lib.hid (show (rs.take (k + 1)).all okM = true by rw [htkH.out, List.all_append, hallH.out]; simp [hg])
        have hcat := Lib.hid (show catL (rs.take (k + 1)) = catL (rs.take k) ++ encL x by rw [htkH.out, catL_append]; simp [catL])
        have hclen := Lib.hid (show (catL (rs.take k)).length ≤ 128 * 1000000 by
          rw [catL_len (fun q hq => (okM_good (List.all_eq_true.1 hallH.out q hq)).1)]
          have := blk_le (rs.take k)
          rw [List.length_take] at this
          omega)
        clear hg hgd hallH
        go_wp2_with (go_at_call 67; refine hen.out.mono ?_)
        rintro e W2 ⟨rfl, hb2⟩
        have hE2H := Lib.hid (hE1H.out.below hb2)
        have hx2H := Lib.hid (hx1H.out.below hb2)
        have hmk2 := Lib.hid (mark_is x W2)
        rw [hmk] at hmk2
        clear hb2 hE1H hx1H hen s0 s1 s2 s3 s4 s5 s6 hmk
        obtain ⟨s0, s1, s2, s3, s4, s5, s6⟩ := hx2H.out
        go_wp2_with (go_at_call 65; refine hmk2.out.mono ?_)
        rintro e W3 ⟨rfl, hb3⟩
        have hwr := Lib.hid (bld_write w.heap.size w.heap.size (catL (rs.take k)) (encS x) W3 (hE2H.out.below hb3).bl (by have := hclen.out; have := hsz.out; have := hnb.out; omega) (hE2H.out.below hb3).hs)
        have hE3 := Lib.hid (hE2H.out.below hb3)
        clear hb3 hE2H hx2H hmk2 s0 s1 s2 s3 s4 s5 s6
        rw [hed.out] at hwr
        generalize encS x = T at hwr hsz
        go_wp2_with (go_at_call 68; refine hwr.out.mono ?_)
        rintro e W4 ⟨rfl, hB4, hb4⟩
        have hfin : EnS w W4 w.heap.size (catL (rs.take (k + 1))) := by
          rw [hcat.out]
          refine ⟨hE3.out.bw.trans hb4, hB4, fun e => ?_, ?_⟩
          · exfalso
            have := congrArg List.length e
            rw [List.length_append] at this
            have h1 := hlx.out
            simp only [List.length_nil] at this
            have := hsz.out
            have := hnb.out
            omega
          · rcases hB4 with hB | hB
            · have := hB.lt; omega
            · have := hB.lt; omega
        have hfH := Lib.hid hfin
        clear hfin hB4 hb4 hE3 hwr
        go_wp2_with fail
        go_roundw
        case rel => exact ⟨k + 1, by omega, by go_num, hall2.out, hfH.out⟩
        case measure => simp only [intOf]; omega
      · have hVf := Lib.hid (hVH.out.trans (if_neg (fun h => hg (List.all_eq_true.1 h x hmem))))
        clear hVH hallH htkH hmem
        by_cases hgd : Rec.Good x
        · rw [if_pos (good_iff.2 hgd)] at hen
          have hmk : isMk x = true := by
            unfold okM at hg
            rw [good_iff.2 hgd] at hg
            simpa using hg
          clear hg hgd
          go_wp2_with (go_at_call 67; refine hen.out.mono ?_)
          rintro e W2 ⟨rfl, hb2⟩
          have hE2H := Lib.hid (hE1H.out.below hb2)
          have hx2H := Lib.hid (hx1H.out.below hb2)
          have hmk2 := Lib.hid (mark_is x W2)
          rw [hmk] at hmk2
          clear hb2 hE1H hx1H hen s0 s1 s2 s3 s4 s5 s6 hmk
          obtain ⟨s0, s1, s2, s3, s4, s5, s6⟩ := hx2H.out
          go_wp2_with (go_at_call 65; refine hmk2.out.mono ?_)
          rintro e W3 ⟨rfl, hb3⟩
          have hfin := Lib.hid (hE2H.out.below hb3).bw
          clear hb3 hE2H hx2H hmk2 s0 s1 s2 s3 s4 s5 s6
          go_wp2_with fail
          go_ret2
          exact ⟨congrArg Ending.returned hVf.out.symm, hfin.out⟩
        · rw [if_neg (fun h => hgd (good_iff.1 h))] at hen
          clear hg hgd
          go_wp2_with (go_at_call 67; refine hen.out.mono ?_)
          rintro e W2 ⟨rfl, hb2⟩
          have hfin := Lib.hid (hE1H.out.below hb2).bw
          clear hb2 hE1H hx1H hen s0 s1 s2 s3 s4 s5 s6
          go_wp2_with fail
          go_ret2
          exact ⟨congrArg Ending.returned hVf.out.symm, hfin.out⟩
    case neg =>
      have g1 : ¬ (k : Int) < (rs.length : Int) := by omega
      have hke : rs.take k = rs := List.take_of_length_le (by omega)
      rw [hke] at hEH hallH
      have hVf := Lib.hid (hVH.out.trans (if_pos hallH.out))
      clear hke hk hlt hallH hVH
      by_cases hn : catL rs = []
      · obtain ⟨p, hp⟩ := hEH.out.z hn
        have hs := Lib.hid (bld_nil w.heap.size w.heap.size p wr hp)
        have hbw := Lib.hid hEH.out.bw
        rw [hn] at hVf
        clear hn hp hEH
        go_wp2_with (go_at_call 69; refine hs.out.mono ?_; rintro e w2 ⟨rfl, hb2⟩)
        go_ret2
        exact ⟨congrArg Ending.returned hVf.out.symm, hbw.out.trans hb2⟩
      · have hs := Lib.hid (bld_string w.heap.size w.heap.size (catL rs) wr hEH.out.bl hn)
        have hbw := Lib.hid hEH.out.bw
        clear hn hEH
        generalize catL rs = t at hs hVf
        go_wp2_with (go_at_call 69; refine hs.out.mono ?_; rintro e w2 ⟨rfl, hb2⟩)
        go_ret2
        exact ⟨congrArg Ending.returned hVf.out.symm, hbw.out.trans hb2⟩
/-- With what a zone is begun. -/
def begL (g : Int) (rs : List Rc) : List Rc := markR 1 g :: (rs ++ [markR 2 g])
def begT (g : Int) (rs : List Rc) : ByteArray := ⟨(catL (begL g rs)).toArray⟩
theorem markR_good {k g : Int} (hk : k = 1 ∨ k = 2) (hg : 0 ≤ g ∧ g ≤ 1099511627776) : Rec.Good (markR k g) := by
  refine ⟨⟨?_, ?_, ?_, ?_, ?_, ?_⟩, ?_⟩
  · show 1 ≤ k ∧ k ≤ 6; omega
  · show (0 : Int) ≤ 0 ∧ (0 : Int) ≤ 1099511627776; omega
  · show (0 : Int) ≤ 0 ∧ (0 : Int) ≤ 65535; omega
  · show (0 : Int) ≤ 0 ∧ (0 : Int) ≤ 65535; omega
  · exact hg
  · show (0 : Int) ≤ 0 ∧ (0 : Int) ≤ 65535; omega
  · show 0 = (nBlocks k - 1) * 64
    unfold nBlocks
    rw [if_neg (by omega), if_neg (by omega)]
theorem begL_good {g : Int} {rs : List Rc} (hg : 0 ≤ g ∧ g ≤ 1099511627776) (h : rs.all okM = true) : ∀ q ∈ begL g rs, Rec.Good q := fun q hq => by
  rcases List.mem_cons.1 hq with rfl | hq
  · exact markR_good (.inl rfl) hg
  · rcases List.mem_append.1 hq with hq | hq
    · exact (okM_good (List.all_eq_true.1 h q hq)).1
    · obtain rfl := List.mem_singleton.1 hq
      exact markR_good (.inr rfl) hg
theorem begT_size {g : Int} {rs : List Rc} (hg : 0 ≤ g ∧ g ≤ 1099511627776) (h : rs.all okM = true) : (begT g rs).size = 64 * blk (begL g rs) := by
  show (catL (begL g rs)).toArray.size = _
  rw [List.size_toArray, catL_len (begL_good hg h)]
theorem begL_blk {g : Int} (rs : List Rc) : blk (begL g rs) = blk rs + 2 := by
  unfold begL
  show nBlocks 1 + blk (rs ++ [markR 2 g]) = _
  rw [blk_append]
  show nBlocks 1 + (blk rs + (nBlocks 2 + 0)) = _
  have h1 : nBlocks 1 = 1 := by decide
  have h2 : nBlocks 2 = 1 := by decide
  omega
theorem begT_eq {g : Int} {rs : List Rc} (hg : 0 ≤ g ∧ g ≤ 1099511627776) : encS (markR 1 g) ++ ⟨(catL rs).toArray⟩ ++ encS (markR 2 g) = begT g rs := by
  rw [encS_good (markR_good (.inl rfl) hg), encS_good (markR_good (.inr rfl) hg)]
  apply ByteArray.ext
  show _ = (catL (begL g rs)).toArray
  unfold begL
  show _ = (encL (markR 1 g) ++ catL (rs ++ [markR 2 g])).toArray
  rw [catL_append]
  simp [catL, ByteArray.data_append]
set_option maxRecDepth 100000 in
theorem beginning_any (g : Int) (A : Option Addr) (cap : Nat) (rs : List Rc) (b : Int) (w : World) (hT : Tab w) (hI : RecsIn w A rs) (hl : rs.length ≤ 100000) (hg : 0 ≤ g ∧ g ≤ 1099511627776) :
    Calls Tryz.prog 28 #[.int .i64 g, .slice A rs.length cap, .int .i64 b] w fun e w' => e = .returned (if rs.all okM = true then (if (blk (begL g rs) : Int) ≤ b then .tuple #[.string (begT g rs), .int .i64 0] else .tuple #[.string ⟨#[]⟩, .int .i64 4]) else .tuple #[.string ⟨#[]⟩, .int .i64 1]) ∧ Below w.heap.size w w' := by
  have hen := Lib.hid (encoded_any A cap rs w hT hI (by omega))
  have hm1 := Lib.hid (fun W (h : Below w.heap.size w W) => mark_any 1 g W (hT.below h))
  have hm2 := Lib.hid (fun W (h : Below w.heap.size w W) => mark_any 2 g W (hT.below h))
  clear hT hI
  by_cases h0 : rs.all okM = true
  · rw [if_pos h0] at hen
    simp only [if_pos h0]
    have hsz := begT_size hg h0
    have he := begT_eq (rs := rs) hg
    have hs1 := encS_size (markR_good (k := 1) (.inl rfl) hg)
    have hs2 := encS_size (markR_good (k := 2) (.inr rfl) hg)
    have hsr : (ByteArray.mk (catL rs).toArray).size ≤ 128 * 100000 := by
      show (catL rs).toArray.size ≤ _
      rw [List.size_toArray, catL_len (fun q hq => (okM_good (List.all_eq_true.1 h0 q hq)).1)]
      have := blk_le rs
      omega
    have hbl := begL_blk (g := g) rs
    have hble := blk_le rs
    have hbo := Lib.hid (fun W => blocks_m (begT g rs) (by omega) W)
    rw [hsz, show 64 * blk (begL g rs) / 64 = blk (begL g rs) by omega] at hbo
    generalize begT g rs = T at he hbo hsz ⊢
    generalize blk (begL g rs) = n at hbo hsz hbl ⊢
    generalize (⟨(catL rs).toArray⟩ : ByteArray) = R at hen he hsr
    generalize encS (markR 1 g) = M1 at hm1 he hs1
    generalize encS (markR 2 g) = M2 at hm2 he hs2
    have hq1 : ¬ 9223372036854775807 < M1.size + R.size := by
      rw [hs1]
      have h1 : nBlocks (markR 1 g).k = 1 := by unfold nBlocks; rfl
      rw [h1]
      omega
    have hq2 : ¬ 9223372036854775807 < (M1 ++ R).size + M2.size := by
      rw [ByteArray.size_append, hs1, hs2]
      have h1 : nBlocks (markR 1 g).k = 1 := by unfold nBlocks; rfl
      have h2 : nBlocks (markR 2 g).k = 1 := by unfold nBlocks; rfl
      rw [h1, h2]
      omega
    subst he
    clear hs1 hs2 hsr hbl hble h0 hsz
    by_cases hb : (n : Int) ≤ b
    · have hb1 : ¬ b < (n : Int) := by omega
      have hb2 : decide (b < (n : Int)) = false := by simp; omega
      simp only [if_pos hb]
      clear hb
      go_enter Tryz.func28, Tryz.ntmps28
      go_wp2_with fail
      refine hen.out.mono ?_
      rintro e w1 ⟨rfl, hB1⟩
      have hB1H := Lib.hid hB1
      clear hB1
      go_wp2_with fail
      refine (hm1.out _ hB1H.out).mono ?_
      rintro e w2 ⟨rfl, hb2'⟩
      have hB2H := Lib.hid (hB1H.out.trans (hb2'.mono hB1H.out.size))
      clear hb2' hB1H
      go_wp2_with fail
      refine (hm2.out _ hB2H.out).mono ?_
      rintro e w3 ⟨rfl, hb3'⟩
      have hB3H := Lib.hid (hB2H.out.trans (hb3'.mono hB2H.out.size))
      clear hb3' hB2H
      go_wp2_with fail
      refine (hbo.out _).mono ?_
      rintro e w4 ⟨rfl, rfl⟩
      go_wp2_with fail
      go_ret2
      exact ⟨rfl, hB3H.out⟩
    · have hb1 : b < (n : Int) := by omega
      have hb2 : decide (b < (n : Int)) = true := by simp; omega
      simp only [if_neg hb]
      clear hb
      go_enter Tryz.func28, Tryz.ntmps28
      go_wp2_with fail
      refine hen.out.mono ?_
      rintro e w1 ⟨rfl, hB1⟩
      have hB1H := Lib.hid hB1
      clear hB1
      go_wp2_with fail
      refine (hm1.out _ hB1H.out).mono ?_
      rintro e w2 ⟨rfl, hb2'⟩
      have hB2H := Lib.hid (hB1H.out.trans (hb2'.mono hB1H.out.size))
      clear hb2' hB1H
      go_wp2_with fail
      refine (hm2.out _ hB2H.out).mono ?_
      rintro e w3 ⟨rfl, hb3'⟩
      have hB3H := Lib.hid (hB2H.out.trans (hb3'.mono hB2H.out.size))
      clear hb3' hB2H
      go_wp2_with fail
      refine (hbo.out _).mono ?_
      rintro e w4 ⟨rfl, rfl⟩
      go_wp2_with fail
      go_ret2
      exact ⟨rfl, hB3H.out⟩
  · rw [if_neg h0] at hen
    simp only [if_neg h0]
    clear h0
    go_enter Tryz.func28, Tryz.ntmps28
    go_wp2_with fail
    refine hen.out.mono ?_
    rintro e w1 ⟨rfl, hB1⟩
    go_wp2_with fail
    go_ret2
    exact ⟨rfl, hB1⟩
end Go.Proofs.YtpmhfalhieinjaaGreatDoor
