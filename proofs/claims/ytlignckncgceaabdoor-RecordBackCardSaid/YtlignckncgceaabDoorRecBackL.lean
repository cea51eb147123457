/- RecordBack: records that are written one behind the other are read again, cut off anywhere those that are whole. -/
import Derived.Test.YtlignckncgceaabDoorRecSpeak
import Derived.Test.YtlignckncgceaabDoorRecScan
import Derived.Test.YtlignckncgceaabDoorRecCat
import Derived.Test.YtlignckncgceaabDoorRecsOpen
import Derived.Test.YtlignckncgceaabDoorNumRow
import Derived.Test.YtlignckncgceaabDoorModIn
namespace Go.Proofs.YtlignckncgceaabDoor
open Go.RowKit Rec Crc Num

/-- Where each record ends. -/
def endsL (qs : List Rc) : List Int := (List.range qs.length).map fun j => ((64 * blk (qs.take (j + 1)) : Nat) : Int)
theorem endsL_len (qs : List Rc) : (endsL qs).length = qs.length := by unfold endsL; simp
theorem endsL_at {qs : List Rc} {j : Nat} (h : j < (endsL qs).length) : (endsL qs)[j] = ((64 * blk (qs.take (j + 1)) : Nat) : Int) := by unfold endsL; simp
theorem endsL_snoc (qs : List Rc) (q : Rc) : endsL (qs ++ [q]) = endsL qs ++ [((64 * blk (qs ++ [q]) : Nat) : Int)] := by
  unfold endsL
  rw [List.length_append, List.length_singleton, List.range_succ, List.map_append, List.map_singleton]
  congr 1
  · refine List.map_congr_left fun j hj => ?_
    rw [List.take_append_of_le_length (by have := List.mem_range.1 hj; omega)]
  · rw [List.take_of_length_le (by simp)]
theorem dj_step {A A' E : Option Addr} {n : Nat} (h : A = none ∨ E = none ∨ A ≠ E) (hA' : A' = A ∨ A' = some ⟨n, 0, none⟩) (hE : E = none ∨ ∃ g, E = some ⟨g, 0, none⟩ ∧ g < n) : A' = none ∨ E = none ∨ A' ≠ E := by
  rcases hA' with rfl | rfl
  · exact h
  rcases hE with rfl | ⟨g, rfl, hlt⟩
  · exact .inr (.inl rfl)
  · refine .inr (.inr fun e => ?_)
    injection e with e
    injection e with e1
    omega
/-- The two slices that are grown. -/
def Two (W : World) (base : Nat) (A : Option Addr) (cap : Nat) (qs : List Rc) (E : Option Addr) (capE : Nat) : Prop := RRow W base 29 A cap qs ∧ NRow W base E capE (endsL qs) ∧ (A = none ∨ E = none ∨ A ≠ E)
theorem Two.below {W W' : World} {base : Nat} {A : Option Addr} {cap : Nat} {qs : List Rc} {E : Option Addr} {capE : Nat} (h : Two W base A cap qs E capE) (hb : Below W.heap.size W W') : Two W' base A cap qs E capE := ⟨h.1.below hb, h.2.1.below hb, h.2.2⟩
theorem Two.alloc {W : World} {base : Nat} {A : Option Addr} {cap : Nat} {qs : List Rc} {E : Option Addr} {capE : Nat} (h : Two W base A cap qs E capE) (o : Obj) : Two (W.alloc o) base A cap qs E capE := ⟨h.1.alloc o, h.2.1.alloc o, h.2.2⟩
/-- Both appended to, one behind the other. -/
theorem Two.append {W : World} {base : Nat} {A : Option Addr} {cap : Nat} {qs : List Rc} {E : Option Addr} {capE : Nat} (h : Two W base A cap qs E capE) (q : Rc) (z : Int) (hz : z = ((64 * blk (qs ++ [q]) : Nat) : Int)) (hl : qs.length ≤ 1000) (hb : base ≤ W.heap.size) :
    ∃ A' cap' W1 E' capE' W2, (Builtin.append_ #[38, 38] 38 #[.slice A qs.length cap, .slice (some ⟨W.heap.size, 0, none⟩) 1 1]).run Tryd.prog (W.alloc (.cells #[.int .i64 q.k, .int .i64 q.s, .int .i64 q.a, .int .i64 q.b, .int .i64 q.c, .int .i64 q.d, .string q.body] 29)) = .ok (.slice A' (qs.length + 1) cap') W1 ∧
      (Builtin.append_ #[46, 46] 46 #[.slice E (endsL qs).length capE, .slice (some ⟨W1.heap.size, 0, none⟩) 1 1]).run Tryd.prog (W1.alloc (.cells #[.int .i64 z] 3)) = .ok (.slice E' ((endsL qs).length + 1) capE') W2 ∧
      Two W2 base A' cap' (qs ++ [q]) E' capE' ∧ Below base W W2 := by
  obtain ⟨hr, hn, hd⟩ := h
  have hEf : E = none ∨ ∃ g, E = some ⟨g, 0, none⟩ ∧ g < W.heap.size := by
    rcases hn.form with h | ⟨g, h, _, h2, _⟩
    · exact .inl h.1
    · exact .inr ⟨g, h, h2⟩
  have hAf : A = none ∨ ∃ g, A = some ⟨g, 0, none⟩ := by
    rcases hr.form with h | ⟨g, h, _⟩
    · exact .inl h.1
    · exact .inr ⟨g, h⟩
  have hEf' : E = none ∨ ∃ g, E = some ⟨g, 0, none⟩ := hEf.imp id fun ⟨g, h, _⟩ => ⟨g, h⟩
  have hd' : E = none ∨ A = none ∨ E ≠ A := by
    rcases hd with h | h | h
    · exact .inr (.inl h)
    · exact .inl h
    · exact .inr (.inr (Ne.symm h))
  have hr1 := hr.alloc (.cells #[.int .i64 q.k, .int .i64 q.s, .int .i64 q.a, .int .i64 q.b, .int .i64 q.c, .int .i64 q.d, .string q.body] 29)
  have hn1 := hn.alloc (.cells #[.int .i64 q.k, .int .i64 q.s, .int .i64 q.a, .int .i64 q.b, .int .i64 q.c, .int .i64 q.d, .string q.body] 29)
  obtain ⟨A', cap', W1, run1, hr2, hg1, hA'⟩ := hr1.append (RcAt.new W q 29) (by omega) (by simp; omega)
  have hB1 : Below base W W1 := ((Below.refl _ _).alloc hb _).trans (hr1.grown hg1 (by simp; omega))
  have hn2 := hn1.kept hg1 (own_ne hd' hEf' hAf)
  have hd2 : A' = none ∨ E = none ∨ A' ≠ E := dj_step hd hA' (hEf.imp id fun ⟨g, h, h2⟩ => ⟨g, h, by simp; omega⟩)
  have hA'f : A' = none ∨ ∃ g, A' = some ⟨g, 0, none⟩ ∧ g < W1.heap.size := by
    rcases hr2.form with h | ⟨g, h, _, h2, _⟩
    · exact .inl h.1
    · exact .inr ⟨g, h, h2⟩
  have hs1 := hB1.size
  have hn3 := hn2.alloc (.cells #[.int .i64 z] 3)
  have hr3 := hr2.alloc (.cells #[.int .i64 z] 3)
  obtain ⟨E', capE', W2, run2, hn4, hg2, hE'⟩ := hn3.append (m := W1.heap.size) (z := z) (by go_simp) (by rw [endsL_len]; omega) (by simp; omega)
  refine ⟨A', cap', W1, E', capE', W2, run1, run2, ⟨hr3.kept hg2 (own_ne hd2 (hA'f.imp id fun ⟨g, h, _⟩ => ⟨g, h⟩) hEf'), ?_, ?_⟩, hB1.trans (((Below.refl _ _).alloc (by omega) _).trans (hn3.grown hg2 (by simp; omega)))⟩
  · rw [endsL_snoc, ← hz]; exact hn4
  · have h1 := dj_step (A := E) (A' := E') (E := A') (n := (W1.alloc (.cells #[.int .i64 z] 3)).heap.size) (by
      rcases hd2 with h | h | h
      · exact .inr (.inl h)
      · exact .inl h
      · exact .inr (.inr (Ne.symm h))) hE' (hA'f.imp id fun ⟨g, h, h2⟩ => ⟨g, h, by simp; omega⟩)
    rcases h1 with h | h | h
    · exact .inr (.inl h)
    · exact .inl h
    · exact .inr (.inr (Ne.symm h))

set_option maxRecDepth 100000 in
set_option maxHeartbeats 16000000 in
theorem back_law (A0 : Option Addr) (cap0 : Nat) (rs : List Rc) (cut : Int) (w : World) (hT : Tab w) (hR : RecsAt w A0 rs) (hb : ∀ x ∈ rs, x.body.size ≤ 281474976710656) :
    Calls Tryd.prog 5 #[.slice A0 rs.length cap0, .int .i64 cut] w fun e w' => e = .returned (.bool true) ∧ Below w.heap.size w w' := by
  have hTA := Lib.hid (fun W (h : Below w.heap.size w W) => hT.below h)
  have hRH := Lib.hid (fun W (h : Below w.heap.size w W) => hR.below h)
  have hbH := Lib.hid hb
  clear hT hR hb
  go_enter Tryd.func5, Tryd.ntmps5
  go_wp2_with (go_at_call 9; refine (speaks6 _ (hTA.out _ (Below.refl _ _))).mono ?_; rintro e w1 ⟨rfl, hb1⟩)
  have hb1H := Lib.hid hb1
  clear hb1
  go_loopw [5, 6, 7, 8] (fun s5 s6 s7 s8 wr => ∃ (k : Nat) (qs : List Rc) (t : ByteArray) (A : Option Addr) (cap : Nat) (E : Option Addr) (capE : Nat), s5 = .string t ∧ s6 = .slice A qs.length cap ∧ s7 = .slice E (endsL qs).length capE ∧ s8 = .int .i64 (k : Int) ∧ k ≤ 40 ∧ k ≤ rs.length ∧ qs.length ≤ k ∧ (∀ q ∈ qs, Rec.Good q) ∧ TextOf t (catL qs) ∧ Two wr w.heap.size A cap qs E capE ∧ Below w.heap.size w wr) (fun _ _ _ i _ => 40 - (intOf i).toNat)
  case atStart => exact ⟨0, [], ⟨#[]⟩, none, 0, none, 0, rfl, rfl, rfl, rfl, by omega, by omega, Nat.le_refl _, by simp, rfl, ⟨RRow.nil _ _ _, NRow.nil _ _, .inl rfl⟩, hb1H.out⟩
  case round =>
    clear hb1H
    obtain ⟨k, qs, t, A, cap, E, capE, rfl, rfl, rfl, rfl, hk40, hkl, hqk, hgood, htext, hTwo, hB⟩ := hrel
    have hTwoH := Lib.hid hTwo
    have hBH := Lib.hid hB
    have hgoodH := Lib.hid hgood
    have htextH := Lib.hid htext
    have hblk := blk_le qs
    have htsz : t.size ≤ 5120 := by rw [htext.size, catL_len hgood]; omega
    clear hTwo hB hgood htext hblk
    by_cases hlt : k < rs.length ∧ k < 40
    case pos =>
      obtain ⟨hlt1, hlt2⟩ := hlt
      have hl1 : decide ((k : Int) < (rs.length : Int)) = true := by simp; omega
      have hl2 : decide ((k : Int) < 40) = true := by simp; omega
      have hxb := hbH.out _ (List.getElem_mem hlt1)
      obtain ⟨b, off, rfl, hblt, k0, k1, k2, k3, k4, k5, k6⟩ := (hRH.out _ hBH.out).at_ hlt1
      have hwh := Lib.hid (fun W => whole_any rs[k] W hxb)
      generalize rs[k] = r at k0 k1 k2 k3 k4 k5 k6 hwh
      obtain ⟨q, hq⟩ : ∃ q, q = wholeR r := ⟨_, rfl⟩
      rw [← hq] at hwh
      clear hxb hq hblt
      go_upto_region 10 with (go_at_call 10; with_reducible refine (hwh.out _).mono ?_; rintro e w2 ⟨rfl, hb2⟩)
      refine fresh_world (fun W => RcAt W w2.heap.size q ∧ Two W w.heap.size A cap qs E capE ∧ Below w.heap.size w W) ⟨RcAt.new w2 q 23, (hTwoH.out.below hb2).alloc _, hBH.out.trans ((hb2.alloc hb2.size _).mono hBH.out.size)⟩ ?_
      clear hTwoH hBH hb2 k0 k1 k2 k3 k4 k5 k6 hwh
      generalize w2.heap.size = X
      rintro W ⟨hX, hTwo, hB⟩
      have hXH := Lib.hid hX
      have hTwoH := Lib.hid hTwo
      have hBH := Lib.hid hB
      obtain ⟨c0, c1, c2, c3, c4, c5, c6⟩ := hX
      clear hTwo hB
      have henc := Lib.hid (fun W (h : Tab W) => encode_any q W h)
      by_cases hg : good q = true
      case neg =>
        rw [if_neg hg] at henc
        clear hg
        generalize encS q = t1 at henc
        have hk1 := Lib.hid (show k + 1 ≤ 40 ∧ k + 1 ≤ rs.length ∧ qs.length ≤ k + 1 by omega)
        have hkw : IntKind.i64.wrap ((k : Int) + 1) = (k : Int) + 1 := IntWalk.i64_in _ (by omega)
        go_wp2_with (go_at_call 11; with_reducible refine (henc.out _ (hTA.out _ hBH.out)).mono ?_; rintro e w3 ⟨rfl, hb3⟩)
        go_roundw
        case rel => exact ⟨k + 1, qs, t, A, cap, E, capE, rfl, rfl, rfl, by go_num, hk1.out.1, hk1.out.2.1, hk1.out.2.2, hgoodH.out, htextH.out, hTwoH.out.below hb3, hBH.out.trans (hb3.mono hBH.out.size)⟩
        case measure => simp only [intOf]; omega
      case pos =>
        rw [if_pos hg] at henc
        have hgd := good_iff.1 hg
        have hes : TextOf (encS q) (encL q) := by rw [encS_good hgd]; rfl
        have hesz : (encS q).size ≤ 128 := by rw [encS_size hgd]; have := nBlocks_pos hgd.1; omega
        have hgood2 := Lib.hid (show ∀ x ∈ qs ++ [q], Rec.Good x from fun x hx => by
          rcases List.mem_append.1 hx with h | h
          · exact hgoodH.out x h
          · rw [List.mem_singleton.1 h]; exact hgd)
        have htext2 : TextOf (t ++ encS q) (catL (qs ++ [q])) := by
          rw [catL_append]
          show TextOf _ (catL qs ++ (encL q ++ []))
          rw [List.append_nil]
          exact htextH.out.append hes
        have hcat : ¬ 9223372036854775807 < t.size + (encS q).size := by omega
        have htextH2 := Lib.hid htext2
        clear hg hgd hes htext2 hgoodH htextH
        generalize encS q = t1 at henc hesz hcat htextH2
        have hk1 := Lib.hid (show k + 1 ≤ 40 ∧ k + 1 ≤ rs.length ∧ qs.length + 1 ≤ k + 1 by omega)
        have hkw : IntKind.i64.wrap ((k : Int) + 1) = (k : Int) + 1 := IntWalk.i64_in _ (by omega)
        go_upto_region 13 with (go_at_call 11; with_reducible refine (henc.out _ (hTA.out _ hBH.out)).mono ?_; rintro e w3 ⟨rfl, hb3⟩)
        clear hcat hesz htsz henc
        generalize t ++ t1 = t2 at htextH2 ⊢
        have hX3 := hXH.out.below hb3
        have hTwo3 := hTwoH.out.below hb3
        have hB3 := hBH.out.trans (hb3.mono hBH.out.size)
        have hz2 : (t2.size : Int) = ((64 * blk (qs ++ [q]) : Nat) : Int) := by rw [htextH2.out.size, catL_len hgood2.out]
        obtain ⟨A', cap', w4, E', capE', w5, hrun1, hrun2, hTwo5, hB5⟩ := hTwo3.append q (t2.size : Int) hz2 (by omega) hB3.size
        have hTwo5H := Lib.hid hTwo5
        have hB5H := Lib.hid (hB3.trans hB5)
        have hrun1H := Lib.hid hrun1
        have hrun2H := Lib.hid hrun2
        clear hTwo5 hB5 hrun1 hrun2 hz2 hTwo3 hB3 hXH hTwoH hBH hb3 c0 c1 c2 c3 c4 c5 c6
        obtain ⟨c0, c1, c2, c3, c4, c5, c6⟩ := hX3
        go_wp2_with (first | (at_builtin; refine append_run_wp (by first | rfl | (simp [Region.wanted, yielded])) (.tmp 43) (.tmp 45) 38 rfl rfl rfl hrun1H.out ?_; clear c0 c1 c2 c3 c4 c5 c6 hrun1H) | (at_builtin; refine append_run_wp (by first | rfl | (simp [Region.wanted, yielded])) (.tmp 47) (.tmp 50) 46 rfl rfl rfl hrun2H.out ?_; clear hrun2H))
        go_roundw
        case rel => exact ⟨k + 1, qs ++ [q], t2, A', cap', E', capE', rfl, by simp, by rw [endsL_len, endsL_len]; simp, by go_num, hk1.out.1, hk1.out.2.1, by rw [List.length_append]; exact hk1.out.2.2, hgood2.out, htextH2.out, hTwo5H.out, hB5H.out⟩
        case measure => simp only [intOf]; omega
    case neg =>
      have hgd := hgoodH.out
      have htx := htextH.out
      have hlen := catL_len hgd
      have hts : t.size = 64 * blk qs := by rw [htx.size, hlen]
      go_upto_region 7 with fail
      go_cut [25] (fun c wx => c = .bool false ∧ Two wx w.heap.size A cap qs E capE ∧ Below w.heap.size w wx)
      case first =>
        by_cases h1 : k < rs.length
        · have hl1 : decide ((k : Int) < (rs.length : Int)) = true := by simp; omega
          have hl2 : decide ((k : Int) < 40) = false := by simp; omega
          clear hts
          go_wp2_with fail
          go_meet
          exact ⟨rfl, hTwoH.out, hBH.out⟩
        · have hl1 : decide ((k : Int) < (rs.length : Int)) = false := by simp; omega
          clear hts
          go_wp2_with fail
          go_meet
          exact ⟨rfl, hTwoH.out, hBH.out⟩
      case rest =>
        obtain ⟨rfl, hTwo, hB⟩ := hcut
        clear hTwoH hBH
        have hTwoH := Lib.hid hTwo
        have hBH := Lib.hid hB
        clear hTwo hB
        have hqs : qs.length ≤ 40 := by omega
        obtain ⟨u, y, hu, hy, y0, y1, u0, u1, wu, wun, wy⟩ := mod_in cut ((t.size : Int) + 1) (by omega) (by omega)
        obtain ⟨c, hcy⟩ : ∃ c : Nat, (c : Int) = y := ⟨y.toNat, by omega⟩
        have hc1 : c ≤ t.size := by omega
        have hc2 : (c : Int) ≤ (t.size : Int) := by omega
        rw [← hcy] at hy wy
        have g1 : IntKind.i64.wrap ((t.size : Int) + 1) = (t.size : Int) + 1 := wrap_in (by omega)
        have g2 : IntKind.i64.wrap (u + (t.size : Int)) = u + (t.size : Int) := wrap_in (by omega)
        have g3 : IntKind.i64.wrap (u + (t.size : Int) + 1) = u + ((t.size : Int) + 1) := by rw [wrap_in (by omega)]; omega
        have g0 : ((t.size : Int) + 1 == 0) = false := beq_eq_false_iff_ne.2 (by omega)
        have g0' : ¬ (t.size : Int) + 1 = 0 := by omega
        have hfacts := Lib.hid (show TextOf (t.extract 0 c) ((catL qs).take c) ∧ t.size = 64 * blk qs from ⟨by
          have h := cut_of (s := t) (A := []) (B := (catL qs).take c) (C := (catL qs).drop c) (a := 0) (b := c) (by rw [List.nil_append, List.take_append_drop]; exact htx) rfl (by rw [List.length_take, hlen]; omega)
          exact h, hts⟩)
        have hscan := Lib.hid (fun W (h : Tab W) => scan_any (t.extract 0 c) W (by rw [ByteArray.size_extract]; omega) h)
        clear hgd htx hlen hts hcy wun y0 y1 u0 u1
        go_wp2_with fail
        clear hu hy g0 g0' g1 g2 g3 wu wy
        go_loopw [12] (fun s12 wx => ∃ k : Nat, s12 = .int .i64 (k : Int) ∧ k ≤ qs.length ∧ 64 * blk (qs.take k) ≤ c ∧ Two wx w.heap.size A cap qs E capE ∧ Below w.heap.size w wx) (fun i _ => 41 - (intOf i).toNat)
        case atStart => exact ⟨0, rfl, Nat.zero_le _, by simp [blk], hTwoH.out, hBH.out⟩
        case round =>
          clear hTwoH hBH
          obtain ⟨k, rfl, hkq, hkc, hTwo, hB⟩ := hrel
          have hTwoH := Lib.hid hTwo
          have hBH := Lib.hid hB
          have heL := endsL_len qs
          by_cases hmore : k < qs.length ∧ 64 * blk (qs.take (k + 1)) ≤ c
          case pos =>
            obtain ⟨hk1, hk2⟩ := hmore
            obtain ⟨g, hE, hglt, hgc⟩ := hTwo.2.1.at_ (i := k) (by rw [heL]; exact hk1)
            subst hE
            rw [endsL_at] at hgc
            have hl1 : decide ((k : Int) < ((endsL qs).length : Int)) = true := by rw [heL]; simp; omega
            have hl1' : k < (endsL qs).length := by rw [heL]; exact hk1
            have hnx := Lib.hid (show k + 1 ≤ qs.length ∧ 64 * blk (qs.take (k + 1)) ≤ c from ⟨hk1, hk2⟩)
            generalize 64 * blk (qs.take (k + 1)) = z at hgc hk2
            have hl2 : decide ((z : Int) ≤ (c : Int)) = true := by simp; omega
            have hl2' : (z : Int) ≤ (c : Int) := by omega
            have hkw : IntKind.i64.wrap ((k : Int) + 1) = (k : Int) + 1 := IntWalk.i64_in _ (by omega)
            clear hTwo hB heL hglt hkc hk1 hk2
            go_wp2_with fail
            go_roundw
            case rel => exact ⟨k + 1, by go_num, hnx.out.1, hnx.out.2, hTwoH.out, hBH.out⟩
            case measure => simp only [intOf]; omega
          case neg =>
            go_upto_region 16 with fail
            go_cut [76] (fun c wx => c = .bool false ∧ Two wx w.heap.size A cap qs E capE ∧ Below w.heap.size w wx)
            case first =>
              by_cases hk1 : k < qs.length
              · obtain ⟨g, hE, hglt, hgc⟩ := hTwo.2.1.at_ (i := k) (by rw [heL]; exact hk1)
                subst hE
                rw [endsL_at] at hgc
                have hl1 : decide ((k : Int) < ((endsL qs).length : Int)) = true := by rw [heL]; simp; omega
                have hl1' : k < (endsL qs).length := by rw [heL]; exact hk1
                have hz : c < 64 * blk (qs.take (k + 1)) := by omega
                generalize 64 * blk (qs.take (k + 1)) = z at hgc hz
                have hl2 : decide ((z : Int) ≤ (c : Int)) = false := by simp; omega
                have hl2' : ¬ (z : Int) ≤ (c : Int) := by omega
                clear hTwo hB heL hglt hkc hk1 hmore hz
                go_wp2_with fail
                go_meet
                exact ⟨rfl, hTwoH.out, hBH.out⟩
              · have hl1 : decide ((k : Int) < ((endsL qs).length : Int)) = false := by rw [heL]; simp; omega
                have hl1' : ¬ k < (endsL qs).length := by rw [heL]; exact hk1
                clear hTwo hB heL hkc hmore
                go_wp2_with fail
                go_meet
                exact ⟨rfl, hTwoH.out, hBH.out⟩
            case rest =>
              clear hTwo hB hTwoH hBH
              obtain ⟨rfl, hTwo, hB⟩ := hcut
              have hTwoH := Lib.hid hTwo
              have hBH := Lib.hid hB
              have hsc := scan_cat qs k c (t.extract 0 c) hgoodH.out hkq hkc (fun h => by omega) (fun h => by have := hfacts.out.2; omega) hfacts.out.1
              have hlk : (qs.take k).length = k := by rw [List.length_take]; omega
              have hscan2 : Hid (∀ W, Tab W → Calls Tryd.prog 16 #[.string (t.extract 0 c)] W fun e w' => ∃ (A2 : Option Addr) (cap2 : Nat), e = .returned (.tuple #[.slice A2 k cap2, .int .i64 ((blk (qs.take k) : Nat) : Int)]) ∧ RRow w' W.heap.size 29 A2 cap2 (qs.take k) ∧ Below W.heap.size W w') := Lib.hid (fun W h => (hscan.out W h).mono (by
                rintro e w' ⟨l, n, A2, cap2, rfl, hs, hr, hb⟩
                obtain ⟨rfl, rfl⟩ := hs.uniq hsc
                rw [hlk]
                exact ⟨A2, cap2, rfl, hr, hb⟩))
              have hbk : blk (qs.take k) ≤ 80 := by have h1 := blk_le (qs.take k); omega
              have hb0 : k = 0 → blk (qs.take k) = 0 := fun h => by rw [h]; rfl
              have hwn : IntKind.i64.wrap (((blk (qs.take k) : Nat) : Int) * 64) = ((64 * blk (qs.take k) : Nat) : Int) := by rw [wrap_in (by omega)]; omega
              have hwk : 0 < k → IntKind.i64.wrap ((k : Int) - 1) = ((k - 1 : Nat) : Int) := fun h => by rw [wrap_in (by omega)]; omega
              have hend : ∀ h : 0 < k, ∃ g, E = some ⟨g, 0, none⟩ ∧ ∀ W, Two W w.heap.size A cap qs E capE → W.cell? ⟨g, k - 1, none⟩ = some (.int .i64 ((64 * blk (qs.take k) : Nat) : Int)) := fun h => by
                obtain ⟨g, hE, _, _⟩ := hTwo.2.1.at_ (i := k - 1) (by rw [heL]; omega)
                refine ⟨g, hE, fun W hW => ?_⟩
                obtain ⟨g', hE', _, hc'⟩ := hW.2.1.at_ (i := k - 1) (by rw [heL]; omega)
                rw [hE] at hE'
                injection hE' with hE'
                injection hE' with hE'
                subst hE'
                rw [endsL_at, show k - 1 + 1 = k by omega] at hc'
                exact hc'
              have hlkH := Lib.hid hlk
              clear hlk
              have hgot : ∀ i (h : i < k), (qs.take k)[i]'(by rw [hlkH.out]; exact h) = qs[i]'(Nat.lt_of_lt_of_le h hkq) := fun i h => by rw [List.getElem_take]
              have hgotH := Lib.hid hgot
              clear hscan hsc hTwo hB hkc hmore hfacts hgot
              generalize blk (qs.take k) = n at hscan2 hbk hb0 hwn hend
              go_upto_region 19 with (go_at_call 16; with_reducible refine (hscan2.out _ (hTA.out _ hBH.out)).mono ?_; rintro e w3 ⟨A2, cap2, rfl, hrow2, hb3⟩)
              have hTwo3 := hTwoH.out.below hb3
              have hB3 := hBH.out.trans (hb3.mono hBH.out.size)
              have hrowH := Lib.hid (show RRow w3 0 29 A2 cap2 (qs.take k) from ⟨hrow2.1, hrow2.2.imp id fun ⟨g, c', cur, h1, h2, h3⟩ => ⟨g, c', cur, h1, Nat.zero_le _, h3⟩⟩)
              have hTwo3H := Lib.hid hTwo3
              have hB3H := Lib.hid hB3
              clear hTwoH hBH hrow2 hb3 hB3 hscan2
              go_cut [111] (fun c wx => c = .bool false ∧ Two wx w.heap.size A cap qs E capE ∧ RRow wx 0 29 A2 cap2 (qs.take k) ∧ Below w.heap.size w wx)
              case first =>
                by_cases hk0 : k = 0
                · have hn0 := hb0 hk0
                  subst hk0
                  subst hn0
                  clear hend hwk hTwo3 hb0
                  go_wp2_with fail
                  go_meet
                  exact ⟨rfl, hTwo3H.out, hrowH.out, hB3H.out⟩
                · have hkp : 0 < k := by omega
                  have hwk1 := hwk hkp
                  obtain ⟨g, hE, hgc⟩ := hend hkp
                  have hgc1 := hgc _ hTwo3
                  subst hE
                  have hl1 : decide (0 < (k : Int)) = true := by simp; omega
                  have hl2 : ((k : Int) == 0) = false := beq_eq_false_iff_ne.2 (by omega)
                  have hl3 : k - 1 < (endsL qs).length := by rw [heL]; omega
                  clear hend hwk hgc hTwo3 hb0 heL
                  generalize 64 * n = z at hwn hgc1
                  go_wp2_with fail
                  go_meet
                  exact ⟨rfl, hTwo3H.out, hrowH.out, hB3H.out⟩
              case rest =>
                clear hTwo3H hrowH hB3H hTwo3 hend hwk hwn hb0
                obtain ⟨rfl, hTwo, hrow, hB⟩ := hcut
                have hTwoH := Lib.hid hTwo
                have hrowH := Lib.hid hrow
                have hBH := Lib.hid hB
                clear hTwo hrow hB
                go_wp2_with fail
                go_loopw [15] (fun s15 wx => ∃ i : Nat, s15 = .int .i64 (i : Int) ∧ i ≤ k ∧ Two wx w.heap.size A cap qs E capE ∧ RRow wx 0 29 A2 cap2 (qs.take k) ∧ Below w.heap.size w wx) (fun i _ => 41 - (intOf i).toNat)
                case atStart => exact ⟨0, rfl, Nat.zero_le _, hTwoH.out, hrowH.out, hBH.out⟩
                case round =>
                  clear hTwoH hrowH hBH
                  obtain ⟨i, rfl, hik, hTwo, hrow, hB⟩ := hrel
                  have hTwoH := Lib.hid hTwo
                  have hrowH := Lib.hid hrow
                  have hBH := Lib.hid hB
                  by_cases hi : i < k
                  · obtain ⟨g1, hA2, _, c0, c1, c2, c3, c4, c5, c6⟩ := hrow.recs.at_ (i := i) (by rw [hlkH.out]; exact hi)
                    obtain ⟨g2, hA1, _, d0, d1, d2, d3, d4, d5, d6⟩ := hTwo.1.recs.at_ (i := i) (by omega)
                    rw [hgotH.out i hi] at c0 c1 c2 c3 c4 c5 c6
                    subst hA2
                    subst hA1
                    have hiq : i < qs.length := by omega
                    generalize qs[i] = q at c0 c1 c2 c3 c4 c5 c6 d0 d1 d2 d3 d4 d5 d6
                    have hneq : ∀ W, (binOp .neq 29 (.agg #[.int .i64 q.k, .int .i64 q.s, .int .i64 q.a, .int .i64 q.b, .int .i64 q.c, .int .i64 q.d, .string q.body]) (.agg #[.int .i64 q.k, .int .i64 q.s, .int .i64 q.a, .int .i64 q.b, .int .i64 q.c, .int .i64 q.d, .string q.body])).run Tryd.prog W = .ok (.bool false) W := fun W => by
                      have h := (rec_eql W q q).2
                      rw [eqR_self] at h
                      exact h
                    have hl1 : decide ((i : Int) < (k : Int)) = true := by simp; omega
                    have hkw : IntKind.i64.wrap ((i : Int) + 1) = (i : Int) + 1 := IntWalk.i64_in _ (by omega)
                    clear hTwo hrow hB heL
                    go_wp2_with fail
                    go_region
                    all_goals
                      go_wp2_with fail
                      go_roundw
                      case rel => exact ⟨i + 1, by go_num, by omega, hTwoH.out.below (Below.refl _ _).drew, hrowH.out.below (Below.refl _ _).drew, hBH.out.drew⟩
                      case measure => simp only [intOf]; omega
                  · have hl1 : decide ((i : Int) < (k : Int)) = false := by simp; omega
                    clear hTwo hrow hB heL
                    go_wp2_with fail
                    go_ret
                    exact ⟨rfl, hBH.out⟩
end Go.Proofs.YtlignckncgceaabDoor
