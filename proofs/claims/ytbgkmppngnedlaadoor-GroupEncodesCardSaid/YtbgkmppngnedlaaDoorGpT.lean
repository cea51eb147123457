/- The walk of GroupEncodes. -/
import Derived.Test.YtbgkmppngnedlaaDoorGpO
import Derived.Test.YtbgkmppngnedlaaDoorGpS
import Derived.Test.YtbgkmppngnedlaaDoorOTold
namespace Go.Proofs.YtbgkmppngnedlaaDoor
open Go.RowKit Rec Crc Num Xor

theorem row_capE {α : Type} {E : Enc α} {W : World} {base : Nat} {t : TypeId} {A : Option Addr} {c : Nat} {xs : List α} (h : E.Row W base t A c xs) : xs.length ≤ c := by
  rcases h.form with ⟨_, h1, h2⟩ | ⟨_, _, _, _, h⟩
  · rw [h2]; exact Nat.zero_le _
  · exact h
theorem gB_fst (bl : List Int) (tr : List Bool) (k : Nat) : gB bl k = (gE bl tr k).map (·.1) := by unfold gB gE; rw [List.map_map]; rfl
theorem gT_snd (bl : List Int) (tr : List Bool) (k : Nat) : gT tr k = (gE bl tr k).map (·.2) := by unfold gT gE; rw [List.map_map]; rfl
theorem gD_size (ds : List ByteArray) (k : Nat) : ∀ d ∈ gD ds k, d.size ≤ maxLen := fun d h => by
  unfold gD at h
  obtain ⟨i, _, rfl⟩ := List.mem_map.1 h
  unfold dFix maxLen
  rw [ByteArray.size_extract]
  omega
/-- The law's two groups in their boxes. -/
structure EgB (w W : World) (X : Nat) (q : Int) (ne nd : Nat) (EA DA BA TA FA : Option Addr) (Ec Dc Bc Tc Fc : Nat) (es : List (Int × Bool)) (ds : List ByteArray) : Prop where
  x0 : W.cell? ⟨X, 0, none⟩ = some (.int .i64 q)
  x1 : W.cell? ⟨X, 1, none⟩ = some (.slice EA ne Ec)
  x2 : W.cell? ⟨X, 2, none⟩ = some (.slice DA nd Dc)
  y0 : W.cell? ⟨X + 1, 0, none⟩ = some (.int .i64 q)
  y1 : W.cell? ⟨X + 1, 1, none⟩ = some (.slice BA ne Bc)
  y2 : W.cell? ⟨X + 1, 2, none⟩ = some (.slice TA ne Tc)
  y3 : W.cell? ⟨X + 1, 3, none⟩ = some (.slice FA nd Fc)
  e : geE.In W EA es
  d : stE.In W DA ds
  b : inE.In W BA (es.map (·.1))
  t : boE.In W TA (es.map (·.2))
  f : stE.In W FA ds
  bw : Below w.heap.size w W
theorem EgB.below {w W W' : World} {X : Nat} {q : Int} {ne nd : Nat} {EA DA BA TA FA : Option Addr} {Ec Dc Bc Tc Fc : Nat} {es : List (Int × Bool)} {ds : List ByteArray} (h : EgB w W X q ne nd EA DA BA TA FA Ec Dc Bc Tc Fc es ds) (hb : Below W.heap.size W W') : EgB w W' X q ne nd EA DA BA TA FA Ec Dc Bc Tc Fc es ds :=
  ⟨(hb.cell (lt_of_cell h.x0)).trans h.x0, (hb.cell (lt_of_cell h.x1)).trans h.x1, (hb.cell (lt_of_cell h.x2)).trans h.x2, (hb.cell (lt_of_cell h.y0)).trans h.y0, (hb.cell (lt_of_cell h.y1)).trans h.y1, (hb.cell (lt_of_cell h.y2)).trans h.y2, (hb.cell (lt_of_cell h.y3)).trans h.y3, h.e.below hb, h.d.below hb, h.b.below hb, h.t.below hb, h.f.below hb, h.bw.trans (hb.mono h.bw.size)⟩
set_option maxRecDepth 100000 in
set_option maxHeartbeats 16000000 in
theorem encodes_lawG (q : Int) (AB : Option Addr) (bl : List Int) (kb : Nat) (AT : Option Addr) (tr : List Bool) (kt : Nat) (AD : Option Addr) (ds : List ByteArray) (kd : Nat) (w : World) (hT : Tab w) (hI : GIn w AB bl AT tr AD ds) (hds : ∀ d ∈ ds, d.size ≤ maxLen) :
    Calls Tryd.prog 3 #[.agg #[.int .i64 q, .slice AB bl.length kb, .slice AT tr.length kt, .slice AD ds.length kd]] w fun e w' => e = .returned (.bool true) ∧ Below w.heap.size w w' := by
  have hTA := Lib.hid (fun W (h : Below w.heap.size w W) => hT.below h)
  have hgiv := Lib.hid (fun W (hb : Below w.heap.size w W) => given18 W q AB kb bl AT kt tr AD kd ds ⟨hI.b.below hb, hI.t.below hb, hI.d.below hb⟩ hds)
  obtain ⟨nb, hnb⟩ : ∃ nb, bl.length = nb := ⟨_, rfl⟩
  obtain ⟨nt, hnt⟩ : ∃ nt, tr.length = nt := ⟨_, rfl⟩
  obtain ⟨nd, hnd⟩ : ∃ nd, ds.length = nd := ⟨_, rfl⟩
  rw [hnb, hnt, hnd] at hgiv ⊢
  have hX0 : Hid ((fun W : World => (W.cell? ⟨w.heap.size, 0, none⟩ = some (.int .i64 q) ∧ W.cell? ⟨w.heap.size, 1, none⟩ = some (.slice AB nb kb) ∧ W.cell? ⟨w.heap.size, 2, none⟩ = some (.slice AT nt kt) ∧ W.cell? ⟨w.heap.size, 3, none⟩ = some (.slice AD nd kd)) ∧ Below w.heap.size w W) (w.alloc (.cells #[.int .i64 q, .slice AB nb kb, .slice AT nt kt, .slice AD nd kd] 26))) := Lib.hid ⟨⟨by go_simp, by go_simp, by go_simp, by go_simp⟩, (Below.refl _ _).alloc (Nat.le_refl _) _⟩
  clear hT hI hds hnb hnt hnd
  go_enter Tryd.func3, Tryd.ntmps3
  go_wp2_with fail
  refine (speaks18 _ (hTA.out _ hX0.out.2)).mono ?_
  rintro e w1 ⟨rfl, hb1⟩
  have hX1 : Hid ((fun W : World => (W.cell? ⟨w.heap.size, 0, none⟩ = some (.int .i64 q) ∧ W.cell? ⟨w.heap.size, 1, none⟩ = some (.slice AB nb kb) ∧ W.cell? ⟨w.heap.size, 2, none⟩ = some (.slice AT nt kt) ∧ W.cell? ⟨w.heap.size, 3, none⟩ = some (.slice AD nd kd)) ∧ Below w.heap.size w W) w1) :=
    Lib.hid ⟨⟨(hb1.cell (lt_of_cell hX0.out.1.1)).trans hX0.out.1.1, (hb1.cell (lt_of_cell hX0.out.1.2.1)).trans hX0.out.1.2.1, (hb1.cell (lt_of_cell hX0.out.1.2.2.1)).trans hX0.out.1.2.2.1, (hb1.cell (lt_of_cell hX0.out.1.2.2.2)).trans hX0.out.1.2.2.2⟩, bmore hX0.out.2 hb1⟩
  clear hb1 hX0
  obtain ⟨⟨c0, c1, c2, c3⟩, -⟩ := hX1.out
  go_wp2_with fail
  refine (hgiv.out _ hX1.out.2).mono ?_
  rintro e w2 ⟨E, B, T, D, F, rfl, hxs, hR, hb2⟩
  have hal1 := (Below.refl w2.heap.size w2).alloc (Nat.le_refl _) (.cells #[.int .i64 q, .slice E.A E.xs.length E.c, .slice D.A D.xs.length D.c] 30)
  have hal2 := (hal1).alloc (by simp) (.cells #[.int .i64 q, .slice B.A B.xs.length B.c, .slice T.A T.xs.length T.c, .slice F.A F.xs.length F.c] 31)
  have hR2 := hR.below hal2
  have hBw := bmore (bmore hX1.out.2 hb2) hal2
  obtain ⟨x1, x2, x3, x4, x5⟩ := hxs
  have hBx : B.xs = E.xs.map (·.1) := by rw [x1, x2]; exact gB_fst _ _ _
  have hTx : T.xs = E.xs.map (·.2) := by rw [x1, x3]; exact gT_snd _ _ _
  have hFx : F.xs = D.xs := by rw [x4, x5]
  have hDs : ∀ d ∈ D.xs, d.size ≤ maxLen := by rw [x4]; exact gD_size _ _
  have hlE : E.xs.length ≤ 9 ∧ D.xs.length ≤ 9 := by rw [x1, x4, gE_len, gD_len]; omega
  have hBl : B.xs.length = E.xs.length := by rw [hBx, List.length_map]
  have hTl : T.xs.length = E.xs.length := by rw [hTx, List.length_map]
  have hFl : F.xs.length = D.xs.length := by rw [hFx]
  have hcapD := row_capE hR2.rD
  rw [hBl, hTl, hFl] at hR2 hBw ⊢
  have hfin := hR2.rF.in_
  rw [hFx] at hfin
  have hEg : Hid (EgB w ((w2.alloc (.cells #[.int .i64 q, .slice E.A E.xs.length E.c, .slice D.A D.xs.length D.c] 30)).alloc (.cells #[.int .i64 q, .slice B.A E.xs.length B.c, .slice T.A E.xs.length T.c, .slice F.A D.xs.length F.c] 31)) w2.heap.size q E.xs.length D.xs.length E.A D.A B.A T.A F.A E.c D.c B.c T.c F.c E.xs D.xs) := Lib.hid
    ⟨by go_simp, by go_simp, by go_simp, by go_simp, by go_simp, by go_simp, by go_simp, hR2.rE.in_, hR2.rD.in_, by rw [← hBx]; exact hR2.rB.in_, by rw [← hTx]; exact hR2.rT.in_, hfin, hBw⟩
  clear hfin hgiv hX1 c0 c1 c2 c3 hR hb2 hal1 hal2 hR2 hBw x1 x2 x3 x4 x5 hBx hTx hFx hBl hTl hFl
  obtain ⟨EA, Ec, es⟩ := E
  obtain ⟨BA, Bc, _⟩ := B
  obtain ⟨TA, Tc, _⟩ := T
  obtain ⟨DA, Dc, dd⟩ := D
  obtain ⟨FA, Fc, _⟩ := F
  dsimp only at hEg hDs hlE hcapD ⊢
  obtain ⟨ne, hne⟩ : ∃ ne, es.length = ne := ⟨_, rfl⟩
  obtain ⟨nn, hnn⟩ : ∃ nn, dd.length = nn := ⟨_, rfl⟩
  rw [hne, hnn] at hEg hlE ⊢
  rw [hnn] at hcapD
  go_upto_region 4 with fail
  obtain ⟨X, hXe⟩ : ∃ X, w2.heap.size = X := ⟨_, rfl⟩
  rw [hXe] at hEg ⊢
  refine fresh_world (fun W => EgB w W X q ne nn EA DA BA TA FA Ec Dc Bc Tc Fc es dd) hEg.out ?_
  clear hEg hXe
  rintro W4 hE4
  have hE4H := Lib.hid hE4
  obtain ⟨ee, er, hee, hcs, henc⟩ : ∃ (ee : ByteArray) (er : Int), encGS ⟨q, es, dd⟩ = ee ∧ ((er = 0 ∧ ee.toList.isEmpty = false) ∨ (er = 1 ∧ ee.toList.isEmpty = true)) ∧ Calls Tryd.prog 8 #[.agg #[.int .i64 q, .slice EA ne Ec, .slice DA nn Dc]] W4 fun e w' => e = .returned (.tuple #[.string ee, .int .i64 er]) ∧ Below W4.heap.size W4 w' := by
    by_cases hg : GoodG ⟨q, es, dd⟩
    · refine ⟨_, 0, rfl, .inl ⟨rfl, ?_⟩, ?_⟩
      · rw [ba_empty, encGS_size hg]
        have := (blkE_le es).1
        exact decide_eq_false (by dsimp only; omega)
      · have h := encode_goodG W4 ⟨q, es, dd⟩ EA DA Ec Dc ⟨hE4.e, hE4.d⟩ (by show dd.length ≤ Dc; omega) hg (hTA.out _ hE4.bw)
        rw [encGS_good hg, ← hne, ← hnn]
        exact h
    · refine ⟨_, 1, rfl, .inr ⟨rfl, ?_⟩, ?_⟩
      · rw [encGS_bad hg, ba_empty]; rfl
      · have h := encode_badG W4 ⟨q, es, dd⟩ EA DA Ec Dc ⟨hE4.e, hE4.d⟩ (by show es.length ≤ 1000; omega) (by show dd.length ≤ 1000; omega) hg
        rw [encGS_bad hg, ← hne, ← hnn]
        exact h
  have hren : Hid (∀ W, EgB w W X q ne nn EA DA BA TA FA Ec Dc Bc Tc Fc es dd → Calls Tryd.prog 9 #[.agg #[.int .i64 q, .slice BA ne Bc, .slice TA ne Tc, .slice FA nn Fc]] W fun e w' => e = .returned (.string ee) ∧ Below W.heap.size W w') := Lib.hid (fun W h => by
    have h1 := rencode_anyG W q es dd BA Bc TA Tc FA Fc h.b h.t h.f hDs
    rw [hee, hne, hnn] at h1
    exact h1)
  have hbk : Hid (∀ W, EgB w W X q ne nn EA DA BA TA FA Ec Dc Bc Tc Fc es dd → Calls Tryd.prog 10 #[.slice EA ne Ec] W fun e w' => e = .returned (.int .i64 (blkE es : Int)) ∧ Below W.heap.size W w') := Lib.hid (fun W h => by
    have h1 := blocks_anyG W EA Ec es h.e (by omega)
    rw [hne] at h1
    exact h1)
  have hencH := Lib.hid henc
  have hneH := Lib.hid hne
  have hl9 : ne ≤ 9 := hlE.1
  obtain ⟨x0, x1, x2, -, -, -, -, -, -, -, -, -, -⟩ := hE4
  clear henc hee hne hnn hlE hDs hcapD hTA
  go_wp2_with fail
  refine hencH.out.mono ?_
  rintro e w5 ⟨rfl, hb5⟩
  have hE5 := Lib.hid (hE4H.out.below hb5)
  clear hb5 hencH hE4H x0 x1 x2
  obtain ⟨-, -, -, y0, y1, y2, y3, -, -, -, -, -, -⟩ := hE5.out
  go_wp2_with fail
  refine (hren.out _ hE5.out).mono ?_
  rintro e w6 ⟨rfl, hb6⟩
  have hE6 := Lib.hid (hE5.out.below hb6)
  clear hb6 hren hE5 y0 y1 y2 y3
  go_wp2_with fail
  go_loopw [8, 9] (fun nv iv wr => ∃ (k m : Nat), k ≤ ne ∧ iv = .int .i64 (k : Int) ∧ nv = .int .i64 (m : Int) ∧ Hid (m = blkE (es.take k)) ∧ Hid (EgB w wr X q ne nn EA DA BA TA FA Ec Dc Bc Tc Fc es dd)) (fun _ iv _ => ne - (Go.RowKit.intOf iv).toNat)
  case atStart => exact ⟨0, 1, Nat.zero_le _, rfl, rfl, Lib.hid rfl, hE6⟩
  case round =>
    clear hE6
    obtain ⟨k, m, hkn, rfl, rfl, hm, hE⟩ := hrel
    obtain ⟨x0, x1, x2, y0, y1, y2, y3, -, -, -, hbt, -, -⟩ := hE.out
    by_cases hlt : k < ne
    case pos =>
      have hkI : (k : Int) < (ne : Int) := by omega
      have hkw : IntKind.i64.wrap ((k : Int) + 1) = (k : Int) + 1 := IntWalk.i64_in _ (by omega)
      have hke : k < es.length := by rw [hneH.out]; exact hlt
      obtain ⟨b2, o2, rfl, -, z2⟩ := one_at rfl hbt (i := k) (by rw [List.length_map]; exact hke)
      rw [List.getElem_map] at z2
      replace z2 : wr.cell? ⟨b2, o2 + k, none⟩ = some (.bool es[k].2) := z2
      have hsn : Hid (blkE (es.take (k + 1)) = m + wr1 es[k]) := Lib.hid (by rw [List.take_succ_eq_append_getElem hke, blkE_snoc, ← hm.out])
      have hm10 : m ≤ 20 := by have := (blkE_le (es.take k)).2; have := hm.out; rw [List.length_take] at *; omega
      have hmw : IntKind.i64.wrap ((m : Int) + 1) = (m : Int) + 1 := IntWalk.i64_in _ (by omega)
      generalize es[k] = p at z2 hsn
      obtain ⟨pb, pt⟩ := p
      dsimp only at z2
      cases pt with
      | true =>
        have hm2 : Hid (m = blkE (es.take (k + 1))) := Lib.hid (by rw [hsn.out]; rfl)
        clear hsn
        go_wp2_with fail
        go_roundw
        case rel => exact ⟨k + 1, m, hlt, by go_num, rfl, hm2, hE⟩
        case measure => simp only [Go.RowKit.intOf]; omega
      | false =>
        have hm2 : Hid (m + 1 = blkE (es.take (k + 1))) := Lib.hid (by rw [hsn.out]; rfl)
        clear hsn
        go_wp2_with fail
        go_roundw
        case rel => exact ⟨k + 1, m + 1, hlt, by go_num, by go_num, hm2, hE⟩
        case measure => simp only [Go.RowKit.intOf]; omega
    case neg =>
      have hkI : ¬ (k : Int) < (ne : Int) := by omega
      have hme : Hid (m = blkE es) := Lib.hid (by rw [hm.out, List.take_of_length_le (by rw [hneH.out]; omega)])
      have hbk1 := Lib.hid (hbk.out _ hE.out)
      rw [← hme.out] at hbk1
      have qs : (ee.toList == ee.toList) = true := by simp
      have qm : ((m : Int) == (m : Int)) = true := by simp
      clear hm hme hbk
      rcases hcs with ⟨rfl, hce⟩ | ⟨rfl, hce⟩
      · go_wp2_with fail
        refine hbk1.out.mono ?_
        rintro e w8 ⟨rfl, hb8⟩
        have hF := Lib.hid (hE.out.bw.trans (hb8.mono hE.out.bw.size))
        clear hb8 hbk1
        go_wp2_with fail
        go_ret
        exact ⟨rfl, hF.out⟩
      · go_wp2_with fail
        refine hbk1.out.mono ?_
        rintro e w8 ⟨rfl, hb8⟩
        have hF := Lib.hid (hE.out.bw.trans (hb8.mono hE.out.bw.size))
        clear hb8 hbk1
        go_wp2_with fail
        go_ret
        exact ⟨rfl, hF.out⟩
end Go.Proofs.YtbgkmppngnedlaaDoor
