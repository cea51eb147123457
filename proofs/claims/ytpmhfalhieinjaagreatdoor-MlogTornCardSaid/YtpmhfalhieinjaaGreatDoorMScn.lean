/- What Scan does. -/
import Derived.Test.YtpmhfalhieinjaaGreatDoorMRcD
import Derived.Test.YtpmhfalhieinjaaGreatDoorMBase
import Derived.Maps.AppendAt
import Derived.Deep.AppendLies
import Derived.Laws.OwnMore
import Derived.OwnWalk
import Derived.Test.YtpmhfalhieinjaaGreatDoorMDec
import Derived.Test.YtpmhfalhieinjaaGreatDoorMDcd
namespace Go.Proofs.YtpmhfalhieinjaaGreatDoor
open Go.RowKit Rec
def Rec.Rc.cellsL (r : Rc) : List Value := [.int .i64 r.k, .int .i64 r.s, .int .i64 r.a, .int .i64 r.b, .int .i64 r.c, .int .i64 r.d, .string r.body]
def flatR : List Rc → List Value
  | [] => []
  | r :: rs => r.cellsL ++ flatR rs
theorem flatR_len : ∀ rs : List Rc, (flatR rs).length = rs.length * 7
  | [] => rfl
  | r :: rs => by
    show (r.cellsL ++ flatR rs).length = (rs.length + 1) * 7
    rw [List.length_append, flatR_len rs, show r.cellsL.length = 7 from rfl]; omega
theorem flatR_append : ∀ (rs qs : List Rc), flatR (rs ++ qs) = flatR rs ++ flatR qs
  | [], _ => rfl
  | r :: rs, qs => by
    show r.cellsL ++ flatR (rs ++ qs) = r.cellsL ++ flatR rs ++ flatR qs
    rw [flatR_append rs qs, List.append_assoc]
theorem flatR_one (r : Rc) : flatR [r] = r.cellsL := by show r.cellsL ++ [] = _; rw [List.append_nil]
theorem flatR_at : ∀ (rs : List Rc) (i : Nat) (hi : i < rs.length) (j : Nat), j < 7 → (flatR rs)[i * 7 + j]? = (rs[i].cellsL)[j]?
  | r :: rs, 0, _, j, hj => by
    show (r.cellsL ++ flatR rs)[0 * 7 + j]? = _
    rw [Nat.zero_mul, Nat.zero_add, List.getElem?_append_left (by exact hj)]
    rfl
  | r :: rs, i + 1, hi, j, hj => by
    show (r.cellsL ++ flatR rs)[(i + 1) * 7 + j]? = _
    rw [List.getElem?_append_right (by rw [show r.cellsL.length = 7 from rfl]; omega), show (i + 1) * 7 + j - r.cellsL.length = i * 7 + j by rw [show r.cellsL.length = 7 from rfl]; omega]
    exact flatR_at rs i (by simpa using hi) j hj
/-- A slice that reads as a list of records. -/
def RecsIn (W : World) (A : Option Addr) (rs : List Rc) : Prop :=
  rs = [] ∨ ∃ b, A = some ⟨b, 0, none⟩ ∧ b < W.heap.size ∧ ∀ (i : Nat) (h : i < rs.length) (j : Nat), j < 7 → W.cell? ⟨b, i * 7 + j, none⟩ = (rs[i].cellsL)[j]?
theorem RecsIn.below {W W' : World} {A : Option Addr} {rs : List Rc} (h : RecsIn W A rs) (hb : Below W.heap.size W W') : RecsIn W' A rs := by
  rcases h with h | ⟨b, rfl, hlt, hc⟩
  · exact .inl h
  · exact .inr ⟨b, rfl, Nat.lt_of_lt_of_le hlt hb.size, fun i hi j hj => (hb.cell (p := ⟨b, i * 7 + j, none⟩) hlt).trans (hc i hi j hj)⟩
theorem RecsIn.at_ {W : World} {A : Option Addr} {rs : List Rc} (h : RecsIn W A rs) {i : Nat} (hi : i < rs.length) :
    ∃ b, A = some ⟨b, 0, none⟩ ∧ b < W.heap.size ∧ W.cell? ⟨b, i * 7, none⟩ = some (.int .i64 rs[i].k) ∧ W.cell? ⟨b, i * 7 + 1, none⟩ = some (.int .i64 rs[i].s) ∧ W.cell? ⟨b, i * 7 + 2, none⟩ = some (.int .i64 rs[i].a) ∧ W.cell? ⟨b, i * 7 + 3, none⟩ = some (.int .i64 rs[i].b) ∧ W.cell? ⟨b, i * 7 + 4, none⟩ = some (.int .i64 rs[i].c) ∧ W.cell? ⟨b, i * 7 + 5, none⟩ = some (.int .i64 rs[i].d) ∧ W.cell? ⟨b, i * 7 + 6, none⟩ = some (.string rs[i].body) := by
  rcases h with rfl | ⟨b, rfl, hlt, hc⟩
  · simp at hi
  · exact ⟨b, rfl, hlt, hc i hi 0 (by omega), hc i hi 1 (by omega), hc i hi 2 (by omega), hc i hi 3 (by omega), hc i hi 4 (by omega), hc i hi 5 (by omega), hc i hi 6 (by omega)⟩
/-- A slice of the call's own that reads as a list of records. -/
def RRow (W : World) (base : Nat) (t : TypeId) (A : Option Addr) (cap : Nat) (rs : List Rc) : Prop := W.ownsRow base t 7 (.slice A rs.length cap) rs.length (flatR rs)
section
variable {W W' : World} {base cap : Nat} {t : TypeId} {A : Option Addr} {rs : List Rc}
theorem RRow.form (h : RRow W base t A cap rs) : (A = none ∧ cap = 0 ∧ rs = []) ∨ ∃ g, A = some ⟨g, 0, none⟩ ∧ base ≤ g ∧ g < W.heap.size ∧ rs.length ≤ cap := by
  rcases h.2 with ⟨hv, h0⟩ | ⟨g, cap', cur, hv, hb, hg, hc, _⟩
  · simp only [Value.slice.injEq] at hv
    exact .inl ⟨hv.1, hv.2.2, List.eq_nil_of_length_eq_zero h0⟩
  · simp only [Value.slice.injEq] at hv
    exact .inr ⟨g, hv.1, hb, (Array.getElem?_eq_some_iff.1 hg).1, by omega⟩
theorem RRow.recs (h : RRow W base t A cap rs) : RecsIn W A rs := by
  rcases h.form with h0 | ⟨g, rfl, _, hlt, _⟩
  · exact .inl h0.2.2
  · refine .inr ⟨g, rfl, hlt, fun i hi j hj => ?_⟩
    rw [h.cellAt (i * 7 + j) (by omega)]
    exact flatR_at rs i hi j hj
theorem RRow.nil (W : World) (base : Nat) (t : TypeId) : RRow W base t none 0 [] := World.ownsRow_nil _ _ _ _
theorem RRow.alloc (h : RRow W base t A cap rs) (o : Obj) : RRow (W.alloc o) base t A cap rs := World.ownsRow.alloc h o
theorem RRow.below (h : RRow W base t A cap rs) (hb : Below W.heap.size W W') : RRow W' base t A cap rs := by
  refine ⟨h.1, ?_⟩
  rcases h.2 with hn | ⟨g, cap', cur, hv, hg, hgg, rest⟩
  · exact .inl hn
  · exact .inr ⟨g, cap', cur, hv, hg, by rw [hb.block g (Array.getElem?_eq_some_iff.1 hgg).1]; exact hgg, rest⟩
/-- Another row was appended to. -/
theorem RRow.kept {v : Value} (h : RRow W base t A cap rs) (hg : W.grownBy W' v.ownBlock) (hne : A = none ∨ (Value.slice A rs.length cap).ownBlock ≠ v.ownBlock) : RRow W' base t A cap rs := by
  refine World.ownsRow.kept h hg ?_
  rcases hne with rfl | hne
  · left; rfl
  · right; exact hne
/-- What stood ahead of the call stands. -/
theorem RRow.grown (h : RRow W base t A cap rs) (hg : W.grownBy W' (Value.slice A rs.length cap).ownBlock) (hb : base ≤ W.heap.size) : Below base W W' :=
  (Below.refl _ _).grown hg hb fun _ e => (World.ownsRow.lt h _ e).1
end
/-- append of one record to a row of the call's own. -/
theorem append_rec {P : Program} {st t : TypeId} {i : TypeInfo} {z : Value} (hst : P.underlying st = some (.slice t)) (hi : P.info? t = some i) (hz : i.zero = some z) (hsize : i.size = 7) (hby : i.bytes = 64) (hzs : z.cells.size = 7)
    {W : World} {base cap : Nat} {A : Option Addr} {rs : List Rc} (hr : RRow W base t A cap rs) {m : Nat} {r : Rc} (hm : RcAt W m r) (hl : rs.length ≤ 1000000) (hb : base ≤ W.heap.size) (ty : TypeId) :
    ∃ A' cap' W', (Builtin.append_ #[st, st] ty #[.slice A rs.length cap, .slice (some ⟨m, 0, none⟩) 1 1]).run P W = .ok (.slice A' (rs.length + 1) cap') W' ∧ RRow W' base t A' cap' (rs ++ [r]) ∧
      W.grownBy W' (Value.slice A rs.length cap).ownBlock ∧ (A' = A ∨ A' = some ⟨W.heap.size, 0, none⟩) := by
  obtain ⟨v', w', h1, h2, h3, h4, h5⟩ := run_append_own_at (P := P) W base st ty t i z 7 64 hst hi hz hsize hby hzs (by decide) _ _ _ hr ⟨m, 0, none⟩ 1 1 r.cellsL rfl (by
      intro j u hu
      have hj : j < 7 := (List.getElem?_eq_some_iff.1 hu).1
      rw [Go.WideShapes.add_plain, Nat.zero_add]
      rcases (by omega : j = 0 ∨ j = 1 ∨ j = 2 ∨ j = 3 ∨ j = 4 ∨ j = 5 ∨ j = 6) with rfl | rfl | rfl | rfl | rfl | rfl | rfl
      · exact hm.c0.trans hu
      · exact hm.c1.trans hu
      · exact hm.c2.trans hu
      · exact hm.c3.trans hu
      · exact hm.c4.trans hu
      · exact hm.c5.trans hu
      · exact hm.c6.trans hu)
    (by
      intro u hu
      simp only [Rec.Rc.cellsL, List.mem_cons, List.not_mem_nil, or_false] at hu
      rcases hu with rfl | rfl | rfl | rfl | rfl | rfl | rfl <;> rfl) (by unfold maxLen; omega) (by omega) hb
  have hf : flatR (rs ++ [r]) = flatR rs ++ r.cellsL := by rw [flatR_append, flatR_one]
  rw [← hf] at h2
  have hlen : (rs ++ [r]).length = rs.length + 1 := by simp
  rcases h2.2 with ⟨hv, h0⟩ | ⟨g, cap', cur, hv, hrest⟩
  · omega
  · subst hv
    refine ⟨some ⟨g, 0, none⟩, cap', w', h1, by unfold RRow; rw [hlen]; exact h2, h3, ?_⟩
    rcases h5 with h5 | h5
    · left
      rcases hr.form with ⟨rfl, _⟩ | ⟨g0, rfl, _⟩
      · simp [Value.ownBlock] at h5
      · simp only [Value.ownBlock, Option.some.injEq] at h5
        rw [h5]
    · right
      simp only [Value.ownBlock, Option.some.injEq] at h5
      rw [h5]
theorem infoRec : (Tryz.prog.info? 38).map (fun i => (i.zero.map (·.cells.size), i.size, i.bytes)) = some (some 7, 7, 64) := by kernel_rfl
/-- A slice that came in and reads as a list of records. -/
def RecsAt (W : World) (A : Option Addr) (rs : List Rc) : Prop :=
  rs = [] ∨ ∃ b off, A = some ⟨b, off, none⟩ ∧ b < W.heap.size ∧ ∀ (i : Nat) (h : i < rs.length) (j : Nat), j < 7 → W.cell? ⟨b, off + i * 7 + j, none⟩ = (rs[i].cellsL)[j]?
theorem RecsAt.below {W W' : World} {A : Option Addr} {rs : List Rc} (h : RecsAt W A rs) (hb : Below W.heap.size W W') : RecsAt W' A rs := by
  rcases h with h | ⟨b, off, rfl, hlt, hc⟩
  · exact .inl h
  · exact .inr ⟨b, off, rfl, Nat.lt_of_lt_of_le hlt hb.size, fun i hi j hj => (hb.cell (p := ⟨b, off + i * 7 + j, none⟩) hlt).trans (hc i hi j hj)⟩
theorem RecsAt.at_ {W : World} {A : Option Addr} {rs : List Rc} (h : RecsAt W A rs) {i : Nat} (hi : i < rs.length) :
    ∃ b off, A = some ⟨b, off, none⟩ ∧ b < W.heap.size ∧ W.cell? ⟨b, off + i * 7, none⟩ = some (.int .i64 rs[i].k) ∧ W.cell? ⟨b, off + i * 7 + 1, none⟩ = some (.int .i64 rs[i].s) ∧ W.cell? ⟨b, off + i * 7 + 2, none⟩ = some (.int .i64 rs[i].a) ∧ W.cell? ⟨b, off + i * 7 + 3, none⟩ = some (.int .i64 rs[i].b) ∧ W.cell? ⟨b, off + i * 7 + 4, none⟩ = some (.int .i64 rs[i].c) ∧ W.cell? ⟨b, off + i * 7 + 5, none⟩ = some (.int .i64 rs[i].d) ∧ W.cell? ⟨b, off + i * 7 + 6, none⟩ = some (.string rs[i].body) := by
  rcases h with rfl | ⟨b, off, rfl, hlt, hc⟩
  · simp at hi
  · exact ⟨b, off, rfl, hlt, hc i hi 0 (by omega), hc i hi 1 (by omega), hc i hi 2 (by omega), hc i hi 3 (by omega), hc i hi 4 (by omega), hc i hi 5 (by omega), hc i hi 6 (by omega)⟩
end Go.Proofs.YtpmhfalhieinjaaGreatDoor
namespace Go.Proofs.YtpmhfalhieinjaaGreatDoor
open Go.RowKit Rec Crc Num
inductive Scans : ByteArray → List Rc → Nat → Prop
  | stop {s : ByteArray} (h : (dec s).2.2 ≠ 0) : Scans s [] 0
  | more {s : ByteArray} {r : Rc} {n k : Nat} {l : List Rc} (h : dec s = (r, (n : Int), 0)) (t : Scans (s.extract (64 * n) s.size) l k) : Scans s (r :: l) (n + k)
theorem Scans.uniq {s : ByteArray} {l : List Rc} {k : Nat} (h : Scans s l k) : ∀ {l' : List Rc} {k' : Nat}, Scans s l' k' → l = l' ∧ k = k' := by
  induction h with
  | stop h =>
    intro l' k' h'
    cases h' with
    | stop _ => exact ⟨rfl, rfl⟩
    | more h2 _ => rw [h2] at h; exact absurd rfl h
  | more h t ih =>
    intro l' k' h'
    cases h' with
    | stop h2 => rw [h] at h2; exact absurd rfl h2
    | more h2 t2 =>
      rw [h] at h2
      obtain ⟨e1, e2⟩ := Prod.mk.inj h2
      obtain ⟨e3, _⟩ := Prod.mk.inj e2
      have e4 := Int.ofNat.inj e3
      subst e1; subst e4
      obtain ⟨f1, f2⟩ := ih t2
      subst f1; subst f2
      exact ⟨rfl, rfl⟩
/-- Where Decode tells a record it has room. -/
theorem dec_ok {s : ByteArray} (h : (dec s).2.2 = 0) : ∃ n : Nat, dec s = (withBody s, (n : Int), 0) ∧ 1 ≤ n ∧ n ≤ 2 ∧ 64 * n ≤ s.size := by
  unfold dec at h ⊢
  by_cases c1 : s = ⟨#[]⟩
  · rw [if_pos c1] at h; cases h
  rw [if_neg c1] at h ⊢
  cases c2 : parseOk s with
  | false => rw [c2] at h; cases h
  | true =>
    rw [c2] at h
    simp only [Bool.true_eq_false, if_false] at h ⊢
    by_cases c3 : s.size < nBlocks (numsR s 6).k * 64
    · rw [if_pos c3] at h; cases h
    rw [if_neg c3] at h ⊢
    by_cases c4 : s.extract 21 25 = sumS (s.extract 0 21) (withBody s).body
    · rw [if_pos c4]
      unfold parseOk at c2
      simp only [Bool.and_eq_true] at c2
      have := nBlocks_pos (numOk_iff.1 c2.2)
      exact ⟨_, rfl, this.1, this.2, by omega⟩
    · rw [if_neg c4] at h; cases h
theorem cut_cut (s : ByteArray) (a b : Nat) : (s.extract a s.size).extract b (s.extract a s.size).size = s.extract (a + b) s.size := by
  apply ByteArray.ext
  rw [ByteArray.data_extract, ByteArray.data_extract, ByteArray.data_extract, ByteArray.size_extract]
  apply Array.ext'
  rw [Array.toList_extract, Array.toList_extract, Array.toList_extract]
  simp only [List.extract]
  have hs : s.size = s.data.toList.length := (body_len s).symm
  rw [hs]
  generalize s.data.toList = l
  rw [List.take_of_length_le (l := l.drop a) (by rw [List.length_drop]; omega), List.drop_drop, List.take_of_length_le (by rw [List.length_drop]; omega), List.take_of_length_le (by rw [List.length_drop]; omega)]
theorem cut_zero (s : ByteArray) : s.extract 0 s.size = s := by simp
/-- One step of Scan, at a place. -/
theorem scan_step {s : ByteArray} {a n : Nat} {r : Rc} {l l' : List Rc} {k k' : Nat} (hd : dec (s.extract a s.size) = (r, (n : Int), 0)) (h : ∀ l' k', Scans (s.extract a s.size) l' k' → Scans s (l ++ l') (k + k'))
    (h2 : Scans (s.extract (a + 64 * n) s.size) l' k') : Scans s (l ++ [r] ++ l') (k + n + k') := by
  rw [List.append_assoc, Nat.add_assoc]
  exact h _ _ (.more hd (by rw [cut_cut]; exact h2))
theorem scan_done {s : ByteArray} {a : Nat} {l : List Rc} {k : Nat} (hd : (dec (s.extract a s.size)).2.2 ≠ 0) (h : ∀ l' k', Scans (s.extract a s.size) l' k' → Scans s (l ++ l') (k + k')) : Scans s l k := by
  have h1 := h [] 0 (.stop hd)
  rwa [List.append_nil] at h1
theorem Scans.len {s : ByteArray} {l : List Rc} {k : Nat} (h : Scans s l k) : 64 * k ≤ s.size ∧ l.length ≤ k := by
  induction h with
  | stop _ => exact ⟨by omega, by simp⟩
  | more h t ih =>
    rename_i s r n k l
    obtain ⟨n', h1, h2, h3, h4⟩ := dec_ok (s := s) (by rw [h])
    rw [h] at h1
    have e := congrArg (fun x : Rc × Int × Int => x.2.1) h1
    simp only at e
    rw [ByteArray.size_extract] at ih
    rw [List.length_cons]
    omega
end Go.Proofs.YtpmhfalhieinjaaGreatDoor
namespace Go.Proofs.YtpmhfalhieinjaaGreatDoor
open Go.RowKit Rec Crc Num
theorem RRow.append {W : World} {base cap : Nat} {A : Option Addr} {rs : List Rc} {m : Nat} {r : Rc} (hr : RRow W base 38 A cap rs) (hm : RcAt W m r) (hl : rs.length ≤ 1000000) (hb : base ≤ W.heap.size) :
    ∃ A' cap' W', (Builtin.append_ #[27, 27] 27 #[.slice A rs.length cap, .slice (some ⟨m, 0, none⟩) 1 1]).run Tryz.prog W = .ok (.slice A' (rs.length + 1) cap') W' ∧ RRow W' base 38 A' cap' (rs ++ [r]) ∧
      W.grownBy W' (Value.slice A rs.length cap).ownBlock ∧ (A' = A ∨ A' = some ⟨W.heap.size, 0, none⟩) := by
  have hinfo := infoRec
  rw [Option.map_eq_some_iff] at hinfo
  obtain ⟨i, hi, he⟩ := hinfo
  simp only [Prod.mk.injEq, Option.map_eq_some_iff] at he
  obtain ⟨⟨z, hz, hzs⟩, hs, hby⟩ := he
  exact append_rec Tryz.underlying27 hi hz hs hby hzs hr hm hl hb _
set_option maxRecDepth 100000 in
set_option maxHeartbeats 8000000 in
theorem scan_any (s : ByteArray) (w : World) (hs : s.size ≤ 1000000) (hT : Tab w) :
    Calls Tryz.prog 61 #[.string s] w fun e w' => ∃ (l : List Rc) (n : Nat) (A : Option Addr) (cap : Nat), e = .returned (.tuple #[.slice A l.length cap, .int .i64 (n : Int)]) ∧ Scans s l n ∧ RRow w' w.heap.size 38 A cap l ∧ Below w.heap.size w w' := by
  have hTA := Lib.hid (fun W (h : Below w.heap.size w W) => hT.below h)
  have hdec := Lib.hid (fun (t : ByteArray) W (h : Tab W) (ht : t.size ≤ 1000000) => decode_any t W (by unfold maxLen; omega) h)
  clear hT
  go_enter Tryz.func61, Tryz.ntmps61
  go_wp2_with fail
  go_loopw [4, 5] (fun sl st wr => ∃ (l : List Rc) (total : Nat) (A : Option Addr) (cap : Nat), sl = .slice A l.length cap ∧ st = .int .i64 (total : Int) ∧ 64 * total ≤ s.size ∧ (∀ l' k', Scans (s.extract (64 * total) s.size) l' k' → Scans s (l ++ l') (total + k')) ∧ l.length ≤ total ∧ RRow wr w.heap.size 38 A cap l ∧ Below w.heap.size w wr) (fun _ i _ => s.size + 64 - 64 * (intOf i).toNat)
  case atStart => exact ⟨[], 0, none, 0, rfl, rfl, by omega, fun l' k' h => by rw [List.nil_append, Nat.zero_add]; rwa [show 64 * 0 = 0 from rfl, cut_zero] at h, Nat.le_refl _, RRow.nil _ _ _, Below.refl _ _⟩
  case round =>
    obtain ⟨l, total, A, cap, rfl, rfl, h64, hsc, hlt, hrow, hB⟩ := hrel
    have hrowH := Lib.hid hrow
    have hBH := Lib.hid hB
    have hscH := Lib.hid hsc
    have hltH := Lib.hid hlt
    clear hrow hB hsc hlt
    obtain ⟨M, hM⟩ : ∃ M, M = 64 * total := ⟨_, rfl⟩
    have hw1 : IntKind.i64.wrap ((total : Int) * 64) = (M : Int) := by rw [IntWalk.i64_in _ (by omega)]; omega
    have hMs : M ≤ s.size := by omega
    have hMs2 : (M : Int) ≤ (s.size : Int) := by omega
    have hd0 := Lib.hid (fun W (h : Tab W) => hdec.out (s.extract M s.size) W h (by rw [ByteArray.size_extract]; omega))
    by_cases hz : (dec (s.extract M s.size)).2.2 = 0
    case neg =>
      have hne : ((dec (s.extract M s.size)).2.2 != 0) = true := bne_iff_ne.2 hz
      have hfin := Lib.hid (scan_done (a := 64 * total) (by rw [← hM]; exact hz) hscH.out)
      clear hz hscH hM h64
      generalize dec (s.extract M s.size) = d at hd0 hne
      obtain ⟨r0, n0, e0⟩ := d
      dsimp only at hne hd0
      go_wp2_with (go_at_call 88; with_reducible refine (hd0.out _ (hTA.out _ hBH.out)).mono ?_; rintro e w2 ⟨rfl, hb2⟩)
      refine bodyPost_ret (v := .tuple #[.slice A l.length cap, .int .i64 (total : Int)]) (by simp [results, Tryz.results61, go_sem]) rfl ?_
      exact ⟨l, total, A, cap, rfl, hfin.out, (hrowH.out.below hb2).alloc _, hBH.out.trans ((hb2.alloc hb2.size _).mono hBH.out.size)⟩
    case pos =>
      obtain ⟨n, hdn, n1, n2, hroom⟩ := dec_ok hz
      have hsz2 : (s.extract M s.size).size = s.size - M := by rw [ByteArray.size_extract]; omega
      rw [hdn] at hd0
      clear hz
      have hnext := Lib.hid (fun l' k' (h2 : Scans (s.extract (64 * (total + n)) s.size) l' k') => scan_step (a := 64 * total) (by rw [← hM]; exact hdn) hscH.out (by rw [show 64 * total + 64 * n = 64 * (total + n) by omega]; exact h2))
      have hroom2 : 64 * (total + n) ≤ s.size := by omega
      generalize withBody (s.extract M s.size) = r at hd0 hnext
      have hw2 : IntKind.i64.wrap ((total : Int) + (n : Int)) = (total : Int) + (n : Int) := IntWalk.i64_in _ (by omega)
      have hltH2 := Lib.hid (show l.length + 1 ≤ total + n by have := hltH.out; omega)
      have hll : Hid (l.length ≤ 1000000) := Lib.hid (by have := hltH.out; omega)
      have hroomH := Lib.hid hroom2
      have hmeas := Lib.hid (show s.size + 64 - 64 * (total + n) < s.size + 64 - 64 * total by omega)
      clear hdn hscH hroom hsz2 hM h64 hltH hroom2 n1 n2
      dsimp only at hd0
      go_upto_region 6 with (go_at_call 88; with_reducible refine (hd0.out _ (hTA.out _ hBH.out)).mono ?_; rintro e w2 ⟨rfl, hb2⟩)
      have hB2 := hBH.out.trans (hb2.mono hBH.out.size)
      have hrow2 := hrowH.out.below hb2
      have hm2 : RcAt ((w2.alloc (.cells #[.int .i64 r.k, .int .i64 r.s, .int .i64 r.a, .int .i64 r.b, .int .i64 r.c, .int .i64 r.d, .string r.body] 38)).alloc (.cells #[.int .i64 r.k, .int .i64 r.s, .int .i64 r.a, .int .i64 r.b, .int .i64 r.c, .int .i64 r.d, .string r.body] 38)) (w2.heap.size + 1) r := by
        have h := RcAt.new (w2.alloc (.cells #[.int .i64 r.k, .int .i64 r.s, .int .i64 r.a, .int .i64 r.b, .int .i64 r.c, .int .i64 r.d, .string r.body] 38)) r 38
        rwa [World.size_alloc] at h
      obtain ⟨A', cap', w3, hrun, hrow3, hgr, _⟩ := ((hrow2.alloc (.cells #[.int .i64 r.k, .int .i64 r.s, .int .i64 r.a, .int .i64 r.b, .int .i64 r.c, .int .i64 r.d, .string r.body] 38)).alloc (.cells #[.int .i64 r.k, .int .i64 r.s, .int .i64 r.a, .int .i64 r.b, .int .i64 r.c, .int .i64 r.d, .string r.body] 38)).append hm2 hll.out (by have := hB2.size; simp; omega)
      have hB3 : Below w.heap.size w w3 := by
        have hs2 := hB2.size
        exact ((hB2.alloc hs2 _).alloc (by simp; omega) _).trans (((hrow2.alloc _).alloc _).grown hgr (by simp; omega))
      have hrunH := Lib.hid hrun
      have hrow3H := Lib.hid hrow3
      have hB3H := Lib.hid hB3
      clear hm2 hrun hrow3 hB3 hgr hrow2 hB2 hb2 hrowH hBH
      go_wp2_with (at_builtin; refine append_run_wp (by first | rfl | (simp [Region.wanted, yielded])) (.tmp 22) (.tmp 24) 27 rfl rfl rfl hrunH.out ?_)
      go_roundw
      case rel => exact ⟨l ++ [r], total + n, A', cap', by simp, by go_num, hroomH.out, hnext.out, by rw [List.length_append]; exact hltH2.out, hrow3H.out, hB3H.out⟩
      case measure => simp only [intOf]; have := hmeas.out; omega
end Go.Proofs.YtpmhfalhieinjaaGreatDoor
namespace Go.Proofs.YtpmhfalhieinjaaGreatDoor
open Go.RowKit Rec Crc Num
def catL : List Rc → List UInt8
  | [] => []
  | q :: qs => encL q ++ catL qs
def blk : List Rc → Nat
  | [] => 0
  | q :: qs => nBlocks q.k + blk qs
theorem catL_append : ∀ (a b : List Rc), catL (a ++ b) = catL a ++ catL b
  | [], _ => rfl
  | q :: a, b => by show encL q ++ catL (a ++ b) = encL q ++ catL a ++ catL b; rw [catL_append a b, List.append_assoc]
theorem blk_append : ∀ (a b : List Rc), blk (a ++ b) = blk a + blk b
  | [], _ => (Nat.zero_add _).symm
  | q :: a, b => by show nBlocks q.k + blk (a ++ b) = nBlocks q.k + blk a + blk b; rw [blk_append a b, Nat.add_assoc]
theorem catL_len : ∀ {qs : List Rc}, (∀ q ∈ qs, Rec.Good q) → (catL qs).length = 64 * blk qs
  | [], _ => rfl
  | q :: qs, h => by
    show (encL q ++ catL qs).length = 64 * (nBlocks q.k + blk qs)
    rw [List.length_append, encL_len (h q (by simp)), catL_len (fun x hx => h x (by simp [hx])), Nat.mul_add]
theorem blk_le : ∀ (qs : List Rc), blk qs ≤ 2 * qs.length
  | [] => Nat.le_refl _
  | q :: qs => by
    have h := blk_le qs
    have h1 : nBlocks q.k ≤ 2 := by unfold nBlocks; split; omega; split <;> omega
    show nBlocks q.k + blk qs ≤ 2 * (qs.length + 1)
    omega
theorem blk_take : ∀ (qs : List Rc) (k : Nat), blk (qs.take k) ≤ blk qs
  | [], k => by simp [blk]
  | q :: qs, 0 => Nat.zero_le _
  | q :: qs, k + 1 => by
    have := blk_take qs k
    show nBlocks q.k + blk (qs.take k) ≤ nBlocks q.k + blk qs
    omega
theorem kind_of {s : ByteArray} {r : Rc} {rest : List UInt8} (hn : 1 ≤ r.k ∧ r.k ≤ 6) (h : TextOf s ([67, 66] ++ putL r.k.toNat 1 ++ rest)) : (numsR s 6).k = r.k :=
  getN_put (cut_of (a := 2) (b := 3) h rfl (by rw [putL_length])) (by omega) (by omega) (by omega) (by omega)
theorem dec_blocks {s : ByteArray} (h : (dec s).2.2 = 0) : nBlocks (numsR s 6).k * 64 ≤ s.size := by
  unfold dec at h
  by_cases c1 : s = ⟨#[]⟩
  · rw [if_pos c1] at h; cases h
  rw [if_neg c1] at h
  cases c2 : parseOk s with
  | false => rw [c2] at h; cases h
  | true =>
    rw [c2] at h
    simp only [Bool.true_eq_false, if_false] at h
    by_cases c3 : s.size < nBlocks (numsR s 6).k * 64
    · rw [if_pos c3] at h; cases h
    · omega
/-- A beginning of a record is none. -/
theorem dec_short {s : ByteArray} {q : Rc} {rest : List UInt8} {c : Nat} (hg : Rec.Good q) (hc : c < 64 * nBlocks q.k) (h : TextOf s ((encL q ++ rest).take c)) : (dec s).2.2 ≠ 0 := by
  intro h0
  have hp := nBlocks_pos hg.1
  obtain ⟨n, _, h1, _, h3⟩ := dec_ok h0
  have hl := encL_len hg
  have hsz : s.size = c := by rw [h.size, List.length_take, List.length_append, hl]; omega
  have hk : (numsR s 6).k = q.k := by
    have h4 : (encL q ++ rest).take c = [67, 66] ++ putL q.k.toNat 1 ++ ((encL q ++ rest).take c).drop 3 := by
      have h5 : ((encL q ++ rest).take c).take 3 = [67, 66] ++ putL q.k.toNat 1 := by
        rw [List.take_take, show min 3 c = 3 by omega, List.take_append_of_le_length (by omega)]
        unfold encL headL
        simp only [List.append_assoc]
        rw [← List.append_assoc, List.take_append_of_le_length (by simp [putL_length]), List.take_of_length_le (by simp [putL_length])]
      rw [← h5, List.take_append_drop]
    exact kind_of hg.1.1 (by rw [← h4]; exact h)
  have h6 := dec_blocks h0
  rw [hk] at h6
  omega
theorem dec_none {s : ByteArray} (h : TextOf s []) : (dec s).2.2 ≠ 0 := by
  have e : s = ⟨#[]⟩ := h.eq
  unfold dec
  rw [if_pos e]
  decide
/-- Of records that stand one behind the other, cut off at c, those are read that are whole. -/
theorem scan_cat : ∀ (qs : List Rc) (k c : Nat) (s : ByteArray), (∀ q ∈ qs, Rec.Good q) → k ≤ qs.length → 64 * blk (qs.take k) ≤ c → (k < qs.length → c < 64 * blk (qs.take (k + 1))) → (k = qs.length → c ≤ 64 * blk qs) →
    TextOf s ((catL qs).take c) → Scans s (qs.take k) (blk (qs.take k))
  | [], k, c, s, _, hk, _, _, _, h => by
    obtain rfl : k = 0 := by simpa using hk
    exact .stop (dec_none (by simpa [catL] using h))
  | q :: qs, 0, c, s, hg, _, _, hlt, _, h => by
    have h1 := hlt (by simp)
    simp only [Nat.zero_add, List.take_succ_cons, List.take_zero, blk, Nat.add_zero] at h1
    exact .stop (dec_short (hg q (by simp)) h1 h)
  | q :: qs, k + 1, c, s, hg, hk, hle, hlt, hend, h => by
    have hq := hg q (by simp)
    have hl := encL_len hq
    simp only [List.take_succ_cons, blk] at hle hlt hend ⊢
    have hc : 64 * nBlocks q.k ≤ c := by omega
    have hsz : s.size = min c (64 * nBlocks q.k + (catL qs).length) := by
      rw [h.size, List.length_take]
      show min c (encL q ++ catL qs).length = _
      rw [List.length_append, hl]
    have h1 : TextOf s (encL q ++ (catL qs).take (c - 64 * nBlocks q.k)) := by
      have e : (catL (q :: qs)).take c = encL q ++ (catL qs).take (c - 64 * nBlocks q.k) := by
        show (encL q ++ catL qs).take c = _
        rw [List.take_append, List.take_of_length_le (by omega), hl]
      rw [← e]; exact h
    have h2 := dec_enc hq _ h1
    refine .more h2 (scan_cat qs k (c - 64 * nBlocks q.k) _ (fun x hx => hg x (by simp [hx])) (by simpa using hk) (by omega) (fun hk' => ?_) (fun hk' => ?_) ?_)
    · have h3 := hlt (by simpa using hk')
      omega
    · have h3 := hend (by simp [hk'])
      omega
    · have h4 : TextOf s (encL q ++ (catL qs).take (c - 64 * nBlocks q.k) ++ []) := by rw [List.append_nil]; exact h1
      exact cut_of h4 hl (by rw [List.length_take, hsz]; omega)
theorem blk_take_succ {qs : List Rc} {k : Nat} (h : k < qs.length) : blk (qs.take (k + 1)) = blk (qs.take k) + nBlocks qs[k].k := by
  rw [List.take_succ_eq_append_getElem h, blk_append]
  rfl
end Go.Proofs.YtpmhfalhieinjaaGreatDoor
namespace Go.Proofs.YtpmhfalhieinjaaGreatDoor
open Go.RowKit Rec
def eqR (r r' : Rc) : Bool := r.k == r'.k && (r.s == r'.s && (r.a == r'.a && (r.b == r'.b && (r.c == r'.c && (r.d == r'.d && r.body.toList == r'.body.toList)))))
theorem eqR_iff {r r' : Rc} : eqR r r' = true ↔ r = r' := by
  constructor
  · intro h
    unfold eqR at h
    simp only [Bool.and_eq_true, beq_iff_eq, ByteArray.toList_eq] at h
    obtain ⟨h0, h1, h2, h3, h4, h5, h6⟩ := h
    cases r; cases r'
    simp only at h0 h1 h2 h3 h4 h5 h6
    rw [h0, h1, h2, h3, h4, h5, ByteArray.ext (Array.ext' h6)]
  · rintro rfl
    unfold eqR
    simp
theorem eqR_self (r : Rc) : eqR r r = true := eqR_iff.2 rfl
theorem rec_eql (w : World) (r r' : Rc) : (binOp .eql 38 (.agg #[.int .i64 r.k, .int .i64 r.s, .int .i64 r.a, .int .i64 r.b, .int .i64 r.c, .int .i64 r.d, .string r.body]) (.agg #[.int .i64 r'.k, .int .i64 r'.s, .int .i64 r'.a, .int .i64 r'.b, .int .i64 r'.c, .int .i64 r'.d, .string r'.body])).run Tryz.prog w = .ok (.bool (eqR r r')) w ∧ (binOp .neq 38 (.agg #[.int .i64 r.k, .int .i64 r.s, .int .i64 r.a, .int .i64 r.b, .int .i64 r.c, .int .i64 r.d, .string r.body]) (.agg #[.int .i64 r'.k, .int .i64 r'.s, .int .i64 r'.a, .int .i64 r'.b, .int .i64 r'.c, .int .i64 r'.d, .string r'.body])).run Tryz.prog w = .ok (.bool (!eqR r r')) w := by
  obtain ⟨f0, f1, f2, f3, f4, f5, f6, hl, h0, h1, h2, h3, h4, h5, h6⟩ := struct_seven (P := Tryz.prog) (t := 38) (k0 := (3, 0, true)) (k1 := (3, 1, true)) (k2 := (3, 2, true)) (k3 := (3, 3, true)) (k4 := (3, 4, true)) (k5 := (3, 5, true)) (k6 := (9, 6, true)) (by kernel_rfl)
  refine eql_of (by kernel_rfl) (by kernel_rfl) ?_
  rw [hl,
    eqF_cons h0 (a := .int .i64 r.k) (b := .int .i64 r'.k) (by kernel_rfl) (by kernel_rfl) (run_equalIn_int _ 9998 _ _ .i64 _ _ Tryz.underlying3),
    eqF_cons h1 (a := .int .i64 r.s) (b := .int .i64 r'.s) (by kernel_rfl) (by kernel_rfl) (run_equalIn_int _ 9998 _ _ .i64 _ _ Tryz.underlying3),
    eqF_cons h2 (a := .int .i64 r.a) (b := .int .i64 r'.a) (by kernel_rfl) (by kernel_rfl) (run_equalIn_int _ 9998 _ _ .i64 _ _ Tryz.underlying3),
    eqF_cons h3 (a := .int .i64 r.b) (b := .int .i64 r'.b) (by kernel_rfl) (by kernel_rfl) (run_equalIn_int _ 9998 _ _ .i64 _ _ Tryz.underlying3),
    eqF_cons h4 (a := .int .i64 r.c) (b := .int .i64 r'.c) (by kernel_rfl) (by kernel_rfl) (run_equalIn_int _ 9998 _ _ .i64 _ _ Tryz.underlying3),
    eqF_cons h5 (a := .int .i64 r.d) (b := .int .i64 r'.d) (by kernel_rfl) (by kernel_rfl) (run_equalIn_int _ 9998 _ _ .i64 _ _ Tryz.underlying3),
    eqF_cons h6 (a := .string r.body) (b := .string r'.body) (by kernel_rfl) (by kernel_rfl) (run_equalIn_string _ 9998 _ _ _ Tryz.underlying9), eqF_nil]
  unfold eqR
  cases h10 : (r.k == r'.k) <;> cases h11 : (r.s == r'.s) <;> cases h12 : (r.a == r'.a) <;> cases h13 : (r.b == r'.b) <;> cases h14 : (r.c == r'.c) <;> cases h15 : (r.d == r'.d) <;> (first | rfl | (cases h16 : (r.body.toList == r'.body.toList) <;> rfl))
end Go.Proofs.YtpmhfalhieinjaaGreatDoor
