/- Notes in memory, and the map of the notes of each generation. -/
import Derived.Test.YtbgkmppngnedlabDoorORow
import Derived.Test.YtbgkmppngnedlabDoorOKRow
import Derived.Maps.OwnSet
import Derived.DeepKeys4
import Derived.WideKeyArgs
import Derived.WideKeyEntry
namespace Go.Proofs.YtbgkmppngnedlabDoor
open Go.RowKit Rec Go.Maps

/-- A note. -/
structure Nt where
  r : Int
  c : Int
  p : ByteArray
def ntE : Enc Nt := ⟨fun x => [.int .i64 x.r, .int .i64 x.c, .string x.p], 3, fun _ => rfl, fun _ u hu => by
  simp only [List.mem_cons, List.not_mem_nil, or_false] at hu
  rcases hu with rfl | rfl | rfl <;> rfl⟩
theorem nt_at {W : World} {A : Option Addr} {l : List Nt} (h : ntE.In W A l) {i : Nat} (hi : i < l.length) : ∃ b off, A = some ⟨b, off, none⟩ ∧ b < W.heap.size ∧ W.cell? ⟨b, off + i * 3, none⟩ = some (.int .i64 l[i].r) ∧ W.cell? ⟨b, off + i * 3 + 1, none⟩ = some (.int .i64 l[i].c) ∧ W.cell? ⟨b, off + i * 3 + 2, none⟩ = some (.string l[i].p) := by
  obtain ⟨b, off, e, hlt, h⟩ := h.at_ hi
  exact ⟨b, off, e, hlt, h 0 (by decide), h 1 (by decide), h 2 (by decide)⟩
theorem infNt : Enc.Inf Tryd.prog 45 3 32 := by unfold Enc.Inf; kernel_rfl
theorem genRow : (50 : TypeId) < Tryd.prog.types.size := of_decide_eq_true (by kernel_rfl)
theorem genWide : (match Tryd.prog.underlying 50 with | some (.array _ _) | some (.struct _) => true | _ => false) = true := by kernel_rfl
theorem laidOutN : laidOutB Tryd.prog = true := by kernel_rfl
set_option maxRecDepth 100000 in
theorem genKL : Go.WideMaps.KeyLaw Tryd.prog 50 := deep_law_laid laidOutN (m := 2) (by omega) genRow (by kernel_rfl) genWide
theorem genLaw : Keyed Tryd.prog 50 := Keyed.of_law genKL
def WfI (n : Int) : Prop := (Lit.int .i64 n).wf = true
def gLit (u : Int × Int) : Lit := .string (keyBytes [.int .i64 u.1, .int .i64 u.2])
theorem genKey {k s : Int} (hk : WfI k) (hs : WfI s) : keyOf Tryd.prog 50 (.agg #[.int .i64 k, .int .i64 s]) = some (gLit (k, s)) := by
  have hkt : Tryd.prog.keyType 50 = true := by kernel_rfl
  have hsz : ∃ m, Tryd.prog.types.size = m + 1 := Nat.exists_eq_succ_of_ne_zero (fun e => by have := genRow; rw [e] at this; exact absurd this (Nat.not_lt_zero _))
  obtain ⟨m, hm⟩ := hsz
  unfold WfI at hk hs
  have hc : Tryd.prog.cellsOf 50 = 2 := by kernel_rfl
  have hc3 : Tryd.prog.cellsOf 3 = 1 := by kernel_rfl
  have hu := Tryd.underlying50
  have hi := Tryd.underlying3
  unfold keyOf
  simp only [hu]
  rw [if_pos (by simp [hkt, Value.formed, hu, hc]), hm]
  unfold Program.keyLits
  simp only [hu, Value.cells]
  rw [if_pos (by rw [hc]; exact ⟨rfl, by kernel_rfl⟩)]
  simp [hc3, Program.keyLits, hi, hk, hs, gLit]
theorem gLit_inj {k s k' s' : Int} (hk : WfI k) (hs : WfI s) (hk' : WfI k') (hs' : WfI s') (h : gLit (k, s) = gLit (k', s')) : k = k' ∧ s = s' := by
  have h1 := genKey hk hs
  have h2 := genKey hk' hs'
  rw [h] at h1
  have h3 := genLaw.inj h1 h2
  simp only [Value.agg.injEq, Array.mk.injEq, List.cons.injEq, Value.int.injEq, true_and, and_true] at h3
  exact h3
/-- A slice's head: its block (at its beginning), its length, its capacity. -/
structure Hd where
  g : Option Nat
  n : Nat
  c : Nat
def Hd.a (h : Hd) : Option Addr := h.g.map fun g => ⟨g, 0, none⟩
def Hd.v (h : Hd) : Value := .slice h.a h.n h.c
def hdD (h : Hd) : DataW Unit := .agg [.lit (.int .i64 (match h.g with | none => -1 | some g => (g : Int))), .lit (.int .i64 (h.n : Int)), .lit (.int .i64 (h.c : Int))]
def slElem (v : Value) : Option (DataW Unit × List MemPlace) := match v with
  | .slice none n c => some (hdD ⟨none, n, c⟩, [])
  | .slice (some ⟨g, 0, none⟩) n c => some (hdD ⟨some g, n, c⟩, [])
  | _ => none
theorem slElem_mk (h : Hd) : slElem h.v = some (hdD h, []) := by
  obtain ⟨g, n, c⟩ := h
  cases g <;> rfl
theorem hdD_inj {h h' : Hd} (e : hdD h = hdD h') : h = h' := by
  obtain ⟨g, n, c⟩ := h
  obtain ⟨g', n', c'⟩ := h'
  unfold hdD at e
  simp only [DataW.agg.injEq, List.cons.injEq, DataW.lit.injEq, Lit.int.injEq, true_and, and_true] at e
  obtain ⟨e1, e2, e3⟩ := e
  have hn : n = n' := by omega
  have hc : c = c' := by omega
  subst hn; subst hc
  cases g <;> cases g' <;> simp only at e1
  · rfl
  · omega
  · omega
  · have := Int.ofNat.inj e1
    subst this
    rfl
theorem slElem_inv {v : Value} {h : Hd} {ps : List MemPlace} (e : slElem v = some (hdD h, ps)) : v = h.v := by
  unfold slElem at e
  split at e
  · have := hdD_inj (Prod.mk.inj (Option.some.inj e)).1
    rw [← this]; rfl
  · have := hdD_inj (Prod.mk.inj (Option.some.inj e)).1
    rw [← this]; rfl
  · cases e
theorem slZero (W : World) : (zeroValue 31).run Tryd.prog W = .ok (Hd.v ⟨none, 0, 0⟩) W := by kernel_rfl
/-- Block b is a map of such heads. -/
def MapS (W : World) (b n : Nat) (f : Int × Int → Hd) : Prop := ∃ D : DataW Unit, W.ownsMap Tryd.prog 50 slElem b n D ∧ ∀ k s, WfI k → WfI s → D.atKey (gLit (k, s)) (hdD ⟨none, 0, 0⟩) = hdD (f (k, s))
theorem MapS.made (W : World) : MapS (W.alloc (.map #[] 0)) W.heap.size 0 (fun _ => ⟨none, 0, 0⟩) := ⟨_, World.ownsMap_made W _ _ _, fun _ _ _ _ => rfl⟩
theorem MapS.kept {W W' : World} {b n : Nat} {f : Int × Int → Hd} {o : Option Nat} (h : MapS W b n f) (hg : W.grownBy W' o) (hne : some b ≠ o) : MapS W' b n f := by
  obtain ⟨D, h1, h2⟩ := h
  exact ⟨D, h1.kept hg hne, h2⟩
theorem MapS.below {W W' : World} {b n : Nat} {f : Int × Int → Hd} (h : MapS W b n f) (hb : Below W.heap.size W W') : MapS W' b n f :=
  h.kept (o := none) ⟨hb.os, hb.tape, hb.output, hb.size, fun k hk _ => hb.block k hk⟩ (by simp)
theorem MapS.lt {W : World} {b n : Nat} {f : Int × Int → Hd} (h : MapS W b n f) : b < W.heap.size := by obtain ⟨D, h1, _⟩ := h; exact h1.lt
theorem MapS.mono {W : World} {b n n' : Nat} {f : Int × Int → Hd} (h : MapS W b n f) (hn : n ≤ n') : MapS W b n' f := by obtain ⟨D, h1, h2⟩ := h; exact ⟨D, h1.mono hn, h2⟩
theorem MapS.look {W : World} {b n : Nat} {f : Int × Int → Hd} (h : MapS W b n f) {k s : Int} (hk : WfI k) (hs : WfI s) : (Instr.lookup 47 (.map (some b)) (.agg #[.int .i64 k, .int .i64 s]) false).run Tryd.prog W = .ok (f (k, s)).v W := by
  obtain ⟨D, h1, h2⟩ := h
  obtain ⟨v, ps, hrun, hv⟩ := h1.lookup genLaw Tryd.underlying47 (slZero W) (zd := hdD ⟨none, 0, 0⟩) (zp := []) rfl (genKey hk hs)
  rw [h2 k s hk hs] at hv
  rw [slElem_inv hv] at hrun
  exact hrun
def updH (f : Int × Int → Hd) (u : Int × Int) (h : Hd) : Int × Int → Hd := fun v => if v = u then h else f v
/-- An entry taken, and what a store at it leaves. -/
theorem MapS.entry {W : World} {b n : Nat} {f : Int × Int → Hd} (h : MapS W b n f) (hn : n < maxLen) {k s : Int} (hk : WfI k) (hs : WfI s) :
    ∃ (st : Nat) (W1 : World), (Instr.mapEntry 47 (.map (some b)) (.agg #[.int .i64 k, .int .i64 s])).run Tryd.prog W = .ok (.tuple #[(f (k, s)).v, goInt st]) W1 ∧ W.grownBy W1 (some b) ∧ W1.heap.size = W.heap.size ∧
      ∀ (W2 : World) (hd : Hd), W2.heap[b]? = W1.heap[b]? → ∃ W3, (Instr.entryStore 47 (.map (some b)) (goInt st) hd.v).run Tryd.prog W2 = .ok () W3 ∧ MapS W3 b (n + 1) (updH f (k, s) hd) ∧ W2.grownBy W3 (some b) ∧ W3.heap.size = W2.heap.size := by
  have hlk := h.look hk hs
  obtain ⟨D, h1, h2⟩ := h
  have h1' := h1
  obtain ⟨es, clock, hb, F, hsz, hD⟩ := h1
  have hkey := genKey hk hs
  obtain ⟨v0, st, es1, clock1, hrun, hor, hback⟩ := Go.WideElems.entry_then_store genKL Tryd.underlying47 slZero hb F hkey
  have hat := Go.WideShapes.atKey_sorted (es.toList.map (Go.WideElems.rg Tryd.prog 50 slElem)) (fit_rising genLaw F) (gLit (k, s)) (genLaw.key hkey)
  rw [← hD] at hat
  have hv0 : v0 = (f (k, s)).v := by
    rcases hor with ⟨e1, h3, h4, h5⟩ | ⟨h3, h4⟩
    · obtain ⟨y1, hy1⟩ := F.reads e1 h3
      obtain ⟨zv, hzv, hd⟩ := Go.WideElems.rd_val hy1
      have m0 := Go.WideElems.rd_key hy1
      rw [h4, hkey] at m0
      have h6 := hat.2 (Go.WideElems.rg Tryd.prog 50 slElem e1) (List.mem_map.2 ⟨e1, h3, rfl⟩) (by rw [Go.WideElems.rg_of hy1]; exact (Option.some.inj m0).symm) (hdD ⟨none, 0, 0⟩)
      rw [h2 k s hk hs, Go.WideElems.rg_of hy1, hd] at h6
      have h7 : slElem e1.val = some (hdD (f (k, s)), zv.2) := by rw [h6]; exact hzv
      rw [h5]
      exact slElem_inv h7
    · have h6 := hat.1 (fun p hp e1 => by
        obtain ⟨x, hx, rfl⟩ := List.mem_map.1 hp
        obtain ⟨y, hy⟩ := F.reads x hx
        have m1 := Go.WideElems.rd_key hy
        rw [Go.WideElems.rg_of hy] at e1
        rw [e1] at m1
        exact h3 x hx (genLaw.inj m1 hkey)) (hdD ⟨none, 0, 0⟩)
      rw [h2 k s hk hs] at h6
      rw [h4, hdD_inj h6]
  rw [hv0] at hrun
  refine ⟨st, _, hrun, ⟨rfl, rfl, rfl, by simp [ChangeMaps.setBlock], fun i _ hi => ChangeMaps.heap_setBlock_other hb _ (fun e => hi (by rw [e]))⟩, by simp [ChangeMaps.setBlock], fun W2 hd hW2 => ?_⟩
  rw [ChangeMaps.heap_setBlock_same hb] at hW2
  obtain ⟨es', clock', hr3, hr4⟩ := hback W2 hd.v hW2
  obtain ⟨W', hr5, ⟨es2, c2, hb2, F2, hs2, hD2⟩, _⟩ := h1'.update genLaw Tryd.underlying47 hn hkey (slElem_mk hd)
  rw [hr4] at hr5
  have hW' : ChangeMaps.setBlock W b (.map es' clock') = W' := by
    simp only [Result.ok.injEq, true_and] at hr5
    exact hr5
  rw [← hW', ChangeMaps.heap_setBlock_same hb] at hb2
  simp only [Option.some.injEq, Obj.map.injEq] at hb2
  obtain ⟨e2, e3⟩ := hb2
  subst e2; subst e3
  refine ⟨_, hr3, ⟨_, ⟨es', clock', ChangeMaps.heap_setBlock_same hW2 _, F2, hs2, rfl⟩, fun k' s' hk' hs' => ?_⟩, ⟨rfl, rfl, rfl, by simp [ChangeMaps.setBlock], fun i _ hi => ChangeMaps.heap_setBlock_other hW2 _ (fun e => hi (by rw [e]))⟩, by simp [ChangeMaps.setBlock]⟩
  rw [← hD2]
  have hkeyL : WideAt.IsKeyLit (gLit (k, s)) := genLaw.key hkey
  unfold updH
  by_cases he : (k', s') = (k, s)
  · rw [if_pos he, he]
    exact Go.Maps.atKey_put_same h1'.isMap hkeyL _ _
  · rw [if_neg he, Go.Maps.atKey_put_other (fun e => he (by
      obtain ⟨q1, q2⟩ := gLit_inj hk' hs' hk hs e
      rw [q1, q2]))]
    exact h2 k' s' hk' hs'
end Go.Proofs.YtbgkmppngnedlabDoor
