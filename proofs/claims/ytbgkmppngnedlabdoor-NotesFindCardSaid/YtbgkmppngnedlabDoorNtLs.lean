/- Last of notes: the last note of each row, by rows. -/
import Derived.Test.YtbgkmppngnedlabDoorNtCm
namespace Go.Proofs.YtbgkmppngnedlabDoor
open Go.RowKit Rec Go.Maps Go.Sort Go.Shelf

/-- What SortFunc does with a row of notes. -/
def SortsN : Prop := ∀ (W : World) (base : Nat) (A : Option Addr) (cap : Nat) (l : List Nt), ntE.Row W base 45 A cap l → base ≤ W.heap.size → l.length ≤ 1000000 →
  Calls Tryd.prog 21 #[.slice A l.length cap, .func (.func 14) #[] #[]] W fun e w' => ∃ d : List Nt, e = .returned (.tuple #[]) ∧ d.Perm l ∧ d.Pairwise (fun a b => ¬ b.r < a.r) ∧ ntE.Row w' base 45 A cap d ∧ Below base W w'
theorem allOf_size {D : DataW Unit} {ps : List (Int × Nt)} (h : AllOf D ps) {w : World} {b n : Nat} (hown : w.ownsMap Tryd.prog 3 ntRd b n D) : ps.length ≤ Maps.size D := by
  have hperm : (ps.map (·.1)).Perm (intKeys D) := CollectedI.perm (left := fun _ => false) ⟨h.1, fun x => by rw [h.2.1 x]; simp⟩ hown intKeyed Tryd.underlying3 (fun _ => rfl)
  have h1 := hperm.length_eq
  rw [List.length_map] at h1
  obtain ⟨es, rfl, _⟩ := hown.entries intKeyed
  rw [h1]
  simp [intKeys, Maps.size]
theorem values_any (b : Nat) (w : World) : Calls Tryd.prog 17 #[.map (some b)] w fun e w' => e = .returned (.func (.func 22) #[] #[.pointer (some ⟨w.heap.size, 0, none⟩)]) ∧ w' = w.alloc (.cells #[.map (some b)] 52) := by
  have hmf : ∀ (fn : Fn) (first cap : Array Value) (w : World), (Instr.makeFunc fn first cap).run Tryd.prog w = .ok (.func fn first cap) w := fun _ _ _ _ => rfl
  go_enter Tryd.func17, Tryd.ntmps17
  go_wp2_with fail
  go_ret
  exact ⟨rfl, rfl⟩
def SortedPost (w : World) (l : List Nt) (e : Ending) (w' : World) : Prop := ∃ L A cap, LastL l L ∧ e = .returned (.slice A L.length cap) ∧ ntE.Row w' w.heap.size 45 A cap L ∧ Below w.heap.size w w'
set_option maxRecDepth 100000 in
set_option maxHeartbeats 2000000 in
theorem sorted_any (hS : SortsN) (Bm b nn : Nat) (l : List Nt) (w : World) (hm : w.cell? ⟨Bm, 0, none⟩ = some (.map (some b))) (hown : MapL w b nn l) (hn : nn ≤ 1000000) :
    Calls Tryd.prog 16 #[.func (.func 22) #[] #[.pointer (some ⟨Bm, 0, none⟩)], .func (.func 14) #[] #[]] w (SortedPost w l) := by
  have hsz : Maps.size (dOf l) ≤ nn := World.ownsMap.size_le hown
  have hc := Lib.hid (collect_any Bm b nn (dOf l) w hm hown (by omega))
  have hSH := Lib.hid hS
  have hszH := Lib.hid (show Maps.size (dOf l) ≤ 1000000 by omega)
  have hownH := Lib.hid hown
  clear hm hown hS hsz
  go_enter Tryd.func16, Tryd.ntmps16
  go_wp2_with fail
  (with_reducible refine hc.out.mono ?_)
  rintro e w1 ⟨ps, A, cap, h1, rfl, h2, h3⟩
  have hlen : (ps.map (·.2)).length = ps.length := List.length_map _
  have hpl : ps.length ≤ 1000000 := by
    have e1 : (ps.map (·.1)).length = ps.length := List.length_map _
    have e2 := hszH.out
    have e3 := allOf_size h1 hownH.out
    omega
  have hs := hSH.out w1 w.heap.size A cap (ps.map (·.2)) h2 h3.size (by omega)
  rw [hlen] at hs
  have hsH := Lib.hid hs
  have hF := Lib.hid (And.intro h1 h3)
  clear h1 h2 h3 hc hs hlen hpl
  go_wp2_with fail
  (with_reducible refine hsH.out.mono ?_)
  rintro e w2 ⟨d, rfl, hp, hd, hr, hb⟩
  have hlen : d.length = ps.length := by rw [hp.length_eq, List.length_map]
  have hG : SortedPost w l (.returned (.slice A ps.length cap)) w2 := by
    refine ⟨d, A, cap, LastL.of hF.out.1 hp (hd.imp (fun h => by omega)), by rw [hlen], hr, hF.out.2.trans hb⟩
  have hGH := Lib.hid hG
  clear hsH hp hd hr hb hG hF hlen
  go_wp2_with fail
  go_ret
  exact hGH.out
structure NtAt (W : World) (b : Nat) (x : Nt) : Prop where
  c0 : W.cell? ⟨b, 0, none⟩ = some (.int .i64 x.r)
  c1 : W.cell? ⟨b, 1, none⟩ = some (.int .i64 x.c)
  c2 : W.cell? ⟨b, 2, none⟩ = some (.string x.p)
theorem NtAt.new (W : World) (x : Nt) (t : TypeId) : NtAt (W.alloc (.cells #[.int .i64 x.r, .int .i64 x.c, .string x.p] t)) W.heap.size x := ⟨by go_simp, by go_simp, by go_simp⟩
set_option maxRecDepth 100000 in
set_option maxHeartbeats 4000000 in
theorem last_any14 (hS : SortsN) (w : World) (A : Option Addr) (cap : Nat) (l : List Nt) (hI : ntE.In w A l) (hl : l.length ≤ 900000) (hw : ∀ x ∈ l, WfI x.r) :
    Calls Tryd.prog 10 #[.slice A l.length cap] w (SortedPost w l) := by
  have hIH := Lib.hid (fun W (hb : Below w.heap.size w W) => hI.below hb)
  have hwH := Lib.hid hw
  have hSH := Lib.hid hS
  have hst := Lib.hid (show MapL (w.alloc (.map #[] 0)) w.heap.size 0 [] ∧ Below w.heap.size w (w.alloc (.map #[] 0)) from ⟨MapL.made w, (Below.refl _ _).alloc (Nat.le_refl _) _⟩)
  have hmm := @run_makeMap Tryd.prog
  have hva := Lib.hid values_any
  clear hI hw hS
  obtain ⟨n, hn⟩ : ∃ n, l.length = n := ⟨_, rfl⟩
  rw [hn] at hl ⊢
  have hnH := Lib.hid hn
  clear hn
  go_enter Tryd.func10, Tryd.ntmps10
  go_wp2_with fail
  clear hmm
  refine fresh_world (fun W => MapL W w.heap.size 0 [] ∧ Below w.heap.size w W) hst.out ?_
  clear hst
  rintro W0 ⟨h0, hb0⟩
  have h0H := Lib.hid h0
  have hb0H := Lib.hid hb0
  clear h0 hb0
  generalize hBM : w.heap.size = bm at h0H hb0H ⊢
  have hBMH := Lib.hid hBM
  clear hBM
  go_loopw [10] (fun i wr => ∃ (k : Nat), k ≤ n ∧ i = .int .i64 (k : Int) ∧ Hid (MapL wr bm k (l.take k)) ∧ Hid (Below bm w wr)) (fun i _ => n - (intOf i).toNat)
  case atStart => exact ⟨0, Nat.zero_le _, rfl, h0H, hb0H⟩
  case round =>
    clear h0H hb0H
    obtain ⟨k, hkn, rfl, hM, hB⟩ := hrel
    by_cases hlt : k < n
    case pos =>
      have hkl : k < l.length := by rw [hnH.out]; exact hlt
      have hlI : (k : Int) < (n : Int) := by omega
      obtain ⟨g, off, rfl, hgl, x0, x1, x2⟩ := nt_at (hIH.out wr (by rw [hBMH.out]; exact hB.out)) hkl
      have hkw : IntKind.i64.wrap ((k : Int) + 1) = (k : Int) + 1 := IntWalk.i64_in _ (by omega)
      have hwx := Lib.hid (hwH.out l[k] (List.getElem_mem hkl))
      have htk := Lib.hid (List.take_succ_eq_append_getElem hkl)
      generalize l[k] = x at x0 x1 x2 hwx htk
      generalize l.take k = lk at hM htk
      have hB0 : Hid ((MapL (wr.alloc (.cells #[.int .i64 x.r, .int .i64 x.c, .string x.p] 45)) bm k lk ∧ Below bm w (wr.alloc (.cells #[.int .i64 x.r, .int .i64 x.c, .string x.p] 45))) ∧ NtAt (wr.alloc (.cells #[.int .i64 x.r, .int .i64 x.c, .string x.p] 45)) wr.heap.size x) := Lib.hid ⟨⟨hM.out.below ((Below.refl _ _).alloc (Nat.le_refl _) _), hB.out.alloc (by have := hB.out.size; have := hBMH.out; omega) _⟩, NtAt.new wr x 45⟩
      clear hM hB
      go_upto_region 5 with fail
      clear x0 x1 x2 hgl
      generalize wr.heap.size = xb at hB0 ⊢
      refine fresh_world (fun W => (MapL W bm k lk ∧ Below bm w W) ∧ NtAt W xb x) hB0.out ?_
      clear hB0
      rintro W5 ⟨⟨h5, hb5⟩, ⟨x0, x1, x2⟩⟩
      obtain ⟨W6, hr6, hm6, hg6⟩ := h5.step (by unfold maxLen; omega) hwx.out
      rw [← htk.out] at hm6
      have hmH := Lib.hid hm6
      have hbH := Lib.hid (hb5.grown hg6 (by have := hb5.size; have := hBMH.out; omega) (fun k2 e => by injection e with e; omega))
      clear h5 hb5 hm6 hg6
      unfold ntV at hr6
      go_wp2_with fail
      first
        | exact ⟨⟨k + 1, hlt, by go_num, hmH, hbH⟩, by simp only [intOf]; omega⟩
        | (go_roundw
           case rel => exact ⟨k + 1, hlt, by go_num, hmH, hbH⟩
           case measure => simp only [intOf]; omega)
    case neg =>
      have hke : k = n := by omega
      have hnI : ¬ (k : Int) < (n : Int) := by omega
      have htake : l.take k = l := by rw [hke, ← hnH.out]; exact List.take_length
      have hM2 := hM.out
      rw [htake] at hM2
      have hMH := Lib.hid hM2
      have hb1 := Lib.hid ((Below.refl wr.heap.size wr).alloc (Nat.le_refl _) (.cells #[.map (some bm)] 52))
      have hsc := Lib.hid (sorted_any hSH.out wr.heap.size bm k l (wr.alloc (.cells #[.map (some bm)] 52)) (by go_simp) (hM2.below hb1.out) (by omega))
      clear hM hM2 htake hke
      go_wp2_with fail
      (with_reducible refine (hva.out _ _).mono ?_)
      rintro e w1 ⟨rfl, rfl⟩
      go_wp2_with fail
      (with_reducible refine hsc.out.mono ?_)
      rintro e w2 ⟨L, A2, cap2, hL, rfl, hr, hb⟩
      have hle : bm ≤ wr.heap.size := Nat.le_of_lt hMH.out.lt
      have hG : SortedPost w l (.returned (.slice A2 L.length cap2)) w2 := by
        rw [SortedPost, hBMH.out]
        rw [World.size_alloc] at hr hb
        have hb3 : Below bm wr w2 := (hb1.out.mono hle).trans (hb.mono (Nat.le_succ_of_le hle))
        have hbw : Below bm w wr := by
          have := hB.out
          exact this
        exact ⟨L, A2, cap2, hL, rfl, hr.mono (Nat.le_succ_of_le hle), hbw.trans hb3⟩
      have hGH := Lib.hid hG
      clear hL hr hb hG hMH hB hb1 hsc
      go_wp2_with fail
      go_ret
      exact hGH.out
end Go.Proofs.YtbgkmppngnedlabDoor
