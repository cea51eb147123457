/- What New, Clone and Lost do. -/
import Derived.Test.YtlignckncgceaaaZonSeven
import Derived.Test.YtlignckncgceaaaMake
import Derived.Test.YtlignckncgceaaaAppRun
import Derived.Laws.OwnMore
import Derived.OwnWalk
namespace Go.Proofs.Ytlignckncgceaaa
open Go.RowKit Zon

theorem infoZ : (Try.prog.info? 47).map (fun i => (i.zero, i.size, i.bytes)) = some (some (.agg #[.int .i64 0, .int .i64 0]), 2, 16) := by kernel_rfl

theorem new_bad (z b o a : Int) (w : World) (h : newOk z b o a = false) :
    Calls Try.prog 10 #[.int .i64 z, .int .i64 b, .int .i64 o, .int .i64 a] w fun e w' => e = .returned (.tuple #[.pointer none, .int .i64 1]) ∧ w = w' := by
  have h' : ¬ (1 ≤ z ∧ z ≤ 64 ∧ 1 ≤ b ∧ b ≤ 4096 ∧ 1 ≤ o ∧ o ≤ a ∧ a ≤ z) := of_decide_eq_false h
  clear h
  by_cases h1 : z < 1
  · clear h'
    go_enter Try.func10, Try.ntmps10
    go_wp2
    go_ret2
    exact ⟨rfl, rfl⟩
  by_cases h2 : 64 < z
  · clear h'
    go_enter Try.func10, Try.ntmps10
    go_wp2
    go_ret2
    exact ⟨rfl, rfl⟩
  by_cases h3 : b < 1
  · clear h'
    go_enter Try.func10, Try.ntmps10
    go_wp2
    go_ret2
    exact ⟨rfl, rfl⟩
  by_cases h4 : 4096 < b
  · clear h'
    go_enter Try.func10, Try.ntmps10
    go_wp2
    go_ret2
    exact ⟨rfl, rfl⟩
  by_cases h5 : o < 1
  · clear h'
    go_enter Try.func10, Try.ntmps10
    go_wp2
    go_ret2
    exact ⟨rfl, rfl⟩
  by_cases h6 : a < o
  · clear h'
    go_enter Try.func10, Try.ntmps10
    go_wp2
    go_ret2
    exact ⟨rfl, rfl⟩
  · have h7 : z < a := by omega
    clear h'
    go_enter Try.func10, Try.ntmps10
    go_wp2
    go_ret2
    exact ⟨rfl, rfl⟩

theorem rnew_bad (z b o a : Int) (w : World) (h : newOk z b o a = false) :
    Calls Try.prog 11 #[.int .i64 z, .int .i64 b, .int .i64 o, .int .i64 a] w fun e w' => e = .returned (.pointer none) ∧ w = w' := by
  have h' : ¬ (1 ≤ z ∧ z ≤ 64 ∧ 1 ≤ b ∧ b ≤ 4096 ∧ 1 ≤ o ∧ o ≤ a ∧ a ≤ z) := of_decide_eq_false h
  clear h
  by_cases h1 : z < 1
  · clear h'
    go_enter Try.func11, Try.ntmps11
    go_wp2
    go_ret
    exact ⟨rfl, rfl⟩
  by_cases h2 : 64 < z
  · clear h'
    go_enter Try.func11, Try.ntmps11
    go_wp2
    go_ret
    exact ⟨rfl, rfl⟩
  by_cases h3 : b < 1
  · clear h'
    go_enter Try.func11, Try.ntmps11
    go_wp2
    go_ret
    exact ⟨rfl, rfl⟩
  by_cases h4 : 4096 < b
  · clear h'
    go_enter Try.func11, Try.ntmps11
    go_wp2
    go_ret
    exact ⟨rfl, rfl⟩
  by_cases h5 : o < 1
  · clear h'
    go_enter Try.func11, Try.ntmps11
    go_wp2
    go_ret
    exact ⟨rfl, rfl⟩
  by_cases h6 : a < o
  · clear h'
    go_enter Try.func11, Try.ntmps11
    go_wp2
    go_ret
    exact ⟨rfl, rfl⟩
  · have h7 : z < a := by omega
    clear h'
    go_enter Try.func11, Try.ntmps11
    go_wp2
    go_ret
    exact ⟨rfl, rfl⟩

/-- A machine in new memory: its blocks are those of the call. -/
def MNew (w w' : World) (g z : Nat) (m : Mc) : Prop := MAt w' g z m ∧ w.heap.size ≤ z ∧ w.heap.size ≤ g ∧ Below w.heap.size w w'

theorem made_two (v : Value) (n j : Nat) (hj : j < n * 2) : (madeCells #[v, v] (n * 2))[j]? = some v := by
  unfold madeCells
  rw [Array.getElem?_map, Array.getElem?_range, if_pos hj]
  simp only [Option.map_some]
  congr 1
  have : j % 2 = 0 ∨ j % 2 = 1 := by omega
  rcases this with h | h <;> simp [h]
theorem made_zones (w : World) (n : Nat) (t : TypeId) : ZAt (w.alloc (.cells (madeCells #[.int .i64 0, .int .i64 0] (n * 2)) t)) w.heap.size (List.replicate n ⟨0, 0⟩) := fun i hi => by
  have hi' : i < n := by simpa using hi
  rw [World.cell?_alloc_new, World.cell?_alloc_new, made_two _ _ _ (by omega), made_two _ _ _ (by omega), List.getElem_replicate]
  have hf := fun j => World.frozen?_alloc_mark w (madeCells #[.int .i64 0, .int .i64 0] (n * 2)) t 0 0 j
  refine ⟨rfl, rfl, (hf _).trans (by simp), (hf _).trans (by simp)⟩

theorem mnew_made (w : World) (n : Nat) (b o a : Int) (t t' : TypeId) :
    MNew w ((w.alloc (.cells (madeCells #[.int .i64 0, .int .i64 0] (n * 2)) t)).alloc (.cells #[.slice (some ⟨w.heap.size, 0, none⟩) n n, .int .i64 b, .int .i64 o, .int .i64 a] t')) (w.heap.size + 1) w.heap.size (newM n b o a) := by
  have hz := made_zones w n t
  have hg := World.grownBy_alloc (w.alloc (.cells (madeCells #[.int .i64 0, .int .i64 0] (n * 2)) t)) (.cells #[.slice (some ⟨w.heap.size, 0, none⟩) n n, .int .i64 b, .int .i64 o, .int .i64 a] t') none
  refine ⟨⟨⟨n, ?_⟩, ?_, ?_, ?_, by omega, by simp; omega, ?_⟩, Nat.le_refl _, by omega, ((Below.refl _ _).alloc (Nat.le_refl _) _).alloc (by simp) _⟩
  · show _ = some (Value.slice _ (List.replicate _ _).length n)
    rw [List.length_replicate, Int.toNat_natCast]
    go_simp
  · show _ = some (Value.int .i64 b); go_simp
  · show _ = some (Value.int .i64 o); go_simp
  · show _ = some (Value.int .i64 a); go_simp
  · show ZAt _ _ (List.replicate (n : Int).toNat _)
    rw [Int.toNat_natCast]
    exact hz.kept (by simp) hg (by simp)
/-- What New answers where it may be. -/
def NewPost (w : World) (k : IntKind) (z b o a : Int) (e : Ending) (w' : World) : Prop := ∃ g y, e = .returned (.tuple #[.pointer (some ⟨g, 0, none⟩), .int k 0]) ∧ MNew w w' g y (newM z b o a)
def NewPost1 (w : World) (z b o a : Int) (e : Ending) (w' : World) : Prop := ∃ g y, e = .returned (.pointer (some ⟨g, 0, none⟩)) ∧ MNew w w' g y (newM z b o a)

theorem new_good (z b o a : Int) (w : World) (h : newOk z b o a = true) :
    Calls Try.prog 10 #[.int .i64 z, .int .i64 b, .int .i64 o, .int .i64 a] w (NewPost w .i64 z b o a) := by
  obtain ⟨h1, h2, h3, h4, h5, h6, h7⟩ := Zon.newOk_iff.1 h
  obtain ⟨n, rfl⟩ := Int.eq_ofNat_of_zero_le (show 0 ≤ z by omega)
  obtain ⟨i0, hi, hz0, hz1, hz2⟩ := info_parts infoZ
  have hmk := fun W => run_make_m (P := Try.prog) 56 47 i0 (.agg #[.int .i64 0, .int .i64 0]) Try.underlying56 hi hz0 .i64 .i64 n n (Nat.le_refl _) (by rw [hz2]; omega) (by omega) W
  rw [hz1] at hmk
  clear hi hz0 hz1 hz2 h
  go_enter Try.func10, Try.ntmps10
  go_wp2
  go_ret2
  exact ⟨_, _, rfl, mnew_made w n b o a _ _⟩

theorem infoRZ : (Try.prog.info? 68).map (fun i => (i.zero, i.size, i.bytes)) = some (some (.agg #[.int .i64 0, .int .i64 0]), 2, 16) := by kernel_rfl
theorem rnew_good (z b o a : Int) (w : World) (h : newOk z b o a = true) :
    Calls Try.prog 11 #[.int .i64 z, .int .i64 b, .int .i64 o, .int .i64 a] w (NewPost1 w z b o a) := by
  obtain ⟨h1, h2, h3, h4, h5, h6, h7⟩ := Zon.newOk_iff.1 h
  obtain ⟨n, rfl⟩ := Int.eq_ofNat_of_zero_le (show 0 ≤ z by omega)
  obtain ⟨i0, hi, hz0, hz1, hz2⟩ := info_parts infoRZ
  have hmk := fun W => run_make_m (P := Try.prog) 59 68 i0 (.agg #[.int .i64 0, .int .i64 0]) Try.underlying59 hi hz0 .i64 .i64 n n (Nat.le_refl _) (by rw [hz2]; omega) (by omega) W
  rw [hz1] at hmk
  clear hi hz0 hz1 hz2 h
  go_enter Try.func11, Try.ntmps11
  go_wp2
  go_ret
  exact ⟨_, _, rfl, mnew_made w n b o a _ _⟩

/-- What Clone answers. -/
def ClonePost (w : World) (m : Mc) (e : Ending) (w' : World) : Prop := ∃ g y, e = .returned (.pointer (some ⟨g, 0, none⟩)) ∧ MNew w w' g y m
/-- The cells of zones, one behind the other. -/
def zCells : List Zn → List Value
  | [] => []
  | z :: zs => .int .i64 z.s :: .int .i64 z.l :: zCells zs
theorem zCells_len (zs : List Zn) : (zCells zs).length = zs.length * 2 := by
  induction zs with
  | nil => rfl
  | cons z zs ih => simp [zCells, ih]; omega
theorem zCells_get (zs : List Zn) : ∀ i (h : i < zs.length), (zCells zs)[i * 2]? = some (.int .i64 zs[i].s) ∧ (zCells zs)[i * 2 + 1]? = some (.int .i64 zs[i].l) := by
  induction zs with
  | nil => intro i h; simp at h
  | cons z zs ih =>
    intro i h
    cases i with
    | zero => exact ⟨rfl, rfl⟩
    | succ i =>
      have := ih i (by simpa using h)
      rw [show (i + 1) * 2 = i * 2 + 2 by omega]
      exact this
theorem zCells_one (zs : List Zn) : ∀ u ∈ zCells zs, u.oneCell' = true := by
  induction zs with
  | nil => intro u h; cases h
  | cons z zs ih =>
    intro u h
    simp only [zCells, List.mem_cons] at h
    rcases h with rfl | rfl | h
    · rfl
    · rfl
    · exact ih u h
theorem ZAt.flat {w : World} {z : Nat} {zs : List Zn} (h : ZAt w z zs) : ∀ j u, (zCells zs)[j]? = some u → w.cell? ((⟨z, 0, none⟩ : Addr).add j) = some u := fun j u hu => by
  have hj : j < zs.length * 2 := by rw [← zCells_len]; exact (List.getElem?_eq_some_iff.1 hu).1
  rw [Go.WideShapes.add_plain, Nat.zero_add]
  have hi : j / 2 < zs.length := by omega
  obtain ⟨h1, h2, _, _⟩ := h _ hi
  obtain ⟨g1, g2⟩ := zCells_get zs _ hi
  rcases (by omega : j = j / 2 * 2 ∨ j = j / 2 * 2 + 1) with e | e
  · rw [e, h1]; rw [e, g1] at hu; exact hu
  · rw [e, h2]; rw [e, g2] at hu; exact hu

/-- What slices.Clone answers. -/
def RowPost (w : World) (zs : List Zn) (e : Ending) (w' : World) : Prop := ∃ y cap, e = .returned (.slice (some ⟨y, 0, none⟩) zs.length cap) ∧ ZAt w' y zs ∧ w.heap.size ≤ y ∧ y < w'.heap.size ∧ Below w.heap.size w w'
theorem rowclone_any (z : Nat) (zs : List Zn) (cap : Nat) (w : World) (hz : ZAt w z zs) (h1 : 1 ≤ zs.length) (h2 : zs.length ≤ 64) :
    Calls Try.prog 20 #[.slice (some ⟨z, 0, none⟩) zs.length cap] w (RowPost w zs) := by
  obtain ⟨i0, hi, hz0, hz1, hz2⟩ := info_parts infoZ
  have hlt : z < w.heap.size := lt_of_cell (hz 0 (by omega)).1
  have hnew : (w.alloc (.cells #[] 47)).ownsRow w.heap.size 47 2 (.slice (some ⟨w.heap.size, 0, none⟩) 0 0) 0 [] := World.ownsRow_made w #[] 0 (Nat.le_refl _) (by unfold maxLen; omega) rfl
  have hz' := hz.kept hlt (World.grownBy_alloc w (.cells #[] 47) none) (by simp)
  obtain ⟨v', w', r1, r2, r3, r4, r5⟩ := run_append_own_at (P := Try.prog) (w.alloc (.cells #[] 47)) w.heap.size 56 56 47 i0 (.agg #[.int .i64 0, .int .i64 0]) 2 16 Try.underlying56 hi hz0 hz1 hz2 rfl (by decide) _ _ _ hnew ⟨z, 0, none⟩ zs.length cap (zCells zs) (zCells_len zs) hz'.flat (zCells_one zs) (by unfold maxLen; omega) (by omega) (by simp)
  have hb : Below w.heap.size w w' := ((Below.refl _ _).alloc (Nat.le_refl _) _).grown r3 (by simp) (fun k hk => by simp [Value.ownBlock] at hk; omega)
  have hfin : RowPost w zs (.returned v') w' := by
    rw [Nat.zero_add, List.nil_append] at r2
    rcases r2.2 with ⟨_, h0⟩ | ⟨g, cap', cur, rfl, hg, hgg, _⟩
    · omega
    · refine ⟨g, cap', rfl, fun i hi => ?_, hg, (Array.getElem?_eq_some_iff.1 hgg).1, hb⟩
      obtain ⟨g1, g2⟩ := zCells_get zs i hi
      rw [r2.cellAt _ (by omega), r2.cellAt _ (by omega)]
      exact ⟨g1, g2, r2.frozenAt _, r2.frozenAt _⟩
  have hfinH := Lib.hid hfin
  have r1H := Lib.hid r1
  have hnil := fun W => Lib.run_eql_slice_nil (P := Try.prog) W 56 47 (some ⟨z, 0, none⟩) zs.length cap 0 0 Try.underlying56
  clear hfin hnew hz' hz r1 r2 r3 r4 r5 hb hi hz0 hz1 hz2
  go_enter Try.func20, Try.ntmps20
  go_wp2_with (at_builtin; refine append_run_wp rfl _ _ _ rfl rfl rfl r1H.out ?_)
  go_ret
  exact hfinH.out

theorem clone_any (g z : Nat) (m : Mc) (w : World) (hM : MAt w g z m) (h1 : 1 ≤ m.zs.length) (h2 : m.zs.length ≤ 64) :
    Calls Try.prog 12 #[.pointer (some ⟨g, 0, none⟩)] w (ClonePost w m) := by
  obtain ⟨⟨cap, c0⟩, c1, c2, c3, hne, hzl, hza⟩ := hM
  have hrc := Lib.hid (fun W (hb : Below w.heap.size w W) => rowclone_any z m.zs cap W (hza.kept hzl (grown_of_below hb none) (by simp)) h1 h2)
  clear hza
  have hgl := lt_of_cell c0
  go_enter Try.func12, Try.ntmps12
  go_wp2_with (go_at_call 20; refine (hrc.out _ ((Below.refl _ _).alloc (Nat.le_refl _) _)).mono ?_; rintro e w1 ⟨y, cap2, rfl, hy, hy1, hy2, hb⟩; obtain ⟨hc, hf⟩ := bcell hb)
  go_ret
  have hs := hb.size
  have c0' := (hc w.heap.size 0 (by simp)).trans (show _ = some (Value.slice (some ⟨z, 0, none⟩) m.zs.length cap) by go_simp)
  have c1' := (hc w.heap.size 1 (by simp)).trans (show _ = some (Value.int .i64 m.b) by go_simp)
  have c2' := (hc w.heap.size 2 (by simp)).trans (show _ = some (Value.int .i64 m.o) by go_simp)
  have c3' := (hc w.heap.size 3 (by simp)).trans (show _ = some (Value.int .i64 m.a) by go_simp)
  simp at hs hy1
  have hgr := grownBy_set w1 ⟨w.heap.size, 0, none⟩ (.slice (some ⟨y, 0, none⟩) m.zs.length cap2)
  refine ⟨w.heap.size, y, rfl, ⟨⟨cap2, World.cell?_setCell_same' _ _ _ (by rw [c0']; rfl)⟩, ?_, ?_, ?_, by omega, by simpa [World.setCell] using hy2, hy.kept hy2 hgr (by simp; omega)⟩, by omega, Nat.le_refl _, ?_⟩
  · rw [World.cell?_setCell_other _ _ _ _ (by intro e; injection e with _ e; omega)]; exact c1'
  · rw [World.cell?_setCell_other _ _ _ _ (by intro e; injection e with _ e; omega)]; exact c2'
  · rw [World.cell?_setCell_other _ _ _ _ (by intro e; injection e with _ e; omega)]; exact c3'
  · exact bput (((Below.refl _ _).alloc (Nat.le_refl _) _).trans (hb.mono (by simp))) (Nat.le_refl _)
end Go.Proofs.Ytlignckncgceaaa
