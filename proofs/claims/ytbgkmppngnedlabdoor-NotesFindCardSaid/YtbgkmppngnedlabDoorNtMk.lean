/- What Make of notes does, and that the laws of notes speak. -/
import Derived.Test.YtbgkmppngnedlabDoorNtO
import Derived.Test.YtbgkmppngnedlabDoorOEnc
namespace Go.Proofs.YtbgkmppngnedlabDoor
open Go.RowKit Rec Go.Maps Crc

def zR : Rc := ⟨0, 0, 0, 0, 0, 0, ⟨#[]⟩⟩
/-- The record of a note, as it is made. -/
def mkR (seq zone gen : Int) (n : Nt) : Rc := ⟨4, seq, zone, n.r, gen, n.c, n.p⟩
def mkV (x : Rc) : Rc × Int := if Rec.good x = true then (x, 0) else (zR, 1)
structure MkW (w W : World) (n : Nt) (x : Rc) : Prop where
  o : RcW W (w.heap.size + 1) zR
  x : RcW W (w.heap.size + 1 + 1) x
  bw : Below w.heap.size w W
theorem MkW.below {w W W' : World} {n : Nt} {x : Rc} (h : MkW w W n x) (hb : Below W.heap.size W W') : MkW w W' n x := ⟨h.o.below hb, h.x.below hb, bmore h.bw hb⟩
theorem MkW.new (w : World) (n : Nt) (x : Rc) : MkW w (((w.alloc (.cells #[.int .i64 n.r, .int .i64 n.c, .string n.p] 45)).alloc (.cells #[.int .i64 0, .int .i64 0, .int .i64 0, .int .i64 0, .int .i64 0, .int .i64 0, .string ⟨#[]⟩] 29)).alloc (.cells #[.int .i64 x.k, .int .i64 x.s, .int .i64 x.a, .int .i64 x.b, .int .i64 x.c, .int .i64 x.d, .string x.body] 29)) n x := by
  have s1 := World.size_alloc w (.cells #[.int .i64 n.r, .int .i64 n.c, .string n.p] 45)
  have b1 := (Below.refl w.heap.size w).alloc (Nat.le_refl _) (.cells #[.int .i64 n.r, .int .i64 n.c, .string n.p] 45)
  generalize w.alloc (.cells #[.int .i64 n.r, .int .i64 n.c, .string n.p] 45) = W1 at s1 b1 ⊢
  have k2 : RcW (W1.alloc (.cells #[.int .i64 0, .int .i64 0, .int .i64 0, .int .i64 0, .int .i64 0, .int .i64 0, .string ⟨#[]⟩] 29)) W1.heap.size zR := RcW.new W1 zR 29
  have s2 := World.size_alloc W1 (.cells #[.int .i64 0, .int .i64 0, .int .i64 0, .int .i64 0, .int .i64 0, .int .i64 0, .string ⟨#[]⟩] 29)
  have b2 := (Below.refl W1.heap.size W1).alloc (Nat.le_refl _) (.cells #[.int .i64 0, .int .i64 0, .int .i64 0, .int .i64 0, .int .i64 0, .int .i64 0, .string ⟨#[]⟩] 29)
  generalize W1.alloc (.cells #[.int .i64 0, .int .i64 0, .int .i64 0, .int .i64 0, .int .i64 0, .int .i64 0, .string ⟨#[]⟩] 29) = W2 at k2 s2 b2 ⊢
  have k3 := RcW.new W2 x 29
  have b3 := (Below.refl W2.heap.size W2).alloc (Nat.le_refl _) (.cells #[.int .i64 x.k, .int .i64 x.s, .int .i64 x.a, .int .i64 x.b, .int .i64 x.c, .int .i64 x.d, .string x.body] 29)
  rw [s1] at k2 s2
  rw [s2] at k3
  exact ⟨k2.below b3, k3, bmore (bmore b1 b2) b3⟩
theorem put_low {W : World} {B n : Nat} (x : Rc) (h : n ≤ B) : Below n W (((((((W.setCell ⟨B, 0, none⟩ (.int .i64 x.k)).setCell ⟨B, 1, none⟩ (.int .i64 x.s)).setCell ⟨B, 2, none⟩ (.int .i64 x.a)).setCell ⟨B, 3, none⟩ (.int .i64 x.b)).setCell ⟨B, 4, none⟩ (.int .i64 x.c)).setCell ⟨B, 5, none⟩ (.int .i64 x.d)).setCell ⟨B, 6, none⟩ (.string x.body)) := (((((((Below.refl n W).setCell h _).setCell h _).setCell h _).setCell h _).setCell h _).setCell h _).setCell h _
set_option maxRecDepth 100000 in
set_option maxHeartbeats 4000000 in
theorem make_any (w : World) (hT : Tab w) (seq zone gen : Int) (n : Nt) :
    Calls Tryd.prog 12 #[.int .i64 seq, .int .i64 zone, .int .i64 gen, .agg #[.int .i64 n.r, .int .i64 n.c, .string n.p]] w fun e w' => e = .returned (.tuple #[.agg #[.int .i64 (mkV (mkR seq zone gen n)).1.k, .int .i64 (mkV (mkR seq zone gen n)).1.s, .int .i64 (mkV (mkR seq zone gen n)).1.a, .int .i64 (mkV (mkR seq zone gen n)).1.b, .int .i64 (mkV (mkR seq zone gen n)).1.c, .int .i64 (mkV (mkR seq zone gen n)).1.d, .string (mkV (mkR seq zone gen n)).1.body], .int .i64 (mkV (mkR seq zone gen n)).2]) ∧ Below w.heap.size w w' := by
  have hst := Lib.hid (MkW.new w n (mkR seq zone gen n))
  have hTH := Lib.hid (fun W (hb : Below w.heap.size w W) => hT.below hb)
  obtain ⟨x, hx⟩ : ∃ x, mkR seq zone gen n = x := ⟨_, rfl⟩
  have q0 : x.k = 4 := by rw [← hx]; rfl
  have q1 : x.s = seq := by rw [← hx]; rfl
  have q2 : x.a = zone := by rw [← hx]; rfl
  have q3 : x.b = n.r := by rw [← hx]; rfl
  have q4 : x.c = gen := by rw [← hx]; rfl
  have q5 : x.d = n.c := by rw [← hx]; rfl
  have q6 : x.body = n.p := by rw [← hx]; rfl
  rw [hx] at hst ⊢
  clear hx hT
  rw [q0, q1, q2, q3, q4, q5, q6] at hst
  have hqH := Lib.hid (And.intro q0 (And.intro q1 (And.intro q2 (And.intro q3 (And.intro q4 (And.intro q5 q6))))))
  clear q0 q1 q2 q3 q4 q5 q6
  unfold mkV
  by_cases hg : Rec.Good x
  case pos =>
    rw [if_pos (Rec.good_iff.2 hg)]
    have henc := Lib.hid (fun W (hb : Below w.heap.size w W) => encode_good x W hg (hTH.out W hb))
    clear hg
    go_enter Tryd.func12, Tryd.ntmps12
    go_upto_region 2 with fail
    refine fresh_world (fun W => MkW w W n x) hst.out ?_
    clear hst
    rintro W2 h2
    have h2H := Lib.hid h2
    obtain ⟨x0, x1, x2, x3, x4, x5, x6⟩ := h2.x.at_
    have hec := Lib.hid (henc.out W2 h2.bw)
    clear h2 henc
    go_wp2_with fail
    (with_reducible refine hec.out.mono ?_)
    rintro e w3 ⟨rfl, hb3⟩
    have h3 := h2H.out.below hb3
    have hout := Lib.hid (And.intro (h3.o.all x) (h3.bw.trans (put_low x (Nat.le_succ _))))
    clear x0 x1 x2 x3 x4 x5 x6 hec h2H hb3
    obtain ⟨x0, x1, x2, x3, x4, x5, x6⟩ := h3.x.at_
    obtain ⟨⟨y0, y1, y2, y3, y4, y5, y6⟩, yf⟩ := h3.o
    dsimp only [zR] at y0 y1 y2 y3 y4 y5 y6
    clear h3
    go_wp2_with fail
    refine fresh_post (fun W => RcW W (w.heap.size + 1) x ∧ Below w.heap.size w W) hout.out ?_
    rintro W10 ⟨⟨⟨y0, y1, y2, y3, y4, y5, y6⟩, _⟩, hb10⟩
    refine bodyPost_ret (v := .tuple #[.agg #[.int .i64 x.k, .int .i64 x.s, .int .i64 x.a, .int .i64 x.b, .int .i64 x.c, .int .i64 x.d, .string x.body], .int .i64 0]) (by simp [results, Tryd.results12, go_sem, y0, y1, y2, y3, y4, y5, y6]) rfl ⟨rfl, hb10⟩
  case neg =>
    rw [if_neg (fun h => hg (Rec.good_iff.1 h))]
    have henc := Lib.hid (fun W => encode_bad x W hg)
    clear hg hTH
    go_enter Tryd.func12, Tryd.ntmps12
    go_upto_region 2 with fail
    refine fresh_world (fun W => MkW w W n x) hst.out ?_
    clear hst
    rintro W2 h2
    have h2H := Lib.hid h2
    obtain ⟨x0, x1, x2, x3, x4, x5, x6⟩ := h2.x.at_
    have hec := Lib.hid (henc.out W2)
    clear h2 henc
    go_wp2_with fail
    (with_reducible refine hec.out.mono ?_)
    rintro e w3 ⟨rfl, hb3⟩
    have h3 := h2H.out.below hb3
    have hout := Lib.hid (And.intro (h3.o.all zR) (h3.bw.trans (put_low zR (Nat.le_succ _))))
    clear x0 x1 x2 x3 x4 x5 x6 hec h2H hb3
    obtain ⟨⟨y0, y1, y2, y3, y4, y5, y6⟩, yf⟩ := h3.o
    dsimp only [zR] at y0 y1 y2 y3 y4 y5 y6
    clear h3
    go_wp2_with fail
    refine fresh_post (fun W => RcW W (w.heap.size + 1) zR ∧ Below w.heap.size w W) hout.out ?_
    rintro W10 ⟨⟨⟨y0, y1, y2, y3, y4, y5, y6⟩, _⟩, hb10⟩
    dsimp only [zR] at y0 y1 y2 y3 y4 y5 y6
    refine bodyPost_ret (v := .tuple #[.agg #[.int .i64 0, .int .i64 0, .int .i64 0, .int .i64 0, .int .i64 0, .int .i64 0, .string ⟨#[]⟩], .int .i64 1]) (by simp [results, Tryd.results12, go_sem, y0, y1, y2, y3, y4, y5, y6]) rfl ⟨rfl, hb10⟩
/-- So many noughts. -/
def zeroB (n : Nat) : ByteArray := ⟨(List.replicate n (0 : UInt8)).toArray⟩
theorem zeroB_size (n : Nat) : (zeroB n).size = n := by
  show (List.replicate n (0 : UInt8)).toArray.size = n
  simp
theorem zeros_at (W : World) (n : Nat) : BytesAt (W.alloc (.cells (madeCells #[.int .u8 0] n) 5)) W.heap.size (List.replicate n 0) := fun j hj => by
  have hj' : j < n := by simpa using hj
  rw [made_noughts W 5 _ n j hj', List.getElem_replicate]
  rfl
theorem zeros_text (W : World) (n : Nat) : (convert 43 9 (.slice (some ⟨W.heap.size, 0, none⟩) n n)).run Tryd.prog (W.alloc (.cells (madeCells #[.int .u8 0] n) 5)) = .ok (.string (zeroB n)) (W.alloc (.cells (madeCells #[.int .u8 0] n) 5)) :=
  back (zeros_at W n) (List.length_replicate ..) Tryd.underlying43 Tryd.underlying5 Tryd.underlying9
end Go.Proofs.YtbgkmppngnedlabDoor
