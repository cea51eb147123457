/- Records compared. -/
import Derived.Test.YtdjdldcpaidmnaaMBase
import Derived.Test.YtdjdldcpaidmnaaNRc
namespace Go.Proofs.Ytdjdldcpaidmnaa
open Go.RowKit Rec
def eqR (r r' : Rc) : Bool := r.k == r'.k && (r.s == r'.s && (r.a == r'.a && (r.b == r'.b && (r.c == r'.c && (r.d == r'.d && r.body.toList == r'.body.toList)))))
theorem eqR_iff {r r' : Rc} : eqR r r' = true ↔ r = r' := by
  constructor
  · intro h
    unfold eqR at h
    simp only [Bool.and_eq_true, beq_iff_eq, ByteArray.toList_eq] at h
    obtain ⟨h0, h1, h2, h3, h4, h5, h6⟩ := h
    cases r; cases r'
    simp only at h0 h1 h2 h3 h4 h5 h6
    rw [h0, h1, h2, h3, h4, h5, ByteArray.ext (Array.ext' h6)]
  · rintro rfl
    unfold eqR
    simp
theorem eqR_self (r : Rc) : eqR r r = true := eqR_iff.2 rfl
theorem rec_eql (w : World) (r r' : Rc) : (binOp .eql 62 (.agg #[.int .i64 r.k, .int .i64 r.s, .int .i64 r.a, .int .i64 r.b, .int .i64 r.c, .int .i64 r.d, .string r.body]) (.agg #[.int .i64 r'.k, .int .i64 r'.s, .int .i64 r'.a, .int .i64 r'.b, .int .i64 r'.c, .int .i64 r'.d, .string r'.body])).run Try.prog w = .ok (.bool (eqR r r')) w ∧ (binOp .neq 62 (.agg #[.int .i64 r.k, .int .i64 r.s, .int .i64 r.a, .int .i64 r.b, .int .i64 r.c, .int .i64 r.d, .string r.body]) (.agg #[.int .i64 r'.k, .int .i64 r'.s, .int .i64 r'.a, .int .i64 r'.b, .int .i64 r'.c, .int .i64 r'.d, .string r'.body])).run Try.prog w = .ok (.bool (!eqR r r')) w := by
  obtain ⟨f0, f1, f2, f3, f4, f5, f6, hl, h0, h1, h2, h3, h4, h5, h6⟩ := struct_seven (P := Try.prog) (t := 62) (k0 := (3, 0, true)) (k1 := (3, 1, true)) (k2 := (3, 2, true)) (k3 := (3, 3, true)) (k4 := (3, 4, true)) (k5 := (3, 5, true)) (k6 := (9, 6, true)) (by kernel_rfl)
  refine eql_of (by kernel_rfl) (by kernel_rfl) ?_
  rw [hl,
    eqF_cons h0 (a := .int .i64 r.k) (b := .int .i64 r'.k) (by kernel_rfl) (by kernel_rfl) (run_equalIn_int _ 9998 _ _ .i64 _ _ Try.underlying3),
    eqF_cons h1 (a := .int .i64 r.s) (b := .int .i64 r'.s) (by kernel_rfl) (by kernel_rfl) (run_equalIn_int _ 9998 _ _ .i64 _ _ Try.underlying3),
    eqF_cons h2 (a := .int .i64 r.a) (b := .int .i64 r'.a) (by kernel_rfl) (by kernel_rfl) (run_equalIn_int _ 9998 _ _ .i64 _ _ Try.underlying3),
    eqF_cons h3 (a := .int .i64 r.b) (b := .int .i64 r'.b) (by kernel_rfl) (by kernel_rfl) (run_equalIn_int _ 9998 _ _ .i64 _ _ Try.underlying3),
    eqF_cons h4 (a := .int .i64 r.c) (b := .int .i64 r'.c) (by kernel_rfl) (by kernel_rfl) (run_equalIn_int _ 9998 _ _ .i64 _ _ Try.underlying3),
    eqF_cons h5 (a := .int .i64 r.d) (b := .int .i64 r'.d) (by kernel_rfl) (by kernel_rfl) (run_equalIn_int _ 9998 _ _ .i64 _ _ Try.underlying3),
    eqF_cons h6 (a := .string r.body) (b := .string r'.body) (by kernel_rfl) (by kernel_rfl) (run_equalIn_string _ 9998 _ _ _ Try.underlying9), eqF_nil]
  unfold eqR
  cases h10 : (r.k == r'.k) <;> cases h11 : (r.s == r'.s) <;> cases h12 : (r.a == r'.a) <;> cases h13 : (r.b == r'.b) <;> cases h14 : (r.c == r'.c) <;> cases h15 : (r.d == r'.d) <;> (first | rfl | (cases h16 : (r.body.toList == r'.body.toList) <;> rfl))
end Go.Proofs.Ytdjdldcpaidmnaa
