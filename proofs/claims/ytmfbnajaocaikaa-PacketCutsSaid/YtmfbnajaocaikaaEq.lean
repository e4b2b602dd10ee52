/- Layer 11: requests and replies compared (gen/gen_eq.py writes this). -/
import Derived.Laws.StructEq
import Derived.Test.YtmfbnajaocaikaaHead
namespace Go.Proofs.Ytmfbnajaocaikaa
open Go.RowKit Go.Sort Go
set_option linter.unusedVariables false
set_option linter.unusedSimpArgs false
set_option maxHeartbeats 4000000

theorem equal_rqV (x y : Rq) (w : World) : (Op.equalIn 10000 24 (rqV x) (rqV y)).run Try.prog w = .ok (decide (x = y)) w := by
  obtain ⟨h, a, r, n⟩ := x
  obtain ⟨h', a', r', n'⟩ := y
  unfold rqV
  dsimp only
  rw [show (10000 : Nat) = 9999 + 1 from rfl, run_equalIn_struct w 9999 24 _ _ (by kernel_rfl) (by kernel_rfl)]
  have e : decide ((⟨h, a, r, n⟩ : Rq) = ⟨h', a', r', n'⟩) = ((h == h') && ((a == a') && ((r == r') && (n == n')))) := by
    rw [Bool.eq_iff_iff]; simp
  rw [e]
  by_cases h0 : h = h'
  rotate_left
  · simp [go_sem, h0]
  by_cases h1 : a = a'
  rotate_left
  · simp [go_sem, h0, h1]
  by_cases h2 : r = r'
  rotate_left
  · simp [go_sem, h0, h1, h2]
  by_cases h3 : n = n'
  rotate_left
  · simp [go_sem, h0, h1, h2, h3]
  simp [go_sem, h0, h1, h2, h3]
theorem eql_rqV (x y : Rq) (w : World) : (binOp .eql 24 (rqV x) (rqV y)).run Try.prog w = .ok (.bool (decide (x = y))) w := by
  have h := equal_rqV x y w
  unfold rqV at h ⊢
  rw [run_eql_struct, h]; rfl
theorem equal_rpV (x y : Rp) (w : World) : (Op.equalIn 10000 30 (rpV x) (rpV y)).run Try.prog w = .ok (decide (x = y)) w := by
  obtain ⟨a, h, r, n, l, u, k, t, c, s⟩ := x
  obtain ⟨a', h', r', n', l', u', k', t', c', s'⟩ := y
  unfold rpV
  dsimp only
  have N4 : (Op.equalIn 9999 26 (.agg #[.int .i64 l, .int .i64 u]) (.agg #[.int .i64 l', .int .i64 u'])).run Try.prog w = .ok (((l == l') && (u == u'))) w := by
    rw [show (9999 : Nat) = 9998 + 1 from rfl, run_equalIn_struct w 9998 26 _ _ (by kernel_rfl) (by kernel_rfl)]
    by_cases q0 : l = l'
    · by_cases q1 : u = u'
      · simp [go_sem, q0, q1]
      · simp [go_sem, q0, q1]
    · simp [go_sem, q0]
  have N7 : (Op.equalIn 9999 28 (.agg #[.int .i64 c, .int .i64 s]) (.agg #[.int .i64 c', .int .i64 s'])).run Try.prog w = .ok (((c == c') && (s == s'))) w := by
    rw [show (9999 : Nat) = 9998 + 1 from rfl, run_equalIn_struct w 9998 28 _ _ (by kernel_rfl) (by kernel_rfl)]
    by_cases q0 : c = c'
    · by_cases q1 : s = s'
      · simp [go_sem, q0, q1]
      · simp [go_sem, q0, q1]
    · simp [go_sem, q0]
  rw [show (10000 : Nat) = 9999 + 1 from rfl, run_equalIn_struct w 9999 30 _ _ (by kernel_rfl) (by kernel_rfl)]
  have e : decide ((⟨a, h, r, n, l, u, k, t, c, s⟩ : Rp) = ⟨a', h', r', n', l', u', k', t', c', s'⟩) = ((a == a') && ((h == h') && ((r == r') && ((n == n') && (((l == l') && (u == u')) && ((k == k') && ((t == t') && ((c == c') && (s == s'))))))))) := by
    rw [Bool.eq_iff_iff]; simp [and_assoc]
  rw [e]
  by_cases h0 : a = a'
  rotate_left
  · simp [go_sem, h0, N4, N7]
  by_cases h1 : h = h'
  rotate_left
  · simp [go_sem, h0, h1, N4, N7]
  by_cases h2 : r = r'
  rotate_left
  · simp [go_sem, h0, h1, h2, N4, N7]
  by_cases h3 : n = n'
  rotate_left
  · simp [go_sem, h0, h1, h2, h3, N4, N7]
  by_cases h4 : l = l'
  rotate_left
  · simp [go_sem, h0, h1, h2, h3, h4, N4, N7]
  by_cases h5 : u = u'
  rotate_left
  · simp [go_sem, h0, h1, h2, h3, h4, h5, N4, N7]
  by_cases h6 : k = k'
  rotate_left
  · simp [go_sem, h0, h1, h2, h3, h4, h5, h6, N4, N7]
  by_cases h7 : t = t'
  rotate_left
  · simp [go_sem, h0, h1, h2, h3, h4, h5, h6, h7, N4, N7]
  by_cases h8 : c = c'
  rotate_left
  · simp [go_sem, h0, h1, h2, h3, h4, h5, h6, h7, h8, N4, N7]
  by_cases h9 : s = s'
  rotate_left
  · simp [go_sem, h0, h1, h2, h3, h4, h5, h6, h7, h8, h9, N4, N7]
  simp [go_sem, h0, h1, h2, h3, h4, h5, h6, h7, h8, h9, N4, N7]
theorem eql_rpV (x y : Rp) (w : World) : (binOp .eql 30 (rpV x) (rpV y)).run Try.prog w = .ok (.bool (decide (x = y))) w := by
  have h := equal_rpV x y w
  unfold rpV at h ⊢
  rw [run_eql_struct, h]; rfl
end Go.Proofs.Ytmfbnajaocaikaa
