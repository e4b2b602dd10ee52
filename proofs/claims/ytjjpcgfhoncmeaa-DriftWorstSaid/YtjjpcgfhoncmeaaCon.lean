/- Layer 7: what package drift's functions are to return, as one bundle: the laws are walked over it. The laws' in, within and few. -/
import Derived.Test.YtjjpcgfhoncmeaaRSev2
namespace Go.Proofs.Ytjjpcgfhoncmeaa
open Go.RowKit Go
set_option linter.unusedVariables false
set_option linter.unusedSimpArgs false

/-- The slices of a table have room for what they hold. -/
def Tb.Room (T : Tb) : Prop :=
  (T.n0 ≤ T.c0 ∧ T.c0 ≤ 9223372036854775807 ∧ (T.A0 = none → T.c0 = 0)) ∧ (T.n1 ≤ T.c1 ∧ T.c1 ≤ 9223372036854775807 ∧ (T.A1 = none → T.c1 = 0)) ∧
    (T.n2 ≤ T.c2 ∧ T.c2 ≤ 9223372036854775807 ∧ (T.A2 = none → T.c2 = 0))

structure Dft : Prop where
  valid : ∀ (T : Tb) (q : Bool), (q = true ↔ T.Ok) → T.Room → ∀ w, T.At w → Calls Try.prog 13 #[T.val] w (Gives (.bool q) w)
  rate : ∀ (T : Tb) (x y : Int), T.Room → I64 x → I64 y → ∀ w, T.At w →
    Calls Try.prog 11 #[T.val, .int .i64 x, .int .i64 y] w (Gives (.tuple #[.int .i64 (rateR T x y).1, .int .i64 (rateR T x y).2]) w)
  worst : ∀ (T : Tb) (tl th al ah : Int), T.Room → I64 tl → I64 th → I64 al → I64 ah → ∀ w, T.At w →
    Calls Try.prog 15 #[T.val, rgV tl th, rgV al ah] w (Gives (.tuple #[.int .i64 (worstR T tl th al ah).1, .int .i64 (worstR T tl th al ah).2]) w)
  el : ∀ r c : Int, I64 r → I64 c → ∀ w, Calls Try.prog 17 #[.int .i64 r, .int .i64 c] w (Gives (.tuple #[rgV (elR r c).1 (elR r c).2.1, .int .i64 (elR r c).2.2]) w)
  co : ∀ r c : Int, I64 r → I64 c → ∀ w, Calls Try.prog 19 #[.int .i64 r, .int .i64 c] w (Gives (.tuple #[rgV (coR r c).1 (coR r c).2.1, .int .i64 (coR r c).2.2]) w)
  sev : ∀ (T : Tb) (A : Option Addr) (len cap : Nat) (l : List Sg), T.Room → len ≤ cap → cap ≤ 9223372036854775807 → (A = none → cap = 0) → ∀ w, T.At w → RowS w.heap.size w A len l →
    Calls Try.prog 21 #[T.val, .slice A len cap] w (Gives (.tuple #[rgV (sevR T l).1 (sevR T l).2.1, .int .i64 (sevR T l).2.2]) w)

/-- In a range; within another one. -/
def inR (n lo hi : Int) : Bool := decide (lo ≤ n) && decide (n ≤ hi)
theorem in_any (n lo hi : Int) (w : World) : Calls Try.prog 24 #[.int .i64 n, rgV lo hi] w (Gives (.bool (inR n lo hi)) w) := by
  unfold rgV
  obtain ⟨W, hW⟩ : ∃ W, w.alloc (.cells #[.int .i64 lo, .int .i64 hi] 27) = W := ⟨_, rfl⟩
  have T0 : Two W w.heap.size 27 (.int .i64 lo) (.int .i64 hi) := by rw [← hW]; exact Two.new w _ _ _
  have hb : Hid (Below w.heap.size w W) := by rw [← hW]; exact below_alloc w _
  have t0 := T0.c0
  have t1 := T0.c1
  have t4 := T0.lt
  clear T0
  go_enter Try.func24, Try.ntmps24
  by_cases h : lo ≤ n
  · go_wp2_with fail
    go_ret
    exact ⟨by simp [inR, h], hb.out⟩
  · go_wp2_with fail
    go_ret
    exact ⟨by simp [inR]; omega, hb.out⟩

def withinR (a b c d : Int) : Bool := decide (c ≤ a) && decide (b ≤ d)
theorem within_any (a b c d : Int) (w : World) : Calls Try.prog 25 #[rgV a b, rgV c d] w (Gives (.bool (withinR a b c d)) w) := by
  unfold rgV
  obtain ⟨W, hW⟩ : ∃ W, (w.alloc (.cells #[.int .i64 a, .int .i64 b] 27)).alloc (.cells #[.int .i64 c, .int .i64 d] 27) = W := ⟨_, rfl⟩
  have T0 : Two W w.heap.size 27 (.int .i64 a) (.int .i64 b) := by rw [← hW]; exact (Two.new w _ _ _).alloc _
  have T1 : Two W (w.heap.size + 1) 27 (.int .i64 c) (.int .i64 d) := by
    rw [← hW]
    have h := Two.new (w.alloc (.cells #[.int .i64 a, .int .i64 b] 27)) 27 (.int .i64 c) (.int .i64 d)
    rwa [show (w.alloc (.cells #[.int .i64 a, .int .i64 b] 27)).heap.size = w.heap.size + 1 by simp] at h
  have hb : Hid (Below w.heap.size w W) := by rw [← hW]; exact (below_alloc w _).alloc (by simp) _
  have t0 := T0.c0
  have t1 := T0.c1
  have t4 := T0.lt
  have u0 := T1.c0
  have u1 := T1.c1
  have u4 := T1.lt
  clear T0 T1
  go_enter Try.func25, Try.ntmps25
  by_cases h : c ≤ a
  · go_wp2_with fail
    go_ret
    exact ⟨by simp [withinR, h], hb.out⟩
  · go_wp2_with fail
    go_ret
    exact ⟨by simp [withinR]; omega, hb.out⟩

theorem wrap_in (x : Int) : -9223372036854775808 ≤ wrap64 x ∧ wrap64 x ≤ 9223372036854775807 := by unfold wrap64; omega

/-- It returns true or false. -/
def Either (w : World) (e : Ending) (w' : World) : Prop := (∃ q, e = .returned (.bool q)) ∧ Below w.heap.size w w'

set_option maxHeartbeats 1000000 in
theorem few_any (T : Tb) (w : World) (ht : T.At w) :
    Calls Try.prog 10 #[T.val] w (Either w) := by
  obtain ⟨A0, A1, A2, n0, c0, n1, c1, n2, c2, tm, ag, rt⟩ := T
  obtain ⟨r0, r1, r2, l0, l1, l2⟩ := ht
  unfold Tb.val
  dsimp only at r0 r1 r2 l0 l1 l2 ⊢
  obtain ⟨W, hW⟩ : ∃ W, w.alloc (.cells #[.slice A0 n0 c0, .slice A1 n1 c1, .slice A2 n2 c2] 25) = W := ⟨_, rfl⟩
  have HT : Hid (Three W w.heap.size 25 (.slice A0 n0 c0) (.slice A1 n1 c1) (.slice A2 n2 c2)) := by rw [← hW]; exact Three.new w _ _ _ _
  have BW : Hid (Below w.heap.size w W) := by rw [← hW]; exact below_alloc w _
  have HR := Lib.hid (r2.step BW.out)
  have t0 := HT.out.c0
  have t1 := HT.out.c1
  have t2 := HT.out.c2
  have t3 := HT.out.lt
  clear r0 r1 r2
  go_enter Try.func10, Try.ntmps10
  go_wp2_with fail
  have x0 := Lib.hid (wrap_in (wrap64 ((n0 : Int) + (n1 : Int)) + (n2 : Int)))
  go_loopw [3, 20] (fun s i wr => ∃ (k : Nat) (x : Int), s = .int .i64 x ∧ i = .int .i64 k ∧ k ≤ n2 ∧ Hid (I64 x) ∧ Hid (wr = W)) (fun _ i _ => n2 - (intOf i).toNat)
  case atStart => exact ⟨0, _, rfl, rfl, by omega, x0, rfl⟩
  case round =>
    obtain ⟨k, x, rfl, rfl, hk, hx, hw⟩ := hrel
    obtain rfl := hw.out
    by_cases h : k < n2
    · obtain ⟨p, a, m, c, rfl, hc, hm, _⟩ := HR.out.at_ k h
      have x1 := Lib.hid (wrap_in (x + (m : Int)))
      go_wp2_with fail
      go_roundw
      case rel => exact ⟨k + 1, _, rfl, by go_num, by omega, x1, trivial⟩
      case measure => simp [intOf]; omega
    · go_wp2_with fail
      go_ret
      exact ⟨⟨_, rfl⟩, BW.out⟩
end Go.Proofs.Ytjjpcgfhoncmeaa
