/- Layer 8: what package belief's functions are to return, as one bundle: the laws are walked over it. The laws' inside. -/
import Derived.Test.YtpfcjffpomdhbaaDEl
import Derived.Test.YtpfcjffpomdhbaaRAdv
import Derived.Test.YtpfcjffpomdhbaaRMeet
import Derived.Test.YtpfcjffpomdhbaaRWrs
namespace Go.Proofs.Ytpfcjffpomdhbaa
open Go.RowKit Go
set_option linter.unusedVariables false
set_option linter.unusedSimpArgs false

theorem Three.other {w : World} {g : Nat} {t : TypeId} {u v x : Value} (h : Three w g t u v x) {p : Addr} (hne : g ≠ p.block) (z : Value) : Three (w.setCell p z) g t u v x := by
  have e := Below.heap_setCell w p z g hne
  unfold Three at h ⊢
  rw [e]; exact h

structure Blf : Prop where
  start : ∀ a : Int, I64 a → ∀ w, Calls Try.prog 12 #[.int .i64 a] w (Gives (.tuple #[blV (startR a).1 (startR a).2.1 (startR a).2.2.1, .int .i64 (startR a).2.2.2]) w)
  at_ : ∀ p l h r a : Int, I64 p → I64 l → I64 h → I64 r → I64 a → ∀ w, Calls Try.prog 14 #[blV p l h, .int .i64 r, .int .i64 a] w (Gives (.tuple #[rgV (atR p l h r a).1 (atR p l h r a).2.1, .int .i64 (atR p l h r a).2.2]) w)
  adv : ∀ p l h r a : Int, I64 p → I64 l → I64 h → I64 r → I64 a → ∀ w, Calls Try.prog 16 #[blV p l h, .int .i64 r, .int .i64 a] w
    (Gives (.tuple #[blV (advR p l h r a).1 (advR p l h r a).2.1 (advR p l h r a).2.2.1, .int .i64 (advR p l h r a).2.2.2]) w)
  meet : ∀ p l h i j : Int, I64 p → I64 l → I64 h → I64 i → I64 j → ∀ w, Calls Try.prog 18 #[blV p l h, rgV i j] w
    (Gives (.tuple #[blV (meetR p l h i j).1 (meetR p l h i j).2.1 (meetR p l h i j).2.2.1, .bool (meetR p l h i j).2.2.2.1, .int .i64 (meetR p l h i j).2.2.2.2]) w)
  wrs : ∀ l h s : Int, I64 l → I64 h → I64 s → ∀ w, Calls Try.prog 20 #[rgV l h, .int .i64 s] w (Gives (.tuple #[.int .i64 (wrsR l h s).1, .int .i64 (wrsR l h s).2]) w)

/-- A time of an interval. -/
def insR (l h n : Int) : Int := l + n % (h - l + 1)
theorem ins_in {l h n : Int} (hi : IvOk l h) : l ≤ insR l h n ∧ insR l h n ≤ h := by
  obtain ⟨h1, h2, h3⟩ := hi
  have a := Int.emod_nonneg n (show h - l + 1 ≠ 0 by omega)
  have b := Int.emod_lt_of_pos n (show 0 < h - l + 1 by omega)
  unfold insR
  omega
theorem ins_any (l h n : Int) (hi : IvOk l h) (h1 : 0 ≤ n) (h2 : n ≤ 18446744073709551615) (w : World) :
    Calls Try.prog 24 #[rgV l h, .int .u64 n] w (Gives (.int .i64 (insR l h n)) w) := by
  have IN := Lib.hid (ins_in (n := n) hi)
  obtain ⟨i1, i2, i3⟩ := hi
  unfold rgV
  obtain ⟨W, hW⟩ : ∃ W, w.alloc (.cells #[.int .i64 l, .int .i64 h] 23) = W := ⟨_, rfl⟩
  have T0 : Two W w.heap.size 23 (.int .i64 l) (.int .i64 h) := by rw [← hW]; exact Two.new w _ _ _
  have hb : Hid (Below w.heap.size w W) := by rw [← hW]; exact below_alloc w _
  have t0 := T0.c0
  have t1 := T0.c1
  have t4 := T0.lt
  clear T0
  obtain ⟨m, hm⟩ : ∃ m, h - l + 1 = m := ⟨_, rfl⟩
  have m1 : 1 ≤ m := by omega
  have m2 : m ≤ 3000000000000001 := by omega
  obtain ⟨k, hk⟩ : ∃ k, n % m = k := ⟨_, rfl⟩
  have k1 : 0 ≤ k := by rw [← hk]; exact Int.emod_nonneg n (by omega)
  have k2 : k < m := by rw [← hk]; exact Int.emod_lt_of_pos n (by omega)
  have e : insR l h n = l + k := by unfold insR; rw [hm, hk]
  rw [e]
  have m0 : (m == 0) = false := by simp; omega
  go_enter Try.func24, Try.ntmps24
  go_wp2_with fail
  go_quiet (fail)
  go_wp2_with fail
  go_ret
  exact ⟨rfl, below_draws hb.out _⟩
end Go.Proofs.Ytpfcjffpomdhbaa
