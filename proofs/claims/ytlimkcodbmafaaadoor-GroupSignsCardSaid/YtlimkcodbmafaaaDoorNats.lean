/- Layer 6: the contracts in the form that the laws' walks take. -/
import Derived.Test.YtlimkcodbmafaaaDoorHead2
namespace Go.Proofs.YtlimkcodbmafaaaDoor
open Go.RowKit Go.Sort Go
set_option linter.unusedVariables false

theorem u64_wf {x : Int} (h : (Lit.int .u64 x).wf = true) : 0 ≤ x ∧ x ≤ 18446744073709551615 := by
  have e1 : IntKind.u64.min = 0 := by decide
  have e2 : IntKind.u64.max = 18446744073709551615 := by decide
  simp [Lit.wf, e1, e2] at h; omega
theorem i64_wf {x : Int} (h : (Lit.int .i64 x).wf = true) : -9223372036854775808 ≤ x ∧ x ≤ 9223372036854775807 := by
  have e1 : IntKind.i64.min = -9223372036854775808 := by decide
  have e2 : IntKind.i64.max = 9223372036854775807 := by decide
  simp [Lit.wf, e1, e2] at h; omega

theorem i64_of_lt {n : Nat} (h : n < 2147483579) : I64 (n : Int) := ⟨by omega, by omega⟩
theorem mul_c (G : Grp) (a b r : Nat) (ha : El a) (hb : El b) (hr : a * b % 2147483579 = r) (w0 w : World) (o : Ok w0 w) :
    Calls Tryd.prog 11 #[.int .i64 a, .int .i64 b] w (Fine (.tuple #[.int .i64 r, .int .i64 0]) w0) := by
  have h := G.mul a b (i64_of_lt ha.2.1) (i64_of_lt hb.2.1) w
  rw [mulR_el ha hb, hr] at h
  exact fine_of h o
theorem exp_c (G : Grp) (a x r : Nat) (ha : El a) (hx : x < 1073741789) (hr : pw 2147483579 a x = r) (w0 w : World) (o : Ok w0 w) :
    Calls Tryd.prog 15 #[.int .i64 a, .int .i64 x] w (Fine (.tuple #[.int .i64 r, .int .i64 0]) w0) := by
  have h := G.exp a x (i64_of_lt ha.2.1) (i64_of_lt (by omega)) w
  rw [expR_el ha x hx, hr] at h
  exact fine_of h o
theorem mem_c (G : Grp) (a : Nat) (ha : El a) (w0 w : World) (o : Ok w0 w) :
    Calls Tryd.prog 13 #[.int .i64 a] w (Fine (.bool true) w0) :=
  fine_of (G.mem a true (by simp [elI_nat ha]) (i64_of_lt ha.2.1) w) o
theorem element_c (n : Int) (hn : 0 ≤ n ∧ n ≤ 18446744073709551615) (a : Nat) (ha : pw 2147483579 4 (n % 1073741789).toNat = a) (w0 w : World) (o : Ok w0 w) :
    Calls Tryd.prog 21 #[.int .u64 n] w (Fine (.int .i64 a) w0) := by
  have h := relement_any n hn.1 hn.2 w
  rw [ha] at h
  exact fine_same h o
theorem secret_c (n : Int) (hn : 0 ≤ n ∧ n ≤ 18446744073709551615) (k : Nat) (hk : 1 + n % 1073741788 = (k : Int)) (w0 w : World) (o : Ok w0 w) :
    Calls Tryd.prog 22 #[.int .u64 n] w (Fine (.int .i64 k) w0) := by
  have h := rsecret_any n hn.1 hn.2 w
  rw [hk] at h
  exact fine_same h o
theorem public_c (k p : Nat) (hk : k < 1073741789) (hp : pw 2147483579 4 k = p) (w0 w : World) (o : Ok w0 w) :
    Calls Tryd.prog 23 #[.int .i64 k] w (Fine (.int .i64 p) w0) := by
  have h := rpublic_any k hk w
  rw [hp] at h
  exact fine_same h o
/-- Sign, of two secrets; Verify, of an element and exponents; Challenge: for a message that was there at the entry. -/
theorem sign_c (G : Grp) (k o c s : Nat) (hk : 1 ≤ k ∧ k < 1073741789) (ho : 1 ≤ o ∧ o < 1073741789) (A : Option Addr) (m cap : Nat) (zs : List Int) (hc : sigC k o zs = c) (hs : sigS k o zs = s) (w0 : World) (hr : RowI w0.heap.size w0 A m zs) (hm : m ≤ 100) (hn : A = none → cap = 0) (w : World) (oo : Ok w0 w) :
    Calls Tryd.prog 17 #[.int .i64 k, .int .i64 o, .slice A m cap] w (Gives (.tuple #[.agg #[.int .i64 c, .int .i64 s], .int .i64 0]) w) := by
  have h := G.sign k o (i64_of_lt (by omega)) (i64_of_lt (by omega)) A m cap zs w (hr.step oo.1) hm hn oo.2
  rw [signR_yes ⟨by omega, by omega⟩ ⟨by omega, by omega⟩, hc, hs] at h
  exact h
theorem ver_c (G : Grp) (p c s : Nat) (hp : El p) (hc : c < 1073741789) (hs : s < 1073741789) (A : Option Addr) (m cap : Nat) (zs : List Int) (q : Bool) (hq : rightB p c s zs = q) (w0 : World) (hr : RowI w0.heap.size w0 A m zs) (hm : m ≤ 100) (hn : A = none → cap = 0) (w : World) (o : Ok w0 w) :
    Calls Tryd.prog 19 #[.int .i64 p, .agg #[.int .i64 c, .int .i64 s], .slice A m cap] w (Gives (.tuple #[.bool q, .int .i64 0]) w) := by
  have h := G.ver p c s (i64_of_lt hp.2.1) (i64_of_lt (by omega)) (i64_of_lt (by omega)) A m cap zs w (hr.step o.1) hm hn o.2
  rw [verR_yes hp hc hs, hq] at h
  exact h
theorem chal_c (a b x : Nat) (ha : a < 2147483579) (hb : b < 2147483579) (A : Option Addr) (m cap : Nat) (zs : List Int) (hx : chalN (a : Int) (b : Int) zs = x) (w0 : World) (hr : RowI w0.heap.size w0 A m zs) (hm : m ≤ 100) (hn : A = none → cap = 0) (w : World) (o : Ok w0 w) :
    Calls Tryd.prog 25 #[.int .i64 a, .int .i64 b, .slice A m cap] w (Gives (.int .i64 x) w) := by
  have h := rchal_any (a : Int) (b : Int) (i64_of_lt ha) (i64_of_lt hb) A m cap zs w (hr.step o.1) hm hn
  rw [hx] at h
  exact h
end Go.Proofs.YtlimkcodbmafaaaDoor
