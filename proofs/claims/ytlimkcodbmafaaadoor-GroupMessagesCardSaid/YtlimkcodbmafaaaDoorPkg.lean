/- Layer 3: what fold and Sum of package digest return: the digest of bytes goes on with them; memory stays as it is. -/
import Derived.WalkKit
import Derived.ProofKit
import Derived.OpenShut
import Derived.Below
import Derived.OneCell
import Derived.LoopTactic
import Derived.Laws.Externs
import Derived.Laws.Bits64
import Derived.Lib.Hide
import Derived.Outline
import Derived.Test.YtlimkcodbmafaaaDoorRows
import Derived.Test.YtlimkcodbmafaaaDoorNum
namespace Go.Proofs.YtlimkcodbmafaaaDoor
open Go.RowKit Go
set_option linter.unusedVariables false

/-- Returned v; nothing that was there is changed. -/
def Gives (v : Value) (w : World) (e : Ending) (w' : World) : Prop := e = .returned v ∧ Below w.heap.size w w'

theorem block_of_add (a : Addr) (n : Nat) : (a.add n).block = a.block := by unfold Addr.add; split <;> rfl

/-- The slice value `.slice A len cap` holds these cells, in a block below B (which one: only if there are any). -/
def RowV (B : Nat) (w : World) (A : Option Addr) (len : Nat) (f : Nat → Value) : Prop :=
  0 < len → ∃ p : Addr, A = some p ∧ p.block < B ∧ ∀ i, i < len → w.cell? (p.add i) = some (f i)

/-- It holds these bytes; it holds these integers. -/
def Row8 (B : Nat) (w : World) (A : Option Addr) (len : Nat) (bs : List UInt8) : Prop :=
  bs.length = len ∧ RowV B w A len (fun i => .int .u8 ((bs.getD i 0).toNat : Int))
def RowI (B : Nat) (w : World) (A : Option Addr) (len : Nat) (zs : List Int) : Prop :=
  zs.length = len ∧ RowV B w A len (fun i => .int .i64 (zs.getD i 0)) ∧ ∀ x ∈ zs, -9223372036854775808 ≤ x ∧ x ≤ 9223372036854775807

theorem RowV.below {B : Nat} {w w' : World} {A : Option Addr} {len : Nat} {f : Nat → Value} (h : RowV B w A len f) (hb : Below B w w') : RowV B w' A len f :=
  fun hn => by
    obtain ⟨p, e, hp, hc⟩ := h hn
    exact ⟨p, e, hp, fun i hi => (hb.cell (by rw [block_of_add]; exact hp)).trans (hc i hi)⟩
theorem RowV.more {B B' : Nat} {w : World} {A : Option Addr} {len : Nat} {f : Nat → Value} (h : RowV B w A len f) (hb : B ≤ B') : RowV B' w A len f :=
  fun hn => by
    obtain ⟨p, e, hp, hc⟩ := h hn
    exact ⟨p, e, by omega, hc⟩
theorem Row8.step {w w' : World} {A : Option Addr} {len : Nat} {bs : List UInt8} (h : Row8 w.heap.size w A len bs) (b : Below w.heap.size w w') : Row8 w'.heap.size w' A len bs :=
  ⟨h.1, (h.2.below b).more b.size⟩
theorem RowI.step {w w' : World} {A : Option Addr} {len : Nat} {zs : List Int} (h : RowI w.heap.size w A len zs) (b : Below w.heap.size w w') : RowI w'.heap.size w' A len zs :=
  ⟨h.1, (h.2.1.below b).more b.size, h.2.2⟩
theorem below_more {w W W' : World} (h : Below w.heap.size w W) (b : Below W.heap.size W W') : Below w.heap.size w W' := h.trans (b.mono h.size)

theorem take_snoc {α : Type} (zs : List α) (d : α) (k : Nat) (h : k < zs.length) : zs.take (k + 1) = zs.take k ++ [zs.getD k d] := by
  rw [List.take_succ_eq_append_getElem h]; simp [h]

theorem step_i (h c : Nat) (hh : h < 18446744073709551616) (hc : c < 256) :
    bits .xor .u64 (h : Int) (c : Int) = ((h ^^^ c : Nat) : Int) ∧ IntKind.u64.wrap (((h ^^^ c : Nat) : Int) * 1099511628211) = (stepN h c : Int) := by
  refine ⟨bits_xor_u64_nat _ _ hh (by omega), ?_⟩
  rw [IntKind.wrap_u64, stepN]; omega

set_option maxHeartbeats 1000000 in
theorem fold_any (h : Nat) (hh : h < 18446744073709551616) (A : Option Addr) (len cap : Nat) (bs : List UInt8) (w : World) (hr : Row8 w.heap.size w A len bs) (hl : len ≤ 9223372036854775807) :
    Calls Tryd.prog 46 #[.int .u64 h, .slice A len cap] w fun e w' => e = .returned (.int .u64 (fnv h bs : Int)) ∧ w = w' := by
  have HR := Lib.hid hr
  have HH := Lib.hid hh
  clear hr hh
  go_enter Tryd.func46, Tryd.ntmps46
  go_wp2_with fail
  go_loop [0, 9] (fun s i => ∃ k : Nat, k ≤ len ∧ i = .int .i64 k ∧ s = .int .u64 (fnv h (bs.take k) : Int)) (fun _ i => len - (intOf i).toNat)
  case atStart => exact ⟨0, Nat.zero_le _, rfl, by rw [List.take_zero, fnv_nil]⟩
  case round =>
    obtain ⟨k, hk, rfl, rfl⟩ := hrel
    by_cases hlt : k < len
    · obtain ⟨p, rfl, hp, hc⟩ := HR.out.2 (by omega)
      have hx : w.cell? (p.add k) = some (.int .u8 ((bs.getD k 0).toNat : Int)) := hc k hlt
      clear hc hp
      have hS := take_snoc bs 0 k (by rw [HR.out.1]; exact hlt)
      have hF : fnv h (bs.take (k + 1)) = stepN (fnv h (bs.take k)) (bs.getD k 0).toNat := by rw [hS, fnv_snoc]
      have hlt2 := fnv_lt (bs.take k) h HH.out
      have hc2 := u8_lt (bs.getD k 0)
      generalize fnv h (bs.take k) = s at hF hlt2 ⊢
      generalize (bs.getD k 0).toNat = c at hx hF hc2
      obtain ⟨e1, e2⟩ := step_i s c hlt2 hc2
      have HF := Lib.hid hF
      clear hF hS
      generalize s ^^^ c = y at e1 e2
      have e0 : IntKind.u64.wrap (c : Int) = (c : Int) := by rw [IntKind.wrap_u64]; omega
      go_wp2_with fail
      go_round
      case rel => exact ⟨k + 1, by omega, by go_num, by rw [HF.out]⟩
      case measure => simp [intOf]; omega
    · obtain rfl : k = len := by omega
      have hE : bs.take k = bs := by rw [← HR.out.1]; exact List.take_length
      rw [hE]
      clear hE
      go_wp2_with fail
      go_ret
      exact ⟨rfl, rfl⟩

end Go.Proofs.YtlimkcodbmafaaaDoor
