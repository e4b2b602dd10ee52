/- Layer 3: the reference's Sum and Eight; appends of bytes and integers to what the call owns. -/
import Derived.Laws.OwnMore
import Derived.Test.YtlimkcodbmafaaaDoorIntsAny
namespace Go.Proofs.YtlimkcodbmafaaaDoor
open Go.RowKit Go.Sort Go
set_option linter.unusedVariables false

set_option maxHeartbeats 1000000 in
theorem rsum_any (A : Option Addr) (len cap : Nat) (bs : List UInt8) (w : World) (hr : Row8 w.heap.size w A len bs) (hl : len ≤ 9223372036854775807) :
    Calls Tryd.prog 40 #[.slice A len cap] w fun e w' => e = .returned (.int .u64 (fnv fnv0 bs : Int)) ∧ w = w' := by
  have HR := Lib.hid hr
  clear hr
  have h0 : (14695981039346656037 : Int) = (fnv fnv0 (bs.take 0) : Int) := by rw [List.take_zero, fnv_nil]; rfl
  have H0 := Lib.hid h0
  clear h0
  go_enter Tryd.func40, Tryd.ntmps40
  go_wp2_with fail
  go_loop [3, 4] (fun s i => ∃ k : Nat, k ≤ len ∧ i = .int .i64 k ∧ s = .int .u64 (fnv fnv0 (bs.take k) : Int)) (fun _ i => len - (intOf i).toNat)
  case atStart => exact ⟨0, Nat.zero_le _, rfl, congrArg (Value.int .u64) H0.out⟩
  case round =>
    obtain ⟨k, hk, rfl, rfl⟩ := hrel
    by_cases hlt : k < len
    · obtain ⟨p, rfl, hp, hc⟩ := HR.out.2 (by omega)
      have hx : w.cell? (p.add k) = some (.int .u8 ((bs.getD k 0).toNat : Int)) := hc k hlt
      clear hc hp
      have hS := take_snoc bs 0 k (by rw [HR.out.1]; exact hlt)
      have hF : fnv fnv0 (bs.take (k + 1)) = stepN (fnv fnv0 (bs.take k)) (bs.getD k 0).toNat := by rw [hS, fnv_snoc]
      have hlt2 := fnv_lt (bs.take k) fnv0 fnv0_lt
      have hc2 := u8_lt (bs.getD k 0)
      generalize fnv fnv0 (bs.take k) = s at hF hlt2 ⊢
      generalize (bs.getD k 0).toNat = c at hx hF hc2
      obtain ⟨e1, e2⟩ := step_i s c hlt2 hc2
      have HF := Lib.hid hF
      clear hF hS
      generalize s ^^^ c = y at e1 e2
      have e0 : IntKind.u64.wrap (c : Int) = (c : Int) := by rw [IntKind.wrap_u64]; omega
      go_wp2_with fail
      go_round
      case rel => exact ⟨k + 1, by omega, by go_num, by rw [HF.out]⟩
      case measure => simp [intOf]; omega
    · obtain rfl : k = len := by omega
      have hE : bs.take k = bs := by rw [← HR.out.1]; exact List.take_length
      rw [hE]
      clear hE
      go_wp2_with fail
      go_ret
      exact ⟨rfl, rfl⟩

/-- The call owns these bytes; these integers. -/
def Own (B : Nat) (w : World) (v : Value) (bs : List UInt8) : Prop := w.ownsRow B 5 1 v bs.length (Lib.byteCells bs)
def intCells (zs : List Int) : List Value := zs.map fun z => Value.int .i64 z
def OwnI (B : Nat) (w : World) (v : Value) (zs : List Int) : Prop := w.ownsRow B 3 1 v zs.length (intCells zs)

theorem own_row {w : World} {B : Nat} {e : TypeId} {v : Value} {n : Nat} {cs : List Value} (h : w.ownsRow B e 1 v n cs) :
    ∃ A cap, v = .slice A n cap ∧ n ≤ cap ∧ cap ≤ maxLen ∧ (A = none → cap = 0) ∧ ∀ f : Nat → Value, (∀ i, i < n → cs[i]? = some (f i)) → RowV w.heap.size w A n f := by
  have hl := h.1
  rcases h.2 with ⟨rfl, rfl⟩ | ⟨g, cap, cur, rfl, hb, hg, hn, hm, hs, ht⟩
  · exact ⟨none, 0, rfl, by omega, by unfold maxLen; omega, fun _ => rfl, fun f _ h0 => absurd h0 (by omega)⟩
  · refine ⟨some ⟨g, 0, none⟩, cap, rfl, hn, hm, (fun h => by cases h), fun f hf _ => ⟨⟨g, 0, none⟩, rfl, (Array.getElem?_eq_some_iff.1 hg).1, fun i hi => ?_⟩⟩
    exact h.cells (g := g) rfl i _ (hf i hi)

theorem Own.row {w : World} {B : Nat} {v : Value} {bs : List UInt8} (h : Own B w v bs) : ∃ A n cap, v = .slice A n cap ∧ n ≤ cap ∧ cap ≤ maxLen ∧ (A = none → cap = 0) ∧ Row8 w.heap.size w A n bs := by
  obtain ⟨A, cap, e, h1, h2, h3, h4⟩ := own_row h
  exact ⟨A, _, cap, e, h1, h2, h3, rfl, h4 _ fun i hi => by simp [Lib.byteCells, hi]⟩

theorem OwnI.row {w : World} {B : Nat} {v : Value} {zs : List Int} (h : OwnI B w v zs) (hz : ∀ x ∈ zs, -9223372036854775808 ≤ x ∧ x ≤ 9223372036854775807) : ∃ A n cap, v = .slice A n cap ∧ n ≤ cap ∧ cap ≤ maxLen ∧ (A = none → cap = 0) ∧ RowI w.heap.size w A n zs := by
  obtain ⟨A, cap, e, h1, h2, h3, h4⟩ := own_row h
  exact ⟨A, _, cap, e, h1, h2, h3, rfl, h4 _ (fun i hi => by simp [intCells, hi]), hz⟩

theorem info_int : (Tryd.prog.info? 3).map (fun i => (i.zero, i.size, i.bytes)) = some (some (.int .i64 0), 1, 8) := by kernel_rfl

theorem byte_wrap (n k : Nat) : IntKind.u8.wrap ((n / 2 ^ (8 * k) : Nat) : Int) = ((byteAt n k).toNat : Int) := by
  rw [byteAt_toNat, IntKind.wrap_u8']; omega

/-- The first k bytes of a number. -/
theorem eight_take (n k : Nat) (hk : k < 8) : (eight n).take (k + 1) = (eight n).take k ++ [byteAt n (7 - k)] := by
  rcases (by omega : k = 0 ∨ k = 1 ∨ k = 2 ∨ k = 3 ∨ k = 4 ∨ k = 5 ∨ k = 6 ∨ k = 7) with rfl | rfl | rfl | rfl | rfl | rfl | rfl | rfl <;> rfl

end Go.Proofs.YtlimkcodbmafaaaDoor
