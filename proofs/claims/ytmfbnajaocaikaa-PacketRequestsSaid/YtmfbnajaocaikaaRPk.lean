/- Layer 11: the reference's packet, PutRequest and PutReply. -/
import Derived.Test.YtmfbnajaocaikaaRInts
namespace Go.Proofs.Ytmfbnajaocaikaa
open Go.RowKit Go.Sort Go
set_option linter.unusedVariables false
set_option linter.unusedSimpArgs false

/-- What is put together: a row of bytes, its own. -/
def PkIs (bs : List UInt8) (w : World) (e : Ending) (w' : World) : Prop :=
  ∃ (A : Option Addr) (n cap : Nat), e = .returned (.slice A n cap) ∧ n ≤ cap ∧ cap ≤ 9223372036854775807 ∧ (A = none → cap = 0) ∧ Row8 w'.heap.size w' A n bs ∧ Below w.heap.size w w'
set_option maxHeartbeats 2000000 in
theorem rpk_any (k : UInt8) (A : Option Addr) (n cap : Nat) (l : List Int) (hl : AllI l) (hn : n ≤ 11) (w : World) (hr : RowI w.heap.size w A n l) :
    Calls Try.prog 26 #[.int .u8 (k.toNat : Int), .slice A n cap] w (PkIs (pkB k l) w) := by
  have PU := Lib.hid (rput_ok A n cap l w hr (by omega))
  have LL := Lib.hid (show l.length ≤ 11 by have := hr.1; omega)
  have HL := Lib.hid (listB_len hl (by have := hr.1; omega))
  clear hr
  go_enter Try.func26, Try.ntmps26
  go_wp2_with (go_at_call 41; (with_reducible refine PU.out.mono ?_); rintro e w1 ⟨A1, n1, cap1, rfl, hM⟩; refine Hid.out ?_)
  refine Lib.hid ?_
  have M := Lib.hid hM
  clear hM
  have HO := Lib.hid (own_new w1 [k] w.heap.size M.out.2.2.2.2.2.size (by unfold maxLen; simp))
  have B1 := Lib.hid (M.out.2.2.2.2.2.alloc M.out.2.2.2.2.2.size (.cells (Lib.byteCells [k]).toArray 5))
  have R1 := Lib.hid (M.out.2.2.2.2.1.step (below_alloc w1 (.cells (Lib.byteCells [k]).toArray 5)))
  go_wp2_with (refine wpList_app8 rfl _ _ rfl w.heap.size (.slice (some ⟨w1.heap.size, 0, none⟩) 1 1) [k] rfl HO.out _ _ _ _ _ rfl M.out.2.2.1 R1.out (by have := M.out.1; have := HL.out; have := LL.out; simp; omega) B1.out.size ?_; refine Hid.out ?_)
  refine Lib.hid ?_
  intro v4 w4 o4 g4
  have B4 := Lib.hid (B1.out.grown g4 B1.out.size (own_grown (w' := w) HO.out))
  obtain ⟨A4, n4, cap4, rfl, k1, k2, k3, k4⟩ := Own.row o4
  have R4 := Lib.hid k4
  have C4 := Lib.hid (And.intro k1 (And.intro k2 k3))
  clear o4 g4 k1 k2 k3 k4
  go_wp2_with fail
  go_ret
  exact ⟨_, _, _, rfl, C4.out.1, by have := C4.out.2.1; unfold maxLen at this; omega, C4.out.2.2, R4.out, B4.out⟩
end Go.Proofs.Ytmfbnajaocaikaa
