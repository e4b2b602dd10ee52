/- Layer 2: what Valid, isTime, validList, Meet, Hull, Grow and Depth of package interval return; nothing that was in memory is changed. -/
import Derived.WalkKit
import Derived.ProofKit
import Derived.OpenShut
import Derived.Below
import Derived.OneCell
import Derived.LoopTactic
import Derived.Laws.Externs
import Derived.Lib.Hide
import Derived.Outline
import Derived.Test.YtpooifjieoijjaaRows
namespace Go.Proofs.Ytpooifjieoijjaa
open Go.RowKit Go
set_option linter.unusedVariables false

def validB (i : Int × Int) : Bool := decide (0 ≤ i.1) && (decide (i.1 ≤ i.2) && decide (i.2 ≤ 3000000000000000))
def ivV (i : Int × Int) : Value := .agg #[.int .i64 i.1, .int .i64 i.2]

/-- Returned v; nothing that was there is changed. -/
def Gives (v : Value) (w : World) (e : Ending) (w' : World) : Prop := e = .returned v ∧ Below w.heap.size w w'

theorem validB_yes {i : Int × Int} (h : validB i = true) : 0 ≤ i.1 ∧ i.1 ≤ i.2 ∧ i.2 ≤ 3000000000000000 := by
  simpa [validB] using h

theorem valid_any (a b : Int) (w : World) : Calls Try.prog 14 #[.agg #[.int .i64 a, .int .i64 b]] w (Gives (.bool (validB (a, b))) w) := by
  by_cases h1 : 0 ≤ a
  · by_cases h2 : a ≤ b
    · by_cases h3 : b ≤ 3000000000000000
      · have e : validB (a, b) = true := by simp [validB, h1, h2, h3]
        rw [e]
        clear e
        go_enter Try.func14, Try.ntmps14
        go_wp2_with fail
        go_ret
        exact ⟨rfl, (Below.refl _ _).alloc (Nat.le_refl _) _⟩
      · have e : validB (a, b) = false := by simp [validB, h1, h2, h3]
        rw [e]
        clear e
        go_enter Try.func14, Try.ntmps14
        go_wp2_with fail
        go_ret
        exact ⟨rfl, (Below.refl _ _).alloc (Nat.le_refl _) _⟩
    · have e : validB (a, b) = false := by simp [validB, h1, h2]
      rw [e]
      clear e
      go_enter Try.func14, Try.ntmps14
      go_wp2_with fail
      go_ret
      exact ⟨rfl, (Below.refl _ _).alloc (Nat.le_refl _) _⟩
  · have e : validB (a, b) = false := by simp [validB, h1]
    rw [e]
    clear e
    go_enter Try.func14, Try.ntmps14
    go_wp2_with fail
    go_ret
    exact ⟨rfl, (Below.refl _ _).alloc (Nat.le_refl _) _⟩

/-- The slice value `.slice A len cap` holds the intervals zs, in a block below B (which one: only if there are any). -/
def Row (B : Nat) (w : World) (A : Option Addr) (len : Nat) (zs : List (Int × Int)) : Prop :=
  zs.length = len ∧ (0 < len → ∃ p : Addr, A = some p ∧ p.block < B ∧ ∀ i, i < len → w.cell? (p.add (i * 2)) = some (.int .i64 (zs.getD i (0, 0)).1) ∧ w.cell? ⟨(p.add (i * 2)).block, (p.add (i * 2)).off + 1, none⟩ = some (.int .i64 (zs.getD i (0, 0)).2))

theorem block_of_add (a : Addr) (n : Nat) : (a.add n).block = a.block := by unfold Addr.add; split <;> rfl

theorem Row.below {B : Nat} {w w' : World} {A : Option Addr} {len : Nat} {zs : List (Int × Int)} (h : Row B w A len zs) (hb : Below B w w') : Row B w' A len zs :=
  ⟨h.1, fun hn => by
    obtain ⟨p, e, hp, hc⟩ := h.2 hn
    exact ⟨p, e, hp, fun i hi => ⟨(hb.cell (by rw [block_of_add]; exact hp)).trans (hc i hi).1, (hb.cell (p := ⟨(p.add (i * 2)).block, (p.add (i * 2)).off + 1, none⟩) (show (p.add (i * 2)).block < B by rw [block_of_add]; exact hp)).trans (hc i hi).2⟩⟩⟩

theorem take_snoc {α : Type} (zs : List α) (d : α) (k : Nat) (h : k < zs.length) : zs.take (k + 1) = zs.take k ++ [zs.getD k d] := by
  rw [List.take_succ_eq_append_getElem h]; simp [h]

def okList (zs : List (Int × Int)) : Bool := decide (zs.length ≤ 64) && zs.all validB


set_option maxHeartbeats 1000000 in
theorem validList_any (A : Option Addr) (len cap : Nat) (zs : List (Int × Int)) (w : World) (hr : Row w.heap.size w A len zs) (hl : len ≤ 9223372036854775807) :
    Calls Try.prog 28 #[.slice A len cap] w (Gives (.bool (okList zs)) w) := by
  have HR : Hid (Row w.heap.size w A len zs) := hr
  have hL : Hid (zs.length = len) := hr.1
  clear hr
  by_cases h64 : len ≤ 64
  · have V : Hid (∀ (a b : Int) (w : World), Calls Try.prog 14 #[.agg #[.int .i64 a, .int .i64 b]] w (Gives (.bool (validB (a, b))) w)) := valid_any
    go_enter Try.func28, Try.ntmps28
    go_wp2_with fail
    go_loopw [4, 10] (fun _ i wr => ∃ k : Nat, k ≤ len ∧ i = .int .i64 k ∧ Hid ((zs.take k).all validB = true) ∧ Below w.heap.size w wr) (fun _ i _ => len - (intOf i).toNat)
    case atStart => exact ⟨0, Nat.zero_le _, rfl, rfl, Below.refl _ _⟩
    case round =>
      obtain ⟨k, hk, rfl, HA, hb⟩ := hrel
      by_cases hlt : k < len
      · obtain ⟨p, rfl, hp, hc⟩ := (HR.out.below hb).2 (by omega)
        obtain ⟨c1, c2⟩ := hc k hlt
        clear hc
        have HS' := take_snoc zs (0, 0) k (by rw [hL.out]; exact hlt)
        have HS : Hid _ := HS'
        clear HS'
        generalize hx : zs.getD k (0, 0) = x at c1 c2 HS
        have HX : Hid _ := hx
        clear hx
        go_wp2_with fail
        refine (V.out _ _ _).mono ?_
        rintro e w1 ⟨rfl, b1⟩
        have hb1 : Below w.heap.size w w1 := (hb.alloc hb.size _).trans (b1.mono (by simp; have := hb.size; omega))
        clear b1
        cases hv : validB (x.1, x.2) with
        | true =>
          have HV : Hid _ := hv
          clear hv
          go_wp2_with fail
          go_roundw
          case rel =>
            refine ⟨k + 1, by omega, by go_num, ?_, hb1⟩
            show (zs.take (k + 1)).all validB = true
            rw [HS.out, List.all_append, HA.out]; simp [show validB x = true from HV.out]
          case measure => simp [intOf]; omega
        | false =>
          have HN : Hid (okList zs = false) := by
            show okList zs = false
            rw [okList, Bool.and_eq_false_iff]
            right
            rw [Bool.eq_false_iff]
            intro h
            have h2 : (zs.take (k + 1)).all validB = true := by
              simp only [List.all_eq_true] at h ⊢
              exact fun y hy => h y (List.mem_of_mem_take hy)
            rw [HS.out, List.all_append, Bool.and_eq_true] at h2
            have h3 := h2.2
            simp [show validB x = false from hv] at h3
          clear hv
          go_wp2_with fail
          go_ret
          exact ⟨by rw [HN.out]; rfl, hb1⟩
      · obtain rfl : k = len := by omega
        have hE : zs.take k = zs := by rw [← hL.out]; exact List.take_length
        rw [hE] at HA
        have HN : Hid (okList zs = true) := by
          show okList zs = true
          rw [okList, Bool.and_eq_true]
          exact ⟨by rw [hL.out]; simpa using h64, HA.out⟩
        clear hE HA
        go_wp2_with fail
        go_ret
        exact ⟨by rw [HN.out]; rfl, hb⟩
  · have HN : Hid (okList zs = false) := by
      show okList zs = false
      rw [okList, hL.out]; simp [h64]
    go_enter Try.func28, Try.ntmps28
    go_wp2_with fail
    go_ret
    exact ⟨by rw [HN.out]; rfl, Below.refl _ _⟩
end Go.Proofs.Ytpooifjieoijjaa
