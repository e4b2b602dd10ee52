/- Layer 2: the reference's after: behind a time, up to what it returns, depths do not change. -/
import Derived.Test.YtpooifjieoijjaaRefs
import Derived.Test.YtpooifjieoijjaaHead
namespace Go.Proofs.Ytpooifjieoijjaa
open Go.RowKit Go
set_option linter.unusedVariables false

/-- The times at which intervals begin, or have ended. -/
def evs (zs : List (Int × Int)) : List Int := zs.flatMap fun i => [i.1, i.2 + 1]
theorem evs_len (zs : List (Int × Int)) : (evs zs).length = 2 * zs.length := by
  induction zs with
  | nil => rfl
  | cons i zs ih => simp only [evs, List.flatMap_cons, List.length_append, List.length_cons, List.length_nil] at ih ⊢; omega
theorem evs_mem {zs : List (Int × Int)} {i : Int × Int} (h : i ∈ zs) : i.1 ∈ evs zs ∧ i.2 + 1 ∈ evs zs :=
  ⟨List.mem_flatMap.2 ⟨i, h, by simp⟩, List.mem_flatMap.2 ⟨i, h, by simp⟩⟩
def cnt (L : List Int) (x : Int) : Nat := L.countP fun y => decide (x < y)
theorem cnt_lt (L : List Int) (x n : Int) (h : n ∈ L) (hx : x < n) : cnt L n + 1 ≤ cnt L x := by
  have mono : ∀ L : List Int, cnt L n ≤ cnt L x := fun L => List.countP_mono_left fun y _ hy => by simp at hy ⊢; omega
  induction L with
  | nil => simp at h
  | cons y L ih =>
    simp only [cnt, List.countP_cons, decide_eq_true_eq] at ih mono ⊢
    rcases List.mem_cons.1 h with rfl | h
    · have := mono L
      rw [if_neg (by omega), if_pos hx]; omega
    · have := ih h
      split <;> split <;> omega

def AfterGive (zs : List (Int × Int)) (x : Int) (w : World) (e : Ending) (w' : World) : Prop :=
  ∃ n : Int, e = .returned (.int .i64 n) ∧ x < n ∧ n ≤ 3000000000000001 ∧ (n = 3000000000000001 ∨ n ∈ evs zs) ∧ (∀ y, x ≤ y → y < n → depthN zs y = depthN zs x) ∧ Below w.heap.size w w'

set_option maxHeartbeats 1000000 in
theorem after_any (A : Option Addr) (len cap : Nat) (zs : List (Int × Int)) (x : Int) (w : World) (hr : Row w.heap.size w A len zs) (ho : okList zs = true) (x1 : 0 ≤ x) (x2 : x ≤ 3000000000000000) :
    Calls Try.prog 33 #[.slice A len cap, .int .i64 x] w (AfterGive zs x w) := by
  have hlen : len ≤ 64 := by
    have h := hr.1
    rw [okList, Bool.and_eq_true] at ho
    have := ho.1
    simp at this; omega
  have HV : Hid (∀ i ∈ zs, validB i = true) := by
    rw [okList, Bool.and_eq_true] at ho
    exact List.all_eq_true.1 ho.2
  have HR := Lib.hid hr
  have hL := Lib.hid hr.1
  clear hr ho
  go_enter Try.func33, Try.ntmps33
  go_wp2_with fail
  go_loopw [5, 6] (fun o i wr => ∃ (k : Nat) (n : Int), k ≤ len ∧ i = .int .i64 k ∧ o = .int .i64 n ∧ x < n ∧ n ≤ 3000000000000001 ∧ Hid (∀ i ∈ zs.take k, ∀ y, x ≤ y → y < n → inB i y = inB i x) ∧ Hid (n = 3000000000000001 ∨ n ∈ evs zs) ∧ w = wr) (fun _ i _ => len - (intOf i).toNat)
  case atStart => exact ⟨0, _, Nat.zero_le _, rfl, rfl, by omega, by omega, fun i hi => by simp at hi, .inl rfl, rfl⟩
  case round =>
    obtain ⟨k, n, hk, rfl, rfl, n1, n2, HN, HX, rfl⟩ := hrel
    by_cases hlt : k < len
    · obtain ⟨p, rfl, hp, hc⟩ := HR.out.2 (by omega)
      obtain ⟨c1, c2⟩ := hc k hlt
      clear hc
      have HS := Lib.hid (take_snoc zs (0, 0) k (by rw [hL.out]; exact hlt))
      have hm : zs.getD k (0, 0) ∈ zs := by
        have h : k < zs.length := by rw [hL.out]; exact hlt
        rw [show zs.getD k (0, 0) = zs[k] by simp [List.getD, h]]
        exact List.getElem_mem h
      have hz : validB (zs.getD k (0, 0)) = true := HV.out _ hm
      generalize zs.getD k (0, 0) = z at c1 c2 HS hz hm
      have EV : Hid (∀ m : Int, m = n ∨ m = z.1 ∨ m = z.2 + 1 → (m = 3000000000000001 ∨ m ∈ evs zs)) := by
        show ∀ m : Int, _
        rintro m (rfl | rfl | rfl)
        · exact HX.out
        · exact .inr (evs_mem hm).1
        · exact .inr (evs_mem hm).2
      clear hm
      obtain ⟨v1, v2, v3⟩ := validB_yes hz
      clear hz
      have step : ∀ m : Int, m ≤ n → (x < z.1 → m ≤ z.1) → (x < z.2 + 1 → m ≤ z.2 + 1) → Hid (∀ i ∈ zs.take (k + 1), ∀ y, x ≤ y → y < m → inB i y = inB i x) := by
        intro m h1 h2 h3 i hi y hy1 hy2
        rw [HS.out] at hi
        rcases List.mem_append.1 hi with hi | hi
        · exact HN.out i hi y hy1 (by omega)
        · rw [List.mem_singleton] at hi
          subst hi
          simp only [inB]
          rw [Bool.eq_iff_iff]
          simp only [Bool.and_eq_true, decide_eq_true_eq]
          by_cases q1 : x < i.1
          · have := h2 q1; omega
          · by_cases q2 : x < i.2 + 1
            · have := h3 q2; omega
            · omega
      have STEP := Lib.hid step
      clear step
      have ways : (x < z.1 ∧ x < z.2 + 1) ∨ (¬ x < z.1 ∧ x < z.2 + 1) ∨ (¬ x < z.1 ∧ ¬ x < z.2 + 1) := by omega
      rcases ways with ⟨q1, q2⟩ | ⟨q1, q2⟩ | ⟨q1, q2⟩
      all_goals
        go_wp2_with fail
        go_roundw
        case rel => exact ⟨k + 1, _, by omega, by go_num, rfl, by omega, by omega, STEP.out _ (by omega) (by omega) (by omega), EV.out _ (by omega), trivial⟩
        case measure => simp [intOf]; omega
    · obtain rfl : k = len := by omega
      have HF : Hid (∀ y, x ≤ y → y < n → depthN zs y = depthN zs x) := by
        intro y h1 h2
        rw [depthN, depthN]
        refine List.countP_congr fun i hi => ?_
        rw [HN.out i (by rw [List.take_of_length_le (by have := hL.out; omega)]; exact hi) y h1 h2]
      go_wp2_with fail
      go_ret
      exact ⟨n, rfl, n1, n2, HX.out, HF.out, Below.refl _ _⟩
end Go.Proofs.Ytpooifjieoijjaa
