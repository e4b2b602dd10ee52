/- Layer 4: the statement of bytes behind frames. -/
import Derived.Test.YtdambggcaimndaaFramed
namespace Go.Proofs.Ytdambggcaimndaa
open Go.RowKit Go.Sort Go
set_option linter.unusedVariables false

theorem told_ex : ∀ (k : Nat) (b : List UInt8), b.length ≤ k → ∃ ps q, Told b ps q := by
  intro k
  induction k with
  | zero =>
    intro b h
    obtain rfl : b = [] := List.length_eq_zero_iff.1 (by omega)
    exact ⟨[], 0, ⟨[], rfl, nextR_nil⟩, rfl, fun l hl => by simp at hl⟩
  | succ k ih =>
    intro b h
    cases hq : nextR b with
    | none => exact ⟨[], 0, ⟨b, rfl, hq⟩, rfl, fun l hl => by simp at hl⟩
    | some p =>
      obtain ⟨l, m⟩ := p
      obtain ⟨⟨r, e⟩, hm, hok⟩ := nextR_some hq
      have hl := congrArg List.length e
      rw [List.length_append, frameB_len] at hl
      obtain ⟨ps, q, ⟨s, es, hs⟩, hq2, ho⟩ := ih r (by omega)
      refine ⟨l :: ps, (framesB (l :: ps)).length, ⟨s, by rw [framesB_cons, List.append_assoc, ← es, ← e], hs⟩, rfl, fun x hx => ?_⟩
      rcases List.mem_cons.1 hx with rfl | hx
      · exact hok
      · exact ho x hx

theorem RowL.all {B : Nat} {w : World} {A : Option Addr} {n : Nat} {ls : List (List Int)} (h : RowL B w A n ls) : ∀ l ∈ ls, AllI l := by
  intro l hl
  obtain ⟨h1, f, h2, h3⟩ := h
  obtain ⟨i, hi, e⟩ := List.getElem_of_mem hl
  obtain ⟨a, m, c, hf, hm, hr⟩ := h3 i (by omega)
  have : ls.getD i [] = l := by rw [← e]; simp [List.getD, hi]
  rw [this] at hr
  exact hr.2.2
theorem RowL.ok {B : Nat} {w : World} {A : Option Addr} {n : Nat} {ls : List (List Int)} (h : RowL B w A n ls) (hs : ints ls ≤ 1000) : AllOk ls :=
  fun l hl => ⟨Nat.le_trans (ints_mem hl) hs, h.all l hl⟩
theorem framesB_short : ∀ (ls : List (List Int)), AllOk ls → (framesB ls).length ≤ 13 * ls.length + 10 * ints ls := by
  intro ls
  induction ls with
  | nil => intro _; simp [framesB]
  | cons l r ih =>
    intro h
    have h1 := ih (fun x hx => h x (by simp [hx]))
    have h2 := h l (by simp)
    have h3 := listB_len h2.2 h2.1
    have e : ints (l :: r) = l.length + ints r := by simp [ints]
    rw [framesB_cons, List.length_append, frameB_len, List.length_cons, e]
    omega

theorem RowL.take {B : Nat} {w : World} {A : Option Addr} {n k : Nat} {ls : List (List Int)} (h : RowL B w A n ls) (hk : k ≤ n) : RowL B w A k (ls.take k) := by
  obtain ⟨h1, f, h2, h3⟩ := h
  refine ⟨by rw [List.length_take, h1]; omega, f, h2.take hk, fun i hi => ?_⟩
  obtain ⟨a, m, c, hf, hm, hr⟩ := h3 i (by omega)
  refine ⟨a, m, c, hf, hm, ?_⟩
  have : (ls.take k).getD i [] = ls.getD i [] := by simp [List.getD, hi]
  rwa [this]
theorem RowL.drop {B : Nat} {w : World} {A : Option Addr} {n k cap : Nat} {ls : List (List Int)} (h : RowL B w A n ls) (hk : k ≤ n) (hc : n ≤ cap) : RowL B w (if cap = k then A else A.map (·.add k)) (n - k) (ls.drop k) := by
  obtain ⟨h1, f, h2, h3⟩ := h
  refine ⟨by rw [List.length_drop, h1], fun i => f (k + i), fun h0 => ?_, fun i hi => ?_⟩
  · obtain ⟨p, rfl, hp, hcl⟩ := h2 (by omega)
    rw [if_neg (by omega)]
    refine ⟨_, rfl, by rw [block_of_add]; exact hp, fun i hi => ?_⟩
    rw [Addr.add_add, hcl (k + i) (by omega)]
  · obtain ⟨a, m, c, hf, hm, hr⟩ := h3 (k + i) (by omega)
    refine ⟨a, m, c, hf, hm, ?_⟩
    have : (ls.drop k).getD i [] = ls.getD (k + i) [] := by simp [List.getD]
    rwa [this]
theorem ltail (A : Option Addr) (n cap k : Nat) (hk : k ≤ n) (hc : n ≤ cap) (W : World) :
    (Instr.slice 33 (.slice A n cap) (some (.int .i64 k)) none none).run Try.prog W = .ok (.slice (if cap = k then A else A.map (·.add k)) (n - k) (cap - k)) W := by
  simp [go_sem, hk]
  try omega

theorem behind_big (A0 : Option Addr) (len0 cap0 : Nat) (ls : List (List Int)) (A1 : Option Addr) (len1 cap1 : Nat) (w : World) (r0 : RowL w.heap.size w A0 len0 ls) (hs : len0 + ints ls ≤ 2000000) (h : ¬ len0 + ints ls ≤ 200) (l1 : len1 ≤ cap1) (m1 : cap1 ≤ 9223372036854775807) :
    Calls Try.prog 7 #[.slice A0 len0 cap0, .slice A1 len1 cap1] w (Gives (.bool true) w) := by
  have H := Lib.hid (head_true w)
  obtain ⟨j, hj⟩ : ∃ j, j = min len1 3000 := ⟨_, rfl⟩
  have FW := Lib.hid (fun w => few_any A1 len1 j cap1 w l1 m1 hj)
  have R0 := Lib.hid r0
  have SM : Hid (∀ W, RowL W.heap.size W A0 len0 ls → Calls Try.prog 23 #[.slice A0 len0 cap0] W fun e w' => e = .returned (.bool false) ∧ W = w') := fun W hr => by
    have := small_any A0 len0 cap0 ls W hr hs
    rwa [decide_eq_false h] at this
  clear r0 h hs hj
  go_enter Try.func7, Try.ntmps7
  go_wp2_with (first | (go_at_call 9; refine H.out.mono ?_; rintro e W1 ⟨rfl, b1⟩; have B := Lib.hid b1; have S := Lib.hid (SM.out _ (R0.out.step b1)); clear b1) | (go_at_call 10; refine (FW.out _).mono ?_; rintro e W ⟨rfl, rfl⟩) | (go_at_call 23; refine S.out.mono ?_; rintro e W ⟨rfl, rfl⟩))
  go_ret
  exact ⟨rfl, B.out⟩
end Go.Proofs.Ytdambggcaimndaa
