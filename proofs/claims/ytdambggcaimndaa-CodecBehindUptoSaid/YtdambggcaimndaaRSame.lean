/- Layer 4: the reference's Same, Ints and Lists. -/
import Derived.Test.YtdambggcaimndaaMake
import Derived.Test.YtdambggcaimndaaFrames
namespace Go.Proofs.Ytdambggcaimndaa
open Go.RowKit Go.Sort Go
set_option linter.unusedVariables false

/-- The same world but for what was drawn. -/
def Drew (w w' : World) : Prop := ∃ q, w' = w.drewN q
theorem Drew.refl (w : World) : Drew w w := ⟨0, rfl⟩
theorem Drew.trans {a b c : World} (h : Drew a b) (k : Drew b c) : Drew a c := by
  obtain ⟨q, rfl⟩ := h
  obtain ⟨r, rfl⟩ := k
  exact ⟨q + r, World.drewN_drewN _ _ _⟩
theorem Drew.n (w : World) (q : Nat) : Drew w (w.drewN q) := ⟨q, rfl⟩
theorem Drew.below {w w' : World} (h : Drew w w') (B : Nat) : Below B w w' := by
  obtain ⟨q, rfl⟩ := h
  exact ⟨rfl, rfl, rfl, Nat.le_refl _, fun _ _ => rfl⟩

theorem take_differ {α : Type} {xs ys : List α} {k : Nat} {x y : α} (HA : xs.take k = ys.take k) (HS : xs.take (k + 1) = xs.take k ++ [x]) (HS' : ys.take (k + 1) = ys.take k ++ [y]) (hq : x ≠ y) : ¬ xs = ys := by
  intro h
  rw [h, HS'] at HS
  have := List.append_inj_right' HS rfl
  simp only [List.cons.injEq, and_true] at this
  exact hq this.symm

set_option maxHeartbeats 1000000 in
theorem rsame_any (A A' : Option Addr) (len len' cap cap' : Nat) (xs ys : List UInt8) (w : World) (hr : Row8 w.heap.size w A len xs) (hr' : Row8 w.heap.size w A' len' ys) (hl : len ≤ 9223372036854775807) (hl' : len' ≤ 9223372036854775807) :
    Calls Try.prog 13 #[.slice A len cap, .slice A' len' cap'] w fun e w' => e = .returned (.bool (decide (xs = ys))) ∧ Drew w w' := by
  have HR := Lib.hid hr
  have HR' := Lib.hid hr'
  have hL := Lib.hid hr.1
  have hL' := Lib.hid hr'.1
  clear hr hr'
  by_cases hne : len = len'
  · subst hne
    go_enter Try.func13, Try.ntmps13
    go_wp2_with fail
    go_loopw [5] (fun i wr => ∃ k : Nat, k ≤ len ∧ i = .int .i64 k ∧ Hid (xs.take k = ys.take k) ∧ Drew w wr) (fun i _ => len - (intOf i).toNat)
    case atStart => exact ⟨0, Nat.zero_le _, rfl, rfl, Drew.refl _⟩
    case round =>
      rename_i wr
      obtain ⟨k, hk, rfl, HA, hb⟩ := hrel
      by_cases hlt : k < len
      · obtain ⟨p, rfl, hp, hc⟩ := (HR.out.2.below (hb.below _)) (by omega)
        have c1 : World.cell? _ (p.add k) = some (.int .u8 ((xs.getD k 0).toNat : Int)) := hc k hlt
        obtain ⟨p', rfl, hp', hc'⟩ := (HR'.out.2.below (hb.below _)) (by omega)
        have c1' : World.cell? _ (p'.add k) = some (.int .u8 ((ys.getD k 0).toNat : Int)) := hc' k hlt
        clear hc hc'
        have HS := Lib.hid (take_snoc xs 0 k (by rw [hL.out]; exact hlt))
        have HS' := Lib.hid (take_snoc ys 0 k (by rw [hL'.out]; exact hlt))
        generalize xs.getD k 0 = x at c1 HS
        generalize ys.getD k 0 = y at c1' HS'
        by_cases hq : x = y
        · subst hq
          have NE : (((x.toNat : Nat) : Int) == ((x.toNat : Nat) : Int)) = true := by simp
          generalize x.toNat = c at c1 c1' NE
          have HE : Hid (xs.take (k + 1) = ys.take (k + 1)) := by show _ = _; rw [HS.out, HS'.out, HA.out]
          go_wp2_with fail
          go_quiet (fail)
          have hbq : Drew w (World.drewN _ nq) := hb.trans (Drew.n _ _)
          go_wp2_with fail
          go_roundw
          case rel => exact ⟨k + 1, by omega, by go_num, HE, hbq⟩
          case measure => simp [intOf]; omega
        · have HN : Hid (decide (xs = ys) = false) := by show decide (xs = ys) = false; rw [decide_eq_false_iff_not]; exact take_differ HA.out HS.out HS'.out hq
          have hqn : x.toNat ≠ y.toNat := fun e => hq (UInt8.toNat_inj.1 e)
          have NE : (((x.toNat : Nat) : Int) == ((y.toNat : Nat) : Int)) = false := by rw [beq_eq_false_iff_ne]; omega
          have NE2 : ((x.toNat : Nat) == (y.toNat : Nat)) = false := by simpa using hqn
          clear hq hqn
          generalize x.toNat = c at c1 NE NE2
          generalize y.toNat = c' at c1' NE NE2
          go_wp2_with fail
          go_quiet (fail)
          have hbq : Drew w (World.drewN _ nq) := hb.trans (Drew.n _ _)
          go_wp2_with fail
          go_ret
          rw [HN.out]
          exact ⟨rfl, hbq⟩
      · obtain rfl : k = len := by omega
        have HE : Hid (decide (xs = ys) = true) := by
          show decide (xs = ys) = true
          rw [decide_eq_true_eq]
          have := HA.out
          rwa [List.take_of_length_le (by rw [hL.out]; exact Nat.le_refl _), List.take_of_length_le (by rw [hL'.out]; exact Nat.le_refl _)] at this
        go_wp2_with fail
        go_ret
        rw [HE.out]
        exact ⟨rfl, hb⟩
  · have HN : Hid (decide (xs = ys) = false) := by
      show decide (xs = ys) = false
      rw [decide_eq_false_iff_not]
      intro h
      exact hne (by rw [← hL.out, ← hL'.out, h])
    have f1 : ((len : Int) == (len' : Int)) = false := by rw [beq_eq_false_iff_ne]; omega
    have f2 : (len == len') = false := by simpa using hne
    go_enter Try.func13, Try.ntmps13
    go_wp2_with fail
    go_ret
    rw [HN.out]
    exact ⟨rfl, Drew.refl _⟩

set_option maxHeartbeats 1000000 in
theorem rints_any (A A' : Option Addr) (len len' cap cap' : Nat) (xs ys : List Int) (w : World) (hr : RowI w.heap.size w A len xs) (hr' : RowI w.heap.size w A' len' ys) (hl : len ≤ 9223372036854775807) (hl' : len' ≤ 9223372036854775807) :
    Calls Try.prog 18 #[.slice A len cap, .slice A' len' cap'] w fun e w' => e = .returned (.bool (decide (xs = ys))) ∧ Drew w w' := by
  have HR := Lib.hid hr
  have HR' := Lib.hid hr'
  have hL := Lib.hid hr.1
  have hL' := Lib.hid hr'.1
  clear hr hr'
  by_cases hne : len = len'
  · subst hne
    go_enter Try.func18, Try.ntmps18
    go_wp2_with fail
    go_loopw [5] (fun i wr => ∃ k : Nat, k ≤ len ∧ i = .int .i64 k ∧ Hid (xs.take k = ys.take k) ∧ Drew w wr) (fun i _ => len - (intOf i).toNat)
    case atStart => exact ⟨0, Nat.zero_le _, rfl, rfl, Drew.refl _⟩
    case round =>
      rename_i wr
      obtain ⟨k, hk, rfl, HA, hb⟩ := hrel
      by_cases hlt : k < len
      · obtain ⟨p, rfl, hp, hc⟩ := (HR.out.2.1.below (hb.below _)) (by omega)
        have c1 : World.cell? _ (p.add k) = some (.int .i64 (xs.getD k 0)) := hc k hlt
        obtain ⟨p', rfl, hp', hc'⟩ := (HR'.out.2.1.below (hb.below _)) (by omega)
        have c1' : World.cell? _ (p'.add k) = some (.int .i64 (ys.getD k 0)) := hc' k hlt
        clear hc hc'
        have HS := Lib.hid (take_snoc xs 0 k (by rw [hL.out]; exact hlt))
        have HS' := Lib.hid (take_snoc ys 0 k (by rw [hL'.out]; exact hlt))
        generalize xs.getD k 0 = x at c1 HS
        generalize ys.getD k 0 = y at c1' HS'
        by_cases hq : x = y
        · subst hq
          have NE : (x == x) = true := by simp
          have HE : Hid (xs.take (k + 1) = ys.take (k + 1)) := by show _ = _; rw [HS.out, HS'.out, HA.out]
          go_wp2_with fail
          go_quiet (fail)
          have hbq : Drew w (World.drewN _ nq) := hb.trans (Drew.n _ _)
          go_wp2_with fail
          go_roundw
          case rel => exact ⟨k + 1, by omega, by go_num, HE, hbq⟩
          case measure => simp [intOf]; omega
        · have HN : Hid (decide (xs = ys) = false) := by show decide (xs = ys) = false; rw [decide_eq_false_iff_not]; exact take_differ HA.out HS.out HS'.out hq
          have NE : (x == y) = false := by simpa using hq
          clear hq
          go_wp2_with fail
          go_quiet (fail)
          have hbq : Drew w (World.drewN _ nq) := hb.trans (Drew.n _ _)
          go_wp2_with fail
          go_ret
          rw [HN.out]
          exact ⟨rfl, hbq⟩
      · obtain rfl : k = len := by omega
        have HE : Hid (decide (xs = ys) = true) := by
          show decide (xs = ys) = true
          rw [decide_eq_true_eq]
          have := HA.out
          rwa [List.take_of_length_le (by rw [hL.out]; exact Nat.le_refl _), List.take_of_length_le (by rw [hL'.out]; exact Nat.le_refl _)] at this
        go_wp2_with fail
        go_ret
        rw [HE.out]
        exact ⟨rfl, hb⟩
  · have HN : Hid (decide (xs = ys) = false) := by
      show decide (xs = ys) = false
      rw [decide_eq_false_iff_not]
      intro h
      exact hne (by rw [← hL.out, ← hL'.out, h])
    have f1 : ((len : Int) == (len' : Int)) = false := by rw [beq_eq_false_iff_ne]; omega
    have f2 : (len == len') = false := by simpa using hne
    go_enter Try.func18, Try.ntmps18
    go_wp2_with fail
    go_ret
    rw [HN.out]
    exact ⟨rfl, Drew.refl _⟩

/-- The slice value holds these lists. -/
def RowL (B : Nat) (w : World) (A : Option Addr) (len : Nat) (ls : List (List Int)) : Prop :=
  ls.length = len ∧ ∃ f : Nat → Value, RowV B w A len f ∧ ∀ i, i < len → ∃ a n c, f i = .slice a n c ∧ n ≤ 9223372036854775807 ∧ RowI B w a n (ls.getD i [])

theorem RowL.step {w w' : World} {A : Option Addr} {len : Nat} {ls : List (List Int)} (h : RowL w.heap.size w A len ls) (b : Below w.heap.size w w') : RowL w'.heap.size w' A len ls := by
  obtain ⟨h1, f, h2, h3⟩ := h
  refine ⟨h1, f, (h2.below b).more b.size, fun i hi => ?_⟩
  obtain ⟨a, n, c, e, hn, hr⟩ := h3 i hi
  exact ⟨a, n, c, e, hn, hr.step b⟩

set_option maxHeartbeats 1000000 in
theorem rlists_any (A A' : Option Addr) (len len' cap cap' : Nat) (xs ys : List (List Int)) (w : World) (hr : RowL w.heap.size w A len xs) (hr' : RowL w.heap.size w A' len' ys) (hl : len ≤ 9223372036854775807) (hl' : len' ≤ 9223372036854775807) :
    Calls Try.prog 21 #[.slice A len cap, .slice A' len' cap'] w fun e w' => e = .returned (.bool (decide (xs = ys))) ∧ Drew w w' := by
  have HR := Lib.hid hr
  have HR' := Lib.hid hr'
  have hL := Lib.hid hr.1
  have hL' := Lib.hid hr'.1
  clear hr hr'
  by_cases hne : len = len'
  · subst hne
    go_enter Try.func21, Try.ntmps21
    go_wp2_with fail
    go_loopw [5] (fun i wr => ∃ k : Nat, k ≤ len ∧ i = .int .i64 k ∧ Hid (xs.take k = ys.take k) ∧ Drew w wr) (fun i _ => len - (intOf i).toNat)
    case atStart => exact ⟨0, Nat.zero_le _, rfl, rfl, Drew.refl _⟩
    case round =>
      rename_i wr
      obtain ⟨k, hk, rfl, HA, hb⟩ := hrel
      by_cases hlt : k < len
      · obtain ⟨h1, f, h2, h3⟩ := HR.out.step (hb.below _)
        obtain ⟨p, rfl, hp, hc⟩ := h2 (by omega)
        obtain ⟨a, n, c, hf, hn, hx⟩ := h3 k hlt
        have c1 := hc k hlt
        rw [hf] at c1
        obtain ⟨h1', f', h2', h3'⟩ := HR'.out.step (hb.below _)
        obtain ⟨p', rfl, hp', hc'⟩ := h2' (by omega)
        obtain ⟨a', n', c', hf', hn', hx'⟩ := h3' k hlt
        have c1' := hc' k hlt
        rw [hf'] at c1'
        have HS := Lib.hid (take_snoc xs [] k (by rw [hL.out]; exact hlt))
        have HS' := Lib.hid (take_snoc ys [] k (by rw [hL'.out]; exact hlt))
        have I := fun q => rints_any a a' n n' c c' _ _ (World.drewN _ q) (hx.step ((Drew.n _ q).below _)) (hx'.step ((Drew.n _ q).below _)) hn hn'
        clear hc hc' h2 h2' h3 h3' hx hx' hf hf' h1 h1'
        generalize xs.getD k [] = x at HS I
        generalize ys.getD k [] = y at HS' I
        by_cases hq : x = y
        · rw [show decide (x = y) = true by simpa using hq] at I
          have HE : Hid (xs.take (k + 1) = ys.take (k + 1)) := by show _ = _; rw [HS.out, HS'.out, HA.out, hq]
          clear hq
          have I := Lib.hid I
          go_wp2_with fail
          go_quiet ((go_at_call 18; exact Calls.quiet_of (I.out _)))
          have hbq : Drew w (World.drewN _ nq) := hb.trans (Drew.n _ _)
          go_wp2_with fail
          go_roundw
          case rel => exact ⟨k + 1, by omega, by go_num, HE, hbq⟩
          case measure => simp [intOf]; omega
        · have HN : Hid (decide (xs = ys) = false) := by show decide (xs = ys) = false; rw [decide_eq_false_iff_not]; exact take_differ HA.out HS.out HS'.out hq
          have I := fun q => (I q).mono (R' := fun e w' => e = .returned (.bool false) ∧ ∃ m, w' = (World.drewN _ q).drewN m) fun e w' h => by rw [show decide (x = y) = false by simpa using hq] at h; exact h
          clear hq
          have I := Lib.hid I
          go_wp2_with fail
          go_quiet ((go_at_call 18; exact Calls.quiet_of (I.out _)))
          have hbq : Drew w (World.drewN _ nq) := hb.trans (Drew.n _ _)
          go_wp2_with fail
          go_ret
          rw [HN.out]
          exact ⟨rfl, hbq⟩
      · obtain rfl : k = len := by omega
        have HE : Hid (decide (xs = ys) = true) := by
          show decide (xs = ys) = true
          rw [decide_eq_true_eq]
          have := HA.out
          rwa [List.take_of_length_le (by rw [hL.out]; exact Nat.le_refl _), List.take_of_length_le (by rw [hL'.out]; exact Nat.le_refl _)] at this
        go_wp2_with fail
        go_ret
        rw [HE.out]
        exact ⟨rfl, hb⟩
  · have HN : Hid (decide (xs = ys) = false) := by
      show decide (xs = ys) = false
      rw [decide_eq_false_iff_not]
      intro h
      exact hne (by rw [← hL.out, ← hL'.out, h])
    have f1 : ((len : Int) == (len' : Int)) = false := by rw [beq_eq_false_iff_ne]; omega
    have f2 : (len == len') = false := by simpa using hne
    go_enter Try.func21, Try.ntmps21
    go_wp2_with fail
    go_ret
    rw [HN.out]
    exact ⟨rfl, Drew.refl _⟩
end Go.Proofs.Ytdambggcaimndaa
