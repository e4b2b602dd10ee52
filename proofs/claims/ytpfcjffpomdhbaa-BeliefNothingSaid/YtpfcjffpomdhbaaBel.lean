/- Layer 8: what package belief is to return, as plain functions; the reference's Time, Valid, Has. -/
import Derived.OwnWalk
import Derived.Test.YtpfcjffpomdhbaaREl
namespace Go.Proofs.Ytpfcjffpomdhbaa
open Go.RowKit Go
set_option linter.unusedVariables false
set_option linter.unusedSimpArgs false

def TimeOk (n : Int) : Prop := 0 ≤ n ∧ n ≤ 3000000000000000
def IvOk (l h : Int) : Prop := 0 ≤ l ∧ l ≤ h ∧ h ≤ 3000000000000000
def BOk (p l h : Int) : Prop := TimeOk p ∧ IvOk l h
instance (n : Int) : Decidable (TimeOk n) := by unfold TimeOk; infer_instance
instance (l h : Int) : Decidable (IvOk l h) := by unfold IvOk; infer_instance
instance (p l h : Int) : Decidable (BOk p l h) := by unfold BOk; infer_instance

def blV (p l h : Int) : Value := .agg #[.int .i64 p, .int .i64 l, .int .i64 h]

def startR (a : Int) : Int × Int × Int × Int := if TimeOk a then (a, 0, 3000000000000000, 0) else (0, 0, 0, 1)
def atR (p l h r a : Int) : Int × Int × Int :=
  if BOk p l h ∧ RateOk r ∧ TimeOk a then
    (if a < p then (0, 0, 30)
     else if StretchOk (a - p) then (min 3000000000000000 (l + elLo r (a - p)), min 3000000000000000 (h + elHi r (a - p)), 0) else (0, 0, 3))
  else (0, 0, 1)
def advR (p l h r a : Int) : Int × Int × Int × Int :=
  if (atR p l h r a).2.2 = 0 then (a, (atR p l h r a).1, (atR p l h r a).2.1, 0) else (0, 0, 0, (atR p l h r a).2.2)
def meetR (p l h i j : Int) : Int × Int × Int × Bool × Int :=
  if BOk p l h ∧ IvOk i j then (if max l i ≤ min h j then (p, max l i, min h j, true, 0) else (p, l, h, false, 0)) else (0, 0, 0, false, 1)
def wrsR (l h s : Int) : Int × Int := if IvOk l h ∧ TimeOk s then (max (s - l) (h - s), 0) else (0, 1)

theorem Three.free {w : World} {g : Nat} {t : TypeId} {u v x : Value} (h : Three w g t u v x) (i : Nat) : w.frozen? ⟨g, i, none⟩ = false := by
  unfold Three at h
  simp [World.frozen?, h]
section
variable {w : World} {g : Nat} {t : TypeId} {u v x : Value}
theorem Three.set0 (h : Three w g t u v x) (z : Value) : Three (w.setCell ⟨g, 0, none⟩ z) g t z v x := by
  unfold Three at h ⊢
  simp [World.setCell, Array.getElem?_modify, h]
theorem Three.set1 (h : Three w g t u v x) (z : Value) : Three (w.setCell ⟨g, 1, none⟩ z) g t u z x := by
  unfold Three at h ⊢
  simp [World.setCell, Array.getElem?_modify, h]
theorem Three.set2 (h : Three w g t u v x) (z : Value) : Three (w.setCell ⟨g, 2, none⟩ z) g t u v z := by
  unfold Three at h ⊢
  simp [World.setCell, Array.getElem?_modify, h]
end

theorem rtime_any (x : Int) (q : Bool) (hq : q = true ↔ TimeOk x) (h1 : I64 x) (w : World) :
    Calls Try.prog 28 #[.int .i64 x] w fun e w' => e = .returned (.bool q) ∧ w = w' := by
  have hd : q = decide (0 ≤ x ∧ x ≤ 3000000000000000) := by rw [Bool.eq_iff_iff, decide_eq_true_iff]; exact hq
  obtain ⟨h1, h2⟩ := h1
  subst hd
  clear hq
  go_enter Try.func28, Try.ntmps28
  by_cases h : 0 ≤ x
  · go_wp2_with fail
    go_ret
    exact ⟨by simp_all <;> omega, rfl⟩
  · go_wp2_with fail
    go_ret
    exact ⟨by simp_all <;> omega, rfl⟩

theorem rvalid_any (l h : Int) (q : Bool) (hq : q = true ↔ IvOk l h) (w : World) :
    Calls Try.prog 26 #[rgV l h] w (Gives (.bool q) w) := by
  have hd : q = decide (0 ≤ l ∧ l ≤ h ∧ h ≤ 3000000000000000) := by rw [Bool.eq_iff_iff, decide_eq_true_iff]; exact hq
  subst hd
  clear hq
  unfold rgV
  obtain ⟨W, hW⟩ : ∃ W, w.alloc (.cells #[.int .i64 l, .int .i64 h] 23) = W := ⟨_, rfl⟩
  have T0 : Two W w.heap.size 23 (.int .i64 l) (.int .i64 h) := by rw [← hW]; exact Two.new w _ _ _
  have hb : Hid (Below w.heap.size w W) := by rw [← hW]; exact below_alloc w _
  have t0 := T0.c0
  have t1 := T0.c1
  have t4 := T0.lt
  clear T0
  rcases (by omega : l < 0 ∨ (0 ≤ l ∧ h < l) ∨ (0 ≤ l ∧ l ≤ h)) with c | ⟨c, c2⟩ | ⟨c, c2⟩
  · have d0 : decide (0 ≤ l) = false := by simp; omega
    go_enter Try.func26, Try.ntmps26
    go_wp2_with fail
    go_ret
    exact ⟨by simp; omega, hb.out⟩
  · have d0 : decide (0 ≤ l) = true := by simp; omega
    have d1 : decide (l ≤ h) = false := by simp; omega
    go_enter Try.func26, Try.ntmps26
    go_wp2_with fail
    go_ret
    exact ⟨by simp; omega, hb.out⟩
  · have d0 : decide (0 ≤ l) = true := by simp; omega
    have d1 : decide (l ≤ h) = true := by simp; omega
    go_enter Try.func26, Try.ntmps26
    go_wp2_with fail
    go_ret
    exact ⟨by simp [c, c2], hb.out⟩

def hasR (l h x : Int) : Bool := decide (l ≤ x) && decide (x ≤ h)
theorem rhas_any (l h x : Int) (w : World) :
    Calls Try.prog 25 #[rgV l h, .int .i64 x] w (Gives (.bool (hasR l h x)) w) := by
  unfold rgV
  obtain ⟨W, hW⟩ : ∃ W, w.alloc (.cells #[.int .i64 l, .int .i64 h] 23) = W := ⟨_, rfl⟩
  have T0 : Two W w.heap.size 23 (.int .i64 l) (.int .i64 h) := by rw [← hW]; exact Two.new w _ _ _
  have hb : Hid (Below w.heap.size w W) := by rw [← hW]; exact below_alloc w _
  have t0 := T0.c0
  have t1 := T0.c1
  have t4 := T0.lt
  clear T0
  by_cases c : l ≤ x
  · have d0 : decide (l ≤ x) = true := by simp; omega
    go_enter Try.func25, Try.ntmps25
    go_wp2_with fail
    go_ret
    exact ⟨by simp [hasR, c], hb.out⟩
  · have d0 : decide (l ≤ x) = false := by simp; omega
    go_enter Try.func25, Try.ntmps25
    go_wp2_with fail
    go_ret
    exact ⟨by simp [hasR, d0], hb.out⟩

/-- The reference's Valid of a belief. -/
theorem rbel_any (p l h : Int) (q : Bool) (hq : q = true ↔ BOk p l h) (hp : I64 p) (w : World) :
    Calls Try.prog 22 #[blV p l h] w (Gives (.bool q) w) := by
  obtain ⟨q1, hq1⟩ : ∃ q1 : Bool, q1 = decide (TimeOk p) := ⟨_, rfl⟩
  obtain ⟨q2, hq2⟩ : ∃ q2 : Bool, q2 = decide (IvOk l h) := ⟨_, rfl⟩
  have K1 := Lib.hid (rtime_any p q1 (by simp [hq1]) hp)
  have K2 := Lib.hid (rvalid_any l h q2 (by simp [hq2]))
  have HQ : Hid (q = (q1 && q2)) := by
    unfold Hid
    rw [Bool.eq_iff_iff, hq, hq1, hq2]
    simp [BOk]
  clear hq hq1 hq2 hp
  unfold rgV at K2
  unfold blV
  obtain ⟨W, hW⟩ : ∃ W, w.alloc (.cells #[.int .i64 p, .int .i64 l, .int .i64 h] 25) = W := ⟨_, rfl⟩
  have T0 : Three W w.heap.size 25 (.int .i64 p) (.int .i64 l) (.int .i64 h) := by rw [← hW]; exact Three.new w _ _ _ _
  have hb : Hid (Below w.heap.size w W) := by rw [← hW]; exact below_alloc w _
  have t0 := T0.c0
  have t1 := T0.c1
  have t2 := T0.c2
  have t4 := T0.lt
  clear T0
  cases q1 with
  | true =>
    go_enter Try.func22, Try.ntmps22
    go_wp2_with (first
      | (go_at_call 28; (with_reducible refine (K1.out _).mono ?_); rintro e w' ⟨rfl, rfl⟩)
      | (go_at_call 26; (with_reducible refine (K2.out _).mono ?_); rintro e w2 ⟨rfl, b2⟩; have B2 := Lib.hid (below_more hb.out b2); clear b2))
    go_ret
    exact ⟨by rw [HQ.out]; rfl, B2.out⟩
  | false =>
    go_enter Try.func22, Try.ntmps22
    go_wp2_with (first
      | (go_at_call 28; (with_reducible refine (K1.out _).mono ?_); rintro e w' ⟨rfl, rfl⟩)
      | (go_at_call 26; (with_reducible refine (K2.out _).mono ?_); rintro e w2 ⟨rfl, b2⟩; have B2 := Lib.hid (below_more hb.out b2); clear b2))
    go_ret
    exact ⟨by rw [HQ.out]; rfl, B2.out⟩
end Go.Proofs.Ytpfcjffpomdhbaa
