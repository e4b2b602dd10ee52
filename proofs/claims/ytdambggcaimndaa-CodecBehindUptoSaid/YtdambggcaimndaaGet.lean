/- Layer 4: Get. -/
import Derived.Test.YtdambggcaimndaaAttempt
namespace Go.Proofs.Ytdambggcaimndaa
open Go.RowKit Go.Sort Go
set_option linter.unusedVariables false

def GetEnd (o : Option (List Int)) (w : World) (e : Ending) (w' : World) : Prop :=
  Below w.heap.size w w' ∧ match o with
    | some l => ∃ v, e = .returned (.tuple #[v, .int .i64 0]) ∧ OwnI w.heap.size w' v l
    | none => e = .returned (.tuple #[.slice none 0 0, .int .i64 7])

theorem two_none (w : World) : w.grownBy (two w) none := by
  have h1 := World.grownBy_alloc w (.cells #[.slice none 0 0] 22) none
  have h2 := World.grownBy_alloc (w.alloc (.cells #[.slice none 0 0] 22)) (.cells #[.int .i64 0] 26) none
  exact grown_trans h1 h2
theorem two_size (w : World) : (two w).heap.size = w.heap.size + 2 := by simp [two]
theorem below_none {a b : World} (h : a.grownBy b none) : Below a.heap.size a b := ⟨h.os, h.tape, h.output, h.size, fun k hk => h.block k hk (by simp)⟩
theorem below_new {a b : World} {g : Nat} (h : a.grownBy b (some g)) (B : Nat) (hB : B ≤ g) (hB2 : B ≤ a.heap.size) : Below B a b := ⟨h.os, h.tape, h.output, h.size, fun k hk => h.block k (by omega) (fun e => by injection e with e; omega)⟩
theorem own_i_slice {w : World} {B : Nat} {v : Value} {zs : List Int} (h : OwnI B w v zs) : ∃ A n c, v = .slice A n c := by
  rcases h.2 with ⟨e, _⟩ | ⟨g, cap, cur, e, _⟩
  · exact ⟨_, _, _, e⟩
  · exact ⟨_, _, _, e⟩
theorem row8_below {w w' : World} {B : Nat} {A : Option Addr} {n : Nat} {bs : List UInt8} (h : Row8 B w A n bs) (b : Below B w w') (hB : B ≤ w.heap.size) : Row8 w'.heap.size w' A n bs :=
  ⟨h.1, (h.2.below b).more (Nat.le_trans hB b.size)⟩
theorem row8_old {w : World} {B g : Nat} {A : Option Addr} {n : Nat} {bs : List UInt8} (h : Row8 B w A n bs) (hg : B ≤ g) : 0 < n → ∀ p, A = some p → p.block ≠ g := fun hn p e => by
  obtain ⟨q, e2, hq, _⟩ := h.2 hn
  rw [e] at e2
  injection e2 with e2
  subst e2
  omega

theorem get_any (A : Option Addr) (n cap : Nat) (bs : List UInt8) (w : World) (hr : Row8 w.heap.size w A n bs) (hn : n ≤ 1000000000) (hc : n ≤ cap) :
    Calls Try.prog 16 #[.slice A n cap] w (GetEnd (getR bs) w) := by
  have hmf : ∀ (fn : Fn) (first cap : Array Value) (w : World), (Instr.makeFunc fn first cap).run Try.prog w = .ok (.func fn first cap) w := fun _ _ _ _ => rfl
  obtain ⟨W, hW, hz, hb, hrd⟩ : ∃ W, w.alloc (.cells #[.slice A n cap, .int .i64 0] 50) = W ∧ W.heap.size = w.heap.size + 1 ∧ w.grownBy W none ∧ Rd W w.heap.size A n cap 0 := ⟨_, rfl, by simp, World.grownBy_alloc _ _ _, Rd.new w A n cap⟩
  have hgW : w.heap.size < W.heap.size := by omega
  have hbw : Below w.heap.size w (two W) := below_none (grown_trans hb (two_none W))
  have hr2 : Row8 (two W).heap.size (two W) A n bs := row8_below hr hbw (Nat.le_refl _)
  have hrd2 : Rd (two W) w.heap.size A n cap 0 := hrd.keep (two_none W) (fun j e => by cases e)
  have T := whole_any w.heap.size A n cap 0 bs (two W) hrd2 hr2 (row8_old hr (Nat.le_refl _)) hn hc (by omega)
  rw [List.drop_zero] at T
  cases hq : getR bs with
  | none =>
    rw [hq] at T
    have T := Lib.hid (attempt_no 31 w.heap.size W (fun _ _ => by simp [go_sem]) hgW (T.mono fun e w' h => ⟨h.2, h.1⟩))
    have HB := Lib.hid hb
    have HW := Lib.hid hW
    clear hbw hr2 hrd2 hrd hb hr hW hq
    go_enter Try.func16, Try.ntmps16
    go_wp2_with fail
    rw [HW.out]
    refine T.out.mono ?_
    rintro e w1 ⟨rfl, b1⟩
    have B1 := Lib.hid b1
    clear b1
    go_wp2_with fail
    go_ret2
    exact ⟨below_new (grown_trans (grown_none HB.out w.heap.size) B1.out) _ (Nat.le_refl _) (Nat.le_refl _), rfl⟩
  | some l =>
    rw [hq] at T
    have T := Lib.hid (attempt_ok 31 w.heap.size W (fun w' A n c => OwnI (two W).heap.size w' (.slice A n c) l) (fun _ _ => by simp [go_sem]) hgW (T.mono fun e w' h => by
      obtain ⟨h1, v, rfl, h2⟩ := h
      obtain ⟨A', n', c', rfl⟩ := own_i_slice h2
      exact ⟨A', n', c', rfl, h1, h2⟩))
    have HB := Lib.hid hb
    have HW := Lib.hid hW
    have HZ := Lib.hid hz
    clear hbw hr2 hrd2 hrd hb hr hW hq hz
    go_enter Try.func16, Try.ntmps16
    go_wp2_with fail
    rw [HW.out]
    refine T.out.mono ?_
    rintro e w1 ⟨A', n', c', w3, rfl, b1, b3, o3, e1⟩
    have B1 := Lib.hid b1
    have O1 : Hid (OwnI w.heap.size w1 (.slice A' n' c') l) := by
      have h2 := two_size W
      have h3 := HZ.out
      rw [e1]
      exact ownI_base (ownsRow_setCell_below (ownsRow_setCell_below o3 (by simp only; omega) _) (by simp only; omega) _) (by omega)
    clear b1 b3 o3 e1
    go_wp2_with fail
    go_ret2
    exact ⟨below_new (grown_trans (grown_none HB.out w.heap.size) B1.out) _ (Nat.le_refl _) (Nat.le_refl _), _, rfl, O1.out⟩
end Go.Proofs.Ytdambggcaimndaa
