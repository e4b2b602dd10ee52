/- Layer 4: attempt: what a reader's panic becomes. -/
import Derived.Tactics
import Derived.Tactics2
import Derived.Defers
import Derived.Recover
import Derived.Laws.Pointers
import Derived.Test.YtdambggcaimndaaFrame
namespace Go.Proofs.Ytdambggcaimndaa
open Go.RowKit Go.Sort Go
set_option linter.unusedVariables false

theorem catch_form (p q : Addr) (x y : Value) (w : World) (hx : w.cell? p = some x) (hx1 : ∃ A n c, x = .slice A n c) (hy : w.cell? q = some y) (hy1 : ∃ n : Int, y = .int .i64 n) (fp : w.frozen? p = false) (fq : w.frozen? q = false) (hpq : p.block ≠ q.block) :
    CallsD Try.prog 38 #[.pointer (some p), .pointer (some q)] (.panicking form) w fun e u' w' =>
      e = .returned (.tuple #[]) ∧ u' = .panicking [{ v := .iface 26 (.int .i64 7), recovered := true }] ∧ w' = (w.setCell p (.slice none 0 0)).setCell q (.int .i64 7) := by
  obtain ⟨A, n, c, rfl⟩ := hx1
  obtain ⟨m, rfl⟩ := hy1
  have hq2 : (w.setCell p (.slice none 0 0)).cell? q = some (.int .i64 m) := by rw [World.cell?_setCell_other _ _ _ _ (fun e => hpq (by rw [e]))]; exact hy
  have fq2 : (w.setCell p (.slice none 0 0)).frozen? q = false := by rw [World.frozen?_setCell]; exact fq
  refine callsD_of_wpS Try.func38 rfl fun c₀ cs hu => ?_
  apply wpS_seq
  apply wpS_region
  simp [wpOpsS, go_sem, recoverD, hu, form, Try.ntmps38, Exit.thenS]
  refine wpS_cond (t := true) (by simp [Act.eval, Array.replicate]) ?_
  simp only [if_true]
  apply wpS_region
  simp [wpOpsS, go_sem, hx, fp, hq2, fq2, bodyPostS, results, Try.results38]

theorem catch_idle (p q : Addr) (w : World) :
    CallsD Try.prog 38 #[.pointer (some p), .pointer (some q)] .returning w fun e u' w' => e = .returned (.tuple #[]) ∧ u' = .returning ∧ w' = w := by
  refine callsD_of_wpS Try.func38 rfl fun c₀ cs hu => ?_
  apply wpS_seq
  apply wpS_region
  simp [wpOpsS, go_sem, recoverD, hu, Try.ntmps38, Exit.thenS]
  refine wpS_cond (t := false) (by simp [Act.eval, Array.replicate]) ?_
  simp only [Bool.false_eq_true, if_false]
  refine wpS_of_wp (wp_skip ?_)
  cases c₀
  simp_all [bodyPostS, results, Try.results38]

/-- The two named results. -/
noncomputable def two (w : World) : World := (w.alloc (.cells #[.slice none 0 0] 22)).alloc (.cells #[.int .i64 0] 26)

theorem two_cells (w w1 : World) (g : Nat) (hg : g < w.heap.size) (h : (two w).grownBy w1 (some g)) :
    w1.cell? ⟨w.heap.size, 0, none⟩ = some (.slice none 0 0) ∧ w1.cell? ⟨w.heap.size + 1, 0, none⟩ = some (.int .i64 0) ∧ w1.frozen? ⟨w.heap.size, 0, none⟩ = false ∧ w1.frozen? ⟨w.heap.size + 1, 0, none⟩ = false ∧ w.heap.size + 2 ≤ w1.heap.size ∧ w.grownBy w1 (some g) := by
  have hz : (two w).heap.size = w.heap.size + 2 := by simp [two]
  have b0 : (two w).heap[w.heap.size]? = some (.cells #[.slice none 0 0] 22 (0, 0)) := by
    unfold two
    rw [Below.heap_alloc _ _ _ (by simp)]
    exact heap_alloc_new w _
  have b1 : (two w).heap[w.heap.size + 1]? = some (.cells #[.int .i64 0] 26 (0, 0)) := by
    have := heap_alloc_new (w.alloc (.cells #[.slice none 0 0] 22)) (.cells #[.int .i64 0] 26)
    rw [World.size_alloc] at this
    exact this
  have c0 := (h.block w.heap.size (by omega) (fun e => by injection e with e; omega)).trans b0
  have c1 := (h.block (w.heap.size + 1) (by omega) (fun e => by injection e with e; omega)).trans b1
  refine ⟨by simp [World.cell?, c0], by simp [World.cell?, c1], by simp [World.frozen?, c0], by simp [World.frozen?, c1], by have := h.size; omega, ?_⟩
  have k0 : w.grownBy (two w) none := by
    have h1 := World.grownBy_alloc w (.cells #[.slice none 0 0] 22) none
    have h2 := World.grownBy_alloc (w.alloc (.cells #[.slice none 0 0] 22)) (.cells #[.int .i64 0] 26) none
    exact grown_trans h1 h2
  exact grown_trans (grown_none k0 g) h
theorem grown_set_new {a b : World} {g : Nat} (h : a.grownBy b (some g)) (p : Addr) (hp : a.heap.size ≤ p.block) (v : Value) : a.grownBy (b.setCell p v) (some g) :=
  ⟨h.os, h.tape, h.output, by simp [World.setCell]; exact h.size, fun k hk hne => (Below.heap_setCell _ _ _ _ (by omega)).trans (h.block k hk hne)⟩

theorem attempt_no (N g : Nat) (w : World) (hN : ∀ args w, (callFunc N args).run Try.prog w = .ok (.enter N args) w) (hg : g < w.heap.size) (T : Calls Try.prog N #[.pointer (some ⟨g, 0, none⟩)] (two w) fun e w' => e = .panicked form ∧ (two w).grownBy w' (some g)) :
    Calls Try.prog 30 #[.func (.func N) #[.pointer (some ⟨g, 0, none⟩)] #[]] w fun e w' => e = .returned (.tuple #[.slice none 0 0, .int .i64 7]) ∧ w.grownBy w' (some g) := by
  have hmf : ∀ (fn : Fn) (first cap : Array Value) (w : World), (Instr.makeFunc fn first cap).run Try.prog w = .ok (.func fn first cap) w := fun _ _ _ _ => rfl
  have HT := Lib.hid T
  clear T
  go_enter_defers Try.func30, Try.ntmps30
  go_wp2_with fail
  refine HT.out.mono ?_
  rintro e w1 ⟨rfl, b1⟩
  obtain ⟨c0, c1, f0, f1, hz, b2⟩ := two_cells w w1 g hg b1
  have B2 := Lib.hid b2
  clear b1 b2
  go_wp2_with fail
  refine leaves_cons (f := 38) (args := #[.pointer (some ⟨w.heap.size, 0, none⟩), .pointer (some ⟨w.heap.size + 1, 0, none⟩)]) (by simp) (by simp [go_sem]) ?_
  refine (catch_form ⟨w.heap.size, 0, none⟩ ⟨w.heap.size + 1, 0, none⟩ _ _ _ c0 ⟨_, _, _, rfl⟩ c1 ⟨_, rfl⟩ f0 f1 (by simp)).mono ?_
  rintro e u' w'' ⟨rfl, rfl, rfl⟩
  have g0 : (w1.setCell ⟨w.heap.size, 0, none⟩ (.slice none 0 0)).cell? ⟨w.heap.size + 1, 0, none⟩ = some (.int .i64 0) := by rw [World.cell?_setCell_other _ _ _ _ (by simp)]; exact c1
  have e0 : ((w1.setCell ⟨w.heap.size, 0, none⟩ (.slice none 0 0)).setCell ⟨w.heap.size + 1, 0, none⟩ (.int .i64 7)).cell? ⟨w.heap.size, 0, none⟩ = some (.slice none 0 0) := by
    rw [World.cell?_setCell_other _ _ _ _ (by simp)]
    exact World.cell?_setCell_same' _ _ _ (by rw [c0]; rfl)
  have e1 : ((w1.setCell ⟨w.heap.size, 0, none⟩ (.slice none 0 0)).setCell ⟨w.heap.size + 1, 0, none⟩ (.int .i64 7)).cell? ⟨w.heap.size + 1, 0, none⟩ = some (.int .i64 7) := World.cell?_setCell_same' _ _ _ (by rw [g0]; rfl)
  simp [Leaves, settle, results, Try.results30, go_sem, e0, e1]
  exact grown_set_new (grown_set_new B2.out _ (Nat.le_refl _) _) _ (Nat.le_succ _) _

/-- What the two named results hold at the end. -/
theorem attempt_ok (N g : Nat) (w : World) (R : World → Option Addr → Nat → Nat → Prop) (hN : ∀ args w, (callFunc N args).run Try.prog w = .ok (.enter N args) w) (hg : g < w.heap.size)
    (T : Calls Try.prog N #[.pointer (some ⟨g, 0, none⟩)] (two w) fun e w' => ∃ A n c, e = .returned (.slice A n c) ∧ (two w).grownBy w' (some g) ∧ R w' A n c) :
    Calls Try.prog 30 #[.func (.func N) #[.pointer (some ⟨g, 0, none⟩)] #[]] w fun e w' => ∃ A n c w1, e = .returned (.tuple #[.slice A n c, .int .i64 0]) ∧ w.grownBy w' (some g) ∧ (two w).grownBy w1 (some g) ∧ R w1 A n c ∧ w' = (w1.setCell ⟨w.heap.size, 0, none⟩ (.slice A n c)).setCell ⟨w.heap.size + 1, 0, none⟩ (.int .i64 0) := by
  have hmf : ∀ (fn : Fn) (first cap : Array Value) (w : World), (Instr.makeFunc fn first cap).run Try.prog w = .ok (.func fn first cap) w := fun _ _ _ _ => rfl
  have HT := Lib.hid T
  clear T
  go_enter_defers Try.func30, Try.ntmps30
  go_wp2_with fail
  refine HT.out.mono ?_
  rintro e w1 ⟨A, n, c, rfl, b1, hR⟩
  obtain ⟨c0, c1, f0, f1, hz, b2⟩ := two_cells w w1 g hg b1
  have B2 := Lib.hid b2
  have B1 := Lib.hid b1
  have HR := Lib.hid hR
  clear b1 b2 hR
  have g0 : (w1.setCell ⟨w.heap.size, 0, none⟩ (.slice A n c)).cell? ⟨w.heap.size + 1, 0, none⟩ = some (.int .i64 0) := by rw [World.cell?_setCell_other _ _ _ _ (by simp)]; exact c1
  have g1 : (w1.setCell ⟨w.heap.size, 0, none⟩ (.slice A n c)).frozen? ⟨w.heap.size + 1, 0, none⟩ = false := by rw [World.frozen?_setCell]; exact f1
  go_wp2_with fail
  refine leaves_cons (f := 38) (args := #[.pointer (some ⟨w.heap.size, 0, none⟩), .pointer (some ⟨w.heap.size + 1, 0, none⟩)]) (by simp) (by simp [go_sem]) ?_
  refine (catch_idle ⟨w.heap.size, 0, none⟩ ⟨w.heap.size + 1, 0, none⟩ _).mono ?_
  rintro e u' w'' ⟨rfl, rfl, rfl⟩
  have e0 : ((w1.setCell ⟨w.heap.size, 0, none⟩ (.slice A n c)).setCell ⟨w.heap.size + 1, 0, none⟩ (.int .i64 0)).cell? ⟨w.heap.size, 0, none⟩ = some (.slice A n c) := by
    rw [World.cell?_setCell_other _ _ _ _ (by simp)]
    exact World.cell?_setCell_same' _ _ _ (by rw [c0]; rfl)
  have e1 : ((w1.setCell ⟨w.heap.size, 0, none⟩ (.slice A n c)).setCell ⟨w.heap.size + 1, 0, none⟩ (.int .i64 0)).cell? ⟨w.heap.size + 1, 0, none⟩ = some (.int .i64 0) := World.cell?_setCell_same' _ _ _ (by rw [g0]; rfl)
  have fin : w.grownBy ((w1.setCell ⟨w.heap.size, 0, none⟩ (.slice A n c)).setCell ⟨w.heap.size + 1, 0, none⟩ (.int .i64 0)) (some g) := grown_set_new (grown_set_new B2.out _ (Nat.le_refl _) _) _ (Nat.le_succ _) _
  have B1 := B1.out
  have HR := HR.out
  refine ⟨_, ?_, A, n, c, w1, rfl, fin, B1, HR, rfl⟩
  simp [results, Try.results30, go_sem, e0, e1]
end Go.Proofs.Ytdambggcaimndaa
