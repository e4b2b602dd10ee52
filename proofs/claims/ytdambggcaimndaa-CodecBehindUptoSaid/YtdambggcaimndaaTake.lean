/- Layer 4: the reader: take. -/
import Derived.Deep.RegionLaw
import Derived.Deep.QuietTactic
import Derived.BigQuiet
import Derived.WalkSmall
import Derived.Test.YtdambggcaimndaaApps
import Derived.Test.YtdambggcaimndaaInt
namespace Go.Proofs.Ytdambggcaimndaa
open Go.RowKit Go.Sort Go
set_option linter.unusedVariables false

/-- A reader lies in block g: over a slice, at a place. -/
def Rd (w : World) (g : Nat) (A : Option Addr) (n cap at_ : Nat) : Prop := w.heap[g]? = some (.cells #[.slice A n cap, .int .i64 at_] 50 (0, 0))

/-- The panic with ErrForm. -/
def form : List PanicEntry := [{ v := .iface 26 (.int .i64 7), recovered := false }]

theorem Rd.lt {w : World} {g : Nat} {A : Option Addr} {n cap at_ : Nat} (h : Rd w g A n cap at_) : g < w.heap.size := (Array.getElem?_eq_some_iff.1 h).1
theorem Rd.c0 {w : World} {g : Nat} {A : Option Addr} {n cap at_ : Nat} (h : Rd w g A n cap at_) : w.cell? ⟨g, 0, none⟩ = some (.slice A n cap) := by
  unfold Rd at h; simp [World.cell?, h]
theorem Rd.c1 {w : World} {g : Nat} {A : Option Addr} {n cap at_ : Nat} (h : Rd w g A n cap at_) : w.cell? ⟨g, 1, none⟩ = some (.int .i64 at_) := by
  unfold Rd at h; simp [World.cell?, h]
theorem Rd.fz {w : World} {g : Nat} {A : Option Addr} {n cap at_ : Nat} (h : Rd w g A n cap at_) (o : Nat) : w.frozen? ⟨g, o, none⟩ = false := by
  unfold Rd at h; simp [World.frozen?, h]

theorem take_no (g : Nat) (A : Option Addr) (n cap at_ k : Nat) (w : World) (h : Rd w g A n cap at_) (hn : n ≤ 1000000000) (ha : at_ ≤ n) (hk : n - at_ < k) (hk2 : k ≤ 1000000000) :
    Calls Try.prog 41 #[.pointer (some ⟨g, 0, none⟩), .int .i64 k] w fun e w' => e = .panicked form ∧ w.grownBy w' none := by
  have c0 := h.c0
  have c1 := h.c1
  clear h
  have e1 : IntKind.i64.wrap ((n : Int) - (at_ : Int)) = (n : Int) - at_ := IntWalk.i64_in _ (by omega)
  have e2 : decide ((n : Int) - at_ < (k : Int)) = true := by rw [decide_eq_true_eq]; omega
  go_enter Try.func41, Try.ntmps41
  go_wp2_with fail
  go_region
  go_wp2_with fail
  exact ⟨rfl, rfl, rfl, rfl, rfl, Nat.le_refl _, fun _ _ _ => rfl⟩

theorem Rd.set {w : World} {g : Nat} {A : Option Addr} {n cap at_ : Nat} (h : Rd w g A n cap at_) (m : Nat) : Rd (w.setCell ⟨g, 1, none⟩ (.int .i64 m)) g A n cap m := by
  unfold Rd at h ⊢
  have hl := (Array.getElem?_eq_some_iff.1 h).1
  show (w.heap.modify g _)[g]? = _
  rw [Array.getElem?_modify, if_pos rfl, h]
  rfl
theorem grown_set (w : World) (g o : Nat) (v : Value) : w.grownBy (w.setCell ⟨g, o, none⟩ v) (some g) :=
  ⟨rfl, rfl, rfl, by simp [World.setCell], fun k hk hne => Below.heap_setCell _ _ _ _ (fun e => hne (by rw [e]))⟩

theorem take_ok (g : Nat) (p : Addr) (n cap at_ k : Nat) (w : World) (h : Rd w g (some p) n cap at_) (hn : n ≤ 1000000000) (hc : n ≤ cap) (hk : at_ + k ≤ n) :
    Calls Try.prog 41 #[.pointer (some ⟨g, 0, none⟩), .int .i64 k] w fun e w' => ∃ q, e = .returned (.slice (some q) k k) ∧ (q = p.add at_ ∨ k = 0) ∧ w.grownBy w' (some g) ∧ Rd w' g (some p) n cap (at_ + k : Nat) ∧ q.block = p.block := by
  have c0 := h.c0
  have c1 := h.c1
  have f1 := h.fz 1
  have HR := Lib.hid (h.set (at_ + k))
  have e0 : ((at_ + k : Nat) : Int) = (at_ : Int) + k := by omega
  rw [e0] at HR
  clear h e0
  have e1 : IntKind.i64.wrap ((n : Int) - (at_ : Int)) = (n : Int) - at_ := IntWalk.i64_in _ (by omega)
  have e2 : decide ((n : Int) - at_ < (k : Int)) = false := by rw [decide_eq_false_iff_not]; omega
  have e3 : IntKind.i64.wrap ((at_ : Int) + (k : Int)) = (at_ : Int) + k := IntWalk.i64_in _ (by omega)
  have HG := Lib.hid (grown_set w g 1 (.int .i64 ((at_ : Int) + k)))
  rcases Nat.eq_zero_or_pos k with rfl | hk0
  · simp only [Int.natCast_zero, Int.add_zero, Nat.add_zero] at HR HG e3
    go_enter Try.func41, Try.ntmps41
    go_wp2_with fail
    go_region
    go_wp2_with fail
    go_region
    go_wp2_with fail
    go_ret
    exact ⟨p, rfl, .inr trivial, ⟨HG.out.os, HG.out.tape, HG.out.output, HG.out.size, HG.out.block⟩, HR.out, rfl⟩
  · have hk1 : ¬ k = 0 := by omega
    have hk2 : ¬ at_ + k = at_ := by omega
    have hk3 : at_ + k - at_ = k := by omega
    go_enter Try.func41, Try.ntmps41
    go_wp2_with fail
    go_region
    go_wp2_with fail
    go_region
    go_wp2_with fail
    go_ret
    refine ⟨p.add at_, congrArg Ending.returned (by show Value.slice _ (at_ + k - at_) (at_ + k - at_) = _; rw [hk3]), .inl rfl, ⟨HG.out.os, HG.out.tape, HG.out.output, HG.out.size, HG.out.block⟩, HR.out, block_of_add _ _⟩

theorem RowV.cut {B : Nat} {w : World} {p q : Addr} {n k at_ : Nat} {bs : List UInt8} (h : Row8 B w (some p) n bs) (hk : at_ + k ≤ n) (hq : q = p.add at_ ∨ k = 0) : Row8 B w (some q) k ((bs.drop at_).take k) := by
  have hl := h.1
  refine ⟨by simp; omega, fun h0 => ?_⟩
  obtain ⟨p', e, hb, hc⟩ := h.2 (by omega)
  injection e with e
  subst e
  rcases hq with rfl | hq
  · refine ⟨_, rfl, by rw [block_of_add]; exact hb, fun i hi => ?_⟩
    rw [Addr.add_add, hc (at_ + i) (by omega)]
    have e1 : ((bs.drop at_).take k).getD i 0 = bs.getD (at_ + i) 0 := by
      simp [List.getD, hi]
    simp only [e1]
  · omega
end Go.Proofs.Ytdambggcaimndaa
