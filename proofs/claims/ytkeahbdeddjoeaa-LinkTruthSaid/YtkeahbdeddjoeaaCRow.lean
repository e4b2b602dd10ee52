/- Layer 10: delays in a row of cells; found: what LinkChanges' loop holds. -/
import Derived.Laws.StructEq
import Derived.ChangeKeysEq
import Derived.Test.YtkeahbdeddjoeaaAppG
import Derived.Test.YtkeahbdeddjoeaaCMath
import Derived.Test.YtkeahbdeddjoeaaRLink
namespace Go.Proofs.Ytkeahbdeddjoeaa
open Go.RowKit Go
set_option linter.unusedVariables false
set_option linter.unusedSimpArgs false

def cellsC (l : List Ch) : List Value := l.flatMap fun s => [.int .i64 s.t, .int .i64 s.a, .int .i64 s.b, .int .i64 s.c, .int .i64 s.d]
theorem cellsC_len (l : List Ch) : (cellsC l).length = l.length * 5 := by
  induction l with
  | nil => rfl
  | cons x r ih =>
    have : cellsC (x :: r) = [.int .i64 x.t, .int .i64 x.a, .int .i64 x.b, .int .i64 x.c, .int .i64 x.d] ++ cellsC r := rfl
    rw [this, List.length_append, ih, List.length_cons]
    simp; omega
theorem cellsC_app (l m : List Ch) : cellsC (l ++ m) = cellsC l ++ cellsC m := by unfold cellsC; rw [List.flatMap_append]
def chCell (s : Ch) (r : Nat) : Value := .int .i64 (match r with | 0 => s.t | 1 => s.a | 2 => s.b | 3 => s.c | _ => s.d)
theorem cellsC_at : ∀ (l : List Ch) (i r : Nat), i < l.length → r < 5 → (cellsC l)[i * 5 + r]? = some (chCell (l.getD i Ch.nil) r)
  | [], i, r, h, _ => by simp at h
  | x :: l, 0, r, _, hr => by
    have e : cellsC (x :: l) = [.int .i64 x.t, .int .i64 x.a, .int .i64 x.b, .int .i64 x.c, .int .i64 x.d] ++ cellsC l := rfl
    rw [e, Nat.zero_mul, Nat.zero_add, List.getElem?_append, if_pos (by simpa using hr)]
    match r, hr with
    | 0, _ => rfl
    | 1, _ => rfl
    | 2, _ => rfl
    | 3, _ => rfl
    | 4, _ => rfl
  | x :: l, i + 1, r, h, hr => by
    have e : cellsC (x :: l) = [.int .i64 x.t, .int .i64 x.a, .int .i64 x.b, .int .i64 x.c, .int .i64 x.d] ++ cellsC l := rfl
    rw [e, List.getElem?_append, if_neg (by simp; omega)]
    have := cellsC_at l i r (by simpa using h) hr
    rw [show (i + 1) * 5 + r - [Value.int .i64 x.t, .int .i64 x.a, .int .i64 x.b, .int .i64 x.c, .int .i64 x.d].length = i * 5 + r by simp; omega, this]
    simp
theorem add_more (p : Addr) (k r : Nat) (hr : 0 < r) : p.add (k + r) = ⟨(p.add k).block, (p.add k).off + r, none⟩ := by
  obtain ⟨b, o, s⟩ := p
  unfold Addr.add
  rw [if_neg (by omega)]
  by_cases h0 : k = 0
  · rw [if_pos h0]; simp <;> omega
  · rw [if_neg h0]; simp <;> omega
theorem rowC_G {B : Nat} {w : World} {A : Option Addr} {len : Nat} {l : List Ch} (h : RowC B w A len l) : RowG 5 B w A len (cellsC l) :=
  ⟨by rw [cellsC_len, h.1], fun hn => by
    obtain ⟨p, e, hp, hc⟩ := h.2.1 hn
    refine ⟨p, e, hp, fun j u hj => ?_⟩
    have hlt : j < l.length * 5 := by rw [← cellsC_len]; exact (List.getElem?_eq_some_iff.1 hj).1
    obtain ⟨m, r, hr, rfl⟩ : ∃ m r, r < 5 ∧ j = m * 5 + r := ⟨j / 5, j % 5, Nat.mod_lt _ (by omega), by omega⟩
    have hk : m < l.length := by omega
    have e1 := cellsC_at l m r hk hr
    rw [hj] at e1
    rw [e1]
    obtain ⟨c0, c1, c2, c3, c4⟩ := hc m (by rw [← h.1]; exact hk)
    match r, hr with
    | 0, _ => exact c0
    | 1, _ => rw [add_more _ _ _ (by omega)]; exact c1
    | 2, _ => rw [add_more _ _ _ (by omega)]; exact c2
    | 3, _ => rw [add_more _ _ _ (by omega)]; exact c3
    | 4, _ => rw [add_more _ _ _ (by omega)]; exact c4⟩
theorem rowG_C {B : Nat} {w : World} {A : Option Addr} {len : Nat} {l : List Ch} (h : RowG 5 B w A len (cellsC l)) (hs : ∀ s ∈ l, s.Int64) : RowC B w A len l := by
  have hl : l.length = len := by have := h.1; rw [cellsC_len] at this; omega
  refine ⟨hl, fun hn => ?_, hs⟩
  obtain ⟨p, e, hp, hc⟩ := h.2 hn
  refine ⟨p, e, hp, fun i hi => ?_⟩
  have g := fun r hr => hc _ _ (cellsC_at l i r (by omega) hr)
  exact ⟨g 0 (by omega), by have := g 1 (by omega); rwa [add_more _ _ _ (by omega)] at this, by have := g 2 (by omega); rwa [add_more _ _ _ (by omega)] at this,
    by have := g 3 (by omega); rwa [add_more _ _ _ (by omega)] at this, by have := g 4 (by omega); rwa [add_more _ _ _ (by omega)] at this⟩
theorem cells_one (l : List Ch) : ∀ u ∈ cellsC l, u.oneCell' = true := by
  intro u hu
  simp only [cellsC, List.mem_flatMap] at hu
  obtain ⟨s, _, he⟩ := hu
  simp at he
  rcases he with rfl | rfl | rfl | rfl | rfl <;> rfl
theorem inf_ch : Inf Try.prog 24 22 5 40 := ⟨.agg #[.int .i64 0, .int .i64 0, .int .i64 0, .int .i64 0, .int .i64 0], Try.underlying22, by kernel_rfl, by rfl, by omega⟩

theorem cells_at (w : World) (t : TypeId) (cs : Array Value) (g : Nat) (h : w.heap.size = g) : Cells (w.alloc (.cells cs t)) g t cs := by subst h; exact Cells.new w t cs
theorem below_al {w W : World} (h : Below w.heap.size w W) (o : Obj) : Below w.heap.size w (W.alloc o) := h.alloc h.size o
theorem below_dr {w W : World} (h : Below w.heap.size w W) : Below w.heap.size w W.drew := h.drew
/-- What the loop holds: found, the two bounds, the further delay, the interval. -/
structure Lp (w W : World) (gf ga gb gc gi : Nat) (f0 f1 f2 f3 f4 : Bool) (a b c : Ch) (lo hi : Int) : Prop where
  f : Five W gf 51 (.bool f0) (.bool f1) (.bool f2) (.bool f3) (.bool f4)
  a : Five W ga 24 (.int .i64 a.t) (.int .i64 a.a) (.int .i64 a.b) (.int .i64 a.c) (.int .i64 a.d)
  b : Five W gb 24 (.int .i64 b.t) (.int .i64 b.a) (.int .i64 b.b) (.int .i64 b.c) (.int .i64 b.d)
  c : Five W gc 24 (.int .i64 c.t) (.int .i64 c.a) (.int .i64 c.b) (.int .i64 c.c) (.int .i64 c.d)
  i : Two W gi 26 (.int .i64 lo) (.int .i64 hi)
  bl : Below w.heap.size w W
structure NeF (B gf ga gb gc gi : Nat) : Prop where
  a : ga ≠ gf
  b : gb ≠ gf
  c : gc ≠ gf
  i : gi ≠ gf
  bl : B ≤ gf
section
variable {w W : World} {gf ga gb gc gi : Nat} {f0 f1 f2 f3 f4 : Bool} {a b c : Ch} {lo hi : Int} (h : Lp w W gf ga gb gc gi f0 f1 f2 f3 f4 a b c lo hi)
include h
theorem Lp.alloc (o : Obj) : Lp w (W.alloc o) gf ga gb gc gi f0 f1 f2 f3 f4 a b c lo hi := ⟨h.f.alloc _, h.a.alloc _, h.b.alloc _, h.c.alloc _, h.i.alloc _, h.bl.alloc h.bl.size _⟩
/-- A store into a block that is none of these. -/
theorem Lp.other {q : Addr} (hf : gf ≠ q.block) (ha : ga ≠ q.block) (hb : gb ≠ q.block) (hc : gc ≠ q.block) (hi' : gi ≠ q.block) (hB : w.heap.size ≤ q.block) (v : Value) : Lp w (W.setCell q v) gf ga gb gc gi f0 f1 f2 f3 f4 a b c lo hi :=
  ⟨h.f.other hf _, h.a.other ha _, h.b.other hb _, h.c.other hc _, h.i.other hi' _, h.bl.setCell hB _⟩
variable (n : NeF w.heap.size gf ga gb gc gi)
include n
theorem Lp.put0 (q : Bool) : Lp w (W.setCell ⟨gf, 0, none⟩ (.bool q)) gf ga gb gc gi q f1 f2 f3 f4 a b c lo hi := ⟨h.f.set0 _, h.a.other n.a _, h.b.other n.b _, h.c.other n.c _, h.i.other n.i _, h.bl.setCell (p := ⟨gf, 0, none⟩) n.bl _⟩
theorem Lp.put1 (q : Bool) : Lp w (W.setCell ⟨gf, 1, none⟩ (.bool q)) gf ga gb gc gi f0 q f2 f3 f4 a b c lo hi := ⟨h.f.set1 _, h.a.other n.a _, h.b.other n.b _, h.c.other n.c _, h.i.other n.i _, h.bl.setCell (p := ⟨gf, 1, none⟩) n.bl _⟩
theorem Lp.put2 (q : Bool) : Lp w (W.setCell ⟨gf, 2, none⟩ (.bool q)) gf ga gb gc gi f0 f1 q f3 f4 a b c lo hi := ⟨h.f.set2 _, h.a.other n.a _, h.b.other n.b _, h.c.other n.c _, h.i.other n.i _, h.bl.setCell (p := ⟨gf, 2, none⟩) n.bl _⟩
theorem Lp.put3 (q : Bool) : Lp w (W.setCell ⟨gf, 3, none⟩ (.bool q)) gf ga gb gc gi f0 f1 f2 q f4 a b c lo hi := ⟨h.f.set3 _, h.a.other n.a _, h.b.other n.b _, h.c.other n.c _, h.i.other n.i _, h.bl.setCell (p := ⟨gf, 3, none⟩) n.bl _⟩
theorem Lp.put4 (q : Bool) : Lp w (W.setCell ⟨gf, 4, none⟩ (.bool q)) gf ga gb gc gi f0 f1 f2 f3 q a b c lo hi := ⟨h.f.set4 _, h.a.other n.a _, h.b.other n.b _, h.c.other n.c _, h.i.other n.i _, h.bl.setCell (p := ⟨gf, 4, none⟩) n.bl _⟩
end
theorem equal_ch (x y : Ch) (w : World) : (Op.equalIn 10000 24 (chV x) (chV y)).run Try.prog w = .ok (decide (x = y)) w := by
  obtain ⟨t, a, b, c, d⟩ := x
  obtain ⟨t', a', b', c', d'⟩ := y
  unfold chV
  rw [show (10000 : Nat) = 9999 + 1 from rfl, run_equalIn_struct w 9999 24 _ _ (by kernel_rfl) (by kernel_rfl)]
  have e : decide ((⟨t, a, b, c, d⟩ : Ch) = ⟨t', a', b', c', d'⟩) = ((t == t') && ((a == a') && ((b == b') && ((c == c') && (d == d'))))) := by
    rw [Bool.eq_iff_iff]; simp
  rw [e]
  by_cases h0 : t = t'
  · by_cases h1 : a = a'
    · by_cases h2 : b = b'
      · by_cases h3 : c = c'
        · by_cases h4 : d = d'
          · simp [go_sem, h0, h1, h2, h3, h4]
          · simp [go_sem, h0, h1, h2, h3, h4]
        · simp [go_sem, h0, h1, h2, h3]
      · simp [go_sem, h0, h1, h2]
    · simp [go_sem, h0, h1]
  · simp [go_sem, h0]
theorem eql_ch (x y : Ch) (w : World) : (binOp .eql 24 (chV x) (chV y)).run Try.prog w = .ok (.bool (decide (x = y))) w := by
  have h := equal_ch x y w
  unfold chV at h ⊢
  rw [run_eql_struct, h]; rfl
theorem five_true (w : World) : (Op.equalIn 10000 51 (.agg #[.bool true, .bool true, .bool true, .bool true, .bool true]) (.agg #[.bool true, .bool true, .bool true, .bool true, .bool true])).run Try.prog w = .ok true w := by
  obtain ⟨i, hi⟩ := Option.isSome_iff_exists.1 (show (Try.prog.info? 4).isSome = true by kernel_rfl)
  have hc : Try.prog.cellsOf 4 = 1 := by kernel_rfl
  rw [show (10000 : Nat) = 9999 + 1 from rfl, run_equalIn_array w 9999 _ _ (Try.underlying51) hi, hc]
  have hu : Try.prog.underlying 4 = some .bool := Try.underlying4
  have hp : ∀ (j : Nat), j < 5 → (part 4 #[.bool true, .bool true, .bool true, .bool true, .bool true] (j * 1)).run Try.prog w = .ok (.bool true) w := fun j hj => run_part_plain w (by kernel_rfl) (by match j, hj with | 0, _ => rfl | 1, _ => rfl | 2, _ => rfl | 3, _ => rfl | 4, _ => rfl)
  have he : (Op.equalIn 9999 4 (.bool true) (.bool true)).run Try.prog w = .ok true w := run_equalIn_bool w 9998 _ _ _ hu
  simp [List.range, List.range.loop, Op.eqItems, hp 0 (by omega), hp 1 (by omega), hp 2 (by omega), hp 3 (by omega), hp 4 (by omega), he, Result.andThen]
end Go.Proofs.Ytkeahbdeddjoeaa
