/- Layer 10: LinkChanges' last region that draws its order: two appends, a call, a new variable, by what holds between its operations (gen/gen_reg.py writes this). -/
import Derived.Test.YtkeahbdeddjoeaaCRow
import Derived.Test.YtkeahbdeddjoeaaRBnd
import Derived.Test.YtkeahbdeddjoeaaRegInv
namespace Go.Proofs.Ytkeahbdeddjoeaa
open Go.RowKit Go
set_option linter.unusedVariables false
set_option linter.unusedSimpArgs false

theorem cells_grown {w w' : World} {row : Option Nat} (hg : w.grownBy w' row) {g : Nat} {t : TypeId} {cs : Array Value} (h : Cells w g t cs) (hne : some g ≠ row) : Cells w' g t cs := (hg.block g h.lt hne).trans h
theorem five_grown {w w' : World} {row : Option Nat} (hg : w.grownBy w' row) {g : Nat} {t : TypeId} {v0 v1 v2 v3 v4 : Value} (h : Five w g t v0 v1 v2 v3 v4) (hne : some g ≠ row) : Five w' g t v0 v1 v2 v3 v4 := (hg.block g h.lt hne).trans h
theorem below_grown {w w' : World} (hg : w.grownBy w' none) : Below w.heap.size w w' := ⟨hg.os, hg.tape, hg.output, hg.size, fun k hk => hg.block k hk (by simp)⟩
theorem grown_below {w w' : World} (h : Below w.heap.size w w') : w.grownBy w' none := ⟨h.os, h.tape, h.output, h.size, fun k hk _ => h.block k hk⟩
theorem act_ext {a b : Act} (hs : a.tmps.size = b.tmps.size) (hd : a.defers = b.defers) (h : ∀ t, a.eval (.tmp t) = b.eval (.tmp t)) : a = b := by
  obtain ⟨x, d⟩ := a
  obtain ⟨y, d'⟩ := b
  dsimp only at hs hd
  subst hd
  congr 1
  refine Array.ext hs (fun i h1 h2 => ?_)
  have := h i
  simp [Act.eval, Array.getD, h1, h2] at this
  exact this
def DS : List Nat := [188, 189, 190, 191, 192, 193, 194, 195, 187, 196, 197, 19, 20]

structure RgJ (B : World) (a0 : Act) (A : Option Addr) (len cap : Nat) (z : List Ch) (c r : Ch) (lo hi : Int) (g0 g4 gx : Nat) (v2 : Value) (L : Nat → Bool) (a : Act) (w : World) : Prop where
  sz : a.tmps.size = a0.tmps.size
  df : a.defers = a0.defers
  fr : ∀ t, t ∉ DS → a.eval (.tmp t) = a0.eval (.tmp t)
  bl : Below B.heap.size B w
  c0 : L 0 = true → L 2 = false → a.eval (.tmp 188) = .slice (some ⟨g0, 0, none⟩) 0 0 ∧ Cells w g0 24 #[] ∧ B.heap.size ≤ g0
  c1 : L 1 = true → a.eval (.tmp 189) = .slice A len cap
  c2 : L 2 = true → L 5 = false → a.eval (.tmp 190) = v2 ∧ w.ownsRow B.heap.size 24 5 v2 len (cellsC z)
  c3 : L 3 = true → a.eval (.tmp 191) = chV c
  c4 : L 4 = true → L 5 = false → a.eval (.tmp 192) = .slice (some ⟨g4, 0, none⟩) 1 1 ∧ Cells w g4 24 (cellsC [c]).toArray ∧ B.heap.size ≤ g4
  c5 : L 5 = true → L 7 = false → ∃ A' cap', a.eval (.tmp 193) = .slice A' (len + 1) cap' ∧ RowC w.heap.size w A' (len + 1) (z ++ [c]) ∧ len + 1 ≤ cap' ∧ cap' ≤ 9223372036854775807
  c6 : L 6 = true → a.eval (.tmp 194) = rgV lo hi
  c7 : L 7 = true → a.eval (.tmp 195) = .tuple #[chV r, .int .i64 0]
  c8 : L 8 = true → a.eval (.tmp 187) = .tuple #[chV r, .int .i64 0]
  c9 : L 9 = true → a.eval (.tmp 196) = chV r
  c10 : L 10 = true → a.eval (.tmp 197) = .int .i64 0
  c11 : L 11 = true → L 12 = false → a.eval (.tmp 19) = .pointer (some ⟨gx, 0, none⟩) ∧ Five w gx 24 (.int .i64 0) (.int .i64 0) (.int .i64 0) (.int .i64 0) (.int .i64 0) ∧ B.heap.size ≤ gx
  c12 : L 12 = true → a.eval (.tmp 19) = .pointer (some ⟨gx, 0, none⟩) ∧ Five w gx 24 (.int .i64 r.t) (.int .i64 r.a) (.int .i64 r.b) (.int .i64 r.c) (.int .i64 r.d)
  c13 : L 13 = true → a.eval (.tmp 20) = .int .i64 0
  x04 : L 0 = true → L 4 = true → L 2 = false → L 5 = false → g0 ≠ g4
  x0x : L 0 = true → L 11 = true → L 2 = false → g0 ≠ gx
  x24 : L 2 = true → L 4 = true → L 5 = false → v2.ownBlock ≠ some g4
  x2x : L 2 = true → L 11 = true → L 5 = false → v2.ownBlock ≠ some gx
  o5 : L 5 = true → L 2 = true
  o7 : L 7 = true → L 5 = true
  o12 : L 12 = true → L 7 = true ∧ L 11 = true

section
variable {B : World} {a0 : Act} {A : Option Addr} {len cap : Nat} {z : List Ch} {c r : Ch} {lo hi : Int} {g0 g4 gx : Nat} {v2 : Value} {L : Nat → Bool} {a : Act} {w w' : World} {row : Option Nat}
theorem RgJ.c0' (h : RgJ B a0 A len cap z c r lo hi g0 g4 gx v2 L a w) (hg : w.grownBy w' row) (d : Nat) (v : Value) (hd : d ≠ 188) : some g0 ≠ row → L 0 = true → L 2 = false → (a.put (some d) v).eval (.tmp 188) = .slice (some ⟨g0, 0, none⟩) 0 0 ∧ Cells w' g0 24 #[] ∧ B.heap.size ≤ g0 := fun hr h0 h2 => by
  have k := h.c0 h0 h2
  exact ⟨by rw [Act.eval_put_ne _ _ _ _ hd]; exact k.1, cells_grown hg k.2.1 hr, k.2.2⟩
theorem RgJ.c1' (h : RgJ B a0 A len cap z c r lo hi g0 g4 gx v2 L a w) (hg : w.grownBy w' row) (d : Nat) (v : Value) (hd : d ≠ 189) : L 1 = true → (a.put (some d) v).eval (.tmp 189) = .slice A len cap := fun h1 => by
  have k := h.c1 h1
  exact by rw [Act.eval_put_ne _ _ _ _ hd]; exact k
theorem RgJ.c2' (h : RgJ B a0 A len cap z c r lo hi g0 g4 gx v2 L a w) (hg : w.grownBy w' row) (d : Nat) (v : Value) (hd : d ≠ 190) : (v2.ownBlock = none ∨ v2.ownBlock ≠ row) → L 2 = true → L 5 = false → (a.put (some d) v).eval (.tmp 190) = v2 ∧ w'.ownsRow B.heap.size 24 5 v2 len (cellsC z) := fun hr h2 h5 => by
  have k := h.c2 h2 h5
  exact ⟨by rw [Act.eval_put_ne _ _ _ _ hd]; exact k.1, k.2.kept hg hr⟩
theorem RgJ.c3' (h : RgJ B a0 A len cap z c r lo hi g0 g4 gx v2 L a w) (hg : w.grownBy w' row) (d : Nat) (v : Value) (hd : d ≠ 191) : L 3 = true → (a.put (some d) v).eval (.tmp 191) = chV c := fun h3 => by
  have k := h.c3 h3
  exact by rw [Act.eval_put_ne _ _ _ _ hd]; exact k
theorem RgJ.c4' (h : RgJ B a0 A len cap z c r lo hi g0 g4 gx v2 L a w) (hg : w.grownBy w' row) (d : Nat) (v : Value) (hd : d ≠ 192) : some g4 ≠ row → L 4 = true → L 5 = false → (a.put (some d) v).eval (.tmp 192) = .slice (some ⟨g4, 0, none⟩) 1 1 ∧ Cells w' g4 24 (cellsC [c]).toArray ∧ B.heap.size ≤ g4 := fun hr h4 h5 => by
  have k := h.c4 h4 h5
  exact ⟨by rw [Act.eval_put_ne _ _ _ _ hd]; exact k.1, cells_grown hg k.2.1 hr, k.2.2⟩
theorem RgJ.c6' (h : RgJ B a0 A len cap z c r lo hi g0 g4 gx v2 L a w) (hg : w.grownBy w' row) (d : Nat) (v : Value) (hd : d ≠ 194) : L 6 = true → (a.put (some d) v).eval (.tmp 194) = rgV lo hi := fun h6 => by
  have k := h.c6 h6
  exact by rw [Act.eval_put_ne _ _ _ _ hd]; exact k
theorem RgJ.c7' (h : RgJ B a0 A len cap z c r lo hi g0 g4 gx v2 L a w) (hg : w.grownBy w' row) (d : Nat) (v : Value) (hd : d ≠ 195) : L 7 = true → (a.put (some d) v).eval (.tmp 195) = .tuple #[chV r, .int .i64 0] := fun h7 => by
  have k := h.c7 h7
  exact by rw [Act.eval_put_ne _ _ _ _ hd]; exact k
theorem RgJ.c8' (h : RgJ B a0 A len cap z c r lo hi g0 g4 gx v2 L a w) (hg : w.grownBy w' row) (d : Nat) (v : Value) (hd : d ≠ 187) : L 8 = true → (a.put (some d) v).eval (.tmp 187) = .tuple #[chV r, .int .i64 0] := fun h8 => by
  have k := h.c8 h8
  exact by rw [Act.eval_put_ne _ _ _ _ hd]; exact k
theorem RgJ.c9' (h : RgJ B a0 A len cap z c r lo hi g0 g4 gx v2 L a w) (hg : w.grownBy w' row) (d : Nat) (v : Value) (hd : d ≠ 196) : L 9 = true → (a.put (some d) v).eval (.tmp 196) = chV r := fun h9 => by
  have k := h.c9 h9
  exact by rw [Act.eval_put_ne _ _ _ _ hd]; exact k
theorem RgJ.c10' (h : RgJ B a0 A len cap z c r lo hi g0 g4 gx v2 L a w) (hg : w.grownBy w' row) (d : Nat) (v : Value) (hd : d ≠ 197) : L 10 = true → (a.put (some d) v).eval (.tmp 197) = .int .i64 0 := fun h10 => by
  have k := h.c10 h10
  exact by rw [Act.eval_put_ne _ _ _ _ hd]; exact k
theorem RgJ.c11' (h : RgJ B a0 A len cap z c r lo hi g0 g4 gx v2 L a w) (hg : w.grownBy w' row) (d : Nat) (v : Value) (hd : d ≠ 19) : some gx ≠ row → L 11 = true → L 12 = false → (a.put (some d) v).eval (.tmp 19) = .pointer (some ⟨gx, 0, none⟩) ∧ Five w' gx 24 (.int .i64 0) (.int .i64 0) (.int .i64 0) (.int .i64 0) (.int .i64 0) ∧ B.heap.size ≤ gx := fun hr h11 h12 => by
  have k := h.c11 h11 h12
  exact ⟨by rw [Act.eval_put_ne _ _ _ _ hd]; exact k.1, five_grown hg k.2.1 hr, k.2.2⟩
theorem RgJ.c12' (h : RgJ B a0 A len cap z c r lo hi g0 g4 gx v2 L a w) (hg : w.grownBy w' row) (d : Nat) (v : Value) (hd : d ≠ 19) : some gx ≠ row → L 12 = true → (a.put (some d) v).eval (.tmp 19) = .pointer (some ⟨gx, 0, none⟩) ∧ Five w' gx 24 (.int .i64 r.t) (.int .i64 r.a) (.int .i64 r.b) (.int .i64 r.c) (.int .i64 r.d) := fun hr h12 => by
  have k := h.c12 h12
  exact ⟨by rw [Act.eval_put_ne _ _ _ _ hd]; exact k.1, five_grown hg k.2 hr⟩
theorem RgJ.c13' (h : RgJ B a0 A len cap z c r lo hi g0 g4 gx v2 L a w) (hg : w.grownBy w' row) (d : Nat) (v : Value) (hd : d ≠ 20) : L 13 = true → (a.put (some d) v).eval (.tmp 20) = .int .i64 0 := fun h13 => by
  have k := h.c13 h13
  exact by rw [Act.eval_put_ne _ _ _ _ hd]; exact k
theorem RgJ.c5' (h : RgJ B a0 A len cap z c r lo hi g0 g4 gx v2 L a w) (hg : w.grownBy w' none) (d : Nat) (v : Value) (hd : d ≠ 193) : L 5 = true → L 7 = false → ∃ A' cap', (a.put (some d) v).eval (.tmp 193) = .slice A' (len + 1) cap' ∧ RowC w'.heap.size w' A' (len + 1) (z ++ [c]) ∧ len + 1 ≤ cap' ∧ cap' ≤ 9223372036854775807 := fun h5 h7 => by
  obtain ⟨A', cap', k1, k2, k3, k4⟩ := h.c5 h5 h7
  exact ⟨A', cap', by rw [Act.eval_put_ne _ _ _ _ hd]; exact k1, k2.step (below_grown hg), k3, k4⟩
theorem RgJ.bl' (h : RgJ B a0 A len cap z c r lo hi g0 g4 gx v2 L a w) (hg : w.grownBy w' row) (hN : ∀ k, row = some k → B.heap.size ≤ k) : Below B.heap.size B w' := h.bl.grown hg h.bl.size hN
theorem RgJ.fr' (h : RgJ B a0 A len cap z c r lo hi g0 g4 gx v2 L a w) (d : Nat) (v : Value) (hd : d ∈ DS) : ∀ t, t ∉ DS → (a.put (some d) v).eval (.tmp t) = a0.eval (.tmp t) := fun t ht => by
  rw [Act.eval_put_ne _ _ _ _ (fun e : d = t => ht (e ▸ hd))]
  exact h.fr t ht
end

theorem RgJ.gxlt {B : World} {a0 : Act} {A : Option Addr} {len cap : Nat} {z : List Ch} {c r : Ch} {lo hi : Int} {g0 g4 gx : Nat} {v2 : Value} {L : Nat → Bool} {a : Act} {w : World} (h : RgJ B a0 A len cap z c r lo hi g0 g4 gx v2 L a w) (h11 : L 11 = true) : gx < w.heap.size := by
  cases h12 : L 12 with
  | false => exact (h.c11 h11 h12).2.1.lt
  | true => exact (h.c12 h12).2.lt

def OpIs (ops : Array Oper) (i : Nat) (d : Option Nat) (S : Oper → Prop) (D : (Nat → Bool) → Prop) : Prop := ∃ o, ops[i]? = some o ∧ o.guard = none ∧ o.dst = d ∧ S o ∧ ∀ L : Nat → Bool, (∀ e ∈ o.after, Region.binds .any e = true → L e.on = true) → D L

set_option maxHeartbeats 4000000 in
theorem region_appcall {P : Program} {ops : Array Oper} {Q : Exit → Act → World → Prop} {id : Nat} (B : World) (a0 : Act) (gc gi f : Nat) (A : Option Addr) (len cap : Nat) (z : List Ch) (c r : Ch) (lo hi : Int) (hP : P = Try.prog) (hm : P.follows .mixedOrders = true)
    (dep : ∀ (i : Nat) (o : Oper), ops[i]? = some o → ∀ e ∈ o.after, Region.binds .any e = true → e.on < i) (hsz : ops.size = 14) (h197 : 197 < a0.tmps.size)
    (O0 : OpIs ops 0 (some 188) (fun o => ∀ ρ w, (execOp ρ o).run P w = .ok (.value (.slice (some ⟨w.heap.size, 0, none⟩) 0 0)) (w.alloc (.cells #[] 24))) (fun L => True))
    (O1 : OpIs ops 1 (some 189) (fun o => ∀ ρ w, ρ (.tmp 0) = .slice A len cap → (execOp ρ o).run P w = .ok (.value (.slice A len cap)) w) (fun L => True))
    (O2 : OpIs ops 2 (some 190) (fun o => o.op = .call { callee := .builtin .append, args := #[.tmp 188, .tmp 189], argTypes := #[22, 22] }) (fun L => L 0 = true ∧ L 1 = true))
    (O3 : OpIs ops 3 (some 191) (fun o => ∀ ρ w, ρ (.tmp 7) = .pointer (some ⟨gc, 0, none⟩) → Five w gc 24 (.int .i64 c.t) (.int .i64 c.a) (.int .i64 c.b) (.int .i64 c.c) (.int .i64 c.d) → (execOp ρ o).run P w = .ok (.value (chV c)) w) (fun L => True))
    (O4 : OpIs ops 4 (some 192) (fun o => ∀ ρ w, ρ (.tmp 191) = chV c → (execOp ρ o).run P w = .ok (.value (.slice (some ⟨w.heap.size, 0, none⟩) 1 1)) (w.alloc (.cells (cellsC [c]).toArray 24))) (fun L => L 3 = true))
    (O5 : OpIs ops 5 (some 193) (fun o => o.op = .call { callee := .builtin .append, args := #[.tmp 190, .tmp 192], argTypes := #[22, 22] }) (fun L => L 2 = true ∧ L 4 = true))
    (O6 : OpIs ops 6 (some 194) (fun o => ∀ ρ w, ρ (.tmp 5) = .pointer (some ⟨gi, 0, none⟩) → Two w gi 26 (.int .i64 lo) (.int .i64 hi) → (execOp ρ o).run P w = .ok (.value (rgV lo hi)) w) (fun L => True))
    (O7 : OpIs ops 7 (some 195) (fun o => ∀ (a : Act) w x y, a.eval (.tmp 193) = x → a.eval (.tmp 194) = y → (execOp a.eval o).run P w = .ok (.enter f #[x, y]) w) (fun L => L 5 = true ∧ L 6 = true))
    (O8 : OpIs ops 8 (some 187) (fun o => ∀ ρ w x, ρ (.tmp 195) = x → (execOp ρ o).run P w = .ok (.value x) w) (fun L => L 7 = true))
    (O9 : OpIs ops 9 (some 196) (fun o => ∀ ρ w x y, ρ (.tmp 187) = .tuple #[x, y] → (execOp ρ o).run P w = .ok (.value x) w) (fun L => L 8 = true))
    (O10 : OpIs ops 10 (some 197) (fun o => ∀ ρ w x y, ρ (.tmp 187) = .tuple #[x, y] → (execOp ρ o).run P w = .ok (.value y) w) (fun L => L 8 = true))
    (O11 : OpIs ops 11 (some 19) (fun o => ∀ ρ w, (execOp ρ o).run P w = .ok (.value (.pointer (some ⟨w.heap.size, 0, none⟩))) (w.alloc (.cells #[.int .i64 0, .int .i64 0, .int .i64 0, .int .i64 0, .int .i64 0] 24))) (fun L => True))
    (O12 : OpIs ops 12 none (fun o => ∀ ρ w g, ρ (.tmp 19) = .pointer (some ⟨g, 0, none⟩) → ρ (.tmp 196) = chV r → Five w g 24 (.int .i64 0) (.int .i64 0) (.int .i64 0) (.int .i64 0) (.int .i64 0) → (execOp ρ o).run P w = .ok .skip (((((w.setCell ⟨g, 0, none⟩ (.int .i64 r.t)).setCell ⟨g, 1, none⟩ (.int .i64 r.a)).setCell ⟨g, 2, none⟩ (.int .i64 r.b)).setCell ⟨g, 3, none⟩ (.int .i64 r.c)).setCell ⟨g, 4, none⟩ (.int .i64 r.d))) (fun L => L 7 = true ∧ L 9 = true ∧ L 11 = true))
    (O13 : OpIs ops 13 (some 20) (fun o => ∀ ρ w x, ρ (.tmp 197) = x → (execOp ρ o).run P w = .ok (.value x) w) (fun L => L 10 = true))
    (e0 : a0.eval (.tmp 0) = .slice A len cap) (e7 : a0.eval (.tmp 7) = .pointer (some ⟨gc, 0, none⟩)) (e5 : a0.eval (.tmp 5) = .pointer (some ⟨gi, 0, none⟩))
    (hl : RowC B.heap.size B A len z) (hnil : A = none → cap = 0) (h9 : len ≤ 100000) (hC : Five B gc 24 (.int .i64 c.t) (.int .i64 c.a) (.int .i64 c.b) (.int .i64 c.c) (.int .i64 c.d)) (hI : Two B gi 26 (.int .i64 lo) (.int .i64 hi)) (hz : ∀ k ∈ z ++ [c], k.Int64)
    (call : ∀ A' cap' w', RowC w'.heap.size w' A' (len + 1) (z ++ [c]) → len + 1 ≤ cap' → cap' ≤ 9223372036854775807 → Calls P f #[.slice A' (len + 1) cap', rgV lo hi] w' (Gives (.tuple #[chV r, .int .i64 0]) w'))
    (fin : ∀ u0 u1 u2 u3 u4 u5 u6 u7 u8 u9 u10 g w', Five w' g 24 (.int .i64 r.t) (.int .i64 r.a) (.int .i64 r.b) (.int .i64 r.c) (.int .i64 r.d) → Below B.heap.size B w' →
      Q .normal (((((((((((((a0.put (some 188) u0).put (some 189) u1).put (some 190) u2).put (some 191) u3).put (some 192) u4).put (some 193) u5).put (some 194) u6).put (some 195) u7).put (some 187) u8).put (some 196) u9).put (some 197) u10).put (some 19) (.pointer (some ⟨g, 0, none⟩))).put (some 20) (.int .i64 0)) w') :
    (Code.region id ops true).wp P Q a0 B := by
  subst hP
  refine wp_region_inv (J := fun L a w => ∃ g0 g4 gx v2, RgJ B a0 A len cap z c r lo hi g0 g4 gx v2 L a w) hm dep ?_ ?_ ?_
  · refine ⟨0, 0, 0, .bool true, ?_⟩
    constructor <;> first | rfl | (intro t _; rfl) | exact (Below.refl _ B).drew | (intro h; cases h)
  · rintro L a w i o ⟨g0, g4, gx, v2, h⟩ ho hLi hdep
    have hi14 : i < 14 := by rw [← hsz]; exact (Array.getElem?_eq_some_iff.1 ho).1
    rcases (by omega : i = 0 ∨ i = 1 ∨ i = 2 ∨ i = 3 ∨ i = 4 ∨ i = 5 ∨ i = 6 ∨ i = 7 ∨ i = 8 ∨ i = 9 ∨ i = 10 ∨ i = 11 ∨ i = 12 ∨ i = 13) with rfl | rfl | rfl | rfl | rfl | rfl | rfl | rfl | rfl | rfl | rfl | rfl | rfl | rfl
    · obtain ⟨o', ho', hg, hdst, sem, dp⟩ := O0
      obtain rfl : o' = o := Option.some.inj (ho'.symm.trans ho)
      have dq := dp L hdep
      refine wpOp_of ho hg ?_
      have gxlt := h.gxlt
      unfold Oper.wp
      rw [sem a.eval w]
      show (∃ g0 g4 gx v2, RgJ B a0 A len cap z c r lo hi g0 g4 gx v2 _ (a.put o'.dst _) _)
      rw [hdst]
      refine ⟨w.heap.size, g4, gx, v2, ?_⟩
      exact {
        sz := (Act.size_put _ _ _).trans h.sz, df := (Act.defers_put' _ _ _).trans h.df, fr := h.fr' 188 _ (by decide), bl := h.bl' (World.grownBy_alloc w (.cells #[] 24) none) (by intro k hk; cases hk)
        c0 := fun h0 n2 => ⟨Act.eval_put_same _ 188 _ (by rw [h.sz]; omega), Cells.new w _ _, h.bl.size⟩
        c1 := fun h1 => h.c1' (World.grownBy_alloc w (.cells #[] 24) none) 188 _ (by decide) (by simpa using h1)
        c2 := fun h2 n5 => h.c2' (World.grownBy_alloc w (.cells #[] 24) none) 188 _ (by decide) (by by_cases e : v2.ownBlock = none; exact .inl e; exact .inr e) (by simpa using h2) (by simpa using n5)
        c3 := fun h3 => h.c3' (World.grownBy_alloc w (.cells #[] 24) none) 188 _ (by decide) (by simpa using h3)
        c4 := fun h4 n5 => h.c4' (World.grownBy_alloc w (.cells #[] 24) none) 188 _ (by decide) (by simp) (by simpa using h4) (by simpa using n5)
        c5 := fun h5 n7 => h.c5' (World.grownBy_alloc w (.cells #[] 24) none) 188 _ (by decide) (by simpa using h5) (by simpa using n7)
        c6 := fun h6 => h.c6' (World.grownBy_alloc w (.cells #[] 24) none) 188 _ (by decide) (by simpa using h6)
        c7 := fun h7 => h.c7' (World.grownBy_alloc w (.cells #[] 24) none) 188 _ (by decide) (by simpa using h7)
        c8 := fun h8 => h.c8' (World.grownBy_alloc w (.cells #[] 24) none) 188 _ (by decide) (by simpa using h8)
        c9 := fun h9 => h.c9' (World.grownBy_alloc w (.cells #[] 24) none) 188 _ (by decide) (by simpa using h9)
        c10 := fun h10 => h.c10' (World.grownBy_alloc w (.cells #[] 24) none) 188 _ (by decide) (by simpa using h10)
        c11 := fun h11 n12 => h.c11' (World.grownBy_alloc w (.cells #[] 24) none) 188 _ (by decide) (by simp) (by simpa using h11) (by simpa using n12)
        c12 := fun h12 => h.c12' (World.grownBy_alloc w (.cells #[] 24) none) 188 _ (by decide) (by simp) (by simpa using h12)
        c13 := fun h13 => h.c13' (World.grownBy_alloc w (.cells #[] 24) none) 188 _ (by decide) (by simpa using h13)
        x04 := fun h0 h4 n2 n5 => Nat.ne_of_gt (h.c4 (by simpa using h4) (by simpa using n5)).2.1.lt
        x0x := fun h0 h11 n2 => Nat.ne_of_gt (gxlt (by simpa using h11))
        x24 := fun h2 h4 n5 => h.x24 (by simpa using h2) (by simpa using h4) (by simpa using n5)
        x2x := fun h2 h11 n5 => h.x2x (by simpa using h2) (by simpa using h11) (by simpa using n5)
        o5 := fun h5 => by have k := h.o5 (by simpa using h5); simp [k]
        o7 := fun h7 => by have k := h.o7 (by simpa using h7); simp [k]
        o12 := fun h12 => by have k := h.o12 (by simpa using h12); simp [k]
      }
    · obtain ⟨o', ho', hg, hdst, sem, dp⟩ := O1
      obtain rfl : o' = o := Option.some.inj (ho'.symm.trans ho)
      have dq := dp L hdep
      refine wpOp_of ho hg ?_
      unfold Oper.wp
      rw [sem a.eval w ((h.fr 0 (by decide)).trans e0)]
      show (∃ g0 g4 gx v2, RgJ B a0 A len cap z c r lo hi g0 g4 gx v2 _ (a.put o'.dst _) _)
      rw [hdst]
      refine ⟨g0, g4, gx, v2, ?_⟩
      exact {
        sz := (Act.size_put _ _ _).trans h.sz, df := (Act.defers_put' _ _ _).trans h.df, fr := h.fr' 189 _ (by decide), bl := h.bl' (World.grownBy.mk rfl rfl rfl (Nat.le_refl _) (fun _ _ _ => rfl) : World.grownBy w w none) (by intro k hk; cases hk)
        c0 := fun h0 n2 => h.c0' (World.grownBy.mk rfl rfl rfl (Nat.le_refl _) (fun _ _ _ => rfl) : World.grownBy w w none) 189 _ (by decide) (by simp) (by simpa using h0) (by simpa using n2)
        c1 := fun h1 => Act.eval_put_same _ 189 _ (by rw [h.sz]; omega)
        c2 := fun h2 n5 => h.c2' (World.grownBy.mk rfl rfl rfl (Nat.le_refl _) (fun _ _ _ => rfl) : World.grownBy w w none) 189 _ (by decide) (by by_cases e : v2.ownBlock = none; exact .inl e; exact .inr e) (by simpa using h2) (by simpa using n5)
        c3 := fun h3 => h.c3' (World.grownBy.mk rfl rfl rfl (Nat.le_refl _) (fun _ _ _ => rfl) : World.grownBy w w none) 189 _ (by decide) (by simpa using h3)
        c4 := fun h4 n5 => h.c4' (World.grownBy.mk rfl rfl rfl (Nat.le_refl _) (fun _ _ _ => rfl) : World.grownBy w w none) 189 _ (by decide) (by simp) (by simpa using h4) (by simpa using n5)
        c5 := fun h5 n7 => h.c5' (World.grownBy.mk rfl rfl rfl (Nat.le_refl _) (fun _ _ _ => rfl) : World.grownBy w w none) 189 _ (by decide) (by simpa using h5) (by simpa using n7)
        c6 := fun h6 => h.c6' (World.grownBy.mk rfl rfl rfl (Nat.le_refl _) (fun _ _ _ => rfl) : World.grownBy w w none) 189 _ (by decide) (by simpa using h6)
        c7 := fun h7 => h.c7' (World.grownBy.mk rfl rfl rfl (Nat.le_refl _) (fun _ _ _ => rfl) : World.grownBy w w none) 189 _ (by decide) (by simpa using h7)
        c8 := fun h8 => h.c8' (World.grownBy.mk rfl rfl rfl (Nat.le_refl _) (fun _ _ _ => rfl) : World.grownBy w w none) 189 _ (by decide) (by simpa using h8)
        c9 := fun h9 => h.c9' (World.grownBy.mk rfl rfl rfl (Nat.le_refl _) (fun _ _ _ => rfl) : World.grownBy w w none) 189 _ (by decide) (by simpa using h9)
        c10 := fun h10 => h.c10' (World.grownBy.mk rfl rfl rfl (Nat.le_refl _) (fun _ _ _ => rfl) : World.grownBy w w none) 189 _ (by decide) (by simpa using h10)
        c11 := fun h11 n12 => h.c11' (World.grownBy.mk rfl rfl rfl (Nat.le_refl _) (fun _ _ _ => rfl) : World.grownBy w w none) 189 _ (by decide) (by simp) (by simpa using h11) (by simpa using n12)
        c12 := fun h12 => h.c12' (World.grownBy.mk rfl rfl rfl (Nat.le_refl _) (fun _ _ _ => rfl) : World.grownBy w w none) 189 _ (by decide) (by simp) (by simpa using h12)
        c13 := fun h13 => h.c13' (World.grownBy.mk rfl rfl rfl (Nat.le_refl _) (fun _ _ _ => rfl) : World.grownBy w w none) 189 _ (by decide) (by simpa using h13)
        x04 := fun h0 h4 n2 n5 => h.x04 (by simpa using h0) (by simpa using h4) (by simpa using n2) (by simpa using n5)
        x0x := fun h0 h11 n2 => h.x0x (by simpa using h0) (by simpa using h11) (by simpa using n2)
        x24 := fun h2 h4 n5 => h.x24 (by simpa using h2) (by simpa using h4) (by simpa using n5)
        x2x := fun h2 h11 n5 => h.x2x (by simpa using h2) (by simpa using h11) (by simpa using n5)
        o5 := fun h5 => by have k := h.o5 (by simpa using h5); simp [k]
        o7 := fun h7 => by have k := h.o7 (by simpa using h7); simp [k]
        o12 := fun h12 => by have k := h.o12 (by simpa using h12); simp [k]
      }
    · obtain ⟨o', ho', hg, hdst, sem, dp⟩ := O2
      obtain rfl : o' = o := Option.some.inj (ho'.symm.trans ho)
      have dq := dp L hdep
      refine wpOp_of ho hg ?_
      have gxlt := h.gxlt
      have n5 : L 5 = false := by
        cases h5 : L 5 with
        | false => rfl
        | true => exact absurd (h.o5 h5) (by rw [hLi]; simp)
      have c0 := h.c0 dq.1 hLi
      refine wp_app_list inf_ch _ _ sem B.heap.size (.slice (some ⟨g0, 0, none⟩) 0 0) 0 [] c0.1 (own_emptyG c0.2.1 c0.2.2) A len cap (cellsC z) (h.c1 dq.2) B.heap.size ((rowC_G hl).below h.bl) hnil (cells_one z) (by omega) (by omega) h.bl.size ?_
      intro v w' hown hgr hwh
      rw [Nat.zero_add, List.nil_append] at hown
      have hgr' : w.grownBy w' (some g0) := hgr
      rw [hdst]
      refine ⟨g0, g4, gx, v, ?_⟩
      exact {
        sz := (Act.size_put _ _ _).trans h.sz, df := (Act.defers_put' _ _ _).trans h.df, fr := h.fr' 190 _ (by decide), bl := h.bl' hgr' (by intro k hk; injection hk with hk; subst hk; exact c0.2.2)
        c0 := fun h0 n2 => absurd n2 (by simp)
        c1 := fun h1 => h.c1' hgr' 190 _ (by decide) (by simpa using h1)
        c2 := fun h2 n5 => ⟨Act.eval_put_same _ 190 _ (by rw [h.sz]; omega), hown⟩
        c3 := fun h3 => h.c3' hgr' 190 _ (by decide) (by simpa using h3)
        c4 := fun h4 n5 => h.c4' hgr' 190 _ (by decide) (fun e => h.x04 dq.1 (by simpa using h4) hLi n5 (Option.some.inj e).symm) (by simpa using h4) (by simpa using n5)
        c5 := fun h5 n7 => absurd (by simpa using h5) (by rw [n5]; simp)
        c6 := fun h6 => h.c6' hgr' 190 _ (by decide) (by simpa using h6)
        c7 := fun h7 => h.c7' hgr' 190 _ (by decide) (by simpa using h7)
        c8 := fun h8 => h.c8' hgr' 190 _ (by decide) (by simpa using h8)
        c9 := fun h9 => h.c9' hgr' 190 _ (by decide) (by simpa using h9)
        c10 := fun h10 => h.c10' hgr' 190 _ (by decide) (by simpa using h10)
        c11 := fun h11 n12 => h.c11' hgr' 190 _ (by decide) (fun e => h.x0x dq.1 (by simpa using h11) hLi (Option.some.inj e).symm) (by simpa using h11) (by simpa using n12)
        c12 := fun h12 => absurd (h.o5 (h.o7 (h.o12 (by simpa using h12)).1)) (by rw [hLi]; simp)
        c13 := fun h13 => h.c13' hgr' 190 _ (by decide) (by simpa using h13)
        x04 := fun h0 h4 n2 n5 => absurd n2 (by simp)
        x0x := fun h0 h11 n2 => absurd n2 (by simp)
        x24 := fun h2 h4 n5 => fun e => by rcases hwh with k | k <;> rw [k] at e; exact h.x04 dq.1 (by simpa using h4) hLi (by simpa using n5) (Option.some.inj e); exact absurd (Option.some.inj e) (Nat.ne_of_gt (h.c4 (by simpa using h4) (by simpa using n5)).2.1.lt)
        x2x := fun h2 h11 n5 => fun e => by rcases hwh with k | k <;> rw [k] at e; exact h.x0x dq.1 (by simpa using h11) hLi (Option.some.inj e); exact absurd (Option.some.inj e) (Nat.ne_of_gt (gxlt (by simpa using h11)))
        o5 := fun h5 => by have k := h.o5 (by simpa using h5); simp [k]
        o7 := fun h7 => by have k := h.o7 (by simpa using h7); simp [k]
        o12 := fun h12 => by have k := h.o12 (by simpa using h12); simp [k]
      }
    · obtain ⟨o', ho', hg, hdst, sem, dp⟩ := O3
      obtain rfl : o' = o := Option.some.inj (ho'.symm.trans ho)
      have dq := dp L hdep
      refine wpOp_of ho hg ?_
      unfold Oper.wp
      rw [sem a.eval w ((h.fr 7 (by decide)).trans e7) (hC.below h.bl hC.lt)]
      show (∃ g0 g4 gx v2, RgJ B a0 A len cap z c r lo hi g0 g4 gx v2 _ (a.put o'.dst _) _)
      rw [hdst]
      refine ⟨g0, g4, gx, v2, ?_⟩
      exact {
        sz := (Act.size_put _ _ _).trans h.sz, df := (Act.defers_put' _ _ _).trans h.df, fr := h.fr' 191 _ (by decide), bl := h.bl' (World.grownBy.mk rfl rfl rfl (Nat.le_refl _) (fun _ _ _ => rfl) : World.grownBy w w none) (by intro k hk; cases hk)
        c0 := fun h0 n2 => h.c0' (World.grownBy.mk rfl rfl rfl (Nat.le_refl _) (fun _ _ _ => rfl) : World.grownBy w w none) 191 _ (by decide) (by simp) (by simpa using h0) (by simpa using n2)
        c1 := fun h1 => h.c1' (World.grownBy.mk rfl rfl rfl (Nat.le_refl _) (fun _ _ _ => rfl) : World.grownBy w w none) 191 _ (by decide) (by simpa using h1)
        c2 := fun h2 n5 => h.c2' (World.grownBy.mk rfl rfl rfl (Nat.le_refl _) (fun _ _ _ => rfl) : World.grownBy w w none) 191 _ (by decide) (by by_cases e : v2.ownBlock = none; exact .inl e; exact .inr e) (by simpa using h2) (by simpa using n5)
        c3 := fun h3 => Act.eval_put_same _ 191 _ (by rw [h.sz]; omega)
        c4 := fun h4 n5 => h.c4' (World.grownBy.mk rfl rfl rfl (Nat.le_refl _) (fun _ _ _ => rfl) : World.grownBy w w none) 191 _ (by decide) (by simp) (by simpa using h4) (by simpa using n5)
        c5 := fun h5 n7 => h.c5' (World.grownBy.mk rfl rfl rfl (Nat.le_refl _) (fun _ _ _ => rfl) : World.grownBy w w none) 191 _ (by decide) (by simpa using h5) (by simpa using n7)
        c6 := fun h6 => h.c6' (World.grownBy.mk rfl rfl rfl (Nat.le_refl _) (fun _ _ _ => rfl) : World.grownBy w w none) 191 _ (by decide) (by simpa using h6)
        c7 := fun h7 => h.c7' (World.grownBy.mk rfl rfl rfl (Nat.le_refl _) (fun _ _ _ => rfl) : World.grownBy w w none) 191 _ (by decide) (by simpa using h7)
        c8 := fun h8 => h.c8' (World.grownBy.mk rfl rfl rfl (Nat.le_refl _) (fun _ _ _ => rfl) : World.grownBy w w none) 191 _ (by decide) (by simpa using h8)
        c9 := fun h9 => h.c9' (World.grownBy.mk rfl rfl rfl (Nat.le_refl _) (fun _ _ _ => rfl) : World.grownBy w w none) 191 _ (by decide) (by simpa using h9)
        c10 := fun h10 => h.c10' (World.grownBy.mk rfl rfl rfl (Nat.le_refl _) (fun _ _ _ => rfl) : World.grownBy w w none) 191 _ (by decide) (by simpa using h10)
        c11 := fun h11 n12 => h.c11' (World.grownBy.mk rfl rfl rfl (Nat.le_refl _) (fun _ _ _ => rfl) : World.grownBy w w none) 191 _ (by decide) (by simp) (by simpa using h11) (by simpa using n12)
        c12 := fun h12 => h.c12' (World.grownBy.mk rfl rfl rfl (Nat.le_refl _) (fun _ _ _ => rfl) : World.grownBy w w none) 191 _ (by decide) (by simp) (by simpa using h12)
        c13 := fun h13 => h.c13' (World.grownBy.mk rfl rfl rfl (Nat.le_refl _) (fun _ _ _ => rfl) : World.grownBy w w none) 191 _ (by decide) (by simpa using h13)
        x04 := fun h0 h4 n2 n5 => h.x04 (by simpa using h0) (by simpa using h4) (by simpa using n2) (by simpa using n5)
        x0x := fun h0 h11 n2 => h.x0x (by simpa using h0) (by simpa using h11) (by simpa using n2)
        x24 := fun h2 h4 n5 => h.x24 (by simpa using h2) (by simpa using h4) (by simpa using n5)
        x2x := fun h2 h11 n5 => h.x2x (by simpa using h2) (by simpa using h11) (by simpa using n5)
        o5 := fun h5 => by have k := h.o5 (by simpa using h5); simp [k]
        o7 := fun h7 => by have k := h.o7 (by simpa using h7); simp [k]
        o12 := fun h12 => by have k := h.o12 (by simpa using h12); simp [k]
      }
    · obtain ⟨o', ho', hg, hdst, sem, dp⟩ := O4
      obtain rfl : o' = o := Option.some.inj (ho'.symm.trans ho)
      have dq := dp L hdep
      refine wpOp_of ho hg ?_
      have gxlt := h.gxlt
      unfold Oper.wp
      rw [sem a.eval w (h.c3 dq)]
      show (∃ g0 g4 gx v2, RgJ B a0 A len cap z c r lo hi g0 g4 gx v2 _ (a.put o'.dst _) _)
      rw [hdst]
      refine ⟨g0, w.heap.size, gx, v2, ?_⟩
      exact {
        sz := (Act.size_put _ _ _).trans h.sz, df := (Act.defers_put' _ _ _).trans h.df, fr := h.fr' 192 _ (by decide), bl := h.bl' (World.grownBy_alloc w (.cells (cellsC [c]).toArray 24) none) (by intro k hk; cases hk)
        c0 := fun h0 n2 => h.c0' (World.grownBy_alloc w (.cells (cellsC [c]).toArray 24) none) 192 _ (by decide) (by simp) (by simpa using h0) (by simpa using n2)
        c1 := fun h1 => h.c1' (World.grownBy_alloc w (.cells (cellsC [c]).toArray 24) none) 192 _ (by decide) (by simpa using h1)
        c2 := fun h2 n5 => h.c2' (World.grownBy_alloc w (.cells (cellsC [c]).toArray 24) none) 192 _ (by decide) (by by_cases e : v2.ownBlock = none; exact .inl e; exact .inr e) (by simpa using h2) (by simpa using n5)
        c3 := fun h3 => h.c3' (World.grownBy_alloc w (.cells (cellsC [c]).toArray 24) none) 192 _ (by decide) (by simpa using h3)
        c4 := fun h4 n5 => ⟨Act.eval_put_same _ 192 _ (by rw [h.sz]; omega), Cells.new w _ _, h.bl.size⟩
        c5 := fun h5 n7 => h.c5' (World.grownBy_alloc w (.cells (cellsC [c]).toArray 24) none) 192 _ (by decide) (by simpa using h5) (by simpa using n7)
        c6 := fun h6 => h.c6' (World.grownBy_alloc w (.cells (cellsC [c]).toArray 24) none) 192 _ (by decide) (by simpa using h6)
        c7 := fun h7 => h.c7' (World.grownBy_alloc w (.cells (cellsC [c]).toArray 24) none) 192 _ (by decide) (by simpa using h7)
        c8 := fun h8 => h.c8' (World.grownBy_alloc w (.cells (cellsC [c]).toArray 24) none) 192 _ (by decide) (by simpa using h8)
        c9 := fun h9 => h.c9' (World.grownBy_alloc w (.cells (cellsC [c]).toArray 24) none) 192 _ (by decide) (by simpa using h9)
        c10 := fun h10 => h.c10' (World.grownBy_alloc w (.cells (cellsC [c]).toArray 24) none) 192 _ (by decide) (by simpa using h10)
        c11 := fun h11 n12 => h.c11' (World.grownBy_alloc w (.cells (cellsC [c]).toArray 24) none) 192 _ (by decide) (by simp) (by simpa using h11) (by simpa using n12)
        c12 := fun h12 => h.c12' (World.grownBy_alloc w (.cells (cellsC [c]).toArray 24) none) 192 _ (by decide) (by simp) (by simpa using h12)
        c13 := fun h13 => h.c13' (World.grownBy_alloc w (.cells (cellsC [c]).toArray 24) none) 192 _ (by decide) (by simpa using h13)
        x04 := fun h0 h4 n2 n5 => Nat.ne_of_lt (h.c0 (by simpa using h0) (by simpa using n2)).2.1.lt
        x0x := fun h0 h11 n2 => h.x0x (by simpa using h0) (by simpa using h11) (by simpa using n2)
        x24 := fun h2 h4 n5 => fun e => Nat.lt_irrefl _ ((h.c2 (by simpa using h2) (by simpa using n5)).2.lt _ e).2
        x2x := fun h2 h11 n5 => h.x2x (by simpa using h2) (by simpa using h11) (by simpa using n5)
        o5 := fun h5 => by have k := h.o5 (by simpa using h5); simp [k]
        o7 := fun h7 => by have k := h.o7 (by simpa using h7); simp [k]
        o12 := fun h12 => by have k := h.o12 (by simpa using h12); simp [k]
      }
    · obtain ⟨o', ho', hg, hdst, sem, dp⟩ := O5
      obtain rfl : o' = o := Option.some.inj (ho'.symm.trans ho)
      have dq := dp L hdep
      refine wpOp_of ho hg ?_
      have c2 := h.c2 dq.1 hLi
      have c4 := h.c4 dq.2 hLi
      refine wp_app_list inf_ch _ _ sem B.heap.size v2 len (cellsC z) c2.1 c2.2 (some ⟨g4, 0, none⟩) 1 1 (cellsC [c]) c4.1 _ (rowG_new (n := 1) (xs := cellsC [c]) c4.2.1 rfl) (by intro e; cases e) (cells_one _) (by omega) (by omega) h.bl.size ?_
      intro v w' hown hgr hwh
      rw [← cellsC_app] at hown
      obtain ⟨A', cap', rfl, k1, k2, _, k3⟩ := rowG_own hown
      rw [hdst]
      refine ⟨g0, g4, gx, v2, ?_⟩
      exact {
        sz := (Act.size_put _ _ _).trans h.sz, df := (Act.defers_put' _ _ _).trans h.df, fr := h.fr' 193 _ (by decide), bl := h.bl' hgr (fun k hk => (c2.2.lt k hk).1)
        c0 := fun h0 n2 => absurd dq.1 (by rw [show L 2 = false by simpa using n2]; simp)
        c1 := fun h1 => h.c1' hgr 193 _ (by decide) (by simpa using h1)
        c2 := fun h2 n5 => absurd n5 (by simp)
        c3 := fun h3 => h.c3' hgr 193 _ (by decide) (by simpa using h3)
        c4 := fun h4 n5 => absurd n5 (by simp)
        c5 := fun h5 n7 => ⟨A', cap', Act.eval_put_same _ 193 _ (by rw [h.sz]; omega), rowG_C k3 hz, k1, k2⟩
        c6 := fun h6 => h.c6' hgr 193 _ (by decide) (by simpa using h6)
        c7 := fun h7 => h.c7' hgr 193 _ (by decide) (by simpa using h7)
        c8 := fun h8 => h.c8' hgr 193 _ (by decide) (by simpa using h8)
        c9 := fun h9 => h.c9' hgr 193 _ (by decide) (by simpa using h9)
        c10 := fun h10 => h.c10' hgr 193 _ (by decide) (by simpa using h10)
        c11 := fun h11 n12 => h.c11' hgr 193 _ (by decide) (fun e => h.x2x dq.1 (by simpa using h11) hLi e.symm) (by simpa using h11) (by simpa using n12)
        c12 := fun h12 => absurd (h.o7 (h.o12 (by simpa using h12)).1) (by rw [hLi]; simp)
        c13 := fun h13 => h.c13' hgr 193 _ (by decide) (by simpa using h13)
        x04 := fun h0 h4 n2 n5 => absurd n5 (by simp)
        x0x := fun h0 h11 n2 => h.x0x (by simpa using h0) (by simpa using h11) (by simpa using n2)
        x24 := fun h2 h4 n5 => absurd n5 (by simp)
        x2x := fun h2 h11 n5 => absurd n5 (by simp)
        o5 := fun h5 => by simpa using dq.1
        o7 := fun h7 => by have k := h.o7 (by simpa using h7); simp [k]
        o12 := fun h12 => by have k := h.o12 (by simpa using h12); simp [k]
      }
    · obtain ⟨o', ho', hg, hdst, sem, dp⟩ := O6
      obtain rfl : o' = o := Option.some.inj (ho'.symm.trans ho)
      have dq := dp L hdep
      refine wpOp_of ho hg ?_
      unfold Oper.wp
      rw [sem a.eval w ((h.fr 5 (by decide)).trans e5) (hI.below h.bl hI.lt)]
      show (∃ g0 g4 gx v2, RgJ B a0 A len cap z c r lo hi g0 g4 gx v2 _ (a.put o'.dst _) _)
      rw [hdst]
      refine ⟨g0, g4, gx, v2, ?_⟩
      exact {
        sz := (Act.size_put _ _ _).trans h.sz, df := (Act.defers_put' _ _ _).trans h.df, fr := h.fr' 194 _ (by decide), bl := h.bl' (World.grownBy.mk rfl rfl rfl (Nat.le_refl _) (fun _ _ _ => rfl) : World.grownBy w w none) (by intro k hk; cases hk)
        c0 := fun h0 n2 => h.c0' (World.grownBy.mk rfl rfl rfl (Nat.le_refl _) (fun _ _ _ => rfl) : World.grownBy w w none) 194 _ (by decide) (by simp) (by simpa using h0) (by simpa using n2)
        c1 := fun h1 => h.c1' (World.grownBy.mk rfl rfl rfl (Nat.le_refl _) (fun _ _ _ => rfl) : World.grownBy w w none) 194 _ (by decide) (by simpa using h1)
        c2 := fun h2 n5 => h.c2' (World.grownBy.mk rfl rfl rfl (Nat.le_refl _) (fun _ _ _ => rfl) : World.grownBy w w none) 194 _ (by decide) (by by_cases e : v2.ownBlock = none; exact .inl e; exact .inr e) (by simpa using h2) (by simpa using n5)
        c3 := fun h3 => h.c3' (World.grownBy.mk rfl rfl rfl (Nat.le_refl _) (fun _ _ _ => rfl) : World.grownBy w w none) 194 _ (by decide) (by simpa using h3)
        c4 := fun h4 n5 => h.c4' (World.grownBy.mk rfl rfl rfl (Nat.le_refl _) (fun _ _ _ => rfl) : World.grownBy w w none) 194 _ (by decide) (by simp) (by simpa using h4) (by simpa using n5)
        c5 := fun h5 n7 => h.c5' (World.grownBy.mk rfl rfl rfl (Nat.le_refl _) (fun _ _ _ => rfl) : World.grownBy w w none) 194 _ (by decide) (by simpa using h5) (by simpa using n7)
        c6 := fun h6 => Act.eval_put_same _ 194 _ (by rw [h.sz]; omega)
        c7 := fun h7 => h.c7' (World.grownBy.mk rfl rfl rfl (Nat.le_refl _) (fun _ _ _ => rfl) : World.grownBy w w none) 194 _ (by decide) (by simpa using h7)
        c8 := fun h8 => h.c8' (World.grownBy.mk rfl rfl rfl (Nat.le_refl _) (fun _ _ _ => rfl) : World.grownBy w w none) 194 _ (by decide) (by simpa using h8)
        c9 := fun h9 => h.c9' (World.grownBy.mk rfl rfl rfl (Nat.le_refl _) (fun _ _ _ => rfl) : World.grownBy w w none) 194 _ (by decide) (by simpa using h9)
        c10 := fun h10 => h.c10' (World.grownBy.mk rfl rfl rfl (Nat.le_refl _) (fun _ _ _ => rfl) : World.grownBy w w none) 194 _ (by decide) (by simpa using h10)
        c11 := fun h11 n12 => h.c11' (World.grownBy.mk rfl rfl rfl (Nat.le_refl _) (fun _ _ _ => rfl) : World.grownBy w w none) 194 _ (by decide) (by simp) (by simpa using h11) (by simpa using n12)
        c12 := fun h12 => h.c12' (World.grownBy.mk rfl rfl rfl (Nat.le_refl _) (fun _ _ _ => rfl) : World.grownBy w w none) 194 _ (by decide) (by simp) (by simpa using h12)
        c13 := fun h13 => h.c13' (World.grownBy.mk rfl rfl rfl (Nat.le_refl _) (fun _ _ _ => rfl) : World.grownBy w w none) 194 _ (by decide) (by simpa using h13)
        x04 := fun h0 h4 n2 n5 => h.x04 (by simpa using h0) (by simpa using h4) (by simpa using n2) (by simpa using n5)
        x0x := fun h0 h11 n2 => h.x0x (by simpa using h0) (by simpa using h11) (by simpa using n2)
        x24 := fun h2 h4 n5 => h.x24 (by simpa using h2) (by simpa using h4) (by simpa using n5)
        x2x := fun h2 h11 n5 => h.x2x (by simpa using h2) (by simpa using h11) (by simpa using n5)
        o5 := fun h5 => by have k := h.o5 (by simpa using h5); simp [k]
        o7 := fun h7 => by have k := h.o7 (by simpa using h7); simp [k]
        o12 := fun h12 => by have k := h.o12 (by simpa using h12); simp [k]
      }
    · obtain ⟨o', ho', hg, hdst, sem, dp⟩ := O7
      obtain rfl : o' = o := Option.some.inj (ho'.symm.trans ho)
      have dq := dp L hdep
      refine wpOp_of ho hg ?_
      obtain ⟨A', cap', k1, k2, k3, k4⟩ := h.c5 dq.1 hLi
      unfold Oper.wp
      rw [sem a w _ _ k1 (h.c6 dq.2)]
      refine Calls.mono (call A' cap' w k2 k3 k4) ?_
      rintro e w' ⟨rfl, b⟩
      have hgr := grown_below b
      show (∃ g0 g4 gx v2, RgJ B a0 A len cap z c r lo hi g0 g4 gx v2 _ (a.put o'.dst _) _)
      rw [hdst]
      refine ⟨g0, g4, gx, v2, ?_⟩
      exact {
        sz := (Act.size_put _ _ _).trans h.sz, df := (Act.defers_put' _ _ _).trans h.df, fr := h.fr' 195 _ (by decide), bl := h.bl' hgr (by intro k hk; cases hk)
        c0 := fun h0 n2 => h.c0' hgr 195 _ (by decide) (by simp) (by simpa using h0) (by simpa using n2)
        c1 := fun h1 => h.c1' hgr 195 _ (by decide) (by simpa using h1)
        c2 := fun h2 n5 => h.c2' hgr 195 _ (by decide) (by by_cases e : v2.ownBlock = none; exact .inl e; exact .inr e) (by simpa using h2) (by simpa using n5)
        c3 := fun h3 => h.c3' hgr 195 _ (by decide) (by simpa using h3)
        c4 := fun h4 n5 => h.c4' hgr 195 _ (by decide) (by simp) (by simpa using h4) (by simpa using n5)
        c5 := fun h5 n7 => absurd n7 (by simp)
        c6 := fun h6 => h.c6' hgr 195 _ (by decide) (by simpa using h6)
        c7 := fun h7 => Act.eval_put_same _ 195 _ (by rw [h.sz]; omega)
        c8 := fun h8 => h.c8' hgr 195 _ (by decide) (by simpa using h8)
        c9 := fun h9 => h.c9' hgr 195 _ (by decide) (by simpa using h9)
        c10 := fun h10 => h.c10' hgr 195 _ (by decide) (by simpa using h10)
        c11 := fun h11 n12 => h.c11' hgr 195 _ (by decide) (by simp) (by simpa using h11) (by simpa using n12)
        c12 := fun h12 => h.c12' hgr 195 _ (by decide) (by simp) (by simpa using h12)
        c13 := fun h13 => h.c13' hgr 195 _ (by decide) (by simpa using h13)
        x04 := fun h0 h4 n2 n5 => h.x04 (by simpa using h0) (by simpa using h4) (by simpa using n2) (by simpa using n5)
        x0x := fun h0 h11 n2 => h.x0x (by simpa using h0) (by simpa using h11) (by simpa using n2)
        x24 := fun h2 h4 n5 => h.x24 (by simpa using h2) (by simpa using h4) (by simpa using n5)
        x2x := fun h2 h11 n5 => h.x2x (by simpa using h2) (by simpa using h11) (by simpa using n5)
        o5 := fun h5 => by have k := h.o5 (by simpa using h5); simp [k]
        o7 := fun h7 => by simpa using dq.1
        o12 := fun h12 => by have k := h.o12 (by simpa using h12); simp [k]
      }
    · obtain ⟨o', ho', hg, hdst, sem, dp⟩ := O8
      obtain rfl : o' = o := Option.some.inj (ho'.symm.trans ho)
      have dq := dp L hdep
      refine wpOp_of ho hg ?_
      unfold Oper.wp
      rw [sem a.eval w _ (h.c7 dq)]
      show (∃ g0 g4 gx v2, RgJ B a0 A len cap z c r lo hi g0 g4 gx v2 _ (a.put o'.dst _) _)
      rw [hdst]
      refine ⟨g0, g4, gx, v2, ?_⟩
      exact {
        sz := (Act.size_put _ _ _).trans h.sz, df := (Act.defers_put' _ _ _).trans h.df, fr := h.fr' 187 _ (by decide), bl := h.bl' (World.grownBy.mk rfl rfl rfl (Nat.le_refl _) (fun _ _ _ => rfl) : World.grownBy w w none) (by intro k hk; cases hk)
        c0 := fun h0 n2 => h.c0' (World.grownBy.mk rfl rfl rfl (Nat.le_refl _) (fun _ _ _ => rfl) : World.grownBy w w none) 187 _ (by decide) (by simp) (by simpa using h0) (by simpa using n2)
        c1 := fun h1 => h.c1' (World.grownBy.mk rfl rfl rfl (Nat.le_refl _) (fun _ _ _ => rfl) : World.grownBy w w none) 187 _ (by decide) (by simpa using h1)
        c2 := fun h2 n5 => h.c2' (World.grownBy.mk rfl rfl rfl (Nat.le_refl _) (fun _ _ _ => rfl) : World.grownBy w w none) 187 _ (by decide) (by by_cases e : v2.ownBlock = none; exact .inl e; exact .inr e) (by simpa using h2) (by simpa using n5)
        c3 := fun h3 => h.c3' (World.grownBy.mk rfl rfl rfl (Nat.le_refl _) (fun _ _ _ => rfl) : World.grownBy w w none) 187 _ (by decide) (by simpa using h3)
        c4 := fun h4 n5 => h.c4' (World.grownBy.mk rfl rfl rfl (Nat.le_refl _) (fun _ _ _ => rfl) : World.grownBy w w none) 187 _ (by decide) (by simp) (by simpa using h4) (by simpa using n5)
        c5 := fun h5 n7 => h.c5' (World.grownBy.mk rfl rfl rfl (Nat.le_refl _) (fun _ _ _ => rfl) : World.grownBy w w none) 187 _ (by decide) (by simpa using h5) (by simpa using n7)
        c6 := fun h6 => h.c6' (World.grownBy.mk rfl rfl rfl (Nat.le_refl _) (fun _ _ _ => rfl) : World.grownBy w w none) 187 _ (by decide) (by simpa using h6)
        c7 := fun h7 => h.c7' (World.grownBy.mk rfl rfl rfl (Nat.le_refl _) (fun _ _ _ => rfl) : World.grownBy w w none) 187 _ (by decide) (by simpa using h7)
        c8 := fun h8 => Act.eval_put_same _ 187 _ (by rw [h.sz]; omega)
        c9 := fun h9 => h.c9' (World.grownBy.mk rfl rfl rfl (Nat.le_refl _) (fun _ _ _ => rfl) : World.grownBy w w none) 187 _ (by decide) (by simpa using h9)
        c10 := fun h10 => h.c10' (World.grownBy.mk rfl rfl rfl (Nat.le_refl _) (fun _ _ _ => rfl) : World.grownBy w w none) 187 _ (by decide) (by simpa using h10)
        c11 := fun h11 n12 => h.c11' (World.grownBy.mk rfl rfl rfl (Nat.le_refl _) (fun _ _ _ => rfl) : World.grownBy w w none) 187 _ (by decide) (by simp) (by simpa using h11) (by simpa using n12)
        c12 := fun h12 => h.c12' (World.grownBy.mk rfl rfl rfl (Nat.le_refl _) (fun _ _ _ => rfl) : World.grownBy w w none) 187 _ (by decide) (by simp) (by simpa using h12)
        c13 := fun h13 => h.c13' (World.grownBy.mk rfl rfl rfl (Nat.le_refl _) (fun _ _ _ => rfl) : World.grownBy w w none) 187 _ (by decide) (by simpa using h13)
        x04 := fun h0 h4 n2 n5 => h.x04 (by simpa using h0) (by simpa using h4) (by simpa using n2) (by simpa using n5)
        x0x := fun h0 h11 n2 => h.x0x (by simpa using h0) (by simpa using h11) (by simpa using n2)
        x24 := fun h2 h4 n5 => h.x24 (by simpa using h2) (by simpa using h4) (by simpa using n5)
        x2x := fun h2 h11 n5 => h.x2x (by simpa using h2) (by simpa using h11) (by simpa using n5)
        o5 := fun h5 => by have k := h.o5 (by simpa using h5); simp [k]
        o7 := fun h7 => by have k := h.o7 (by simpa using h7); simp [k]
        o12 := fun h12 => by have k := h.o12 (by simpa using h12); simp [k]
      }
    · obtain ⟨o', ho', hg, hdst, sem, dp⟩ := O9
      obtain rfl : o' = o := Option.some.inj (ho'.symm.trans ho)
      have dq := dp L hdep
      refine wpOp_of ho hg ?_
      unfold Oper.wp
      rw [sem a.eval w _ _ (h.c8 dq)]
      show (∃ g0 g4 gx v2, RgJ B a0 A len cap z c r lo hi g0 g4 gx v2 _ (a.put o'.dst _) _)
      rw [hdst]
      refine ⟨g0, g4, gx, v2, ?_⟩
      exact {
        sz := (Act.size_put _ _ _).trans h.sz, df := (Act.defers_put' _ _ _).trans h.df, fr := h.fr' 196 _ (by decide), bl := h.bl' (World.grownBy.mk rfl rfl rfl (Nat.le_refl _) (fun _ _ _ => rfl) : World.grownBy w w none) (by intro k hk; cases hk)
        c0 := fun h0 n2 => h.c0' (World.grownBy.mk rfl rfl rfl (Nat.le_refl _) (fun _ _ _ => rfl) : World.grownBy w w none) 196 _ (by decide) (by simp) (by simpa using h0) (by simpa using n2)
        c1 := fun h1 => h.c1' (World.grownBy.mk rfl rfl rfl (Nat.le_refl _) (fun _ _ _ => rfl) : World.grownBy w w none) 196 _ (by decide) (by simpa using h1)
        c2 := fun h2 n5 => h.c2' (World.grownBy.mk rfl rfl rfl (Nat.le_refl _) (fun _ _ _ => rfl) : World.grownBy w w none) 196 _ (by decide) (by by_cases e : v2.ownBlock = none; exact .inl e; exact .inr e) (by simpa using h2) (by simpa using n5)
        c3 := fun h3 => h.c3' (World.grownBy.mk rfl rfl rfl (Nat.le_refl _) (fun _ _ _ => rfl) : World.grownBy w w none) 196 _ (by decide) (by simpa using h3)
        c4 := fun h4 n5 => h.c4' (World.grownBy.mk rfl rfl rfl (Nat.le_refl _) (fun _ _ _ => rfl) : World.grownBy w w none) 196 _ (by decide) (by simp) (by simpa using h4) (by simpa using n5)
        c5 := fun h5 n7 => h.c5' (World.grownBy.mk rfl rfl rfl (Nat.le_refl _) (fun _ _ _ => rfl) : World.grownBy w w none) 196 _ (by decide) (by simpa using h5) (by simpa using n7)
        c6 := fun h6 => h.c6' (World.grownBy.mk rfl rfl rfl (Nat.le_refl _) (fun _ _ _ => rfl) : World.grownBy w w none) 196 _ (by decide) (by simpa using h6)
        c7 := fun h7 => h.c7' (World.grownBy.mk rfl rfl rfl (Nat.le_refl _) (fun _ _ _ => rfl) : World.grownBy w w none) 196 _ (by decide) (by simpa using h7)
        c8 := fun h8 => h.c8' (World.grownBy.mk rfl rfl rfl (Nat.le_refl _) (fun _ _ _ => rfl) : World.grownBy w w none) 196 _ (by decide) (by simpa using h8)
        c9 := fun h9 => Act.eval_put_same _ 196 _ (by rw [h.sz]; omega)
        c10 := fun h10 => h.c10' (World.grownBy.mk rfl rfl rfl (Nat.le_refl _) (fun _ _ _ => rfl) : World.grownBy w w none) 196 _ (by decide) (by simpa using h10)
        c11 := fun h11 n12 => h.c11' (World.grownBy.mk rfl rfl rfl (Nat.le_refl _) (fun _ _ _ => rfl) : World.grownBy w w none) 196 _ (by decide) (by simp) (by simpa using h11) (by simpa using n12)
        c12 := fun h12 => h.c12' (World.grownBy.mk rfl rfl rfl (Nat.le_refl _) (fun _ _ _ => rfl) : World.grownBy w w none) 196 _ (by decide) (by simp) (by simpa using h12)
        c13 := fun h13 => h.c13' (World.grownBy.mk rfl rfl rfl (Nat.le_refl _) (fun _ _ _ => rfl) : World.grownBy w w none) 196 _ (by decide) (by simpa using h13)
        x04 := fun h0 h4 n2 n5 => h.x04 (by simpa using h0) (by simpa using h4) (by simpa using n2) (by simpa using n5)
        x0x := fun h0 h11 n2 => h.x0x (by simpa using h0) (by simpa using h11) (by simpa using n2)
        x24 := fun h2 h4 n5 => h.x24 (by simpa using h2) (by simpa using h4) (by simpa using n5)
        x2x := fun h2 h11 n5 => h.x2x (by simpa using h2) (by simpa using h11) (by simpa using n5)
        o5 := fun h5 => by have k := h.o5 (by simpa using h5); simp [k]
        o7 := fun h7 => by have k := h.o7 (by simpa using h7); simp [k]
        o12 := fun h12 => by have k := h.o12 (by simpa using h12); simp [k]
      }
    · obtain ⟨o', ho', hg, hdst, sem, dp⟩ := O10
      obtain rfl : o' = o := Option.some.inj (ho'.symm.trans ho)
      have dq := dp L hdep
      refine wpOp_of ho hg ?_
      unfold Oper.wp
      rw [sem a.eval w _ _ (h.c8 dq)]
      show (∃ g0 g4 gx v2, RgJ B a0 A len cap z c r lo hi g0 g4 gx v2 _ (a.put o'.dst _) _)
      rw [hdst]
      refine ⟨g0, g4, gx, v2, ?_⟩
      exact {
        sz := (Act.size_put _ _ _).trans h.sz, df := (Act.defers_put' _ _ _).trans h.df, fr := h.fr' 197 _ (by decide), bl := h.bl' (World.grownBy.mk rfl rfl rfl (Nat.le_refl _) (fun _ _ _ => rfl) : World.grownBy w w none) (by intro k hk; cases hk)
        c0 := fun h0 n2 => h.c0' (World.grownBy.mk rfl rfl rfl (Nat.le_refl _) (fun _ _ _ => rfl) : World.grownBy w w none) 197 _ (by decide) (by simp) (by simpa using h0) (by simpa using n2)
        c1 := fun h1 => h.c1' (World.grownBy.mk rfl rfl rfl (Nat.le_refl _) (fun _ _ _ => rfl) : World.grownBy w w none) 197 _ (by decide) (by simpa using h1)
        c2 := fun h2 n5 => h.c2' (World.grownBy.mk rfl rfl rfl (Nat.le_refl _) (fun _ _ _ => rfl) : World.grownBy w w none) 197 _ (by decide) (by by_cases e : v2.ownBlock = none; exact .inl e; exact .inr e) (by simpa using h2) (by simpa using n5)
        c3 := fun h3 => h.c3' (World.grownBy.mk rfl rfl rfl (Nat.le_refl _) (fun _ _ _ => rfl) : World.grownBy w w none) 197 _ (by decide) (by simpa using h3)
        c4 := fun h4 n5 => h.c4' (World.grownBy.mk rfl rfl rfl (Nat.le_refl _) (fun _ _ _ => rfl) : World.grownBy w w none) 197 _ (by decide) (by simp) (by simpa using h4) (by simpa using n5)
        c5 := fun h5 n7 => h.c5' (World.grownBy.mk rfl rfl rfl (Nat.le_refl _) (fun _ _ _ => rfl) : World.grownBy w w none) 197 _ (by decide) (by simpa using h5) (by simpa using n7)
        c6 := fun h6 => h.c6' (World.grownBy.mk rfl rfl rfl (Nat.le_refl _) (fun _ _ _ => rfl) : World.grownBy w w none) 197 _ (by decide) (by simpa using h6)
        c7 := fun h7 => h.c7' (World.grownBy.mk rfl rfl rfl (Nat.le_refl _) (fun _ _ _ => rfl) : World.grownBy w w none) 197 _ (by decide) (by simpa using h7)
        c8 := fun h8 => h.c8' (World.grownBy.mk rfl rfl rfl (Nat.le_refl _) (fun _ _ _ => rfl) : World.grownBy w w none) 197 _ (by decide) (by simpa using h8)
        c9 := fun h9 => h.c9' (World.grownBy.mk rfl rfl rfl (Nat.le_refl _) (fun _ _ _ => rfl) : World.grownBy w w none) 197 _ (by decide) (by simpa using h9)
        c10 := fun h10 => Act.eval_put_same _ 197 _ (by rw [h.sz]; omega)
        c11 := fun h11 n12 => h.c11' (World.grownBy.mk rfl rfl rfl (Nat.le_refl _) (fun _ _ _ => rfl) : World.grownBy w w none) 197 _ (by decide) (by simp) (by simpa using h11) (by simpa using n12)
        c12 := fun h12 => h.c12' (World.grownBy.mk rfl rfl rfl (Nat.le_refl _) (fun _ _ _ => rfl) : World.grownBy w w none) 197 _ (by decide) (by simp) (by simpa using h12)
        c13 := fun h13 => h.c13' (World.grownBy.mk rfl rfl rfl (Nat.le_refl _) (fun _ _ _ => rfl) : World.grownBy w w none) 197 _ (by decide) (by simpa using h13)
        x04 := fun h0 h4 n2 n5 => h.x04 (by simpa using h0) (by simpa using h4) (by simpa using n2) (by simpa using n5)
        x0x := fun h0 h11 n2 => h.x0x (by simpa using h0) (by simpa using h11) (by simpa using n2)
        x24 := fun h2 h4 n5 => h.x24 (by simpa using h2) (by simpa using h4) (by simpa using n5)
        x2x := fun h2 h11 n5 => h.x2x (by simpa using h2) (by simpa using h11) (by simpa using n5)
        o5 := fun h5 => by have k := h.o5 (by simpa using h5); simp [k]
        o7 := fun h7 => by have k := h.o7 (by simpa using h7); simp [k]
        o12 := fun h12 => by have k := h.o12 (by simpa using h12); simp [k]
      }
    · obtain ⟨o', ho', hg, hdst, sem, dp⟩ := O11
      obtain rfl : o' = o := Option.some.inj (ho'.symm.trans ho)
      have dq := dp L hdep
      refine wpOp_of ho hg ?_
      unfold Oper.wp
      rw [sem a.eval w]
      show (∃ g0 g4 gx v2, RgJ B a0 A len cap z c r lo hi g0 g4 gx v2 _ (a.put o'.dst _) _)
      rw [hdst]
      refine ⟨g0, g4, w.heap.size, v2, ?_⟩
      exact {
        sz := (Act.size_put _ _ _).trans h.sz, df := (Act.defers_put' _ _ _).trans h.df, fr := h.fr' 19 _ (by decide), bl := h.bl' (World.grownBy_alloc w (.cells #[.int .i64 0, .int .i64 0, .int .i64 0, .int .i64 0, .int .i64 0] 24) none) (by intro k hk; cases hk)
        c0 := fun h0 n2 => h.c0' (World.grownBy_alloc w (.cells #[.int .i64 0, .int .i64 0, .int .i64 0, .int .i64 0, .int .i64 0] 24) none) 19 _ (by decide) (by simp) (by simpa using h0) (by simpa using n2)
        c1 := fun h1 => h.c1' (World.grownBy_alloc w (.cells #[.int .i64 0, .int .i64 0, .int .i64 0, .int .i64 0, .int .i64 0] 24) none) 19 _ (by decide) (by simpa using h1)
        c2 := fun h2 n5 => h.c2' (World.grownBy_alloc w (.cells #[.int .i64 0, .int .i64 0, .int .i64 0, .int .i64 0, .int .i64 0] 24) none) 19 _ (by decide) (by by_cases e : v2.ownBlock = none; exact .inl e; exact .inr e) (by simpa using h2) (by simpa using n5)
        c3 := fun h3 => h.c3' (World.grownBy_alloc w (.cells #[.int .i64 0, .int .i64 0, .int .i64 0, .int .i64 0, .int .i64 0] 24) none) 19 _ (by decide) (by simpa using h3)
        c4 := fun h4 n5 => h.c4' (World.grownBy_alloc w (.cells #[.int .i64 0, .int .i64 0, .int .i64 0, .int .i64 0, .int .i64 0] 24) none) 19 _ (by decide) (by simp) (by simpa using h4) (by simpa using n5)
        c5 := fun h5 n7 => h.c5' (World.grownBy_alloc w (.cells #[.int .i64 0, .int .i64 0, .int .i64 0, .int .i64 0, .int .i64 0] 24) none) 19 _ (by decide) (by simpa using h5) (by simpa using n7)
        c6 := fun h6 => h.c6' (World.grownBy_alloc w (.cells #[.int .i64 0, .int .i64 0, .int .i64 0, .int .i64 0, .int .i64 0] 24) none) 19 _ (by decide) (by simpa using h6)
        c7 := fun h7 => h.c7' (World.grownBy_alloc w (.cells #[.int .i64 0, .int .i64 0, .int .i64 0, .int .i64 0, .int .i64 0] 24) none) 19 _ (by decide) (by simpa using h7)
        c8 := fun h8 => h.c8' (World.grownBy_alloc w (.cells #[.int .i64 0, .int .i64 0, .int .i64 0, .int .i64 0, .int .i64 0] 24) none) 19 _ (by decide) (by simpa using h8)
        c9 := fun h9 => h.c9' (World.grownBy_alloc w (.cells #[.int .i64 0, .int .i64 0, .int .i64 0, .int .i64 0, .int .i64 0] 24) none) 19 _ (by decide) (by simpa using h9)
        c10 := fun h10 => h.c10' (World.grownBy_alloc w (.cells #[.int .i64 0, .int .i64 0, .int .i64 0, .int .i64 0, .int .i64 0] 24) none) 19 _ (by decide) (by simpa using h10)
        c11 := fun h11 n12 => ⟨Act.eval_put_same _ 19 _ (by rw [h.sz]; omega), Cells.new w _ _, h.bl.size⟩
        c12 := fun h12 => absurd (h.o12 (by simpa using h12)).2 (by rw [hLi]; simp)
        c13 := fun h13 => h.c13' (World.grownBy_alloc w (.cells #[.int .i64 0, .int .i64 0, .int .i64 0, .int .i64 0, .int .i64 0] 24) none) 19 _ (by decide) (by simpa using h13)
        x04 := fun h0 h4 n2 n5 => h.x04 (by simpa using h0) (by simpa using h4) (by simpa using n2) (by simpa using n5)
        x0x := fun h0 h11 n2 => Nat.ne_of_lt (h.c0 (by simpa using h0) (by simpa using n2)).2.1.lt
        x24 := fun h2 h4 n5 => h.x24 (by simpa using h2) (by simpa using h4) (by simpa using n5)
        x2x := fun h2 h11 n5 => fun e => Nat.lt_irrefl _ ((h.c2 (by simpa using h2) (by simpa using n5)).2.lt _ e).2
        o5 := fun h5 => by have k := h.o5 (by simpa using h5); simp [k]
        o7 := fun h7 => by have k := h.o7 (by simpa using h7); simp [k]
        o12 := fun h12 => by have k := h.o12 (by simpa using h12); simp [k]
      }
    · obtain ⟨o', ho', hg, hdst, sem, dp⟩ := O12
      obtain rfl : o' = o := Option.some.inj (ho'.symm.trans ho)
      have dq := dp L hdep
      refine wpOp_of ho hg ?_
      have n12 := hLi
      have c11 := h.c11 dq.2.2 hLi
      have d5 := h.o7 dq.1
      have d2 := h.o5 d5
      unfold Oper.wp
      rw [sem a.eval w gx c11.1 (h.c9 dq.2.1) c11.2.1]
      show (∃ g0 g4 gx v2, RgJ B a0 A len cap z c r lo hi g0 g4 gx v2 _ (a.put o'.dst _) _)
      rw [hdst]
      show (∃ g0 g4 gx v2, RgJ B a0 A len cap z c r lo hi g0 g4 gx v2 _ a _)
      refine ⟨g0, g4, gx, v2, ?_⟩
      exact {
        sz := h.sz, df := h.df, fr := h.fr, bl := below_put h.bl gx c11.2.2 r
        c0 := fun h0 n2 => absurd d2 (by rw [show L 2 = false by simpa using n2]; simp)
        c1 := fun h1 => h.c1 (by simpa using h1)
        c2 := fun h2 n5 => absurd d5 (by rw [show L 5 = false by simpa using n5]; simp)
        c3 := fun h3 => h.c3 (by simpa using h3)
        c4 := fun h4 n5 => absurd d5 (by rw [show L 5 = false by simpa using n5]; simp)
        c5 := fun h5 n7 => absurd dq.1 (by rw [show L 7 = false by simpa using n7]; simp)
        c6 := fun h6 => h.c6 (by simpa using h6)
        c7 := fun h7 => h.c7 (by simpa using h7)
        c8 := fun h8 => h.c8 (by simpa using h8)
        c9 := fun h9 => h.c9 (by simpa using h9)
        c10 := fun h10 => h.c10 (by simpa using h10)
        c11 := fun h11 n12 => absurd n12 (by simp)
        c12 := fun h12 => ⟨c11.1, five_put c11.2.1 r⟩
        c13 := fun h13 => h.c13 (by simpa using h13)
        x04 := fun h0 h4 n2 n5 => absurd d5 (by rw [show L 5 = false by simpa using n5]; simp)
        x0x := fun h0 h11 n2 => absurd d2 (by rw [show L 2 = false by simpa using n2]; simp)
        x24 := fun h2 h4 n5 => absurd d5 (by rw [show L 5 = false by simpa using n5]; simp)
        x2x := fun h2 h11 n5 => absurd d5 (by rw [show L 5 = false by simpa using n5]; simp)
        o5 := fun h5 => by have k := h.o5 (by simpa using h5); simp [k]
        o7 := fun h7 => by have k := h.o7 (by simpa using h7); simp [k]
        o12 := fun h12 => ⟨by simpa using dq.1, by simpa using dq.2.2⟩
      }
    · obtain ⟨o', ho', hg, hdst, sem, dp⟩ := O13
      obtain rfl : o' = o := Option.some.inj (ho'.symm.trans ho)
      have dq := dp L hdep
      refine wpOp_of ho hg ?_
      unfold Oper.wp
      rw [sem a.eval w _ (h.c10 dq)]
      show (∃ g0 g4 gx v2, RgJ B a0 A len cap z c r lo hi g0 g4 gx v2 _ (a.put o'.dst _) _)
      rw [hdst]
      refine ⟨g0, g4, gx, v2, ?_⟩
      exact {
        sz := (Act.size_put _ _ _).trans h.sz, df := (Act.defers_put' _ _ _).trans h.df, fr := h.fr' 20 _ (by decide), bl := h.bl' (World.grownBy.mk rfl rfl rfl (Nat.le_refl _) (fun _ _ _ => rfl) : World.grownBy w w none) (by intro k hk; cases hk)
        c0 := fun h0 n2 => h.c0' (World.grownBy.mk rfl rfl rfl (Nat.le_refl _) (fun _ _ _ => rfl) : World.grownBy w w none) 20 _ (by decide) (by simp) (by simpa using h0) (by simpa using n2)
        c1 := fun h1 => h.c1' (World.grownBy.mk rfl rfl rfl (Nat.le_refl _) (fun _ _ _ => rfl) : World.grownBy w w none) 20 _ (by decide) (by simpa using h1)
        c2 := fun h2 n5 => h.c2' (World.grownBy.mk rfl rfl rfl (Nat.le_refl _) (fun _ _ _ => rfl) : World.grownBy w w none) 20 _ (by decide) (by by_cases e : v2.ownBlock = none; exact .inl e; exact .inr e) (by simpa using h2) (by simpa using n5)
        c3 := fun h3 => h.c3' (World.grownBy.mk rfl rfl rfl (Nat.le_refl _) (fun _ _ _ => rfl) : World.grownBy w w none) 20 _ (by decide) (by simpa using h3)
        c4 := fun h4 n5 => h.c4' (World.grownBy.mk rfl rfl rfl (Nat.le_refl _) (fun _ _ _ => rfl) : World.grownBy w w none) 20 _ (by decide) (by simp) (by simpa using h4) (by simpa using n5)
        c5 := fun h5 n7 => h.c5' (World.grownBy.mk rfl rfl rfl (Nat.le_refl _) (fun _ _ _ => rfl) : World.grownBy w w none) 20 _ (by decide) (by simpa using h5) (by simpa using n7)
        c6 := fun h6 => h.c6' (World.grownBy.mk rfl rfl rfl (Nat.le_refl _) (fun _ _ _ => rfl) : World.grownBy w w none) 20 _ (by decide) (by simpa using h6)
        c7 := fun h7 => h.c7' (World.grownBy.mk rfl rfl rfl (Nat.le_refl _) (fun _ _ _ => rfl) : World.grownBy w w none) 20 _ (by decide) (by simpa using h7)
        c8 := fun h8 => h.c8' (World.grownBy.mk rfl rfl rfl (Nat.le_refl _) (fun _ _ _ => rfl) : World.grownBy w w none) 20 _ (by decide) (by simpa using h8)
        c9 := fun h9 => h.c9' (World.grownBy.mk rfl rfl rfl (Nat.le_refl _) (fun _ _ _ => rfl) : World.grownBy w w none) 20 _ (by decide) (by simpa using h9)
        c10 := fun h10 => h.c10' (World.grownBy.mk rfl rfl rfl (Nat.le_refl _) (fun _ _ _ => rfl) : World.grownBy w w none) 20 _ (by decide) (by simpa using h10)
        c11 := fun h11 n12 => h.c11' (World.grownBy.mk rfl rfl rfl (Nat.le_refl _) (fun _ _ _ => rfl) : World.grownBy w w none) 20 _ (by decide) (by simp) (by simpa using h11) (by simpa using n12)
        c12 := fun h12 => h.c12' (World.grownBy.mk rfl rfl rfl (Nat.le_refl _) (fun _ _ _ => rfl) : World.grownBy w w none) 20 _ (by decide) (by simp) (by simpa using h12)
        c13 := fun h13 => Act.eval_put_same _ 20 _ (by rw [h.sz]; omega)
        x04 := fun h0 h4 n2 n5 => h.x04 (by simpa using h0) (by simpa using h4) (by simpa using n2) (by simpa using n5)
        x0x := fun h0 h11 n2 => h.x0x (by simpa using h0) (by simpa using h11) (by simpa using n2)
        x24 := fun h2 h4 n5 => h.x24 (by simpa using h2) (by simpa using h4) (by simpa using n5)
        x2x := fun h2 h11 n5 => h.x2x (by simpa using h2) (by simpa using h11) (by simpa using n5)
        o5 := fun h5 => by have k := h.o5 (by simpa using h5); simp [k]
        o7 := fun h7 => by have k := h.o7 (by simpa using h7); simp [k]
        o12 := fun h12 => by have k := h.o12 (by simpa using h12); simp [k]
      }
  · rintro L a w ⟨g0, g4, gx, v2, h⟩ hall
    have al : ∀ i, i < 14 → L i = true := fun i hi => hall i (by rw [hsz]; exact hi)
    have c12 := h.c12 (al 12 (by omega))
    have k := fin (a.eval (.tmp 188)) (a.eval (.tmp 189)) (a.eval (.tmp 190)) (a.eval (.tmp 191)) (a.eval (.tmp 192)) (a.eval (.tmp 193)) (a.eval (.tmp 194)) (a.eval (.tmp 195)) (a.eval (.tmp 187)) (a.eval (.tmp 196)) (a.eval (.tmp 197)) gx w c12.2 h.bl
    refine cast (congrArg (fun b => Q .normal b w) (act_ext ?_ ?_ (fun t => ?_))) k
    · simp only [Act.size_put]; exact h.sz.symm
    · simp only [Act.defers_put']; exact h.df.symm
    · by_cases ht : t ∈ DS
      · simp only [DS, List.mem_cons, List.not_mem_nil, or_false] at ht
        rcases ht with rfl | rfl | rfl | rfl | rfl | rfl | rfl | rfl | rfl | rfl | rfl | rfl | rfl
        · rw [Act.eval_put_ne _ _ _ _ (by decide)]; rw [Act.eval_put_ne _ _ _ _ (by decide)]; rw [Act.eval_put_ne _ _ _ _ (by decide)]; rw [Act.eval_put_ne _ _ _ _ (by decide)]; rw [Act.eval_put_ne _ _ _ _ (by decide)]; rw [Act.eval_put_ne _ _ _ _ (by decide)]; rw [Act.eval_put_ne _ _ _ _ (by decide)]; rw [Act.eval_put_ne _ _ _ _ (by decide)]; rw [Act.eval_put_ne _ _ _ _ (by decide)]; rw [Act.eval_put_ne _ _ _ _ (by decide)]; rw [Act.eval_put_ne _ _ _ _ (by decide)]; rw [Act.eval_put_ne _ _ _ _ (by decide)]; rw [Act.eval_put_same _ _ _ (by (try simp only [Act.size_put]); omega)]
        · rw [Act.eval_put_ne _ _ _ _ (by decide)]; rw [Act.eval_put_ne _ _ _ _ (by decide)]; rw [Act.eval_put_ne _ _ _ _ (by decide)]; rw [Act.eval_put_ne _ _ _ _ (by decide)]; rw [Act.eval_put_ne _ _ _ _ (by decide)]; rw [Act.eval_put_ne _ _ _ _ (by decide)]; rw [Act.eval_put_ne _ _ _ _ (by decide)]; rw [Act.eval_put_ne _ _ _ _ (by decide)]; rw [Act.eval_put_ne _ _ _ _ (by decide)]; rw [Act.eval_put_ne _ _ _ _ (by decide)]; rw [Act.eval_put_ne _ _ _ _ (by decide)]; rw [Act.eval_put_same _ _ _ (by (try simp only [Act.size_put]); omega)]
        · rw [Act.eval_put_ne _ _ _ _ (by decide)]; rw [Act.eval_put_ne _ _ _ _ (by decide)]; rw [Act.eval_put_ne _ _ _ _ (by decide)]; rw [Act.eval_put_ne _ _ _ _ (by decide)]; rw [Act.eval_put_ne _ _ _ _ (by decide)]; rw [Act.eval_put_ne _ _ _ _ (by decide)]; rw [Act.eval_put_ne _ _ _ _ (by decide)]; rw [Act.eval_put_ne _ _ _ _ (by decide)]; rw [Act.eval_put_ne _ _ _ _ (by decide)]; rw [Act.eval_put_ne _ _ _ _ (by decide)]; rw [Act.eval_put_same _ _ _ (by (try simp only [Act.size_put]); omega)]
        · rw [Act.eval_put_ne _ _ _ _ (by decide)]; rw [Act.eval_put_ne _ _ _ _ (by decide)]; rw [Act.eval_put_ne _ _ _ _ (by decide)]; rw [Act.eval_put_ne _ _ _ _ (by decide)]; rw [Act.eval_put_ne _ _ _ _ (by decide)]; rw [Act.eval_put_ne _ _ _ _ (by decide)]; rw [Act.eval_put_ne _ _ _ _ (by decide)]; rw [Act.eval_put_ne _ _ _ _ (by decide)]; rw [Act.eval_put_ne _ _ _ _ (by decide)]; rw [Act.eval_put_same _ _ _ (by (try simp only [Act.size_put]); omega)]
        · rw [Act.eval_put_ne _ _ _ _ (by decide)]; rw [Act.eval_put_ne _ _ _ _ (by decide)]; rw [Act.eval_put_ne _ _ _ _ (by decide)]; rw [Act.eval_put_ne _ _ _ _ (by decide)]; rw [Act.eval_put_ne _ _ _ _ (by decide)]; rw [Act.eval_put_ne _ _ _ _ (by decide)]; rw [Act.eval_put_ne _ _ _ _ (by decide)]; rw [Act.eval_put_ne _ _ _ _ (by decide)]; rw [Act.eval_put_same _ _ _ (by (try simp only [Act.size_put]); omega)]
        · rw [Act.eval_put_ne _ _ _ _ (by decide)]; rw [Act.eval_put_ne _ _ _ _ (by decide)]; rw [Act.eval_put_ne _ _ _ _ (by decide)]; rw [Act.eval_put_ne _ _ _ _ (by decide)]; rw [Act.eval_put_ne _ _ _ _ (by decide)]; rw [Act.eval_put_ne _ _ _ _ (by decide)]; rw [Act.eval_put_ne _ _ _ _ (by decide)]; rw [Act.eval_put_same _ _ _ (by (try simp only [Act.size_put]); omega)]
        · rw [Act.eval_put_ne _ _ _ _ (by decide)]; rw [Act.eval_put_ne _ _ _ _ (by decide)]; rw [Act.eval_put_ne _ _ _ _ (by decide)]; rw [Act.eval_put_ne _ _ _ _ (by decide)]; rw [Act.eval_put_ne _ _ _ _ (by decide)]; rw [Act.eval_put_ne _ _ _ _ (by decide)]; rw [Act.eval_put_same _ _ _ (by (try simp only [Act.size_put]); omega)]
        · rw [Act.eval_put_ne _ _ _ _ (by decide)]; rw [Act.eval_put_ne _ _ _ _ (by decide)]; rw [Act.eval_put_ne _ _ _ _ (by decide)]; rw [Act.eval_put_ne _ _ _ _ (by decide)]; rw [Act.eval_put_ne _ _ _ _ (by decide)]; rw [Act.eval_put_same _ _ _ (by (try simp only [Act.size_put]); omega)]
        · rw [Act.eval_put_ne _ _ _ _ (by decide)]; rw [Act.eval_put_ne _ _ _ _ (by decide)]; rw [Act.eval_put_ne _ _ _ _ (by decide)]; rw [Act.eval_put_ne _ _ _ _ (by decide)]; rw [Act.eval_put_same _ _ _ (by (try simp only [Act.size_put]); omega)]
        · rw [Act.eval_put_ne _ _ _ _ (by decide)]; rw [Act.eval_put_ne _ _ _ _ (by decide)]; rw [Act.eval_put_ne _ _ _ _ (by decide)]; rw [Act.eval_put_same _ _ _ (by (try simp only [Act.size_put]); omega)]
        · rw [Act.eval_put_ne _ _ _ _ (by decide)]; rw [Act.eval_put_ne _ _ _ _ (by decide)]; rw [Act.eval_put_same _ _ _ (by (try simp only [Act.size_put]); omega)]
        · rw [Act.eval_put_ne _ _ _ _ (by decide)]; rw [Act.eval_put_same _ _ _ (by (try simp only [Act.size_put]); omega)]; exact c12.1.symm
        · rw [Act.eval_put_same _ _ _ (by (try simp only [Act.size_put]); omega)]; exact (h.c13 (al 13 (by omega))).symm
      · rw [Act.eval_put_ne _ 20 t _ (fun e => ht (e ▸ (by decide : 20 ∈ DS))), Act.eval_put_ne _ 19 t _ (fun e => ht (e ▸ (by decide : 19 ∈ DS))), Act.eval_put_ne _ 197 t _ (fun e => ht (e ▸ (by decide : 197 ∈ DS))), Act.eval_put_ne _ 196 t _ (fun e => ht (e ▸ (by decide : 196 ∈ DS))), Act.eval_put_ne _ 187 t _ (fun e => ht (e ▸ (by decide : 187 ∈ DS))), Act.eval_put_ne _ 195 t _ (fun e => ht (e ▸ (by decide : 195 ∈ DS))), Act.eval_put_ne _ 194 t _ (fun e => ht (e ▸ (by decide : 194 ∈ DS))), Act.eval_put_ne _ 193 t _ (fun e => ht (e ▸ (by decide : 193 ∈ DS))), Act.eval_put_ne _ 192 t _ (fun e => ht (e ▸ (by decide : 192 ∈ DS))), Act.eval_put_ne _ 191 t _ (fun e => ht (e ▸ (by decide : 191 ∈ DS))), Act.eval_put_ne _ 190 t _ (fun e => ht (e ▸ (by decide : 190 ∈ DS))), Act.eval_put_ne _ 189 t _ (fun e => ht (e ▸ (by decide : 189 ∈ DS))), Act.eval_put_ne _ 188 t _ (fun e => ht (e ▸ (by decide : 188 ∈ DS)))]
        exact (h.fr t ht).symm
end Go.Proofs.Ytkeahbdeddjoeaa
