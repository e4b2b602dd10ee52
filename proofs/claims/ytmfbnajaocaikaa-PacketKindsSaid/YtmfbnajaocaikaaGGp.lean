/- Layer 11: package packet's GetReply over the landed code, path by path (gen/gen_prog.py writes this). -/
import Derived.Test.YtmfbnajaocaikaaGRp
namespace Go.Proofs.Ytmfbnajaocaikaa
open Go.RowKit Go.Sort Go
set_option linter.unusedVariables false
set_option linter.unusedSimpArgs false

set_option maxRecDepth 100000 in
set_option maxHeartbeats 8000000 in
theorem ggetp_off (A : Option Addr) (m cap : Nat) (a h r n l u k t c s : Int) (w : World) (RD : Hid (∀ W gr gh, Below w.heap.size w W → gr ≠ gh → Cells W gr 30 #[.int .i64 0, .int .i64 0, .int .i64 0, .int .u64 0, .int .i64 0, .int .i64 0, .int .i64 0, .int .i64 0, .int .i64 0, .int .i64 0] → Cells W gh 53 #[.int .i64 0, .int .i64 0] → Calls Try.prog 36 #[.int .u8 2, .slice A m cap, .agg #[.pointer (some ⟨gr, 0, none⟩), .pointer (some ⟨gr, 1, none⟩), .pointer (some ⟨gr, 2, none⟩), .pointer (some ⟨gh, 0, none⟩), .pointer (some ⟨gh, 1, none⟩), .pointer (some ⟨gr, 4, none⟩), .pointer (some ⟨gr, 5, none⟩), .pointer (some ⟨gr, 6, none⟩), .pointer (some ⟨gr, 7, none⟩), .pointer (some ⟨gr, 8, none⟩), .pointer (some ⟨gr, 9, none⟩)], .func (.func 29) #[.pointer (some ⟨gh, 0, none⟩)] #[]] W (fun e w' => e = .returned (.tuple #[.int .u64 n, .bool false]) ∧ Keep2 W w' gr gh ∧ (∃ cs, Cells w' gr 30 cs ∧ cs = #[.int .i64 a, .int .i64 h, .int .i64 r, .int .u64 0, .int .i64 l, .int .i64 u, .int .i64 k, .int .i64 t, .int .i64 c, .int .i64 s]) ∧ ∃ cs, Cells w' gh 53 cs)))  :
    Calls Try.prog 18 #[.slice A m cap] w (Gives (.tuple #[.agg #[.int .i64 0, .int .i64 0, .int .i64 0, .int .u64 0, .int .i64 0, .int .i64 0, .int .i64 0, .int .i64 0, .int .i64 0, .int .i64 0], .int .i64 7]) w) := by
  obtain ⟨W1, hW1⟩ : ∃ W, w.alloc (.cells #[.int .i64 0, .int .i64 0, .int .i64 0, .int .u64 0, .int .i64 0, .int .i64 0, .int .i64 0, .int .i64 0, .int .i64 0, .int .i64 0] 30) = W := ⟨_, rfl⟩
  obtain ⟨W2, hW2⟩ : ∃ W, W1.alloc (.cells #[.int .i64 0, .int .i64 0, .int .i64 0, .int .u64 0, .int .i64 0, .int .i64 0, .int .i64 0, .int .i64 0, .int .i64 0, .int .i64 0] 30) = W := ⟨_, rfl⟩
  obtain ⟨W3, hW3⟩ : ∃ W, W2.alloc (.cells #[.int .i64 0, .int .i64 0] 53) = W := ⟨_, rfl⟩
  have s1 : W1.heap.size = w.heap.size + 1 := by rw [← hW1]; simp
  have s2 : W2.heap.size = w.heap.size + 2 := by rw [← hW2]; simp; omega
  have Z0 : Hid (Cells W3 w.heap.size 30 #[.int .i64 0, .int .i64 0, .int .i64 0, .int .u64 0, .int .i64 0, .int .i64 0, .int .i64 0, .int .i64 0, .int .i64 0, .int .i64 0]) := by rw [← hW3, ← hW2, ← hW1]; exact ((Cells.new w _ _).alloc _).alloc _
  have R0 : Hid (Cells W3 (w.heap.size + 1) 30 #[.int .i64 0, .int .i64 0, .int .i64 0, .int .u64 0, .int .i64 0, .int .i64 0, .int .i64 0, .int .i64 0, .int .i64 0, .int .i64 0]) := by rw [← hW3, ← hW2, ← s1]; exact (Cells.new W1 _ _).alloc _
  have H0 : Hid (Cells W3 (w.heap.size + 2) 53 #[.int .i64 0, .int .i64 0]) := by rw [← hW3, ← s2]; exact Cells.new W2 _ _
  have B0 : Hid (Below w.heap.size w W3) := by rw [← hW3, ← hW2, ← hW1]; exact ((below_alloc w _).alloc (by simp) _).alloc (by simp; omega) _
  have hmf : ∀ (fn : Fn) (first cap : Array Value) (w : World), (Instr.makeFunc fn first cap).run Try.prog w = .ok (.func fn first cap) w := fun _ _ _ _ => rfl
  have F1 := R0.out.lt
  have F2 := H0.out.lt
  go_enter Try.func18, Try.ntmps18
  go_wp2_with (first
    | (go_at_call 34; refine (grpf_any (w.heap.size + 1) (w.heap.size + 2) _ F1 F2).mono ?_; rintro e w4 ⟨rfl, b9⟩; replace Z0 := Lib.hid (Z0.out.below b9 Z0.out.lt); replace R0 := Lib.hid (R0.out.below b9 R0.out.lt); replace H0 := Lib.hid (H0.out.below b9 H0.out.lt); replace B0 := Lib.hid (below_more B0.out b9); clear b9 F1 F2)
    | (go_at_call 36; refine (RD.out _ _ _ B0.out (by omega) R0.out H0.out).mono ?_; rintro e w5 ⟨rfl, kp, ⟨_, r9, rfl⟩, -⟩; replace Z0 := Lib.hid (kp.cells Z0.out (by omega) (by omega)); replace R0 := Lib.hid r9; replace B0 := Lib.hid (kp.below B0.out (by omega) (by omega) (Nat.le_refl _)); clear kp r9 RD H0 hW1 hW2 hW3 s1 s2; refine Hid.out ?_))
  refine Lib.hid ?_
  obtain ⟨W6, hW6⟩ : ∃ W, w5.setCell ⟨w.heap.size + 1, 3, none⟩ (.int .u64 n) = W := ⟨_, rfl⟩
  have q3 := R0.out.c 3 rfl
  have qf3 := R0.out.free 3
  have ql := R0.out.lt
  replace Z0 : Hid (Cells W6 w.heap.size 30 #[.int .i64 0, .int .i64 0, .int .i64 0, .int .u64 0, .int .i64 0, .int .i64 0, .int .i64 0, .int .i64 0, .int .i64 0, .int .i64 0]) := by rw [← hW6]; exact Z0.out.other (p := ⟨w.heap.size + 1, 3, none⟩) (by simp) _
  replace R0 : Hid (Cells W6 (w.heap.size + 1) 30 #[.int .i64 a, .int .i64 h, .int .i64 r, .int .u64 n, .int .i64 l, .int .i64 u, .int .i64 k, .int .i64 t, .int .i64 c, .int .i64 s]) := by rw [← hW6]; exact R0.out.set 3 _
  replace B0 : Hid (Below w.heap.size w W6) := by rw [← hW6]; exact B0.out.setCell (p := ⟨w.heap.size + 1, 3, none⟩) (by simp) _
  have z0 := Z0.out.c 0 rfl
  have zf0 := Z0.out.free 0
  have z1 := Z0.out.c 1 rfl
  have zf1 := Z0.out.free 1
  have z2 := Z0.out.c 2 rfl
  have zf2 := Z0.out.free 2
  have z3 := Z0.out.c 3 rfl
  have zf3 := Z0.out.free 3
  have z4 := Z0.out.c 4 rfl
  have zf4 := Z0.out.free 4
  have z5 := Z0.out.c 5 rfl
  have zf5 := Z0.out.free 5
  have z6 := Z0.out.c 6 rfl
  have zf6 := Z0.out.free 6
  have z7 := Z0.out.c 7 rfl
  have zf7 := Z0.out.free 7
  have z8 := Z0.out.c 8 rfl
  have zf8 := Z0.out.free 8
  have z9 := Z0.out.c 9 rfl
  have zf9 := Z0.out.free 9
  have zl := Z0.out.lt
  have r0 := R0.out.c 0 rfl
  have rf0 := R0.out.free 0
  have r1 := R0.out.c 1 rfl
  have rf1 := R0.out.free 1
  have r2 := R0.out.c 2 rfl
  have rf2 := R0.out.free 2
  have r3 := R0.out.c 3 rfl
  have rf3 := R0.out.free 3
  have r4 := R0.out.c 4 rfl
  have rf4 := R0.out.free 4
  have r5 := R0.out.c 5 rfl
  have rf5 := R0.out.free 5
  have r6 := R0.out.c 6 rfl
  have rf6 := R0.out.free 6
  have r7 := R0.out.c 7 rfl
  have rf7 := R0.out.free 7
  have r8 := R0.out.c 8 rfl
  have rf8 := R0.out.free 8
  have r9 := R0.out.c 9 rfl
  have rf9 := R0.out.free 9
  have rl := R0.out.lt
  go_wp2_with fail
  refine bodyPost_ret (v := .tuple #[.agg #[.int .i64 0, .int .i64 0, .int .i64 0, .int .u64 0, .int .i64 0, .int .i64 0, .int .i64 0, .int .i64 0, .int .i64 0, .int .i64 0], .int .i64 7]) (by simp [results, Try.results18, go_sem, z0, z1, z2, z3, z4, z5, z6, z7, z8, z9, zl]) rfl ⟨rfl, ?_⟩
  exact ((((((((((B0.out.setCell (p := ⟨w.heap.size, 0, none⟩) (Nat.le_refl _) _).setCell (p := ⟨w.heap.size, 1, none⟩) (Nat.le_refl _) _).setCell (p := ⟨w.heap.size, 2, none⟩) (Nat.le_refl _) _).setCell (p := ⟨w.heap.size, 3, none⟩) (Nat.le_refl _) _).setCell (p := ⟨w.heap.size, 4, none⟩) (Nat.le_refl _) _).setCell (p := ⟨w.heap.size, 5, none⟩) (Nat.le_refl _) _).setCell (p := ⟨w.heap.size, 6, none⟩) (Nat.le_refl _) _).setCell (p := ⟨w.heap.size, 7, none⟩) (Nat.le_refl _) _).setCell (p := ⟨w.heap.size, 8, none⟩) (Nat.le_refl _) _).setCell (p := ⟨w.heap.size, 9, none⟩) (Nat.le_refl _) _)
set_option maxRecDepth 100000 in
set_option maxHeartbeats 8000000 in
theorem ggetp_no (A : Option Addr) (m cap : Nat) (a h r n l u k t c s : Int) (w : World) (RD : Hid (∀ W gr gh, Below w.heap.size w W → gr ≠ gh → Cells W gr 30 #[.int .i64 0, .int .i64 0, .int .i64 0, .int .u64 0, .int .i64 0, .int .i64 0, .int .i64 0, .int .i64 0, .int .i64 0, .int .i64 0] → Cells W gh 53 #[.int .i64 0, .int .i64 0] → Calls Try.prog 36 #[.int .u8 2, .slice A m cap, .agg #[.pointer (some ⟨gr, 0, none⟩), .pointer (some ⟨gr, 1, none⟩), .pointer (some ⟨gr, 2, none⟩), .pointer (some ⟨gh, 0, none⟩), .pointer (some ⟨gh, 1, none⟩), .pointer (some ⟨gr, 4, none⟩), .pointer (some ⟨gr, 5, none⟩), .pointer (some ⟨gr, 6, none⟩), .pointer (some ⟨gr, 7, none⟩), .pointer (some ⟨gr, 8, none⟩), .pointer (some ⟨gr, 9, none⟩)], .func (.func 29) #[.pointer (some ⟨gh, 0, none⟩)] #[]] W (fun e w' => e = .returned (.tuple #[.int .u64 n, .bool true]) ∧ Keep2 W w' gr gh ∧ (∃ cs, Cells w' gr 30 cs ∧ cs = #[.int .i64 a, .int .i64 h, .int .i64 r, .int .u64 0, .int .i64 l, .int .i64 u, .int .i64 k, .int .i64 t, .int .i64 c, .int .i64 s]) ∧ ∃ cs, Cells w' gh 53 cs))) (KR : Hid (∀ w, Calls Try.prog 32 #[.agg #[.int .i64 a, .int .i64 h, .int .i64 r, .int .u64 n, .int .i64 l, .int .i64 u, .int .i64 k, .int .i64 t, .int .i64 c, .int .i64 s]] w (Gives (.bool false) w))) :
    Calls Try.prog 18 #[.slice A m cap] w (Gives (.tuple #[.agg #[.int .i64 0, .int .i64 0, .int .i64 0, .int .u64 0, .int .i64 0, .int .i64 0, .int .i64 0, .int .i64 0, .int .i64 0, .int .i64 0], .int .i64 7]) w) := by
  obtain ⟨W1, hW1⟩ : ∃ W, w.alloc (.cells #[.int .i64 0, .int .i64 0, .int .i64 0, .int .u64 0, .int .i64 0, .int .i64 0, .int .i64 0, .int .i64 0, .int .i64 0, .int .i64 0] 30) = W := ⟨_, rfl⟩
  obtain ⟨W2, hW2⟩ : ∃ W, W1.alloc (.cells #[.int .i64 0, .int .i64 0, .int .i64 0, .int .u64 0, .int .i64 0, .int .i64 0, .int .i64 0, .int .i64 0, .int .i64 0, .int .i64 0] 30) = W := ⟨_, rfl⟩
  obtain ⟨W3, hW3⟩ : ∃ W, W2.alloc (.cells #[.int .i64 0, .int .i64 0] 53) = W := ⟨_, rfl⟩
  have s1 : W1.heap.size = w.heap.size + 1 := by rw [← hW1]; simp
  have s2 : W2.heap.size = w.heap.size + 2 := by rw [← hW2]; simp; omega
  have Z0 : Hid (Cells W3 w.heap.size 30 #[.int .i64 0, .int .i64 0, .int .i64 0, .int .u64 0, .int .i64 0, .int .i64 0, .int .i64 0, .int .i64 0, .int .i64 0, .int .i64 0]) := by rw [← hW3, ← hW2, ← hW1]; exact ((Cells.new w _ _).alloc _).alloc _
  have R0 : Hid (Cells W3 (w.heap.size + 1) 30 #[.int .i64 0, .int .i64 0, .int .i64 0, .int .u64 0, .int .i64 0, .int .i64 0, .int .i64 0, .int .i64 0, .int .i64 0, .int .i64 0]) := by rw [← hW3, ← hW2, ← s1]; exact (Cells.new W1 _ _).alloc _
  have H0 : Hid (Cells W3 (w.heap.size + 2) 53 #[.int .i64 0, .int .i64 0]) := by rw [← hW3, ← s2]; exact Cells.new W2 _ _
  have B0 : Hid (Below w.heap.size w W3) := by rw [← hW3, ← hW2, ← hW1]; exact ((below_alloc w _).alloc (by simp) _).alloc (by simp; omega) _
  have hmf : ∀ (fn : Fn) (first cap : Array Value) (w : World), (Instr.makeFunc fn first cap).run Try.prog w = .ok (.func fn first cap) w := fun _ _ _ _ => rfl
  have F1 := R0.out.lt
  have F2 := H0.out.lt
  go_enter Try.func18, Try.ntmps18
  go_wp2_with (first
    | (go_at_call 34; refine (grpf_any (w.heap.size + 1) (w.heap.size + 2) _ F1 F2).mono ?_; rintro e w4 ⟨rfl, b9⟩; replace Z0 := Lib.hid (Z0.out.below b9 Z0.out.lt); replace R0 := Lib.hid (R0.out.below b9 R0.out.lt); replace H0 := Lib.hid (H0.out.below b9 H0.out.lt); replace B0 := Lib.hid (below_more B0.out b9); clear b9 F1 F2)
    | (go_at_call 36; refine (RD.out _ _ _ B0.out (by omega) R0.out H0.out).mono ?_; rintro e w5 ⟨rfl, kp, ⟨_, r9, rfl⟩, -⟩; replace Z0 := Lib.hid (kp.cells Z0.out (by omega) (by omega)); replace R0 := Lib.hid r9; replace B0 := Lib.hid (kp.below B0.out (by omega) (by omega) (Nat.le_refl _)); clear kp r9 RD H0 hW1 hW2 hW3 s1 s2; refine Hid.out ?_))
  refine Lib.hid ?_
  obtain ⟨W6, hW6⟩ : ∃ W, w5.setCell ⟨w.heap.size + 1, 3, none⟩ (.int .u64 n) = W := ⟨_, rfl⟩
  have q3 := R0.out.c 3 rfl
  have qf3 := R0.out.free 3
  have ql := R0.out.lt
  replace Z0 : Hid (Cells W6 w.heap.size 30 #[.int .i64 0, .int .i64 0, .int .i64 0, .int .u64 0, .int .i64 0, .int .i64 0, .int .i64 0, .int .i64 0, .int .i64 0, .int .i64 0]) := by rw [← hW6]; exact Z0.out.other (p := ⟨w.heap.size + 1, 3, none⟩) (by simp) _
  replace R0 : Hid (Cells W6 (w.heap.size + 1) 30 #[.int .i64 a, .int .i64 h, .int .i64 r, .int .u64 n, .int .i64 l, .int .i64 u, .int .i64 k, .int .i64 t, .int .i64 c, .int .i64 s]) := by rw [← hW6]; exact R0.out.set 3 _
  replace B0 : Hid (Below w.heap.size w W6) := by rw [← hW6]; exact B0.out.setCell (p := ⟨w.heap.size + 1, 3, none⟩) (by simp) _
  have z0 := Z0.out.c 0 rfl
  have zf0 := Z0.out.free 0
  have z1 := Z0.out.c 1 rfl
  have zf1 := Z0.out.free 1
  have z2 := Z0.out.c 2 rfl
  have zf2 := Z0.out.free 2
  have z3 := Z0.out.c 3 rfl
  have zf3 := Z0.out.free 3
  have z4 := Z0.out.c 4 rfl
  have zf4 := Z0.out.free 4
  have z5 := Z0.out.c 5 rfl
  have zf5 := Z0.out.free 5
  have z6 := Z0.out.c 6 rfl
  have zf6 := Z0.out.free 6
  have z7 := Z0.out.c 7 rfl
  have zf7 := Z0.out.free 7
  have z8 := Z0.out.c 8 rfl
  have zf8 := Z0.out.free 8
  have z9 := Z0.out.c 9 rfl
  have zf9 := Z0.out.free 9
  have zl := Z0.out.lt
  have r0 := R0.out.c 0 rfl
  have rf0 := R0.out.free 0
  have r1 := R0.out.c 1 rfl
  have rf1 := R0.out.free 1
  have r2 := R0.out.c 2 rfl
  have rf2 := R0.out.free 2
  have r3 := R0.out.c 3 rfl
  have rf3 := R0.out.free 3
  have r4 := R0.out.c 4 rfl
  have rf4 := R0.out.free 4
  have r5 := R0.out.c 5 rfl
  have rf5 := R0.out.free 5
  have r6 := R0.out.c 6 rfl
  have rf6 := R0.out.free 6
  have r7 := R0.out.c 7 rfl
  have rf7 := R0.out.free 7
  have r8 := R0.out.c 8 rfl
  have rf8 := R0.out.free 8
  have r9 := R0.out.c 9 rfl
  have rf9 := R0.out.free 9
  have rl := R0.out.lt
  go_wp2_with (go_at_call 32; (with_reducible refine (KR.out _).mono ?_); rintro e w7 ⟨rfl, b9⟩; replace Z0 := Lib.hid (Z0.out.below b9 Z0.out.lt); replace R0 := Lib.hid (R0.out.below b9 R0.out.lt); replace B0 := Lib.hid (below_more B0.out b9); replace z0 := Z0.out.c 0 rfl; replace zf0 := Z0.out.free 0; replace z1 := Z0.out.c 1 rfl; replace zf1 := Z0.out.free 1; replace z2 := Z0.out.c 2 rfl; replace zf2 := Z0.out.free 2; replace z3 := Z0.out.c 3 rfl; replace zf3 := Z0.out.free 3; replace z4 := Z0.out.c 4 rfl; replace zf4 := Z0.out.free 4; replace z5 := Z0.out.c 5 rfl; replace zf5 := Z0.out.free 5; replace z6 := Z0.out.c 6 rfl; replace zf6 := Z0.out.free 6; replace z7 := Z0.out.c 7 rfl; replace zf7 := Z0.out.free 7; replace z8 := Z0.out.c 8 rfl; replace zf8 := Z0.out.free 8; replace z9 := Z0.out.c 9 rfl; replace zf9 := Z0.out.free 9; replace zl := Z0.out.lt; replace r0 := R0.out.c 0 rfl; replace rf0 := R0.out.free 0; replace r1 := R0.out.c 1 rfl; replace rf1 := R0.out.free 1; replace r2 := R0.out.c 2 rfl; replace rf2 := R0.out.free 2; replace r3 := R0.out.c 3 rfl; replace rf3 := R0.out.free 3; replace r4 := R0.out.c 4 rfl; replace rf4 := R0.out.free 4; replace r5 := R0.out.c 5 rfl; replace rf5 := R0.out.free 5; replace r6 := R0.out.c 6 rfl; replace rf6 := R0.out.free 6; replace r7 := R0.out.c 7 rfl; replace rf7 := R0.out.free 7; replace r8 := R0.out.c 8 rfl; replace rf8 := R0.out.free 8; replace r9 := R0.out.c 9 rfl; replace rf9 := R0.out.free 9; replace rl := R0.out.lt; clear b9 KR)
  refine bodyPost_ret (v := .tuple #[.agg #[.int .i64 0, .int .i64 0, .int .i64 0, .int .u64 0, .int .i64 0, .int .i64 0, .int .i64 0, .int .i64 0, .int .i64 0, .int .i64 0], .int .i64 7]) (by simp [results, Try.results18, go_sem, z0, z1, z2, z3, z4, z5, z6, z7, z8, z9, zl]) rfl ⟨rfl, ?_⟩
  exact ((((((((((B0.out.setCell (p := ⟨w.heap.size, 0, none⟩) (Nat.le_refl _) _).setCell (p := ⟨w.heap.size, 1, none⟩) (Nat.le_refl _) _).setCell (p := ⟨w.heap.size, 2, none⟩) (Nat.le_refl _) _).setCell (p := ⟨w.heap.size, 3, none⟩) (Nat.le_refl _) _).setCell (p := ⟨w.heap.size, 4, none⟩) (Nat.le_refl _) _).setCell (p := ⟨w.heap.size, 5, none⟩) (Nat.le_refl _) _).setCell (p := ⟨w.heap.size, 6, none⟩) (Nat.le_refl _) _).setCell (p := ⟨w.heap.size, 7, none⟩) (Nat.le_refl _) _).setCell (p := ⟨w.heap.size, 8, none⟩) (Nat.le_refl _) _).setCell (p := ⟨w.heap.size, 9, none⟩) (Nat.le_refl _) _)
set_option maxRecDepth 100000 in
set_option maxHeartbeats 8000000 in
theorem ggetp_good (A : Option Addr) (m cap : Nat) (a h r n l u k t c s : Int) (w : World) (RD : Hid (∀ W gr gh, Below w.heap.size w W → gr ≠ gh → Cells W gr 30 #[.int .i64 0, .int .i64 0, .int .i64 0, .int .u64 0, .int .i64 0, .int .i64 0, .int .i64 0, .int .i64 0, .int .i64 0, .int .i64 0] → Cells W gh 53 #[.int .i64 0, .int .i64 0] → Calls Try.prog 36 #[.int .u8 2, .slice A m cap, .agg #[.pointer (some ⟨gr, 0, none⟩), .pointer (some ⟨gr, 1, none⟩), .pointer (some ⟨gr, 2, none⟩), .pointer (some ⟨gh, 0, none⟩), .pointer (some ⟨gh, 1, none⟩), .pointer (some ⟨gr, 4, none⟩), .pointer (some ⟨gr, 5, none⟩), .pointer (some ⟨gr, 6, none⟩), .pointer (some ⟨gr, 7, none⟩), .pointer (some ⟨gr, 8, none⟩), .pointer (some ⟨gr, 9, none⟩)], .func (.func 29) #[.pointer (some ⟨gh, 0, none⟩)] #[]] W (fun e w' => e = .returned (.tuple #[.int .u64 n, .bool true]) ∧ Keep2 W w' gr gh ∧ (∃ cs, Cells w' gr 30 cs ∧ cs = #[.int .i64 a, .int .i64 h, .int .i64 r, .int .u64 0, .int .i64 l, .int .i64 u, .int .i64 k, .int .i64 t, .int .i64 c, .int .i64 s]) ∧ ∃ cs, Cells w' gh 53 cs))) (KR : Hid (∀ w, Calls Try.prog 32 #[.agg #[.int .i64 a, .int .i64 h, .int .i64 r, .int .u64 n, .int .i64 l, .int .i64 u, .int .i64 k, .int .i64 t, .int .i64 c, .int .i64 s]] w (Gives (.bool true) w))) :
    Calls Try.prog 18 #[.slice A m cap] w (Gives (.tuple #[.agg #[.int .i64 a, .int .i64 h, .int .i64 r, .int .u64 n, .int .i64 l, .int .i64 u, .int .i64 k, .int .i64 t, .int .i64 c, .int .i64 s], .int .i64 0]) w) := by
  obtain ⟨W1, hW1⟩ : ∃ W, w.alloc (.cells #[.int .i64 0, .int .i64 0, .int .i64 0, .int .u64 0, .int .i64 0, .int .i64 0, .int .i64 0, .int .i64 0, .int .i64 0, .int .i64 0] 30) = W := ⟨_, rfl⟩
  obtain ⟨W2, hW2⟩ : ∃ W, W1.alloc (.cells #[.int .i64 0, .int .i64 0, .int .i64 0, .int .u64 0, .int .i64 0, .int .i64 0, .int .i64 0, .int .i64 0, .int .i64 0, .int .i64 0] 30) = W := ⟨_, rfl⟩
  obtain ⟨W3, hW3⟩ : ∃ W, W2.alloc (.cells #[.int .i64 0, .int .i64 0] 53) = W := ⟨_, rfl⟩
  have s1 : W1.heap.size = w.heap.size + 1 := by rw [← hW1]; simp
  have s2 : W2.heap.size = w.heap.size + 2 := by rw [← hW2]; simp; omega
  have Z0 : Hid (Cells W3 w.heap.size 30 #[.int .i64 0, .int .i64 0, .int .i64 0, .int .u64 0, .int .i64 0, .int .i64 0, .int .i64 0, .int .i64 0, .int .i64 0, .int .i64 0]) := by rw [← hW3, ← hW2, ← hW1]; exact ((Cells.new w _ _).alloc _).alloc _
  have R0 : Hid (Cells W3 (w.heap.size + 1) 30 #[.int .i64 0, .int .i64 0, .int .i64 0, .int .u64 0, .int .i64 0, .int .i64 0, .int .i64 0, .int .i64 0, .int .i64 0, .int .i64 0]) := by rw [← hW3, ← hW2, ← s1]; exact (Cells.new W1 _ _).alloc _
  have H0 : Hid (Cells W3 (w.heap.size + 2) 53 #[.int .i64 0, .int .i64 0]) := by rw [← hW3, ← s2]; exact Cells.new W2 _ _
  have B0 : Hid (Below w.heap.size w W3) := by rw [← hW3, ← hW2, ← hW1]; exact ((below_alloc w _).alloc (by simp) _).alloc (by simp; omega) _
  have hmf : ∀ (fn : Fn) (first cap : Array Value) (w : World), (Instr.makeFunc fn first cap).run Try.prog w = .ok (.func fn first cap) w := fun _ _ _ _ => rfl
  have F1 := R0.out.lt
  have F2 := H0.out.lt
  go_enter Try.func18, Try.ntmps18
  go_wp2_with (first
    | (go_at_call 34; refine (grpf_any (w.heap.size + 1) (w.heap.size + 2) _ F1 F2).mono ?_; rintro e w4 ⟨rfl, b9⟩; replace Z0 := Lib.hid (Z0.out.below b9 Z0.out.lt); replace R0 := Lib.hid (R0.out.below b9 R0.out.lt); replace H0 := Lib.hid (H0.out.below b9 H0.out.lt); replace B0 := Lib.hid (below_more B0.out b9); clear b9 F1 F2)
    | (go_at_call 36; refine (RD.out _ _ _ B0.out (by omega) R0.out H0.out).mono ?_; rintro e w5 ⟨rfl, kp, ⟨_, r9, rfl⟩, -⟩; replace Z0 := Lib.hid (kp.cells Z0.out (by omega) (by omega)); replace R0 := Lib.hid r9; replace B0 := Lib.hid (kp.below B0.out (by omega) (by omega) (Nat.le_refl _)); clear kp r9 RD H0 hW1 hW2 hW3 s1 s2; refine Hid.out ?_))
  refine Lib.hid ?_
  obtain ⟨W6, hW6⟩ : ∃ W, w5.setCell ⟨w.heap.size + 1, 3, none⟩ (.int .u64 n) = W := ⟨_, rfl⟩
  have q3 := R0.out.c 3 rfl
  have qf3 := R0.out.free 3
  have ql := R0.out.lt
  replace Z0 : Hid (Cells W6 w.heap.size 30 #[.int .i64 0, .int .i64 0, .int .i64 0, .int .u64 0, .int .i64 0, .int .i64 0, .int .i64 0, .int .i64 0, .int .i64 0, .int .i64 0]) := by rw [← hW6]; exact Z0.out.other (p := ⟨w.heap.size + 1, 3, none⟩) (by simp) _
  replace R0 : Hid (Cells W6 (w.heap.size + 1) 30 #[.int .i64 a, .int .i64 h, .int .i64 r, .int .u64 n, .int .i64 l, .int .i64 u, .int .i64 k, .int .i64 t, .int .i64 c, .int .i64 s]) := by rw [← hW6]; exact R0.out.set 3 _
  replace B0 : Hid (Below w.heap.size w W6) := by rw [← hW6]; exact B0.out.setCell (p := ⟨w.heap.size + 1, 3, none⟩) (by simp) _
  have z0 := Z0.out.c 0 rfl
  have zf0 := Z0.out.free 0
  have z1 := Z0.out.c 1 rfl
  have zf1 := Z0.out.free 1
  have z2 := Z0.out.c 2 rfl
  have zf2 := Z0.out.free 2
  have z3 := Z0.out.c 3 rfl
  have zf3 := Z0.out.free 3
  have z4 := Z0.out.c 4 rfl
  have zf4 := Z0.out.free 4
  have z5 := Z0.out.c 5 rfl
  have zf5 := Z0.out.free 5
  have z6 := Z0.out.c 6 rfl
  have zf6 := Z0.out.free 6
  have z7 := Z0.out.c 7 rfl
  have zf7 := Z0.out.free 7
  have z8 := Z0.out.c 8 rfl
  have zf8 := Z0.out.free 8
  have z9 := Z0.out.c 9 rfl
  have zf9 := Z0.out.free 9
  have zl := Z0.out.lt
  have r0 := R0.out.c 0 rfl
  have rf0 := R0.out.free 0
  have r1 := R0.out.c 1 rfl
  have rf1 := R0.out.free 1
  have r2 := R0.out.c 2 rfl
  have rf2 := R0.out.free 2
  have r3 := R0.out.c 3 rfl
  have rf3 := R0.out.free 3
  have r4 := R0.out.c 4 rfl
  have rf4 := R0.out.free 4
  have r5 := R0.out.c 5 rfl
  have rf5 := R0.out.free 5
  have r6 := R0.out.c 6 rfl
  have rf6 := R0.out.free 6
  have r7 := R0.out.c 7 rfl
  have rf7 := R0.out.free 7
  have r8 := R0.out.c 8 rfl
  have rf8 := R0.out.free 8
  have r9 := R0.out.c 9 rfl
  have rf9 := R0.out.free 9
  have rl := R0.out.lt
  go_wp2_with (go_at_call 32; (with_reducible refine (KR.out _).mono ?_); rintro e w7 ⟨rfl, b9⟩; replace Z0 := Lib.hid (Z0.out.below b9 Z0.out.lt); replace R0 := Lib.hid (R0.out.below b9 R0.out.lt); replace B0 := Lib.hid (below_more B0.out b9); replace z0 := Z0.out.c 0 rfl; replace zf0 := Z0.out.free 0; replace z1 := Z0.out.c 1 rfl; replace zf1 := Z0.out.free 1; replace z2 := Z0.out.c 2 rfl; replace zf2 := Z0.out.free 2; replace z3 := Z0.out.c 3 rfl; replace zf3 := Z0.out.free 3; replace z4 := Z0.out.c 4 rfl; replace zf4 := Z0.out.free 4; replace z5 := Z0.out.c 5 rfl; replace zf5 := Z0.out.free 5; replace z6 := Z0.out.c 6 rfl; replace zf6 := Z0.out.free 6; replace z7 := Z0.out.c 7 rfl; replace zf7 := Z0.out.free 7; replace z8 := Z0.out.c 8 rfl; replace zf8 := Z0.out.free 8; replace z9 := Z0.out.c 9 rfl; replace zf9 := Z0.out.free 9; replace zl := Z0.out.lt; replace r0 := R0.out.c 0 rfl; replace rf0 := R0.out.free 0; replace r1 := R0.out.c 1 rfl; replace rf1 := R0.out.free 1; replace r2 := R0.out.c 2 rfl; replace rf2 := R0.out.free 2; replace r3 := R0.out.c 3 rfl; replace rf3 := R0.out.free 3; replace r4 := R0.out.c 4 rfl; replace rf4 := R0.out.free 4; replace r5 := R0.out.c 5 rfl; replace rf5 := R0.out.free 5; replace r6 := R0.out.c 6 rfl; replace rf6 := R0.out.free 6; replace r7 := R0.out.c 7 rfl; replace rf7 := R0.out.free 7; replace r8 := R0.out.c 8 rfl; replace rf8 := R0.out.free 8; replace r9 := R0.out.c 9 rfl; replace rf9 := R0.out.free 9; replace rl := R0.out.lt; clear b9 KR)
  refine bodyPost_ret (v := .tuple #[.agg #[.int .i64 a, .int .i64 h, .int .i64 r, .int .u64 n, .int .i64 l, .int .i64 u, .int .i64 k, .int .i64 t, .int .i64 c, .int .i64 s], .int .i64 0]) (by simp [results, Try.results18, go_sem, z0, z1, z2, z3, z4, z5, z6, z7, z8, z9, zl]) rfl ⟨rfl, ?_⟩
  exact ((((((((((B0.out.setCell (p := ⟨w.heap.size, 0, none⟩) (Nat.le_refl _) _).setCell (p := ⟨w.heap.size, 1, none⟩) (Nat.le_refl _) _).setCell (p := ⟨w.heap.size, 2, none⟩) (Nat.le_refl _) _).setCell (p := ⟨w.heap.size, 3, none⟩) (Nat.le_refl _) _).setCell (p := ⟨w.heap.size, 4, none⟩) (Nat.le_refl _) _).setCell (p := ⟨w.heap.size, 5, none⟩) (Nat.le_refl _) _).setCell (p := ⟨w.heap.size, 6, none⟩) (Nat.le_refl _) _).setCell (p := ⟨w.heap.size, 7, none⟩) (Nat.le_refl _) _).setCell (p := ⟨w.heap.size, 8, none⟩) (Nat.le_refl _) _).setCell (p := ⟨w.heap.size, 9, none⟩) (Nat.le_refl _) _)
end Go.Proofs.Ytmfbnajaocaikaa
