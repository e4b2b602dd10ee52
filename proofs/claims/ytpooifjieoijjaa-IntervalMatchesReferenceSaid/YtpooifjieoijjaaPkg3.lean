/- Layer 2: Hull and Depth of package interval: what they return; nothing that was in memory is changed. -/
import Derived.Test.YtpooifjieoijjaaPkg
import Derived.Laws.Rows
namespace Go.Proofs.Ytpooifjieoijjaa
open Go.RowKit Go
set_option linter.unusedVariables false

/-- Block g holds just two cells. -/
def Two (w : World) (g : Nat) (t : TypeId) (u v : Value) : Prop := w.heap[g]? = some (.cells #[u, v] t (0, 0))
section
variable {w : World} {g : Nat} {t : TypeId} {u v : Value}
theorem Two.lt (h : Two w g t u v) : g < w.heap.size := by
  rcases Nat.lt_or_ge g w.heap.size with hl | hl
  · exact hl
  · unfold Two at h; rw [Array.getElem?_eq_none hl] at h; cases h
theorem Two.c0 (h : Two w g t u v) : w.cell? ⟨g, 0, none⟩ = some u := cell_of_row w g 0 _ t (0, 0) h
theorem Two.c1 (h : Two w g t u v) : w.cell? ⟨g, 1, none⟩ = some v := cell_of_row w g 1 _ t (0, 0) h
theorem Two.free (h : Two w g t u v) (i : Nat) : w.frozen? ⟨g, i, none⟩ = false := by
  unfold Two at h
  simp [World.frozen?, h]
theorem Two.new (w : World) (t : TypeId) (u v : Value) : Two (w.alloc (.cells #[u, v] t)) w.heap.size t u v := heap_alloc_new w _
theorem Two.alloc (h : Two w g t u v) (o : Obj) : Two (w.alloc o) g t u v := (Below.heap_alloc w o g h.lt).trans h
theorem Two.set0 (h : Two w g t u v) (x : Value) : Two (w.setCell ⟨g, 0, none⟩ x) g t x v := by
  unfold Two at h ⊢
  simp [World.setCell, Array.getElem?_modify, h]
theorem Two.set1 (h : Two w g t u v) (x : Value) : Two (w.setCell ⟨g, 1, none⟩ x) g t u x := by
  unfold Two at h ⊢
  simp [World.setCell, Array.getElem?_modify, h]
theorem Two.far (h : Two w g t u v) {p : Addr} (hp : g ≠ p.block) (x : Value) : Two (w.setCell p x) g t u v := (Below.heap_setCell w p x g hp).trans h
theorem Two.below {B : Nat} {w' : World} (h : Two w g t u v) (hb : Below B w w') (hg : g < B) : Two w' g t u v := (hb.block g hg).trans h
end

def widen (h i : Int × Int) : Int × Int := (min h.1 i.1, max h.2 i.2)
def hullR (zs : List (Int × Int)) : (Int × Int) × Int :=
  if okList zs = true then (match zs with | [] => ((0, 0), 1) | x :: r => (r.foldl widen x, 0)) else ((0, 0), 1)

theorem Row.more {B B' : Nat} {w : World} {A : Option Addr} {len : Nat} {zs : List (Int × Int)} (h : Row B w A len zs) (hB : B ≤ B') : Row B' w A len zs :=
  ⟨h.1, fun hn => by obtain ⟨p, e, hp, hc⟩ := h.2 hn; exact ⟨p, e, by omega, hc⟩⟩
theorem below_alloc (w : World) (o : Obj) : Below w.heap.size w (w.alloc o) := (Below.refl _ w).alloc (Nat.le_refl _) _

theorem add_succ (p : Addr) (k : Nat) : p.add ((k + 1) * 2) = ⟨p.block, p.off + 2 + k * 2, none⟩ := by
  unfold Addr.add; rw [if_neg (by omega)]; congr 1; omega

set_option maxHeartbeats 1000000 in
theorem hull_yes (p : Addr) (len cap : Nat) (zs : List (Int × Int)) (w : World) (hr : Row w.heap.size w (some p) len zs) (hl : len ≤ cap) (hm : cap ≤ 9223372036854775807) (x : Int × Int) (r : List (Int × Int)) (hz : zs = x :: r) (ho : Hid (okList zs = true)) :
    Calls Try.prog 16 #[.slice (some p) len cap] w (Gives (.tuple #[ivV (r.foldl widen x), .int .i64 0]) w) := by
  have V : Hid (Calls Try.prog 28 #[.slice (some p) len cap] (w.alloc (.cells #[.int .i64 0, .int .i64 0] 24)) (Gives (.bool (okList zs)) (w.alloc (.cells #[.int .i64 0, .int .i64 0] 24)))) :=
    validList_any (some p) len cap zs _ ((hr.below (below_alloc w _)).more (by simp)) (by omega)
  have HR : Hid (Row w.heap.size w (some p) len zs) := hr
  have hlen : 1 ≤ len := by have := hr.1; rw [hz] at this; simp at this; omega
  clear hr
  go_enter Try.func16, Try.ntmps16
  go_wp2_with fail
  refine V.out.mono ?_
  rintro e w1 ⟨rfl, b1⟩
  rw [ho.out]
  have hb : Below w.heap.size w w1 := (below_alloc w _).trans (b1.mono (by simp))
  have T0 : Hid (Two w1 w.heap.size 24 (.int .i64 0) (.int .i64 0)) := (Two.new w _ _ _).below b1 (by simp)
  clear b1
  obtain ⟨p', e', hp, hc⟩ := (HR.out.below hb).2 hlen
  obtain rfl : p = p' := by injection e'
  clear e'
  obtain ⟨c1, c2⟩ := hc 0 (by omega)
  simp only [hz, Nat.zero_mul, List.getD_cons_zero] at c1 c2
  rw [show p.add 0 = p from rfl] at c1 c2
  have HC : Hid _ := hc
  clear hc
  have HZ : Hid _ := hz
  clear hz
  have hsz : w.heap.size < w1.heap.size := T0.out.lt
  have hrl : Hid (r.length + 1 = len) := by
    show r.length + 1 = len
    have := HR.out.1; rw [HZ.out] at this; simpa using this
  by_cases h1 : len = 1
  · have hrn : Hid (r = []) := by
      show r = []
      have := hrl.out; exact List.length_eq_zero_iff.1 (by omega)
    by_cases h2 : cap = 1
    all_goals
      go_wp2_with fail
      refine wp_loop_rounds 1 ?_; rw [rounds_succ]
      have t0 := T0.out.c0
      have t1 := T0.out.c1
      have t2 := T0.out.free 0
      have t3 := T0.out.free 1
      go_wp2_with fail
      refine bodyPost_ret (v := .tuple #[.agg #[.int .i64 x.1, .int .i64 x.2], .int .i64 0]) (by simp [results, Try.results16, go_sem, t0, t1, hsz]) rfl ⟨by rw [hrn.out]; rfl, ?_⟩
      exact ((hb.setCell (p := ⟨w.heap.size, 0, none⟩) (by simp) _).setCell (p := ⟨w.heap.size, 1, none⟩) (by simp) _).alloc (by simp [World.setCell]; omega) _
  · have hcap : ¬ cap = 1 := by omega
    go_wp2_with fail
    go_loopw [22] (fun i wr => ∃ (k : Nat) (lo hi : Int), k ≤ len - 1 ∧ i = .int .i64 k ∧ Hid ((lo, hi) = (r.take k).foldl widen x) ∧ Hid (Two wr w1.heap.size 24 (.int .i64 lo) (.int .i64 hi)) ∧ Hid (Two wr w.heap.size 24 (.int .i64 0) (.int .i64 0)) ∧ Below w.heap.size w wr ∧ Hid (Below w.heap.size w wr)) (fun i _ => len - 1 - (intOf i).toNat)
    case atStart => exact ⟨0, x.1, x.2, Nat.zero_le _, rfl, rfl, Two.new _ _ _ _, T0.out.alloc _, hb.alloc hb.size _, hb.alloc hb.size _⟩
    case round =>
      obtain ⟨k, lo, hi, hk, rfl, HF, HT, HU, hbr, _⟩ := hrel
      have t0 := HT.out.c0
      have t1 := HT.out.c1
      have t2 := HT.out.free 0
      have t3 := HT.out.free 1
      have t4 := HT.out.lt
      by_cases hlt : k < len - 1
      · obtain ⟨p', e', _, hc⟩ := (HR.out.below hbr).2 hlen
        obtain rfl : p = p' := by injection e'
        clear e'
        obtain ⟨d1, d2⟩ := hc (k + 1) (by omega)
        rw [add_succ, HZ.out, List.getD_cons_succ] at d1 d2
        clear hc c1 c2
        have hts : Hid _ := take_snoc r (0, 0) k (by have := hrl.out; omega)
        generalize hy : r.getD k (0, 0) = y at d1 d2 hts
        clear hy
        rcases Int.lt_or_le lo y.1 with q1 | q1 <;> rcases Int.lt_or_le y.2 hi with q2 | q2
        all_goals
          go_wp2_with fail
          go_roundw
          case rel =>
            refine ⟨k + 1, _, _, by omega, by go_num, ?_, ((HT.out.set0 _).set1 _).alloc _, ((HU.out.far (p := ⟨w1.heap.size, 0, none⟩) (by simp; omega) _).far (p := ⟨w1.heap.size, 1, none⟩) (by simp; omega) _).alloc _, ?_, ?_⟩
            · show (_, _) = (r.take (k + 1)).foldl widen x
              rw [hts.out, List.foldl_append, ← HF.out]
              simp only [List.foldl_cons, List.foldl_nil, widen, Prod.mk.injEq]
              omega
            all_goals exact ((hbr.setCell (p := ⟨w1.heap.size, 0, none⟩) (by simp; omega) _).setCell (p := ⟨w1.heap.size, 1, none⟩) (by simp; omega) _).alloc (by have := hbr.size; simpa [World.setCell] using this) _
          case measure => simp [intOf]; omega
      · have s0 := HU.out.c0
        have s1 := HU.out.c1
        have s2 := HU.out.free 0
        have s3 := HU.out.free 1
        have s4 := HU.out.lt
        obtain rfl : k = len - 1 := by omega
        have hE : (lo, hi) = r.foldl widen x := by
          rw [HF.out, List.take_of_length_le (by have := hrl.out; omega)]
        have HE : Hid _ := hE
        clear hE
        go_wp2_with fail
        refine bodyPost_ret (v := .tuple #[.agg #[.int .i64 lo, .int .i64 hi], .int .i64 0]) (by simp [results, Try.results16, go_sem, s0, s1]) rfl ⟨by rw [← HE.out]; rfl, ?_⟩
        exact (hbr.setCell (p := ⟨w.heap.size, 0, none⟩) (by simp) _).setCell (p := ⟨w.heap.size, 1, none⟩) (by simp) _
end Go.Proofs.Ytpooifjieoijjaa
