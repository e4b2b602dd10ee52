/- Layer 7: package drift's span.plus, fold and validSegment. -/
import Derived.Laws.ResultCell
import Derived.Test.YtjjpcgfhoncmeaaOwnS
import Derived.Test.YtjjpcgfhoncmeaaGEl
namespace Go.Proofs.Ytjjpcgfhoncmeaa
open Go.RowKit Go
set_option linter.unusedVariables false
set_option linter.unusedSimpArgs false

theorem plus_any (a b c d : Int) (h1 : I64 (a + c)) (h2 : I64 (b + d)) (w : World) :
    Calls Try.prog 45 #[rgV a b, rgV c d] w (Gives (rgV (a + c) (b + d)) w) := by
  obtain ⟨h1, h3⟩ := h1
  obtain ⟨h2, h4⟩ := h2
  have e1 : wrap64 (a + c) = a + c := by unfold wrap64; omega
  have e2 : wrap64 (b + d) = b + d := by unfold wrap64; omega
  unfold rgV
  obtain ⟨W, hW⟩ : ∃ W, ((w.alloc (.cells #[.int .i64 a, .int .i64 b] 56)).alloc (.cells #[.int .i64 c, .int .i64 d] 56)).alloc (.cells #[.int .i64 0, .int .i64 0] 56) = W := ⟨_, rfl⟩
  have T0 : Two W w.heap.size 56 (.int .i64 a) (.int .i64 b) := by rw [← hW]; exact ((Two.new w _ _ _).alloc _).alloc _
  have T1 : Two W (w.heap.size + 1) 56 (.int .i64 c) (.int .i64 d) := by
    rw [← hW]
    have h := Two.new (w.alloc (.cells #[.int .i64 a, .int .i64 b] 56)) 56 (.int .i64 c) (.int .i64 d)
    rw [show (w.alloc (.cells #[.int .i64 a, .int .i64 b] 56)).heap.size = w.heap.size + 1 by simp] at h
    exact h.alloc _
  have T2 : Two W (w.heap.size + 1 + 1) 56 (.int .i64 0) (.int .i64 0) := by
    rw [← hW]
    have h := Two.new ((w.alloc (.cells #[.int .i64 a, .int .i64 b] 56)).alloc (.cells #[.int .i64 c, .int .i64 d] 56)) 56 (.int .i64 0) (.int .i64 0)
    rw [show ((w.alloc (.cells #[.int .i64 a, .int .i64 b] 56)).alloc (.cells #[.int .i64 c, .int .i64 d] 56)).heap.size = w.heap.size + 1 + 1 by simp] at h
    exact h
  have BW : Hid (Below w.heap.size w W) := by rw [← hW]; exact (((below_alloc w _).alloc (by simp) _).alloc (by simp; omega) _)
  have t0 := T0.c0
  have t1 := T0.c1
  have t2 := T0.lt
  have u0 := T1.c0
  have u1 := T1.c1
  have u2 := T1.lt
  have v0 := T2.c0
  have v1 := T2.c1
  have v2 := T2.free 0
  have v3 := T2.free 1
  have v4 := T2.lt
  clear T0 T1 T2
  go_enter Try.func45, Try.ntmps45
  go_wp2_with fail
  refine bodyPost_ret (v := .agg #[.int .i64 (a + c), .int .i64 (b + d)]) (by simp [results, Try.results45, go_sem, v0, v1, v4]) rfl ⟨rfl, ?_⟩
  exact (BW.out.setCell (p := ⟨w.heap.size + 1 + 1, 0, none⟩) (by simp; omega) _).setCell (p := ⟨w.heap.size + 1 + 1, 1, none⟩) (by simp; omega) _

/-- A slice holds these spans. -/
def RowP (B : Nat) (w : World) (A : Option Addr) (len : Nat) (l : List (Int × Int)) : Prop :=
  l.length = len ∧ (0 < len → ∃ p : Addr, A = some p ∧ p.block < B ∧ ∀ i, i < len → w.cell? (p.add (i * 2)) = some (.int .i64 (l.getD i (0, 0)).1) ∧ w.cell? ⟨(p.add (i * 2)).block, (p.add (i * 2)).off + 1, none⟩ = some (.int .i64 (l.getD i (0, 0)).2))
theorem RowP.step {w w' : World} {A : Option Addr} {len : Nat} {l : List (Int × Int)} (h : RowP w.heap.size w A len l) (b : Below w.heap.size w w') : RowP w'.heap.size w' A len l :=
  ⟨h.1, fun hn => by
    obtain ⟨p, e, hp, hc⟩ := h.2 hn
    refine ⟨p, e, Nat.lt_of_lt_of_le hp b.size, fun i hi => ?_⟩
    obtain ⟨c0, c1⟩ := hc i hi
    exact ⟨(b.cell (p := p.add (i * 2)) (by rw [block_of_add]; exact hp)).trans c0, (b.cell (p := ⟨(p.add (i * 2)).block, (p.add (i * 2)).off + 1, none⟩) (by simpa [block_of_add] using hp)).trans c1⟩⟩
theorem RowP.at_ {B : Nat} {w : World} {A : Option Addr} {len : Nat} {l : List (Int × Int)} (h : RowP B w A len l) (k : Nat) (hk : k < len) :
    ∃ p, A = some p ∧ w.cell? (p.add (k * 2)) = some (.int .i64 (l.getD k (0, 0)).1) ∧ w.cell? ⟨(p.add (k * 2)).block, (p.add (k * 2)).off + 1, none⟩ = some (.int .i64 (l.getD k (0, 0)).2) := by
  obtain ⟨p, e, hp, hc⟩ := h.2 (by omega)
  exact ⟨p, e, (hc k hk).1, (hc k hk).2⟩

def sum1 : List (Int × Int) → Int
  | [] => 0
  | x :: r => x.1 + sum1 r
def sum2 : List (Int × Int) → Int
  | [] => 0
  | x :: r => x.2 + sum2 r
theorem sum1_app (a b : List (Int × Int)) : sum1 (a ++ b) = sum1 a + sum1 b := by
  induction a with
  | nil => simp [sum1]
  | cons s r ih => simp only [List.cons_append, sum1, ih]; omega
theorem sum2_app (a b : List (Int × Int)) : sum2 (a ++ b) = sum2 a + sum2 b := by
  induction a with
  | nil => simp [sum2]
  | cons s r ih => simp only [List.cons_append, sum2, ih]; omega
/-- So few and so small that they add up. -/
def FewP (l : List (Int × Int)) : Prop := ∀ x ∈ l, 0 ≤ x.1 ∧ x.1 ≤ 2000000000000002 ∧ 0 ≤ x.2 ∧ x.2 ≤ 2000000000000002
theorem sum_few : ∀ l : List (Int × Int), FewP l → 0 ≤ sum1 l ∧ sum1 l ≤ 2000000000000002 * l.length ∧ 0 ≤ sum2 l ∧ sum2 l ≤ 2000000000000002 * l.length := by
  intro l
  induction l with
  | nil => intro _; simp [sum1, sum2]
  | cons x r ih =>
    intro h
    have a := ih (fun y hy => h y (by simp [hy]))
    have b := h x (by simp)
    simp only [sum1, sum2, List.length_cons]
    omega

set_option maxHeartbeats 2000000 in
theorem fold_any (A : Option Addr) (len cap : Nat) (l : List (Int × Int)) (h64 : len ≤ 64) (hf : FewP l) (w : World) (hr : RowP w.heap.size w A len l) :
    Calls Try.prog 44 #[.slice A len cap, .func (.func 45) #[] #[]] w (Gives (rgV (sum1 l) (sum2 l)) w) := by
  have LN := hr.1
  have LH := Lib.hid LN
  have HF := Lib.hid (fun k (hk : k ≤ len) => show 0 ≤ sum1 (l.take k) ∧ sum1 (l.take k) ≤ 128000000000000128 ∧ 0 ≤ sum2 (l.take k) ∧ sum2 (l.take k) ≤ 128000000000000128 by
    have a := sum_few (l.take k) (fun x hx => hf x (List.mem_of_mem_take hx))
    rw [List.length_take] at a
    omega)
  have PL := Lib.hid plus_any
  have HK := Lib.hid (fun k (hk : k < len) => show sum1 (l.take (k + 1)) = sum1 (l.take k) + (l.getD k (0, 0)).1 ∧ sum2 (l.take (k + 1)) = sum2 (l.take k) + (l.getD k (0, 0)).2 by
    rw [take_sg l (0, 0) k (by omega), sum1_app, sum2_app]
    simp [sum1, sum2])
  obtain ⟨W, hW⟩ : ∃ W, (w.alloc (.cells #[.int .i64 0, .int .i64 0] 56)).alloc (.cells #[.int .i64 0, .int .i64 0] 56) = W := ⟨_, rfl⟩
  have T0 : Hid (Two W w.heap.size 56 (.int .i64 0) (.int .i64 0)) := by rw [← hW]; exact (Two.new w _ _ _).alloc _
  have T1 : Hid (Two W (w.heap.size + 1) 56 (.int .i64 0) (.int .i64 0)) := by
    rw [← hW]
    have h := Two.new (w.alloc (.cells #[.int .i64 0, .int .i64 0] 56)) 56 (.int .i64 0) (.int .i64 0)
    rwa [show (w.alloc (.cells #[.int .i64 0, .int .i64 0] 56)).heap.size = w.heap.size + 1 by simp] at h
  have BW : Hid (Below w.heap.size w W) := by rw [← hW]; exact (below_alloc w _).alloc (by simp) _
  have HR := Lib.hid hr
  have E0 : Hid (sum1 l = sum1 (l.take len) ∧ sum2 l = sum2 (l.take len)) := by
    have : l.take len = l := by rw [← LN, List.take_length]
    rw [this]; exact ⟨rfl, rfl⟩
  clear hr hf LN
  unfold rgV at PL ⊢
  go_enter Try.func44, Try.ntmps44
  go_wp2_with fail
  go_loopw [10] (fun i wr => ∃ k : Nat, k ≤ len ∧ i = .int .i64 k ∧ Hid (Two wr w.heap.size 56 (.int .i64 0) (.int .i64 0)) ∧ Hid (Two wr (w.heap.size + 1) 56 (.int .i64 (sum1 (l.take k))) (.int .i64 (sum2 (l.take k)))) ∧ Hid (Below w.heap.size w wr)) (fun i _ => len - (intOf i).toNat)
  case atStart => exact ⟨0, Nat.zero_le _, rfl, T0, T1, BW⟩
  case round =>
    obtain ⟨k, hk, rfl, U, V, B⟩ := hrel
    have u0 := U.out.c0
    have u1 := U.out.c1
    have u2 := U.out.free 0
    have u3 := U.out.free 1
    have u4 := U.out.lt
    have v0 := V.out.c0
    have v1 := V.out.c1
    have v2 := V.out.free 0
    have v3 := V.out.free 1
    have v4 := V.out.lt
    by_cases hlt : k < len
    · obtain ⟨p, rfl, c0, c1⟩ := (HR.out.step B.out).at_ k hlt
      obtain ⟨q, hq⟩ : ∃ q, p.add (k * 2) = q := ⟨_, rfl⟩
      rw [hq] at c0 c1
      obtain ⟨hk1, hk2⟩ := HK.out k hlt
      obtain ⟨f1, f2, f3, f4⟩ := HF.out k hk
      obtain ⟨f5, f6, f7, f8⟩ := HF.out (k + 1) hlt
      rw [hk1] at f5 f6
      rw [hk2] at f7 f8
      have K1 := Lib.hid hk1
      have K2 := Lib.hid hk2
      clear hk1 hk2
      generalize l.getD k (0, 0) = z at c0 c1 K1 K2 f5 f6 f7 f8
      obtain ⟨a, b⟩ := z
      dsimp only at c0 c1 K1 K2 f5 f6 f7 f8
      have HS : Hid (sum1 (l.take (k + 1)) = sum1 (l.take k) + a ∧ sum2 (l.take (k + 1)) = sum2 (l.take k) + b) := ⟨K1.out, K2.out⟩
      clear K1 K2
      generalize sum1 (l.take k) = x at V v0 HS f1 f2 f5 f6
      generalize sum2 (l.take k) = y at V v1 HS f3 f4 f7 f8
      have PK := Lib.hid (PL.out x y a b ⟨by omega, by omega⟩ ⟨by omega, by omega⟩)
      have UA := Lib.hid (U.out.alloc (.cells #[.int .i64 a, .int .i64 b] 56))
      have VA := Lib.hid (V.out.alloc (.cells #[.int .i64 a, .int .i64 b] 56))
      have BA := Lib.hid (B.out.alloc (by omega) (.cells #[.int .i64 a, .int .i64 b] 56))
      go_wp2_with (go_at_call 45; (with_reducible refine (PK.out _).mono ?_); rintro e w2 ⟨rfl, b2⟩; have U2 := Lib.hid (UA.out.below b2 UA.out.lt); have V2 := Lib.hid (VA.out.below b2 VA.out.lt); have B2 := Lib.hid (below_more BA.out b2); have r0 := V2.out.c0; have r1 := V2.out.c1; have r2 := V2.out.free 0; have r3 := V2.out.free 1; have r4 := V2.out.lt; clear b2 PK)
      go_roundw
      case rel => exact ⟨k + 1, by omega, by go_num, U2.out.below (((Below.refl (w.heap.size + 1) w2).setCell (p := ⟨w.heap.size + 1, 0, none⟩) (Nat.le_refl _) (.int .i64 (x + a))).setCell (p := ⟨w.heap.size + 1, 1, none⟩) (Nat.le_refl _) (.int .i64 (y + b))) (by omega), (by
        unfold Hid
        rw [HS.out.1, HS.out.2]
        exact (V2.out.set0 (.int .i64 (x + a))).set1 (.int .i64 (y + b))), (B2.out.setCell (p := ⟨w.heap.size + 1, 0, none⟩) (by simp) _).setCell (p := ⟨w.heap.size + 1, 1, none⟩) (by simp) _⟩
      case measure => simp [intOf]; omega
    · obtain rfl : k = len := by omega
      generalize sum1 (l.take k) = x at *
      generalize sum2 (l.take k) = y at *
      go_wp2_with fail
      refine bodyPost_ret (v := .agg #[.int .i64 x, .int .i64 y]) (by simp [results, Try.results44, go_sem, u0, u1, u4]) rfl ⟨by rw [E0.out.1, E0.out.2], ?_⟩
      exact (B.out.setCell (p := ⟨w.heap.size, 0, none⟩) (by simp) _).setCell (p := ⟨w.heap.size, 1, none⟩) (by simp) _

def Sg.val (s : Sg) : Value := .agg #[.int .i64 s.c, .int .i64 s.tl, .int .i64 s.th, .int .i64 s.al, .int .i64 s.ah]
def SgOk (s : Sg) : Prop := StretchOk s.c ∧ s.tl ≤ s.th ∧ s.al ≤ s.ah
instance (s : Sg) : Decidable (SgOk s) := by unfold SgOk; infer_instance
theorem validSegment_any (s : Sg) (hs : s.Int64) (q : Bool) (hq : q = true ↔ SgOk s) (w : World) :
    Calls Try.prog 43 #[s.val] w (Gives (.bool q) w) := by
  obtain ⟨c, tl, th, al, ah⟩ := s
  obtain ⟨ic, itl, ith, ial, iah⟩ := hs
  unfold SgOk at hq
  unfold Sg.val
  dsimp only at hq ic itl ith ial iah ⊢
  obtain ⟨q1, hq1⟩ : ∃ q1 : Bool, q1 = decide (StretchOk c) := ⟨_, rfl⟩
  obtain ⟨q2, hq2⟩ : ∃ q2 : Bool, q2 = decide (tl ≤ th) := ⟨_, rfl⟩
  obtain ⟨q3, hq3⟩ : ∃ q3 : Bool, q3 = decide (al ≤ ah) := ⟨_, rfl⟩
  have K1 := Lib.hid (isStretch_any c q1 (by simp [hq1]; exact Iff.rfl) ic.1 ic.2)
  have K2 := Lib.hid (validRange_any tl th q2 (by simp [hq2]))
  have K3 := Lib.hid (validRange_any al ah q3 (by simp [hq3]))
  have HQ : Hid (q = (q1 && (q2 && q3))) := by
    unfold Hid
    rw [Bool.eq_iff_iff, hq, hq1, hq2, hq3]
    simp
  clear hq hq1 hq2 hq3
  unfold rgV at K2 K3
  obtain ⟨W, hW⟩ : ∃ W, w.alloc (.cells #[.int .i64 c, .int .i64 tl, .int .i64 th, .int .i64 al, .int .i64 ah] 45) = W := ⟨_, rfl⟩
  have HN := heap_alloc_new w (.cells #[.int .i64 c, .int .i64 tl, .int .i64 th, .int .i64 al, .int .i64 ah] 45)
  rw [hW] at HN
  have BW : Hid (Below w.heap.size w W) := by rw [← hW]; exact below_alloc w _
  have GT : Hid (∀ W', Below W.heap.size W W' → W'.cell? ⟨w.heap.size, 0, none⟩ = some (.int .i64 c) ∧ W'.cell? ⟨w.heap.size, 1, none⟩ = some (.int .i64 tl) ∧ W'.cell? ⟨w.heap.size, 2, none⟩ = some (.int .i64 th) ∧ W'.cell? ⟨w.heap.size, 3, none⟩ = some (.int .i64 al) ∧ W'.cell? ⟨w.heap.size, 4, none⟩ = some (.int .i64 ah) ∧ w.heap.size < W'.heap.size) := fun W' b => by
    have hl : w.heap.size < W.heap.size := by rw [← hW]; simp
    have h := (b.block _ hl).trans HN
    exact ⟨cell_of_row W' _ 0 _ _ (0, 0) h, cell_of_row W' _ 1 _ _ (0, 0) h, cell_of_row W' _ 2 _ _ (0, 0) h, cell_of_row W' _ 3 _ _ (0, 0) h, cell_of_row W' _ 4 _ _ (0, 0) h, Nat.lt_of_lt_of_le hl b.size⟩
  clear HN
  have G0 := GT.out W (Below.refl _ _)
  obtain ⟨g0, g1, g2, g3, g4, g5⟩ := G0
  cases q1 with
  | false =>
    go_enter Try.func43, Try.ntmps43
    go_wp2_with (go_at_call 37; (with_reducible refine (K1.out _).mono ?_); rintro e w' ⟨rfl, rfl⟩; clear K1)
    go_ret
    exact ⟨by rw [HQ.out]; rfl, BW.out⟩
  | true =>
    cases q2 with
    | false =>
      go_enter Try.func43, Try.ntmps43
      go_wp2_with (first
        | (go_at_call 37; (with_reducible refine (K1.out _).mono ?_); rintro e w' ⟨rfl, rfl⟩; clear K1)
        | (go_at_call 34; (with_reducible refine (K2.out _).mono ?_); rintro e w2 ⟨rfl, b2⟩; have B2 := Lib.hid b2; obtain ⟨h0, h1, h2, h3, h4, h5⟩ := GT.out _ B2.out; clear b2 K2))
      go_ret
      exact ⟨by rw [HQ.out]; rfl, BW.out.trans (B2.out.mono BW.out.size)⟩
    | true =>
      go_enter Try.func43, Try.ntmps43
      go_wp2_with (first
        | (go_at_call 37; (with_reducible refine (K1.out _).mono ?_); rintro e w' ⟨rfl, rfl⟩; clear K1)
        | (go_at_call 34; (with_reducible refine (K2.out _).mono ?_); rintro e w2 ⟨rfl, b2⟩; have B2 := Lib.hid b2; obtain ⟨h0, h1, h2, h3, h4, h5⟩ := GT.out _ B2.out; clear b2 K2)
        | (go_at_call 34; (with_reducible refine (K3.out _).mono ?_); rintro e w3 ⟨rfl, b3⟩; have B3 := Lib.hid (below_more B2.out b3); clear b3 K3))
      go_ret
      exact ⟨by rw [HQ.out]; rfl, BW.out.trans (B3.out.mono BW.out.size)⟩
end Go.Proofs.Ytjjpcgfhoncmeaa
