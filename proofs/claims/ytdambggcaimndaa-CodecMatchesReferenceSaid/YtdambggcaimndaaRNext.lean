/- Layer 4: the reference's next. -/
import Derived.Deep.RegionWith
import Derived.Deep.RegionHeld3
import Derived.Test.YtdambggcaimndaaRGet
namespace Go.Proofs.Ytdambggcaimndaa
open Go.RowKit Go.Sort Go
set_option linter.unusedVariables false

def NextEnd (o : Option (List Int × Nat)) (w : World) (e : Ending) (w' : World) : Prop :=
  Below w.heap.size w w' ∧ match o with
    | some (l, m) => ∃ v, e = .returned (.tuple #[v, .int .i64 (m : Nat), .bool true]) ∧ OwnI w.heap.size w' v l
    | none => ∃ x : Int, e = .returned (.tuple #[.slice none 0 0, .int .i64 x, .bool false])

theorem val3 {b : List UInt8} (h : 3 ≤ b.length) : valB (b.take 3) = (b.getD 0 0).toNat * 65536 + (b.getD 1 0).toNat * 256 + (b.getD 2 0).toNat := by
  match b, h with
  | x :: y :: z :: r, _ => simp [valB]; omega

theorem next_short {b : List UInt8} (h : b.length < 3) : nextR b = none := by rw [nextR, if_pos h]
theorem next_few {b : List UInt8} (h : ¬ b.length < 3) (h2 : b.length < valB (b.take 3) + 11) : nextR b = none := by rw [nextR, if_neg h, if_pos h2]
theorem next_long {b : List UInt8} {N : Nat} (h : ¬ b.length < 3) (hN : N = valB (b.take 3)) (h2 : ¬ b.length < N + 11) : nextR b = if eight (fnv fnv0 (b.take (N + 3))) = (b.drop (N + 3)).take 8 then (getR ((b.take (N + 3)).drop 3)).map fun l => (l, N + 11) else none := by
  subst hN
  rw [nextR, if_neg h, if_neg h2]
  by_cases h3 : eight (fnv fnv0 (b.take (valB (b.take 3) + 3))) = (b.drop (valB (b.take 3) + 3)).take 8
  · rw [if_pos h3, if_pos h3.symm]
  · rw [if_neg h3, if_neg (fun e => h3 e.symm)]

theorem rslice (p : Addr) (n cap a b : Nat) (x y : Int) (hx : x = (a : Int)) (hy : y = (b : Int)) (W : World) (h1 : a ≤ b) (h2 : b ≤ cap) (h3 : ¬ cap = a) :
    (Instr.slice 23 (.slice (some p) n cap) (some (.int .i64 x)) (some (.int .i64 y)) none).run Try.prog W = .ok (.slice (some (p.add a)) (b - a) (cap - a)) W := by
  subst hx hy
  simp [go_sem, h1, h2, h3]
theorem rslice0 (p : Addr) (n cap b : Nat) (y : Int) (hy : y = (b : Int)) (W : World) (h2 : b ≤ cap) :
    (Instr.slice 23 (.slice (some p) n cap) none (some (.int .i64 y)) none).run Try.prog W = .ok (.slice (some p) b cap) W := by
  subst hy
  simp [go_sem, h2]

set_option maxHeartbeats 2000000 in
theorem rnext_any (A : Option Addr) (n cap : Nat) (b : List UInt8) (w : World) (hr : Row8 w.heap.size w A n b) (hn : n ≤ 1000000000) (hc : n ≤ cap) :
    Calls Try.prog 34 #[.slice A n cap] w (NextEnd (nextR b) w) := by
  have hbl := hr.1
  have HR := Lib.hid hr
  clear hr
  by_cases h3 : n < 3
  · have HN : Hid (nextR b = none) := next_short (by omega)
    have g1 : decide ((n : Int) < 3) = true := by rw [decide_eq_true_eq]; omega
    go_enter Try.func34, Try.ntmps34
    go_wp2_with fail
    go_ret3
    rw [HN.out]
    exact ⟨Below.refl _ _, 0, rfl⟩
  · have g1 : decide ((n : Int) < 3) = false := by rw [decide_eq_false_iff_not]; omega
    obtain ⟨p, rfl, hpb, hcell⟩ := HR.out.2 (by omega)
    have x0 : w.cell? p = some (.int .u8 ((b.getD 0 0).toNat : Int)) := by have := hcell 0 (by omega); rwa [show p.add 0 = p from by unfold Addr.add; rw [if_pos rfl]] at this
    have x00 : w.cell? (p.add 0) = some (.int .u8 ((b.getD 0 0).toNat : Int)) := hcell 0 (by omega)
    have x1 : w.cell? ⟨p.block, p.off + 1, none⟩ = some (.int .u8 ((b.getD 1 0).toNat : Int)) := hcell 1 (by omega)
    have x2 : w.cell? ⟨p.block, p.off + 2, none⟩ = some (.int .u8 ((b.getD 2 0).toNat : Int)) := hcell 2 (by omega)
    have hv := val3 (b := b) (by omega)
    have u0 := u8_lt (b.getD 0 0)
    have u1 := u8_lt (b.getD 1 0)
    have u2 := u8_lt (b.getD 2 0)
    clear hcell hpb
    generalize (b.getD 0 0).toNat = c0 at x0 x00 hv u0
    generalize (b.getD 1 0).toNat = c1 at x1 hv u1
    generalize (b.getD 2 0).toNat = c2 at x2 hv u2
    obtain ⟨N, hN⟩ : ∃ N, N = valB (b.take 3) := ⟨_, rfl⟩
    have k0 : IntKind.i64.wrap (c0 : Int) = (c0 : Int) := IntWalk.i64_in _ (by omega)
    have k1 : IntKind.i64.wrap (c1 : Int) = (c1 : Int) := IntWalk.i64_in _ (by omega)
    have k2 : IntKind.i64.wrap (c2 : Int) = (c2 : Int) := IntWalk.i64_in _ (by omega)
    have k3 : IntKind.i64.wrap ((c0 : Int) * 65536) = (c0 : Int) * 65536 := IntWalk.i64_in _ (by omega)
    have k4 : IntKind.i64.wrap ((c1 : Int) * 256) = (c1 : Int) * 256 := IntWalk.i64_in _ (by omega)
    have k5 : IntKind.i64.wrap ((c0 : Int) * 65536 + (c1 : Int) * 256) = (c0 : Int) * 65536 + (c1 : Int) * 256 := IntWalk.i64_in _ (by omega)
    have k6 : IntKind.i64.wrap ((c0 : Int) * 65536 + (c1 : Int) * 256 + (c2 : Int)) = (N : Int) := by rw [IntWalk.i64_in _ (by omega), hN, hv]; omega
    have hi1 : (1 : Int) < (n : Int) := by omega
    have hi2 : (2 : Int) < (n : Int) := by omega
    have hi0 : (0 : Int) < (n : Int) := by omega
    have hNb : N < 16777216 := by omega
    have hj0 : 0 < n := by omega
    have hj1 : 1 < n := by omega
    have hj2 : 2 < n := by omega
    have HNV := Lib.hid hN
    clear hv hN u0 u1 u2
    have k7 : IntKind.i64.wrap ((N : Int) + 11) = (N : Int) + 11 := IntWalk.i64_in _ (by omega)
    by_cases h11 : n < N + 11
    · have g2 : decide ((n : Int) < (N : Int) + 11) = true := by rw [decide_eq_true_eq]; omega
      have HN : Hid (nextR b = none) := next_few (by omega) (by have := HNV.out; omega)
      clear h11
      go_enter Try.func34, Try.ntmps34
      go_wp2_with fail
      go_quiet (fail)
      have bq := (Drew.n w nq).below w.heap.size
      generalize w.drewN nq = W1 at bq ⊢
      clear x0 x00 x1 x2
      go_wp2_with fail
      go_quiet (fail)
      have bq := below_more bq ((Drew.n W1 nq).below W1.heap.size)
      go_wp2_with fail
      go_ret3
      rw [HN.out]
      exact ⟨bq, 0, rfl⟩
    · obtain ⟨E, hE⟩ : ∃ E, E = N + 3 := ⟨_, rfl⟩
      obtain ⟨E2, hE2⟩ : ∃ E2, E2 = N + 11 := ⟨_, rfl⟩
      have g2 : decide ((n : Int) < (N : Int) + 11) = false := by rw [decide_eq_false_iff_not]; omega
      have k8 : IntKind.i64.wrap ((N : Int) + 3) = (N : Int) + 3 := IntWalk.i64_in _ (by omega)
      have HL := next_long (b := b) (N := N) (by omega) HNV.out (by omega)
      rw [← hE, ← hE2] at HL
      have S1 := fun W => rslice0 p n cap E ((N : Int) + 3) (by omega) W (by omega)
      have S2 := fun W => rslice p n cap E E2 ((N : Int) + 3) ((N : Int) + 11) (by omega) (by omega) W (by omega) (by omega) (by omega)
      have S3 : ∀ W, (Instr.slice 23 (.slice (some p) n cap) (some (.int .i64 3)) (some (.int .i64 ((N : Int) + 3))) none).run Try.prog W = .ok (.slice (some (p.add 3)) (E - 3) (cap - 3)) W := fun W => rslice p n cap 3 E 3 ((N : Int) + 3) rfl (by omega) W (by omega) (by omega) (by omega)
      have hEE : E2 - E = 8 := by omega
      rw [hEE] at S2
      have RS : ∀ W : World, Below w.heap.size w W → Row8 W.heap.size W (some p) E (b.take E) ∧ Row8 W.heap.size W (some (p.add E)) 8 ((b.drop E).take 8) ∧ Row8 W.heap.size W (some (p.add 3)) (E - 3) ((b.take E).drop 3) := fun W hb => by
        have h := HR.out.step hb
        refine ⟨h.take (by omega), RowV.cut h (by omega) (.inl rfl), ?_⟩
        have h2 := RowV.cut (q := p.add 3) (at_ := 3) (k := E - 3) (h.take (k := E) (by omega)) (by omega) (.inl rfl)
        rwa [List.take_of_length_le (by rw [List.length_drop, List.length_take]; omega)] at h2
      have RS := Lib.hid RS
      have hb0 : E ≤ 1000000000 := by omega
      have HL := Lib.hid HL
      generalize hD : fnv fnv0 (b.take E) = D at HL
      have HS := Lib.hid (fun (W : World) (hb : Below w.heap.size w W) => by
        have h := rsum4_any (some p) E cap (b.take E) W (RS.out W hb).1 (by omega)
        rw [hD] at h
        exact h)
      have HE2 := Lib.hid hE2
      clear h11 h3 hE hE2 hEE
      go_enter Try.func34, Try.ntmps34
      go_wp2_with fail
      go_quiet (fail)
      have bq := (Drew.n w nq).below w.heap.size
      generalize w.drewN nq = W1 at bq ⊢
      clear x0 x00 x1 x2
      go_wp2_with fail
      have BQD : Hid (Below w.heap.size w W1.drew) := ⟨bq.os, bq.tape, bq.output, bq.size, bq.block⟩
      have SUM := Lib.hid (HS.out W1.drew BQD.out)
      clear HS
      have NP := Lib.hid (fun (W : World) (hb : Below w.heap.size w W) (A' : Option Addr) (cap' : Nat) (hr : Row8 W.heap.size W A' 8 (eight D)) =>
        (rsame_any A' (some (p.add E)) 8 8 cap' (cap - E) (eight D) ((b.drop E).take 8) W hr (RS.out W hb).2.1 (by omega) (by omega)))
      go_region_held3 (fun w' => True) (trivial) (first | (go_at_call 29; refine SUM.out.mono ?_; rintro e w5 ⟨A5, n5, cap5, rfl, m5⟩; obtain rfl : n5 = 8 := m5.1; have BS := Lib.hid (below_more BQD.out m5.2.2.2.2.2); have SM := Lib.hid (NP.out _ BS.out A5 cap5 m5.2.2.2.2.1); clear m5) | (go_at_call 13; refine SM.out.mono ?_; rintro e w6 ⟨rfl, d6⟩; have B6 := Lib.hid (below_more BS.out (d6.below _)); clear d6))
      by_cases hq : eight D = (b.drop E).take 8
      · rw [decide_eq_true hq]
        have HN := HL.out
        rw [if_pos hq] at HN
        clear hq
        have HG := Lib.hid (rget_any (some (p.add 3)) (E - 3) (cap - 3) ((b.take E).drop 3) w6 (RS.out w6 B6.out).2.2 (by omega))
        cases hg : getR ((b.take E).drop 3) with
        | none =>
          rw [hg] at HG HN
          have HN := Lib.hid HN
          clear hg
          go_wp2_with (go_at_call 17; refine HG.out.mono ?_; rintro e w7 ⟨b7, rfl⟩; have B7 := Lib.hid (below_more B6.out b7); clear b7)
          go_ret3
          rw [HN.out]
          exact ⟨B7.out, _, rfl⟩
        | some l =>
          rw [hg] at HG HN
          have HN := Lib.hid HN
          clear hg
          go_wp2_with (go_at_call 17; refine HG.out.mono ?_; rintro e w7 ⟨b7, v7, rfl, o7⟩; have B7 := Lib.hid (below_more B6.out b7); have O7 := Lib.hid (ownI_base o7 B6.out.size); clear b7 o7)
          go_ret3
          rw [HN.out]
          refine ⟨B7.out, v7, ?_, O7.out⟩
          have h := HE2.out
          subst h
          rfl
      · rw [decide_eq_false hq]
        have HN := HL.out
        rw [if_neg hq] at HN
        have HN := Lib.hid HN
        clear hq
        go_wp2_with fail
        go_ret3
        rw [HN.out]
        exact ⟨B6.out, 0, rfl⟩
end Go.Proofs.Ytdambggcaimndaa
