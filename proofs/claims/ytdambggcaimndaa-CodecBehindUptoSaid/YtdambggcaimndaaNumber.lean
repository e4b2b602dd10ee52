/- Layer 4: the reader: number. -/
import Derived.Test.YtdambggcaimndaaTake
namespace Go.Proofs.Ytdambggcaimndaa
open Go.RowKit Go.Sort Go
set_option linter.unusedVariables false

theorem RowV.grown {B : Nat} {w w' : World} {A : Option Addr} {len : Nat} {f : Nat → Value} {g : Nat} (h : RowV B w A len f) (hB : B ≤ w.heap.size) (hg : w.grownBy w' (some g)) (hne : 0 < len → ∀ p, A = some p → p.block ≠ g) : RowV w'.heap.size w' A len f :=
  fun hn => by
    obtain ⟨p, e, hp, hc⟩ := h hn
    refine ⟨p, e, Nat.lt_of_lt_of_le (Nat.lt_of_lt_of_le hp hB) hg.size, fun i hi => (World.cell?_of_block (hg.block _ (by rw [block_of_add]; omega) ?_)).trans (hc i hi)⟩
    rw [block_of_add]
    intro e2
    injection e2 with e2
    exact hne hn p e e2
theorem Row8.grown {B : Nat} {w w' : World} {A : Option Addr} {len : Nat} {bs : List UInt8} {g : Nat} (h : Row8 B w A len bs) (hB : B ≤ w.heap.size) (hg : w.grownBy w' (some g)) (hne : 0 < len → ∀ p, A = some p → p.block ≠ g) : Row8 w'.heap.size w' A len bs :=
  ⟨h.1, RowV.grown h.2 hB hg hne⟩
theorem grown_none {w w' : World} (h : w.grownBy w' none) (g : Nat) : w.grownBy w' (some g) := ⟨h.os, h.tape, h.output, h.size, fun i hi _ => h.block i hi (by simp)⟩

theorem or_byte (v c : Nat) (hc : c < 256) : (v * 256) ||| c = v * 256 + c := by
  have := Nat.shiftLeft_add_eq_or_of_lt (a := v) (i := 8) (b := c) (by omega)
  rw [Nat.shiftLeft_eq, show (2 : Nat) ^ 8 = 256 from rfl] at this
  exact this.symm

theorem number_no (g : Nat) (A : Option Addr) (n cap at_ k : Nat) (w : World) (h : Rd w g A n cap at_) (hn : n ≤ 1000000000) (ha : at_ ≤ n) (hk : n - at_ < k) (hk2 : k ≤ 8) :
    Calls Try.prog 40 #[.pointer (some ⟨g, 0, none⟩), .int .i64 k] w fun e w' => e = .panicked form ∧ w.grownBy w' none := by
  have T := Lib.hid (take_no g A n cap at_ k w h hn ha hk (by omega))
  clear h
  go_enter Try.func40, Try.ntmps40
  go_wp2_with (go_at_call 41; refine T.out.mono ?_; rintro e w' ⟨rfl, b1⟩)
  exact ⟨rfl, rfl, b1⟩

set_option maxHeartbeats 1000000 in
theorem number_ok (g : Nat) (p : Addr) (n cap at_ k : Nat) (bs : List UInt8) (w : World) (h : Rd w g (some p) n cap at_) (hr : Row8 w.heap.size w (some p) n bs) (hp : p.block ≠ g) (hn : n ≤ 1000000000) (hc : n ≤ cap) (hk : at_ + k ≤ n) (hk2 : k ≤ 8) :
    Calls Try.prog 40 #[.pointer (some ⟨g, 0, none⟩), .int .i64 k] w fun e w' => e = .returned (.int .u64 (valB ((bs.drop at_).take k) : Int)) ∧ w.grownBy w' (some g) ∧ Rd w' g (some p) n cap (at_ + k : Nat) := by
  have T := Lib.hid (take_ok g p n cap at_ k w h hn hc hk)
  have HR := Lib.hid hr
  clear h hr
  go_enter Try.func40, Try.ntmps40
  go_wp2_with (go_at_call 41; refine T.out.mono ?_; rintro e w' ⟨q, rfl, hq, b1, r1, hqb⟩; clear hqb; refine Hid.out ?_)
  refine Lib.hid ?_
  have hq1 : q.block = p.block ∨ k = 0 := by
    rcases hq with rfl | hq
    · exact .inl (block_of_add _ _)
    · exact .inr hq
  have HQ : Hid (Row8 w'.heap.size w' (some q) k ((bs.drop at_).take k)) := by
    have h1 := RowV.cut HR.out hk hq
    refine ⟨h1.1, fun h0 => RowV.grown h1.2 (Nat.le_refl _) b1 (fun _ p' e => ?_) h0⟩
    injection e with e
    subst e
    omega
  have HB := Lib.hid b1
  have H1 := Lib.hid r1
  clear b1 r1 hq hq1 T HR
  generalize hcs : (bs.drop at_).take k = cs at HQ
  have HCS := Lib.hid hcs
  clear hcs
  go_wp2_with fail
  go_loop [5, 12] (fun s i => ∃ j : Nat, j ≤ k ∧ i = .int .i64 j ∧ s = .int .u64 (valB (cs.take j) : Int)) (fun _ i => k - (intOf i).toNat)
  case atStart => exact ⟨0, Nat.zero_le _, rfl, rfl⟩
  case round =>
    obtain ⟨j, hj, rfl, rfl⟩ := hrel
    by_cases hlt : j < k
    · obtain ⟨p2, e2, hp2, hc2⟩ := HQ.out.2 (by omega)
      injection e2 with e2
      subst e2
      have hx : w'.cell? (q.add j) = some (.int .u8 ((cs.getD j 0).toNat : Int)) := hc2 j hlt
      clear hc2 hp2
      have hS := take_snoc cs 0 j (by rw [HQ.out.1]; exact hlt)
      have hF : valB (cs.take (j + 1)) = valB (cs.take j) * 256 + (cs.getD j 0).toNat := by rw [hS, valB_snoc]
      have hv := valB_lt j (cs.take j) (by rw [List.length_take, HQ.out.1]; omega)
      have hv2 : valB (cs.take j) < 256 ^ 7 := Nat.lt_of_lt_of_le hv (Nat.pow_le_pow_right (by omega) (by omega))
      have hv3 : valB (cs.take j) < 72057594037927936 := hv2
      have hc3 := u8_lt (cs.getD j 0)
      clear hv hv2 hS
      generalize valB (cs.take j) = s at hF hv3 ⊢
      generalize (cs.getD j 0).toNat = c at hx hF hc3
      have e1 : bits .or .u64 ((s : Int) * 256) (c : Int) = ((s * 256 + c : Nat) : Int) := by
        have := bits_or_u64_nat (s * 256) c (by omega) (by omega)
        rw [or_byte s c hc3] at this
        rw [← this]; congr 1
      have e0 : IntKind.u64.wrap ((s : Int) * 256) = (s : Int) * 256 := by rw [IntKind.wrap_u64]; omega
      have e4 : IntKind.u64.wrap (c : Int) = (c : Int) := by rw [IntKind.wrap_u64]; omega
      rw [← hF] at e1
      have HF := Lib.hid hF
      clear hF
      go_wp2_with fail
      go_round
      case rel => exact ⟨j + 1, by omega, by go_num, by rfl⟩
      case measure => simp [intOf]; omega
    · obtain rfl : j = k := by omega
      have hE : cs.take j = cs := by rw [← HQ.out.1]; exact List.take_length
      rw [hE]
      clear hE
      go_wp2_with fail
      go_ret
      exact ⟨by rw [HCS.out]; rfl, HB.out, H1.out⟩
end Go.Proofs.Ytdambggcaimndaa
