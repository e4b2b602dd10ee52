/- Layer 11: package packet's join, requestFields and replyFields over the landed code (gen/gen_prog.py writes this). -/
import Derived.RegionTactic
import Derived.BigRegion
import Derived.Test.YtmfbnajaocaikaaGSm
namespace Go.Proofs.Ytmfbnajaocaikaa
open Go.RowKit Go.Sort Go
set_option linter.unusedVariables false
set_option linter.unusedSimpArgs false

theorem or_halves {u v : Int} (hu : Half u) (hv : Half v) : bits .or .u64 (u * 4294967296) v = u * 4294967296 + v := by
  obtain ⟨a, rfl⟩ : ∃ a : Nat, u = a := ⟨u.toNat, by have := hu.1; omega⟩
  obtain ⟨b, rfl⟩ : ∃ b : Nat, v = b := ⟨v.toNat, by have := hv.1; omega⟩
  obtain ⟨u1, u2⟩ := hu
  obtain ⟨v1, v2⟩ := hv
  have h := Nat.shiftLeft_add_eq_or_of_lt (a := a) (i := 32) (b := b) (by omega)
  rw [Nat.shiftLeft_eq, show (2 : Nat) ^ 32 = 4294967296 from rfl] at h
  have k := bits_or_u64_nat (a * 4294967296) b (by omega) (by omega)
  rw [← h] at k
  rw [show (a : Int) * 4294967296 = ((a * 4294967296 : Nat) : Int) by omega, k]
  omega
set_option maxRecDepth 100000 in
set_option maxHeartbeats 8000000 in
theorem gjoin_u (u v : Int) (gh : Nat) (hu : ¬ Half u) (w : World) (hh : Two w gh 53 (.int .i64 u) (.int .i64 v)) :
    Calls Try.prog 29 #[.pointer (some ⟨gh, 0, none⟩)] w fun e w' => e = .returned (.tuple #[.int .u64 0, .bool false]) ∧ Drew w w' := by
  have t0 := hh.c0
  have t1 := hh.c1
  have tl := hh.lt
  clear hh
  have HU := Lib.hid (ghalf_any u false (by simp [hu]))
  clear hu
  go_enter Try.func29, Try.ntmps29
  go_wp2_with (go_at_call 45; (with_reducible refine (HU.out _).mono ?_); rintro e w' ⟨rfl, rfl⟩; clear HU)
  go_ret2
  exact ⟨rfl, Drew.refl _⟩
set_option maxRecDepth 100000 in
set_option maxHeartbeats 8000000 in
theorem gjoin_v (u v : Int) (gh : Nat) (hu : Half u) (hv : ¬ Half v) (w : World) (hh : Two w gh 53 (.int .i64 u) (.int .i64 v)) :
    Calls Try.prog 29 #[.pointer (some ⟨gh, 0, none⟩)] w fun e w' => e = .returned (.tuple #[.int .u64 0, .bool false]) ∧ Drew w w' := by
  have t0 := hh.c0
  have t1 := hh.c1
  have tl := hh.lt
  clear hh
  have HU := Lib.hid (ghalf_any u true (by simp [hu]))
  have HV := Lib.hid (ghalf_any v false (by simp [hv]))
  clear hu hv
  go_enter Try.func29, Try.ntmps29
  go_wp2_with (first
    | (go_at_call 45; (with_reducible refine (HU.out _).mono ?_); rintro e w' ⟨rfl, rfl⟩; clear HU)
    | (go_at_call 45; (with_reducible refine (HV.out _).mono ?_); rintro e w' ⟨rfl, rfl⟩; clear HV))
  go_ret2
  exact ⟨rfl, Drew.refl _⟩
set_option maxRecDepth 100000 in
set_option maxHeartbeats 8000000 in
theorem gjoin_yes (u v : Int) (gh : Nat) (hu : Half u) (hv : Half v) (n : Int) (hn : u * 4294967296 + v = n) (w : World) (hh : Two w gh 53 (.int .i64 u) (.int .i64 v)) :
    Calls Try.prog 29 #[.pointer (some ⟨gh, 0, none⟩)] w fun e w' => e = .returned (.tuple #[.int .u64 n, .bool true]) ∧ Drew w w' := by
  have t0 := hh.c0
  have t1 := hh.c1
  have tl := hh.lt
  clear hh
  have e4 := or_halves hu hv
  rw [hn] at e4
  have HU := Lib.hid (ghalf_any u true (by simp [hu]))
  have HV := Lib.hid (ghalf_any v true (by simp [hv]))
  obtain ⟨u1, u2⟩ := hu
  obtain ⟨v1, v2⟩ := hv
  have e1 : IntKind.u64.wrap u = u := IntWalk.u64_in _ ⟨u1, by omega⟩
  have e2 : IntKind.u64.wrap v = v := IntWalk.u64_in _ ⟨v1, by omega⟩
  have e3 : IntKind.u64.wrap (u * 4294967296) = u * 4294967296 := IntWalk.u64_in _ ⟨by omega, by omega⟩
  clear hn u1 u2 v1 v2
  go_enter Try.func29, Try.ntmps29
  go_wp2_with (first
    | (go_at_call 45; (with_reducible refine (HU.out _).mono ?_); rintro e w' ⟨rfl, rfl⟩; clear HU)
    | (go_at_call 45; (with_reducible refine (HV.out _).mono ?_); rintro e w' ⟨rfl, rfl⟩; clear HV))
  go_quiet (fail)
  go_wp2_with fail
  go_ret2
  exact ⟨rfl, Drew.n _ _⟩
end Go.Proofs.Ytmfbnajaocaikaa
