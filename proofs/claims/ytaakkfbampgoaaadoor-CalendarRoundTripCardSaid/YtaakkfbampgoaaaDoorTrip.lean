/- Layer 5: CalendarRoundTrip. -/
import Derived.Test.YtaakkfbampgoaaaDoorLaws
namespace Go.Proofs.YtaakkfbampgoaaaDoor
open Go.RowKit Go
set_option linter.unusedVariables false
set_option linter.unusedSimpArgs false

theorem trip_walk (x n x1 x2 x3 X M D : Int) (h1 : 0 ≤ x) (h2 : x ≤ 4294967295) (hn : x % 34001 = n) (u1 : 0 ≤ x1 ∧ x1 ≤ 255) (u2 : 0 ≤ x2 ∧ x2 ≤ 255) (u3 : 0 ≤ x3 ∧ x3 ≤ 255) (hX : Int.tmod x1 94 = X) (hM : Int.tmod x2 12 = M) (hD : Int.tmod x3 31 = D) (bX : 0 ≤ X ∧ X ≤ 93) (bM : 0 ≤ M ∧ M ≤ 11) (bD : 0 ≤ D ∧ D ≤ 30) (w : World) (ht : Tab w) :
    Calls Tryd.prog 4 #[.int .u32 x, .int .u8 x1, .int .u8 x2, .int .u8 x3] w (Gives (.bool true) w) := by
  have OK := Lib.hid (ok_refl ht)
  clear ht
  have n1 : 0 ≤ n ∧ n ≤ 34000 := by omega
  have HD := Lib.hid (head_true w)
  have ON := Lib.hid (on_any x h1 h2)
  rw [hn] at ON
  clear hn
  obtain ⟨a, b, c, hd, hN⟩ := date_exists n n1.1 n1.2
  have D1 := Lib.hid (date_c n a b c hd hN n1.2 w)
  have hd' := hd
  obtain ⟨a1, a2, b1, b2, c1, c2⟩ := hd'
  have l := len_bounds a b
  have D2 := Lib.hid (day_c a b c n 0 (day_yes hd hN n1.2) (by omega) (by omega) (by omega) w)
  clear hd hN c2 l
  by_cases q : IsDate (2000 + X) (1 + M) (1 + D)
  · have br := bom_range (2000 + X) (1 + M) (by omega) (by omega) (by omega) (by omega)
    by_cases u : 34000 < bomI (2000 + X) (1 + M) + (1 + D) - 1
    · have hx : X = 93 := by have := late_year q u; omega
      have D3 := Lib.hid (day_c (2000 + X) (1 + M) (1 + D) 0 3 (day_late q u) (by omega) (by omega) (by omega) w)
      clear q u br
      subst hx
      go_enter Tryd.func4, Tryd.ntmps4
      go_wp2_with (first
        | (go_at_call 19; refine (ON.out _).mono ?_; rintro e w' ⟨rfl, rfl⟩)
        | (go_at_call 10; refine (HD.out _ OK.out).mono ?_; rintro e w1 ⟨rfl, o1⟩; have O1 := Lib.hid o1; clear o1 OK)
        | (go_at_call 11; refine (D1.out _ O1.out).mono ?_; rintro e w2 ⟨rfl, o2⟩; have O2 := Lib.hid o2; clear o2 O1)
        | (go_at_call 13; refine (D2.out _ O2.out).mono ?_; rintro e w3 ⟨rfl, o3⟩; have O3 := Lib.hid o3; clear o3 O2)
        | (go_at_call 13; refine (D3.out _ O3.out).mono ?_; rintro e w4 ⟨rfl, o4⟩; have O4 := Lib.hid o4; clear o4 O3))
      go_ret
      exact ⟨by simp, O4.out.1⟩
    · obtain ⟨k, hk⟩ : ∃ k, k = bomI (2000 + X) (1 + M) + (1 + D) - 1 := ⟨_, rfl⟩
      have D3 := Lib.hid (day_c (2000 + X) (1 + M) (1 + D) k 0 (day_yes q hk (by omega)) (by omega) (by omega) (by omega) w)
      have D4 := Lib.hid (date_c k (2000 + X) (1 + M) (1 + D) q hk (by omega) w)
      clear q u br hk
      go_enter Tryd.func4, Tryd.ntmps4
      go_wp2_with (first
        | (go_at_call 19; refine (ON.out _).mono ?_; rintro e w' ⟨rfl, rfl⟩)
        | (go_at_call 10; refine (HD.out _ OK.out).mono ?_; rintro e w1 ⟨rfl, o1⟩; have O1 := Lib.hid o1; clear o1 OK)
        | (go_at_call 11; refine (D1.out _ O1.out).mono ?_; rintro e w2 ⟨rfl, o2⟩; have O2 := Lib.hid o2; clear o2 O1)
        | (go_at_call 13; refine (D2.out _ O2.out).mono ?_; rintro e w3 ⟨rfl, o3⟩; have O3 := Lib.hid o3; clear o3 O2)
        | (go_at_call 13; refine (D3.out _ O3.out).mono ?_; rintro e w4 ⟨rfl, o4⟩; have O4 := Lib.hid o4; clear o4 O3)
        | (go_at_call 11; refine (D4.out _ O4.out).mono ?_; rintro e w5 ⟨rfl, o5⟩; have O5 := Lib.hid o5; clear o5 O4))
      go_ret
      exact ⟨by simp, O5.out.1⟩
  · have D3 := Lib.hid (day_c (2000 + X) (1 + M) (1 + D) 0 1 (day_none q) (by omega) (by omega) (by omega) w)
    have L := Lib.hid (fun w => rlen_any (2000 + X) (1 + M) (by omega) (by omega) (by omega) (by omega) w)
    have lb := len_bounds (2000 + X) (1 + M)
    have ll : lenI (2000 + X) (1 + M) < 1 + D := by
      rcases (by omega : lenI (2000 + X) (1 + M) < 1 + D ∨ 1 + D ≤ lenI (2000 + X) (1 + M)) with r | r
      · exact r
      · exact absurd ⟨by omega, by omega, by omega, by omega, by omega, r⟩ q
    clear q
    generalize lenI (2000 + X) (1 + M) = v at L lb ll
    go_enter Tryd.func4, Tryd.ntmps4
    go_wp2_with (first
      | (go_at_call 19; refine (ON.out _).mono ?_; rintro e w' ⟨rfl, rfl⟩)
      | (go_at_call 10; refine (HD.out _ OK.out).mono ?_; rintro e w1 ⟨rfl, o1⟩; have O1 := Lib.hid o1; clear o1 OK)
      | (go_at_call 11; refine (D1.out _ O1.out).mono ?_; rintro e w2 ⟨rfl, o2⟩; have O2 := Lib.hid o2; clear o2 O1)
      | (go_at_call 13; refine (D2.out _ O2.out).mono ?_; rintro e w3 ⟨rfl, o3⟩; have O3 := Lib.hid o3; clear o3 O2)
      | (go_at_call 13; refine (D3.out _ O3.out).mono ?_; rintro e w4 ⟨rfl, o4⟩; have O4 := Lib.hid o4; clear o4 O3)
      | (go_at_call 20; refine (L.out _).mono ?_; rintro e w' ⟨rfl, rfl⟩))
    go_ret
    exact ⟨by simp, O4.out.1⟩

theorem trip_law (x x1 x2 x3 : Int) (w : World) (hx : (Lit.int .u32 x).wf = true) (hx1 : (Lit.int .u8 x1).wf = true) (hx2 : (Lit.int .u8 x2).wf = true) (hx3 : (Lit.int .u8 x3).wf = true) (ht : Tab w) :
    Calls Tryd.prog 4 #[.int .u32 x, .int .u8 x1, .int .u8 x2, .int .u8 x3] w (Gives (.bool true) w) := by
  have a1 := u8_wf hx1
  have a2 := u8_wf hx2
  have a3 := u8_wf hx3
  have e1 : Int.tmod x1 94 = x1 % 94 := Int.tmod_eq_emod_of_nonneg a1.1
  have e2 : Int.tmod x2 12 = x2 % 12 := Int.tmod_eq_emod_of_nonneg a2.1
  have e3 : Int.tmod x3 31 = x3 % 31 := Int.tmod_eq_emod_of_nonneg a3.1
  exact trip_walk x _ x1 x2 x3 _ _ _ (u32_wf hx).1 (u32_wf hx).2 rfl a1 a2 a3 e1 e2 e3 (by omega) (by omega) (by omega) w ht
end Go.Proofs.YtaakkfbampgoaaaDoor
