/- Layer 3: DigestBehind. -/
import Derived.Test.YtlmkegpkodcofaaDoorOpen
namespace Go.Proofs.YtlmkegpkodcofaaDoor
open Go.RowKit Go.Sort Go
set_option linter.unusedVariables false

theorem ownI_new (w : World) (zs : List Int) (B : Nat) (hB : B ≤ w.heap.size) (hn : zs.length ≤ maxLen) : OwnI B (w.alloc (.cells (intCells zs).toArray 3)) (.slice (some ⟨w.heap.size, 0, none⟩) zs.length zs.length) zs := by
  exact World.ownsRow_lit (base := B) (e := 3) (size := 1) w (intCells zs).toArray zs.length hB hn (by simp [intCells])

theorem in_app {a b : List Int} (ha : ∀ x ∈ a, -9223372036854775808 ≤ x ∧ x ≤ 9223372036854775807) (hb : ∀ x ∈ b, -9223372036854775808 ≤ x ∧ x ≤ 9223372036854775807) : ∀ x ∈ a ++ b, -9223372036854775808 ≤ x ∧ x ≤ 9223372036854775807 := by
  intro x hx
  rcases List.mem_append.1 hx with h | h
  · exact ha x h
  · exact hb x h

set_option maxHeartbeats 4000000 in
theorem behind_walk (a b : Nat) (ha : a < 18446744073709551616) (hb : b < 18446744073709551616) (A2 : Option Addr) (n2 cap2 : Nat) (l : List Int) (A3 : Option Addr) (n3 cap3 : Nat) (m : List Int) (A4 : Option Addr) (n4 cap4 : Nat) (h : List Int) (w : World)
    (r2 : RowI w.heap.size w A2 n2 l) (e2 : A2 = none → cap2 = 0) (r3 : RowI w.heap.size w A3 n3 m) (e3 : A3 = none → cap3 = 0) (r4 : RowI w.heap.size w A4 n4 h) (e4 : A4 = none → cap4 = 0)
    (h2 : n2 ≤ 100) (h3 : n3 ≤ 100) (h4 : n4 ≤ 100) (ht : Tab w) :
    Calls Tryd.prog 7 #[.int .u64 a, .int .u64 b, .slice A2 n2 cap2, .slice A3 n3 cap3, .slice A4 n4 cap4] w (Gives (.bool true) w) := by
  have HD := Lib.hid (head_true w ht)
  have HT := Lib.hid ht
  have R2 := Lib.hid r2
  have R3 := Lib.hid r3
  have R4 := Lib.hid r4
  have E2 := Lib.hid e2
  have E3 := Lib.hid e3
  have E4 := Lib.hid e4
  clear ht r2 r3 r4 e2 e3 e4
  go_enter Tryd.func7, Tryd.ntmps7
  go_wp2_with (go_at_call 9; refine HD.out.mono ?_; rintro e w1 ⟨rfl, bb⟩; refine Hid.out ?_)
  refine Lib.hid ?_
  have B := Lib.hid bb
  clear bb
  obtain ⟨Wx, hWx⟩ : ∃ W, w1.alloc (.cells #[] 3) = W := ⟨_, rfl⟩
  have HOx : Hid (OwnI w1.heap.size Wx (.slice (some ⟨w1.heap.size, 0, none⟩) 0 0) []) := by rw [← hWx]; exact ownI_new w1 [] w1.heap.size (Nat.le_refl _) (by simp [maxLen])
  have BWx : Hid (Below w1.heap.size w1 Wx) := by rw [← hWx]; exact below_alloc _ _
  have RAx := Lib.hid (R2.out.step (below_more B.out BWx.out))
  have LAx := Lib.hid (show ([] : List Int).length + n2 ≤ 1000000000 by simp; omega)
  go_wp2_with (at_builtin; refine wpList_appI rfl _ _ rfl w1.heap.size (.slice (some ⟨w1.heap.size, 0, none⟩) 0 0) [] rfl HOx.out A2 n2 cap2 _ l rfl E2.out RAx.out LAx.out BWx.out.size ?_; refine Hid.out ?_)
  refine Lib.hid ?_
  intro vx wx1 hox hgx
  clear hWx
  have bxx : Below w1.heap.size w1 wx1 := BWx.out.grown hgx BWx.out.size (ownI_grown (w' := w) HOx.out)
  have HOx := Lib.hid (show OwnI w1.heap.size wx1 vx l from hox)
  have BXx := Lib.hid bxx
  have RBx := Lib.hid (R4.out.step (below_more B.out bxx))
  have LBx := Lib.hid (show l.length + n4 ≤ 1000000000 by have := R2.out.1; omega)
  clear hox hgx bxx
  go_wp2_with (at_builtin; refine wpList_appI rfl _ _ rfl w1.heap.size vx l rfl HOx.out A4 n4 cap4 _ h rfl E4.out RBx.out LBx.out BXx.out.size ?_; refine Hid.out ?_)
  refine Lib.hid ?_
  intro vx wx2 hox hgx
  have bxx : Below w1.heap.size w1 wx2 := BXx.out.grown hgx BXx.out.size (ownI_grown (w' := w) HOx.out)
  obtain ⟨Ax, nx, capx, rfl, _, _, _, rrx⟩ := hox.row (in_app R2.out.2.2 R4.out.2.2)
  have Rx := Lib.hid rrx
  have Blx := Lib.hid bxx
  have Bx := Lib.hid (below_more B.out bxx)
  clear hox hgx bxx rrx HOx BXx RBx LBx RAx LAx BWx
  obtain ⟨Wy, hWy⟩ : ∃ W, wx2.alloc (.cells #[] 3) = W := ⟨_, rfl⟩
  have HOy : Hid (OwnI wx2.heap.size Wy (.slice (some ⟨wx2.heap.size, 0, none⟩) 0 0) []) := by rw [← hWy]; exact ownI_new wx2 [] wx2.heap.size (Nat.le_refl _) (by simp [maxLen])
  have BWy : Hid (Below wx2.heap.size wx2 Wy) := by rw [← hWy]; exact below_alloc _ _
  have RAy := Lib.hid (R3.out.step (below_more Bx.out BWy.out))
  have LAy := Lib.hid (show ([] : List Int).length + n3 ≤ 1000000000 by simp; omega)
  go_wp2_with (at_builtin; refine wpList_appI rfl _ _ rfl wx2.heap.size (.slice (some ⟨wx2.heap.size, 0, none⟩) 0 0) [] rfl HOy.out A3 n3 cap3 _ m rfl E3.out RAy.out LAy.out BWy.out.size ?_; refine Hid.out ?_)
  refine Lib.hid ?_
  intro vy wy1 hoy hgy
  clear hWy
  have bxy : Below wx2.heap.size wx2 wy1 := BWy.out.grown hgy BWy.out.size (ownI_grown (w' := w) HOy.out)
  have HOy := Lib.hid (show OwnI wx2.heap.size wy1 vy m from hoy)
  have BXy := Lib.hid bxy
  have RBy := Lib.hid (R4.out.step (below_more Bx.out bxy))
  have LBy := Lib.hid (show m.length + n4 ≤ 1000000000 by have := R3.out.1; omega)
  clear hoy hgy bxy
  go_wp2_with (at_builtin; refine wpList_appI rfl _ _ rfl wx2.heap.size vy m rfl HOy.out A4 n4 cap4 _ h rfl E4.out RBy.out LBy.out BXy.out.size ?_; refine Hid.out ?_)
  refine Lib.hid ?_
  intro vy wy2 hoy hgy
  have bxy : Below wx2.heap.size wx2 wy2 := BXy.out.grown hgy BXy.out.size (ownI_grown (w' := w) HOy.out)
  obtain ⟨Ay, ny, capy, rfl, _, _, _, rry⟩ := hoy.row (in_app R3.out.2.2 R4.out.2.2)
  have Ry := Lib.hid rry
  have Bly := Lib.hid bxy
  have By := Lib.hid (below_more Bx.out bxy)
  clear hoy hgy bxy rry HOy BXy RBy LBy RAy LAy BWy
  have Rx := Lib.hid (Rx.out.step Bly.out)
  have lx : nx ≤ 9223372036854775807 := by have := Rx.out.1; rw [List.length_append, R2.out.1, R4.out.1] at this; omega
  have ly : ny ≤ 9223372036854775807 := by have := Ry.out.1; rw [List.length_append, R3.out.1, R4.out.1] at this; omega
  have key : (fnv fnv0 (eight a ++ textOf (l ++ h)) = fnv fnv0 (eight b ++ textOf (m ++ h))) ↔ (fnv fnv0 (eight a ++ textOf l) = fnv fnv0 (eight b ++ textOf m)) := by
    rw [textOf_append, textOf_append, ← List.append_assoc, ← List.append_assoc, fnv_append (eight a ++ textOf l), fnv_append (eight b ++ textOf m)]
    exact fnv_inj (textOf h) (fnv_lt _ _ fnv0_lt) (fnv_lt _ _ fnv0_lt)
  have Sx := Lib.hid (next_any a ha Ax nx capx _ wy2 Rx.out lx (HT.out.step By.out))
  generalize hX : fnv fnv0 (eight a ++ textOf (l ++ h)) = X at Sx key
  generalize hY : fnv fnv0 (eight b ++ textOf (m ++ h)) = Y at key
  generalize hZ : fnv fnv0 (eight a ++ textOf l) = Z at key
  generalize hV : fnv fnv0 (eight b ++ textOf m) = V at key
  have HY := Lib.hid hY
  have HZ := Lib.hid hZ
  have HV := Lib.hid hV
  have LY := Lib.hid ly
  clear hX hY hZ hV lx ly
  obtain ⟨q, k1, k2⟩ : ∃ q : Bool, ((X : Int) == (Y : Int)) = q ∧ ((Z : Int) == (V : Int)) = q := by
    refine ⟨decide (Z = V), ?_, ?_⟩
    · rw [Bool.eq_iff_iff]; simp only [beq_iff_eq, decide_eq_true_eq]; omega
    · rw [Bool.eq_iff_iff]; simp only [beq_iff_eq, decide_eq_true_eq]; omega
  clear key
  go_wp2_with (go_at_call 14; refine Sx.out.mono ?_; rintro e w5 ⟨rfl, bb⟩; refine Hid.out ?_)
  refine Lib.hid ?_
  have Ry := Lib.hid (Ry.out.step bb)
  have B5 := Lib.hid (below_more By.out bb)
  have Sy := Lib.hid (next_any b hb Ay ny capy _ w5 Ry.out LY.out (HT.out.step B5.out))
  rw [HY.out] at Sy
  clear bb
  go_wp2_with (go_at_call 14; refine Sy.out.mono ?_; rintro e w6 ⟨rfl, bb⟩; refine Hid.out ?_)
  refine Lib.hid ?_
  have B6 := Lib.hid (below_more B5.out bb)
  have S2 := Lib.hid (next_any a ha A2 n2 cap2 _ w6 (R2.out.step B6.out) (by omega) (HT.out.step B6.out))
  rw [HZ.out] at S2
  clear bb
  go_wp2_with (go_at_call 14; refine S2.out.mono ?_; rintro e w7 ⟨rfl, bb⟩; refine Hid.out ?_)
  refine Lib.hid ?_
  have B7 := Lib.hid (below_more B6.out bb)
  have S3 := Lib.hid (next_any b hb A3 n3 cap3 _ w7 (R3.out.step B7.out) (by omega) (HT.out.step B7.out))
  rw [HV.out] at S3
  clear bb
  go_wp2_with (go_at_call 14; refine S3.out.mono ?_; rintro e w8 ⟨rfl, bb⟩; refine Hid.out ?_)
  refine Lib.hid ?_
  have B8 := Lib.hid (below_more B7.out bb)
  clear bb
  go_wp2_with fail
  go_ret
  exact ⟨rfl, B8.out⟩

theorem behind_long (a b : Int) (A2 : Option Addr) (n2 cap2 : Nat) (A3 : Option Addr) (n3 cap3 : Nat) (A4 : Option Addr) (n4 cap4 : Nat) (w : World) (h : 100 < n2 ∨ 100 < n3 ∨ 100 < n4) (ht : Tab w) :
    Calls Tryd.prog 7 #[.int .u64 a, .int .u64 b, .slice A2 n2 cap2, .slice A3 n3 cap3, .slice A4 n4 cap4] w (Gives (.bool true) w) := by
  have HD := Lib.hid (head_true w ht)
  clear ht
  by_cases h0 : 100 < n2
  · clear h
    go_enter Tryd.func7, Tryd.ntmps7
    go_wp2_with (go_at_call 9; refine HD.out.mono ?_; rintro e w1 ⟨rfl, bb⟩; refine Hid.out ?_)
    refine Lib.hid ?_
    go_wp2_with fail
    go_ret
    exact ⟨rfl, bb⟩
  · by_cases h1 : 100 < n3
    · clear h
      go_enter Tryd.func7, Tryd.ntmps7
      go_wp2_with (go_at_call 9; refine HD.out.mono ?_; rintro e w1 ⟨rfl, bb⟩; refine Hid.out ?_)
      refine Lib.hid ?_
      go_wp2_with fail
      go_ret
      exact ⟨rfl, bb⟩
    · have h2 : 100 < n4 := by omega
      clear h
      go_enter Tryd.func7, Tryd.ntmps7
      go_wp2_with (go_at_call 9; refine HD.out.mono ?_; rintro e w1 ⟨rfl, bb⟩; refine Hid.out ?_)
      refine Lib.hid ?_
      go_wp2_with fail
      go_ret
      exact ⟨rfl, bb⟩

theorem behind_law (x0 x1 : Int) (A2 : Option Addr) (n2 cap2 : Nat) (l : List Int) (A3 : Option Addr) (n3 cap3 : Nat) (m : List Int) (A4 : Option Addr) (n4 cap4 : Nat) (h : List Int) (w : World)
    (w0 : (Lit.int .u64 x0).wf = true) (w1 : (Lit.int .u64 x1).wf = true) (r2 : RowI w.heap.size w A2 n2 l) (l2 : n2 ≤ cap2) (m2 : cap2 ≤ 9223372036854775807) (e2 : A2 = none → cap2 = 0) (r3 : RowI w.heap.size w A3 n3 m) (l3 : n3 ≤ cap3) (m3 : cap3 ≤ 9223372036854775807) (e3 : A3 = none → cap3 = 0)
    (r4 : RowI w.heap.size w A4 n4 h) (l4 : n4 ≤ cap4) (m4 : cap4 ≤ 9223372036854775807) (e4 : A4 = none → cap4 = 0) (ht : Tab w) :
    Calls Tryd.prog 7 #[.int .u64 x0, .int .u64 x1, .slice A2 n2 cap2, .slice A3 n3 cap3, .slice A4 n4 cap4] w (Gives (.bool true) w) := by
  obtain ⟨a1, a2⟩ := u64_wf w0
  obtain ⟨b1, b2⟩ := u64_wf w1
  obtain ⟨a, rfl⟩ : ∃ a : Nat, x0 = (a : Int) := ⟨x0.toNat, by omega⟩
  obtain ⟨b, rfl⟩ : ∃ b : Nat, x1 = (b : Int) := ⟨x1.toNat, by omega⟩
  by_cases hl : 100 < n2 ∨ 100 < n3 ∨ 100 < n4
  · exact behind_long a b A2 n2 cap2 A3 n3 cap3 A4 n4 cap4 w hl ht
  · exact behind_walk a b (by omega) (by omega) A2 n2 cap2 l A3 n3 cap3 m A4 n4 cap4 h w r2 e2 r3 e3 r4 e4 (by omega) (by omega) (by omega) ht
end Go.Proofs.YtlmkegpkodcofaaDoor
