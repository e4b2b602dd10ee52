/- Layer 3: DigestOneByte. -/
import Derived.Laws.BitsAllLaws
import Derived.Test.YtlmkegpkodcofaaDoorOpen
namespace Go.Proofs.YtlmkegpkodcofaaDoor
open Go.RowKit Go.Sort Go
set_option linter.unusedVariables false

theorem mod_len (at_ : Int) (n : Nat) (hn : 0 < n) : ∃ k : Nat, k < n ∧ Int.tmod (Int.tmod at_ n + n) n = (k : Int) := by
  have b2 : Int.tmod at_ n < n := Int.tmod_lt_of_pos at_ (by omega)
  have b1 : -(n : Int) < Int.tmod at_ n := by
    rcases Int.le_total 0 at_ with h | h
    · rw [Int.tmod_eq_emod_of_nonneg h]; have := Int.emod_nonneg at_ (show (n : Int) ≠ 0 by omega); omega
    · have h2 : Int.tmod (-at_) n = -(Int.tmod at_ n) := Int.neg_tmod at_ n
      rw [Int.tmod_eq_emod_of_nonneg (by omega)] at h2
      have := Int.emod_lt_of_pos (-at_) (show (0 : Int) < n by omega); omega
  have e : Int.tmod (Int.tmod at_ n + n) n = (Int.tmod at_ n + n) % n := Int.tmod_eq_emod_of_nonneg (by omega)
  have c1 := Int.emod_nonneg (Int.tmod at_ n + n) (show (n : Int) ≠ 0 by omega)
  have c2 := Int.emod_lt_of_pos (Int.tmod at_ n + n) (show (0 : Int) < n by omega)
  exact ⟨(Int.tmod (Int.tmod at_ n + n) n).toNat, by omega, by omega⟩

theorem mod_len_wrap (at_ : Int) (n : Nat) (hn : 0 < n) (h3 : n ≤ 300) : wrap64 (Int.tmod at_ n + n) = Int.tmod at_ n + n := by
  have b2 : Int.tmod at_ n < n := Int.tmod_lt_of_pos at_ (by omega)
  have b1 : -(n : Int) < Int.tmod at_ n := by
    rcases Int.le_total 0 at_ with h | h
    · rw [Int.tmod_eq_emod_of_nonneg h]; have := Int.emod_nonneg at_ (show (n : Int) ≠ 0 by omega); omega
    · have h2 : Int.tmod (-at_) n = -(Int.tmod at_ n) := Int.neg_tmod at_ n
      rw [Int.tmod_eq_emod_of_nonneg (by omega)] at h2
      have := Int.emod_lt_of_pos (-at_) (show (0 : Int) < n by omega); omega
  unfold wrap64; omega

theorem own_some {w : World} {B : Nat} {v : Value} {bs : List UInt8} (h : Own B w v bs) (n : Nat) (hn : bs.length = n) (h0 : 0 < n) : ∃ g cap, v = .slice (some ⟨g, 0, none⟩) n cap ∧ B ≤ g ∧ n ≤ cap ∧ g < w.heap.size := by
  subst hn
  rcases h.2 with ⟨_, hz⟩ | ⟨g, cap, cur, e, hb, hg, hc, _⟩
  · omega
  · exact ⟨g, cap, e, hb, hc, (Array.getElem?_eq_some_iff.1 hg).1⟩

theorem byteCells_set (bs : List UInt8) (k : Nat) (d : UInt8) : (Lib.byteCells bs).set k (.int .u8 (d.toNat : Int)) = Lib.byteCells (bs.set k d) := by
  simp [Lib.byteCells, List.map_set]

theorem ofNat_xor (x y : Nat) (hx : x < 256) (hy : y < 256) : ((UInt8.ofNat (x ^^^ y)).toNat : Int) = ((x ^^^ y : Nat) : Int) := by
  have : x ^^^ y < 256 := Nat.xor_lt_two_pow (n := 8) hx hy
  simp only [UInt8.toNat_ofNat']; omega

set_option maxHeartbeats 4000000 in
theorem one_walk (A0 : Option Addr) (n0 cap0 : Nat) (b : List UInt8) (A1 : Option Addr) (n1 cap1 : Nat) (o : List UInt8) (A2 : Option Addr) (n2 cap2 : Nat) (h : List UInt8) (at_ : Int) (by_ : Nat) (hby : by_ < 256) (w : World)
    (r0 : Row8 w.heap.size w A0 n0 b) (e0 : A0 = none → cap0 = 0) (r1 : Row8 w.heap.size w A1 n1 o) (e1 : A1 = none → cap1 = 0) (r2 : Row8 w.heap.size w A2 n2 h) (e2 : A2 = none → cap2 = 0)
    (h0 : n0 ≤ 300) (h1 : n1 ≤ 300) (h2 : n2 ≤ 300) (ht : Tab w) :
    Calls Tryd.prog 4 #[.slice A0 n0 cap0, .slice A1 n1 cap1, .slice A2 n2 cap2, .int .i64 at_, .int .u8 by_] w (Gives (.bool true) w) := by
  have HD := Lib.hid (head_true w ht)
  have HT := Lib.hid ht
  have R0 := Lib.hid r0
  have R1 := Lib.hid r1
  have R2 := Lib.hid r2
  have E0 := Lib.hid e0
  have E1 := Lib.hid e1
  have E2 := Lib.hid e2
  clear ht r0 r1 r2 e0 e1 e2
  go_enter Tryd.func4, Tryd.ntmps4
  go_wp2_with (go_at_call 9; refine HD.out.mono ?_; rintro e w1 ⟨rfl, bb⟩; refine Hid.out ?_)
  refine Lib.hid ?_
  have B := Lib.hid bb
  clear bb
  obtain ⟨Wx, hWx⟩ : ∃ W, w1.alloc (.cells #[] 5) = W := ⟨_, rfl⟩
  have HOx : Hid (Own w1.heap.size Wx (.slice (some ⟨w1.heap.size, 0, none⟩) 0 0) []) := by rw [← hWx]; exact own_new w1 [] w1.heap.size (Nat.le_refl _) (by simp [maxLen])
  have BWx : Hid (Below w1.heap.size w1 Wx) := by rw [← hWx]; exact below_alloc _ _
  have RAx := Lib.hid (R0.out.step (below_more B.out BWx.out))
  have LAx := Lib.hid (show ([] : List UInt8).length + n0 ≤ 1000000000 by simp; omega)
  go_wp2_with (at_builtin; refine wpList_app8 rfl _ _ rfl w1.heap.size (.slice (some ⟨w1.heap.size, 0, none⟩) 0 0) [] rfl HOx.out A0 n0 cap0 _ b rfl E0.out RAx.out LAx.out BWx.out.size ?_; refine Hid.out ?_)
  refine Lib.hid ?_
  intro vx wx1 hox hgx
  clear hWx
  have bxx : Below w1.heap.size w1 wx1 := BWx.out.grown hgx BWx.out.size (own_grown (w' := w) HOx.out)
  have HOx := Lib.hid (show Own w1.heap.size wx1 vx b from hox)
  have BXx := Lib.hid bxx
  have RBx := Lib.hid (R2.out.step (below_more B.out bxx))
  have LBx := Lib.hid (show b.length + n2 ≤ 1000000000 by have := R0.out.1; omega)
  clear hox hgx bxx
  go_wp2_with (at_builtin; refine wpList_app8 rfl _ _ rfl w1.heap.size vx b rfl HOx.out A2 n2 cap2 _ h rfl E2.out RBx.out LBx.out BXx.out.size ?_; refine Hid.out ?_)
  refine Lib.hid ?_
  intro vx wx2 hox hgx
  have bxx : Below w1.heap.size w1 wx2 := BXx.out.grown hgx BXx.out.size (own_grown (w' := w) HOx.out)
  obtain ⟨Ax, nx, capx, rfl, _, _, _, rrx⟩ := hox.row
  have Rx := Lib.hid rrx
  have Blx := Lib.hid bxx
  have Bx := Lib.hid (below_more B.out bxx)
  clear hox hgx bxx rrx HOx BXx RBx LBx RAx LAx BWx
  obtain ⟨Wy, hWy⟩ : ∃ W, wx2.alloc (.cells #[] 5) = W := ⟨_, rfl⟩
  have HOy : Hid (Own wx2.heap.size Wy (.slice (some ⟨wx2.heap.size, 0, none⟩) 0 0) []) := by rw [← hWy]; exact own_new wx2 [] wx2.heap.size (Nat.le_refl _) (by simp [maxLen])
  have BWy : Hid (Below wx2.heap.size wx2 Wy) := by rw [← hWy]; exact below_alloc _ _
  have RAy := Lib.hid (R1.out.step (below_more Bx.out BWy.out))
  have LAy := Lib.hid (show ([] : List UInt8).length + n1 ≤ 1000000000 by simp; omega)
  go_wp2_with (at_builtin; refine wpList_app8 rfl _ _ rfl wx2.heap.size (.slice (some ⟨wx2.heap.size, 0, none⟩) 0 0) [] rfl HOy.out A1 n1 cap1 _ o rfl E1.out RAy.out LAy.out BWy.out.size ?_; refine Hid.out ?_)
  refine Lib.hid ?_
  intro vy wy1 hoy hgy
  clear hWy
  have bxy : Below wx2.heap.size wx2 wy1 := BWy.out.grown hgy BWy.out.size (own_grown (w' := w) HOy.out)
  have HOy := Lib.hid (show Own wx2.heap.size wy1 vy o from hoy)
  have BXy := Lib.hid bxy
  have RBy := Lib.hid (R2.out.step (below_more Bx.out bxy))
  have LBy := Lib.hid (show o.length + n2 ≤ 1000000000 by have := R1.out.1; omega)
  clear hoy hgy bxy
  go_wp2_with (at_builtin; refine wpList_app8 rfl _ _ rfl wx2.heap.size vy o rfl HOy.out A2 n2 cap2 _ h rfl E2.out RBy.out LBy.out BXy.out.size ?_; refine Hid.out ?_)
  refine Lib.hid ?_
  intro vy wy2 hoy hgy
  have bxy : Below wx2.heap.size wx2 wy2 := BXy.out.grown hgy BXy.out.size (own_grown (w' := w) HOy.out)
  obtain ⟨Ay, ny, capy, rfl, _, _, _, rry⟩ := hoy.row
  have Ry := Lib.hid rry
  have Bly := Lib.hid bxy
  have By := Lib.hid (below_more Bx.out bxy)
  clear hoy hgy bxy rry HOy BXy RBy LBy RAy LAy BWy
  have Rx := Lib.hid (Rx.out.step Bly.out)
  have lx : nx ≤ 9223372036854775807 := by have := Rx.out.1; rw [List.length_append, R0.out.1, R2.out.1] at this; omega
  have ly : ny ≤ 9223372036854775807 := by have := Ry.out.1; rw [List.length_append, R1.out.1, R2.out.1] at this; omega
  have Sx := Lib.hid (sum_any Ax nx capx _ wy2 Rx.out lx)
  have Sy := Lib.hid (sum_any Ay ny capy _ wy2 Ry.out ly)
  have S0 := Lib.hid (sum_any A0 n0 cap0 _ wy2 (R0.out.step By.out) (by omega))
  have S1 := Lib.hid (sum_any A1 n1 cap1 _ wy2 (R1.out.step By.out) (by omega))
  have key : (fnv fnv0 (b ++ h) = fnv fnv0 (o ++ h)) ↔ (fnv fnv0 b = fnv fnv0 o) := by
    rw [fnv_append, fnv_append]
    exact fnv_inj h (fnv_lt _ _ fnv0_lt) (fnv_lt _ _ fnv0_lt)
  clear lx ly
  generalize fnv fnv0 (b ++ h) = X at Sx key
  generalize fnv fnv0 (o ++ h) = Y at Sy key
  obtain ⟨Z, hZ⟩ : ∃ Z, fnv fnv0 b = Z := ⟨_, rfl⟩
  have HZ := Lib.hid hZ
  rw [hZ] at S0 key
  clear hZ
  generalize fnv fnv0 o = V at S1 key
  obtain ⟨q, k1, k2⟩ : ∃ q : Bool, ((X : Int) == (Y : Int)) = q ∧ ((Z : Int) == (V : Int)) = q := by
    refine ⟨decide (Z = V), ?_, ?_⟩
    · rw [Bool.eq_iff_iff]; simp only [beq_iff_eq, decide_eq_true_eq]; omega
    · rw [Bool.eq_iff_iff]; simp only [beq_iff_eq, decide_eq_true_eq]; omega
  clear key
  by_cases hn : n0 = 0
  · subst hn
    go_wp2_with (first
    | (go_at_call 10; refine Sx.out.mono ?_; rintro e w' ⟨rfl, rfl⟩)
    | (go_at_call 10; refine Sy.out.mono ?_; rintro e w' ⟨rfl, rfl⟩)
    | (go_at_call 10; refine S0.out.mono ?_; rintro e w' ⟨rfl, rfl⟩)
    | (go_at_call 10; refine S1.out.mono ?_; rintro e w' ⟨rfl, rfl⟩))
    go_ret
    exact ⟨rfl, By.out⟩
  by_cases hb0 : by_ = 0
  · subst hb0
    have q1 : ((n0 : Int) == 0) = false := by rw [beq_eq_false_iff_ne]; omega
    go_wp2_with (first
    | (go_at_call 10; refine Sx.out.mono ?_; rintro e w' ⟨rfl, rfl⟩)
    | (go_at_call 10; refine Sy.out.mono ?_; rintro e w' ⟨rfl, rfl⟩)
    | (go_at_call 10; refine S0.out.mono ?_; rintro e w' ⟨rfl, rfl⟩)
    | (go_at_call 10; refine S1.out.mono ?_; rintro e w' ⟨rfl, rfl⟩))
    go_ret
    exact ⟨rfl, By.out⟩
  have q1 : ((n0 : Int) == 0) = false := by rw [beq_eq_false_iff_ne]; omega
  have q2 : ((by_ : Int) == 0) = false := by rw [beq_eq_false_iff_ne]; omega
  obtain ⟨Wc, hWc⟩ : ∃ W, wy2.alloc (.cells #[] 5) = W := ⟨_, rfl⟩
  have HOc : Hid (Own wy2.heap.size Wc (.slice (some ⟨wy2.heap.size, 0, none⟩) 0 0) []) := by rw [← hWc]; exact own_new wy2 [] wy2.heap.size (Nat.le_refl _) (by simp [maxLen])
  have BWc : Hid (Below wy2.heap.size wy2 Wc) := by rw [← hWc]; exact below_alloc _ _
  have RAc := Lib.hid (R0.out.step (below_more By.out BWc.out))
  have LAc := Lib.hid (show ([] : List UInt8).length + n0 ≤ 1000000000 by simp; omega)
  go_wp2_with (first
    | (go_at_call 10; refine Sx.out.mono ?_; rintro e w' ⟨rfl, rfl⟩)
    | (go_at_call 10; refine Sy.out.mono ?_; rintro e w' ⟨rfl, rfl⟩)
    | (go_at_call 10; refine S0.out.mono ?_; rintro e w' ⟨rfl, rfl⟩)
    | (go_at_call 10; refine S1.out.mono ?_; rintro e w' ⟨rfl, rfl⟩)
    | (at_builtin; refine wpList_app8 rfl _ _ rfl wy2.heap.size (.slice (some ⟨wy2.heap.size, 0, none⟩) 0 0) [] rfl HOc.out A0 n0 cap0 _ b rfl E0.out RAc.out LAc.out BWc.out.size ?_; refine Hid.out ?_))
  refine Lib.hid ?_
  intro vc wc hoc hgc
  clear hWc
  have bxc : Below wy2.heap.size wy2 wc := BWc.out.grown hgc BWc.out.size (own_grown (w' := w) HOc.out)
  have HOc := Lib.hid (show Own wy2.heap.size wc vc b from hoc)
  obtain ⟨g, capc, rfl, hgB, hcc, hgl⟩ := own_some HOc.out n0 R0.out.1 (by omega)
  have Bc := Lib.hid (below_more By.out bxc)
  have BLc := Lib.hid bxc
  clear hoc hgc bxc
  obtain ⟨k, hk, hK⟩ := mod_len at_ n0 (by omega)
  have hK1 := mod_len_wrap at_ n0 (by omega) h0
  have hOc : wc.ownsRow wy2.heap.size 5 1 (.slice (some ⟨g, 0, none⟩) n0 capc) n0 (Lib.byteCells b) := by
    have := HOc.out
    unfold Own at this
    rw [R0.out.1] at this
    exact this
  have hkl : k < b.length := by rw [R0.out.1]; exact hk
  have hcell : wc.cell? ⟨g, k, none⟩ = some (.int .u8 ((b.getD k 0).toNat : Int)) := by
    rw [hOc.cellAt k (by omega)]
    simp [Lib.byteCells, List.getD, hkl]
  have hfro := hOc.frozenAt k
  have hv := u8_lt (b.getD k 0)
  have hx8 := u8_xor_nat _ _ hv hby
  obtain ⟨d, hd⟩ : ∃ d : UInt8, ((b.getD k 0).toNat ^^^ by_ : Nat) = d.toNat := ⟨UInt8.ofNat ((b.getD k 0).toNat ^^^ by_), by
    have := ofNat_xor _ _ hv hby
    omega⟩
  have hne : d ≠ b.getD k 0 := by
    rintro rfl
    exact hb0 (xor_cancel_left by_ 0 _ (by rw [hd]; simp))
  rw [hd] at hx8
  have hfin := fnv_set b k hkl d fnv0_lt hne
  obtain ⟨W5, hW5⟩ : ∃ W, wc.setCell ⟨g, k, none⟩ (.int .u8 (d.toNat : Int)) = W := ⟨_, rfl⟩
  obtain ⟨ho5, hg5⟩ := hOc.stored k (.int .u8 (d.toNat : Int))
  rw [byteCells_set, hW5] at ho5
  rw [hW5] at hg5
  have b5 : Below wy2.heap.size wy2 W5 := BLc.out.grown hg5 BLc.out.size (fun k ek => by cases ek; exact hgB)
  have o5 : Own wy2.heap.size W5 (.slice (some ⟨g, 0, none⟩) n0 capc) (b.set k d) := by
    unfold Own
    rw [List.length_set, R0.out.1]
    exact ho5
  have r5 : Row8 W5.heap.size W5 (some ⟨g, 0, none⟩) n0 (b.set k d) := by
    obtain ⟨A, n, c, e, _, _, _, r⟩ := o5.row
    cases e
    exact r
  have T0 := Lib.hid (sum_any _ n0 capc _ W5 r5 (by omega))
  have T1 := Lib.hid (sum_any A0 n0 cap0 _ W5 (R0.out.step (below_more By.out b5)) (by omega))
  have B5 := Lib.hid (below_more By.out b5)
  rw [HZ.out] at T1 hfin
  generalize fnv fnv0 (b.set k d) = V5 at T0 hfin
  have hfin2 : ((V5 : Int) != (Z : Int)) = true := by rw [bne_iff_ne]; omega
  have hk0 : (0 : Int) ≤ (k : Int) := by omega
  have hk1 : (k : Int) < (n0 : Int) := by omega
  generalize (b.getD k 0).toNat = x8 at hcell hx8 hv
  generalize d.toNat = d8 at hx8 hW5
  clear hOc hkl hd hne hfin ho5 hg5 b5 o5 r5
  go_wp2_with (first
    | (go_at_call 10; refine T0.out.mono ?_; rintro e w' ⟨rfl, rfl⟩)
    | (go_at_call 10; refine T1.out.mono ?_; rintro e w' ⟨rfl, rfl⟩))
  go_ret
  exact ⟨rfl, B5.out⟩

theorem one_long (A0 : Option Addr) (n0 cap0 : Nat) (A1 : Option Addr) (n1 cap1 : Nat) (A2 : Option Addr) (n2 cap2 : Nat) (at_ by_ : Int) (w : World) (h : 300 < n0 ∨ 300 < n1 ∨ 300 < n2) (ht : Tab w) :
    Calls Tryd.prog 4 #[.slice A0 n0 cap0, .slice A1 n1 cap1, .slice A2 n2 cap2, .int .i64 at_, .int .u8 by_] w (Gives (.bool true) w) := by
  have HD := Lib.hid (head_true w ht)
  clear ht
  by_cases h0 : 300 < n0
  · clear h
    go_enter Tryd.func4, Tryd.ntmps4
    go_wp2_with (go_at_call 9; refine HD.out.mono ?_; rintro e w1 ⟨rfl, bb⟩; refine Hid.out ?_)
    refine Lib.hid ?_
    go_wp2_with fail
    go_ret
    exact ⟨rfl, bb⟩
  · by_cases h1 : 300 < n1
    · clear h
      go_enter Tryd.func4, Tryd.ntmps4
      go_wp2_with (go_at_call 9; refine HD.out.mono ?_; rintro e w1 ⟨rfl, bb⟩; refine Hid.out ?_)
      refine Lib.hid ?_
      go_wp2_with fail
      go_ret
      exact ⟨rfl, bb⟩
    · have h2 : 300 < n2 := by omega
      clear h
      go_enter Tryd.func4, Tryd.ntmps4
      go_wp2_with (go_at_call 9; refine HD.out.mono ?_; rintro e w1 ⟨rfl, bb⟩; refine Hid.out ?_)
      refine Lib.hid ?_
      go_wp2_with fail
      go_ret
      exact ⟨rfl, bb⟩

theorem one_law (A0 : Option Addr) (n0 cap0 : Nat) (b : List UInt8) (A1 : Option Addr) (n1 cap1 : Nat) (o : List UInt8) (A2 : Option Addr) (n2 cap2 : Nat) (h : List UInt8) (x3 x4 : Int) (w : World)
    (r0 : Row8 w.heap.size w A0 n0 b) (l0 : n0 ≤ cap0) (m0 : cap0 ≤ 9223372036854775807) (e0 : A0 = none → cap0 = 0) (r1 : Row8 w.heap.size w A1 n1 o) (l1 : n1 ≤ cap1) (m1 : cap1 ≤ 9223372036854775807) (e1 : A1 = none → cap1 = 0)
    (r2 : Row8 w.heap.size w A2 n2 h) (l2 : n2 ≤ cap2) (m2 : cap2 ≤ 9223372036854775807) (e2 : A2 = none → cap2 = 0) (w3 : (Lit.int .i64 x3).wf = true) (w4 : (Lit.int .u8 x4).wf = true) (ht : Tab w) :
    Calls Tryd.prog 4 #[.slice A0 n0 cap0, .slice A1 n1 cap1, .slice A2 n2 cap2, .int .i64 x3, .int .u8 x4] w (Gives (.bool true) w) := by
  obtain ⟨b1, b2⟩ := u8_wf w4
  obtain ⟨c, rfl⟩ : ∃ a : Nat, x4 = (a : Int) := ⟨x4.toNat, by omega⟩
  by_cases hl : 300 < n0 ∨ 300 < n1 ∨ 300 < n2
  · exact one_long A0 n0 cap0 A1 n1 cap1 A2 n2 cap2 x3 c w hl ht
  · exact one_walk A0 n0 cap0 b A1 n1 cap1 o A2 n2 cap2 h x3 c (by omega) w r0 e0 r1 e1 r2 e2 (by omega) (by omega) (by omega) ht
end Go.Proofs.YtlmkegpkodcofaaDoor
