/- Layer 2: IntervalMore. -/
import Derived.Deep.RegionHeld3
import Derived.Test.YtpooifjieoijjaaDepths
namespace Go.Proofs.Ytpooifjieoijjaa
open Go.RowKit Go
set_option linter.unusedVariables false

theorem own_empty {W : World} {g base : Nat} (h : W.heap[g]? = some (.cells #[] 24 (0, 0))) (hb : base ≤ g) : W.ownsRow base 24 2 (.slice (some ⟨g, 0, none⟩) 0 0) 0 [] :=
  ⟨rfl, .inr ⟨g, 0, #[], rfl, hb, h, Nat.le_refl _, by unfold maxLen; omega, rfl, rfl⟩⟩

theorem row_news {B : Nat} {W : World} {p : Addr} {n : Nat} {zs : List (Int × Int)} (h : Row B W (some p) n zs) : ∀ j u, (cellsE zs)[j]? = some u → W.cell? (p.add j) = some u := by
  intro j u hj
  have hlt : j < (cellsE zs).length := (List.getElem?_eq_some_iff.1 hj).1
  rw [cellsE_len] at hlt
  have hk : j / 2 < zs.length := by omega
  obtain ⟨e0, e1⟩ := cellsE_at zs (j / 2) hk
  obtain ⟨r0, r1⟩ := row_at h (j / 2) (by rw [← h.1]; exact hk)
  rcases Nat.mod_two_eq_zero_or_one j with hm | hm
  · have e : 2 * (j / 2) = j := by omega
    have e' : j / 2 * 2 = j := by omega
    rw [e] at e0
    rw [e'] at r0
    rw [r0, ← e0, hj]
  · have e : 2 * (j / 2) + 1 = j := by omega
    rw [e] at e1
    have e' : p.add j = ⟨(p.add (j / 2 * 2)).block, (p.add (j / 2 * 2)).off + 1, none⟩ := by
      unfold Addr.add
      rw [if_neg (by omega)]
      by_cases h0 : j / 2 * 2 = 0
      · rw [if_pos h0]; congr 1; omega
      · rw [if_neg h0]; simp only; congr 1; omega
    rw [e', r1, ← e1, hj]

section
variable {ops : Array Oper} {o : Oper} {a : Act} {K : Act → World → Prop} {Q : Exit → Act → World → Prop} {E : Prop} {W : World}
theorem step_app_list (hgd : o.guard = none) (s x : Operand) (ho : o.op = .call { callee := .builtin .append, args := #[s, x], argTypes := #[22, 22] })
    (base g : Nat) (hs : a.eval s = .slice (some ⟨g, 0, none⟩) 0 0) (hg : W.heap[g]? = some (.cells #[] 24 (0, 0))) (hbg : base ≤ g)
    (A : Option Addr) (len cap : Nat) (zs : List (Int × Int)) (hx : a.eval x = .slice A len cap) (hr : Row base W A len zs) (hnil : A = none → cap = 0) (hl : len ≤ 63) (hbase : base ≤ W.heap.size)
    (h : ∀ v' w', w'.ownsRow base 24 2 v' len (cellsE zs) → W.grownBy w' (some g) → K (a.put o.dst v') w') :
    if Region.wanted o (yielded ops a.tmps) = true then Oper.wp Try.prog o a W K Q else E := by
  obtain ⟨i0, hi, hi0, hi1, hi2⟩ := info_parts info_iv
  have hw : Region.wanted o (yielded ops a.tmps) = true := by simp [Region.wanted, hgd]
  rw [if_pos hw]
  have hown := own_empty hg hbg
  cases A with
  | none =>
    obtain rfl : cap = 0 := hnil rfl
    have h0 : len = 0 := by
      rcases Nat.eq_zero_or_pos len with h0 | h0
      · exact h0
      · obtain ⟨p, e, _⟩ := hr.2 h0; cases e
    subst h0
    obtain rfl : zs = [] := List.length_eq_zero_iff.1 hr.1
    have hrun := run_append_owned_none (P := Try.prog) (w := W) base 22 o.type 24 i0 2 Try.underlying22 hi _ _ _ hown
    unfold Oper.wp
    simp [execOp, ho, resolve, invoke, builtin, hs, hx, hrun, Result.andThen]
    exact h _ _ hown ⟨rfl, rfl, rfl, Nat.le_refl _, fun _ _ _ => rfl⟩
  | some p =>
    refine wp_append_own W s x 22 ho base 24 i0 _ 2 16 Try.underlying22 hi hi0 hi1 hi2 rfl (by decide) _ 0 [] hs hown p len cap (cellsE zs) hx (by rw [cellsE_len, hr.1]; omega) (row_news hr) ?_ (by unfold maxLen; omega) (by omega) hbase ?_
    · intro u hu
      simp only [cellsE, List.mem_flatMap, encE] at hu
      obtain ⟨e, _, he⟩ := hu
      simp at he
      rcases he with rfl | rfl <;> rfl
    · intro v' w' h1 h2 _
      rw [Nat.zero_add, List.nil_append] at h1
      exact h v' w' h1 h2

theorem step_app_one (hgd : o.guard = none) (s x : Operand) (ho : o.op = .call { callee := .builtin .append, args := #[s, x], argTypes := #[22, 22] })
    (base : Nat) (v : Value) (n : Nat) (xs : List Value) (hs : a.eval s = v) (hown : W.ownsRow base 24 2 v n xs)
    (gx : Nat) (y z : Int) (hx : a.eval x = .slice (some ⟨gx, 0, none⟩) 1 1) (hgx : W.heap[gx]? = some (.cells #[.int .i64 y, .int .i64 z] 24 (0, 0))) (hn : n ≤ 63) (hbase : base ≤ W.heap.size)
    (h : ∀ v' w', w'.ownsRow base 24 2 v' (n + 1) (xs ++ [.int .i64 y, .int .i64 z]) → W.grownBy w' v.ownBlock → K (a.put o.dst v') w') :
    if Region.wanted o (yielded ops a.tmps) = true then Oper.wp Try.prog o a W K Q else E := by
  obtain ⟨i0, hi, hi0, hi1, hi2⟩ := info_parts info_iv
  have hw : Region.wanted o (yielded ops a.tmps) = true := by simp [Region.wanted, hgd]
  rw [if_pos hw]
  refine wp_append_own W s x 22 ho base 24 i0 _ 2 16 Try.underlying22 hi hi0 hi1 hi2 rfl (by decide) v n xs hs hown ⟨gx, 0, none⟩ 1 1 [.int .i64 y, .int .i64 z] hx rfl ?_ (by simp [Value.oneCell']) (by unfold maxLen; omega) (by omega) hbase (fun v' w' h1 h2 _ => h v' w' h1 h2)
  intro j u hj
  rw [add_at, cell_of_row _ _ j _ 24 (0, 0) hgx]
  simpa using hj
end

theorem mores_no (A : Option Addr) (len cap : Nat) (zs : List (Int × Int)) (a b need more x : Int) (w : World) (hr : Row w.heap.size w A len zs) (hl : len ≤ 9223372036854775807) (h : 63 < len ∨ okList zs = false ∨ validB (a, b) = false) :
    Calls Try.prog 8 #[.slice A len cap, .agg #[.int .i64 a, .int .i64 b], .int .u8 need, .int .u8 more, .int .i64 x] w (Gives (.bool true) w) := by
  have HD := Lib.hid head_true
  have HR := Lib.hid (hr.below (below_alloc w (.cells #[.int .i64 a, .int .i64 b] 24)))
  have T6 := Lib.hid (Two.new w 24 (.int .i64 a) (.int .i64 b))
  have BA := Lib.hid (below_alloc w (.cells #[.int .i64 a, .int .i64 b] 24))
  clear hr
  by_cases h63 : 63 < len
  · clear h
    go_enter Try.func8, Try.ntmps8
    go_wp2_with fail
    refine (HD.out _).mono ?_
    rintro e w1 ⟨rfl, bb⟩
    have B := Lib.hid (below_more BA.out bb)
    clear bb
    go_wp2_with fail
    go_ret
    exact ⟨rfl, B.out⟩
  · cases ho : okList zs with
    | false =>
      have HO := Lib.hid ho
      clear h ho
      go_enter Try.func8, Try.ntmps8
      go_wp2_with fail
      refine (HD.out _).mono ?_
      rintro e w1 ⟨rfl, bb⟩
      have HR := Lib.hid ((HR.out.more (by simp)).step bb)
      have B := Lib.hid (below_more BA.out bb)
      clear bb
      go_wp2_with fail
      refine (rlist_any A len cap zs w1 HR.out hl).mono ?_
      rintro e w2 ⟨rfl, bb⟩
      rw [HO.out]
      have B := Lib.hid (below_more B.out bb)
      clear bb
      go_wp2_with fail
      go_ret
      exact ⟨rfl, B.out⟩
    | true =>
      have HO := Lib.hid ho
      have V := Lib.hid (rvalid_any a b)
      rw [(h.resolve_left h63).resolve_left (by rw [ho]; simp)] at V
      clear h ho
      go_enter Try.func8, Try.ntmps8
      go_wp2_with fail
      refine (HD.out _).mono ?_
      rintro e w1 ⟨rfl, bb⟩
      have HR := Lib.hid ((HR.out.more (by simp)).step bb)
      have T6 := Lib.hid (T6.out.step bb)
      have B := Lib.hid (below_more BA.out bb)
      clear bb
      go_wp2_with fail
      refine (rlist_any A len cap zs w1 HR.out hl).mono ?_
      rintro e w2 ⟨rfl, bb⟩
      rw [HO.out]
      have T6 := Lib.hid (T6.out.step bb)
      have B := Lib.hid (below_more B.out bb)
      clear bb
      have t0 := T6.out.c0
      have t1 := T6.out.c1
      go_wp2_with fail
      refine (V.out _).mono ?_
      rintro e w3 ⟨rfl, bb⟩
      have B := Lib.hid (below_more B.out bb)
      clear bb t0 t1
      go_wp2_with fail
      go_ret
      exact ⟨rfl, B.out⟩
end Go.Proofs.Ytpooifjieoijjaa
