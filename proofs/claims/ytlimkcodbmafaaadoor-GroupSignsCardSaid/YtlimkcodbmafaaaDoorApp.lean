/- Layer 3: strconv.AppendInt at base 10 behind what lies in an array that has room for it: the array has the decimal text behind what it had. -/
import Derived.CellFam
import Derived.Lib.Walk
import Derived.Lib.ItoaWalk
import Derived.Lib.ItoaMem
import Derived.Lib.AppendIntMem
import Derived.Lib.AppendStr
import Derived.Lib.Slices
import Derived.OwnWalk
import Derived.BigCall
import Derived.BigGuard
import Derived.Test.YtlimkcodbmafaaaDoorShelf
import Derived.Test.YtlimkcodbmafaaaDoorPkg
namespace Go.Proofs.YtlimkcodbmafaaaDoor
open Go.RowKit Go.Sort Go
set_option linter.unusedVariables false

/-- Block g is an array (or a row) of N cells; the first ones are xs. -/
def InRow (w : World) (g T N : Nat) (xs : List Value) : Prop := ∃ cur : Array Value, w.heap[g]? = some (.cells cur T (0, 0)) ∧ cur.size = N ∧ cur.toList.take xs.length = xs

theorem InRow.lt {w : World} {g T N : Nat} {xs : List Value} (h : InRow w g T N xs) : g < w.heap.size := by
  obtain ⟨cur, hg, _⟩ := h
  exact (Array.getElem?_eq_some_iff.1 hg).1
theorem InRow.same {w w' : World} {g T N : Nat} {xs : List Value} (h : InRow w g T N xs) (e : w'.heap[g]? = w.heap[g]?) : InRow w' g T N xs := by
  obtain ⟨cur, hg, r⟩ := h
  exact ⟨cur, e.trans hg, r⟩
theorem InRow.alloc {w : World} {g T N : Nat} {xs : List Value} (h : InRow w g T N xs) (o : Obj) : InRow (w.alloc o) g T N xs := h.same (_root_.Go.heap_alloc_old w o h.lt)
theorem InRow.empty {w : World} {g T N : Nat} {xs : List Value} (h : InRow w g T N xs) : InRow w g T N [] := by
  obtain ⟨cur, hg, hs, _⟩ := h
  exact ⟨cur, hg, hs, by simp⟩
theorem InRow.le {w : World} {g T N : Nat} {xs : List Value} (h : InRow w g T N xs) : xs.length ≤ N := by
  obtain ⟨cur, hg, hs, ht⟩ := h
  have := congrArg List.length ht
  simp at this
  omega
theorem InRow.cell {w : World} {g T N : Nat} {xs : List Value} (h : InRow w g T N xs) (i : Nat) (hi : i < xs.length) : w.cell? ((⟨g, 0, none⟩ : Addr).add i) = some xs[i] := by
  obtain ⟨cur, hg, hs, ht⟩ := h
  rw [Lib.add_plain, Nat.zero_add, cell_of_row w g i cur T (0, 0) hg]
  have h2 : (cur.toList.take xs.length)[i]? = xs[i]? := by rw [ht]
  rw [List.getElem?_take, if_pos hi] at h2
  rw [← Array.getElem?_toList, h2]
  simp [hi]

/-- What a store of more cells behind xs leaves. -/
theorem inRow_set {w : World} {g T : Nat} {cur : Array Value} {xs news : List Value} (hg : w.heap[g]? = some (.cells cur T (0, 0))) (ht : cur.toList.take xs.length = xs) (hfit : xs.length + news.length ≤ cur.size) :
    InRow (w.setRow g (cur.toList.take xs.length ++ news ++ cur.toList.drop (xs.length + news.length)).toArray) g T cur.size (xs ++ news) ∧
    w.grownBy (w.setRow g (cur.toList.take xs.length ++ news ++ cur.toList.drop (xs.length + news.length)).toArray) (some g) := by
  refine ⟨⟨_, setRow_heap w g cur _ T _ hg, ?_, ?_⟩, ⟨rfl, rfl, rfl, by simp, fun k _ hk => setRow_other w g k _ (fun e => hk (by simp [e]))⟩⟩
  · simp only [List.size_toArray, List.length_append, List.length_take, List.length_drop, Array.length_toList]
    omega
  · rw [ht, List.append_assoc, ← List.append_assoc]
    exact List.take_left

section
variable {P : Program} (w : World)
theorem run_append_in (t ty e : TypeId) (i : TypeInfo) (ht : P.underlying t = some (.slice e)) (hi : P.info? e = some i) (hsz : i.size = 1)
    (g T N : Nat) (xs : List Value) (hin : InRow w g T N xs) (a : Addr) (m c : Nat) (news : List Value) (hl : news.length = m) (hnews : ∀ j u, news[j]? = some u → w.cell? (a.add j) = some u) (h1 : ∀ u ∈ news, u.oneCell' = true)
    (hroom : xs.length + m ≤ N) :
    ∃ w', (Builtin.append_ #[t, t] ty #[.slice (some ⟨g, 0, none⟩) xs.length N, .slice (some a) m c]).run P w = .ok (.slice (some ⟨g, 0, none⟩) (xs.length + m) N) w' ∧ InRow w' g T N (xs ++ news) ∧ w.grownBy w' (some g) := by
  obtain ⟨cur, hg, rfl, htk⟩ := hin
  have hf := run_firstCells_some (P := P) w i.size m a m c news (by rw [hl, hsz, Nat.mul_one]) hnews
  have hst := run_storeCells_at P g (xs.length * i.size) T news 0 cur w hg (by rw [hsz]; omega) h1
  obtain ⟨r1, r2⟩ := inRow_set (news := news) hg htk (by omega)
  simp only [Nat.add_zero, hsz, Nat.mul_one] at hst
  refine ⟨_, ?_, r1, r2⟩
  rw [hsz] at hf
  simp [Builtin.append_, run_underlying ht, sizeOf, typeInfo, hi, hsz, Builtin.lenOf, hroom, hf, Addr.add_lit, hst]
  
theorem run_append_in_string (t u ty e : TypeId) (i : TypeInfo) (ht : P.underlying t = some (.slice e)) (hu : P.underlying u = some .string) (hi : P.info? e = some i) (hsz : i.size = 1)
    (g T N : Nat) (xs : List Value) (hin : InRow w g T N xs) (s : ByteArray) (hroom : xs.length + s.size ≤ N) :
    ∃ w', (Builtin.append_ #[t, u] ty #[.slice (some ⟨g, 0, none⟩) xs.length N, .string s]).run P w = .ok (.slice (some ⟨g, 0, none⟩) (xs.length + s.size) N) w' ∧ InRow w' g T N (xs ++ Lib.strCells s) ∧ w.grownBy w' (some g) := by
  obtain ⟨cur, hg, rfl, htk⟩ := hin
  have hf := Lib.run_firstCells_string (P := P) w 1 s
  have hst := run_storeCells_at P g xs.length T (Lib.strCells s) 0 cur w hg (by rw [Lib.strCells_length]; omega) (Lib.strCells_oneCell s)
  obtain ⟨r1, r2⟩ := inRow_set (news := Lib.strCells s) hg htk (by rw [Lib.strCells_length]; omega)
  simp only [Nat.add_zero] at hst
  refine ⟨_, ?_, r1, r2⟩
  simp [Builtin.append_, run_underlying ht, run_underlying hu, sizeOf, typeInfo, hi, hsz, Builtin.lenOf, hroom, hf, Addr.add_lit, hst]

theorem wpList_append_in {ops : Array Oper} {rest : List Oper} {o : Oper} {a : Act} {Q : Exit → Act → World → Prop} (hgd : o.guard = none) (s x : Operand) (t : TypeId)
    (ho : o.op = .call { callee := .builtin .append, args := #[s, x], argTypes := #[t, t] }) (e : TypeId) (i : TypeInfo) (ht : P.underlying t = some (.slice e)) (hi : P.info? e = some i) (hsz : i.size = 1)
    (g T N : Nat) (xs : List Value) (hs : a.eval s = .slice (some ⟨g, 0, none⟩) xs.length N) (hin : InRow w g T N xs)
    (ad : Addr) (m c : Nat) (news : List Value) (hx : a.eval x = .slice (some ad) m c) (hl : news.length = m) (hnews : ∀ j u, news[j]? = some u → w.cell? (ad.add j) = some u) (h1 : ∀ u ∈ news, u.oneCell' = true)
    (hroom : xs.length + m ≤ N)
    (h : ∀ w', InRow w' g T N (xs ++ news) → w.grownBy w' (some g) → wpList P ops Q rest (a.put o.dst (.slice (some ⟨g, 0, none⟩) (xs.length + m) N)) w') : wpList P ops Q (o :: rest) a w := by
  refine wpList_plain hgd fun K hK => ?_
  obtain ⟨w', hr, h2, h3⟩ := run_append_in (P := P) w t o.type e i ht hi hsz g T N xs hin ad m c news hl hnews h1 hroom
  unfold Oper.wp execOp
  simp only [ho, resolve, invoke, builtin, Sem.run_bind, Sem.run_pure, Result.andThen_ok, List.map_toArray, List.map_cons, List.map_nil, hs, hx, hr]
  exact hK _ _ (h w' h2 h3)

theorem wpList_append_in_string {ops : Array Oper} {rest : List Oper} {o : Oper} {a : Act} {Q : Exit → Act → World → Prop} (hgd : o.guard = none) (sl x : Operand) (t u : TypeId)
    (ho : o.op = .call { callee := .builtin .append, args := #[sl, x], argTypes := #[t, u] }) (e : TypeId) (i : TypeInfo) (ht : P.underlying t = some (.slice e)) (hu : P.underlying u = some .string) (hi : P.info? e = some i) (hsz : i.size = 1)
    (g T N : Nat) (xs : List Value) (hs : a.eval sl = .slice (some ⟨g, 0, none⟩) xs.length N) (hin : InRow w g T N xs) (s : ByteArray) (hx : a.eval x = .string s) (hroom : xs.length + s.size ≤ N)
    (h : ∀ w', InRow w' g T N (xs ++ Lib.strCells s) → w.grownBy w' (some g) → wpList P ops Q rest (a.put o.dst (.slice (some ⟨g, 0, none⟩) (xs.length + s.size) N)) w') : wpList P ops Q (o :: rest) a w := by
  refine wpList_plain hgd fun K hK => ?_
  obtain ⟨w', hr, h2, h3⟩ := run_append_in_string (P := P) w t u o.type e i ht hu hi hsz g T N xs hin s hroom
  unfold Oper.wp execOp
  simp only [ho, resolve, invoke, builtin, Sem.run_bind, Sem.run_pure, Result.andThen_ok, List.map_toArray, List.map_cons, List.map_nil, hs, hx, hr]
  exact hK _ _ (h w' h2 h3)
end

theorem info_u8 : (Tryd.prog.info? 5).map (fun i => (i.zero, i.size, i.bytes)) = some (some (.int .u8 0), 1, 1) := by kernel_rfl

set_option maxHeartbeats 1000000 in
theorem appu_small (u : Nat) (hu : u < 100) (g T N : Nat) (xs : List Value) (w : World) (hin : InRow w g T N xs) (hroom : xs.length + Lib.nDigits u ≤ N) :
    Calls Tryd.prog 49 #[.slice (some ⟨g, 0, none⟩) xs.length N, .int .u64 u, .int .i64 10] w fun e w' => e = .returned (.slice (some ⟨g, 0, none⟩) (xs.length + Lib.nDigits u) N) ∧ InRow w' g T N (xs ++ Lib.byteCells (Lib.decDigits u)) ∧ Below g w w' := by
  obtain ⟨i0, hi, hz0, hz1, hz2⟩ := info_parts info_u8
  have hlt := hin.lt
  have HI := Lib.hid hin
  have HS := Lib.hid (Tryd.internal_strconv_small u hu)
  have hsz : (⟨(Lib.decDigits u).toArray⟩ : ByteArray).size = Lib.nDigits u := by rw [← Lib.decDigits_length]; simp [ByteArray.size]
  clear hin
  go_enter Tryd.func49, Tryd.ntmps49
  go_wp2_with (first
    | (go_at_call 50; refine (HS.out _).mono ?_; rintro e w' ⟨rfl, rfl⟩)
    | (at_builtin; refine wpList_append_in_string _ rfl _ _ 55 9 rfl 5 i0 Tryd.underlying55 Tryd.underlying9 hi hz1 g T N xs rfl HI.out ⟨(Lib.decDigits u).toArray⟩ rfl (by rw [hsz]; omega) ?_))
  intro w1 hin1 hgrow
  go_wp2_with fail
  go_ret
  exact ⟨rfl, hin1, (Below.refl g _).grown hgrow (by omega) (fun k hk => by cases hk; exact Nat.le_refl _)⟩

theorem byteCells_one' (l : List UInt8) : ∀ u ∈ Lib.byteCells l, u.oneCell' = true := by
  intro u hu
  simp only [Lib.byteCells, List.mem_map] at hu
  obtain ⟨b, _, rfl⟩ := hu
  rfl

set_option maxHeartbeats 2000000 in
set_option maxRecDepth 100000 in
theorem appu_big (u : Nat) (hu : 100 ≤ u) (hu64 : u < 18446744073709551616) (g T N : Nat) (xs : List Value) (w : World) (hin : InRow w g T N xs) (hroom : xs.length + Lib.nDigits u ≤ N)
    (htab : Lib.TabIs Tryd.prog w "internal/strconv.uint64pow10" .u64 Lib.pow10Tab) :
    Calls Tryd.prog 49 #[.slice (some ⟨g, 0, none⟩) xs.length N, .int .u64 u, .int .i64 10] w fun e w' => e = .returned (.slice (some ⟨g, 0, none⟩) (xs.length + Lib.nDigits u) N) ∧ InRow w' g T N (xs ++ Lib.byteCells (Lib.decDigits u)) ∧ Below g w w' := by
  obtain ⟨i0, hi, hz0, hz1, hz2⟩ := info_parts info_u8
  have hlt := hin.lt
  have HI := Lib.hid hin
  clear hin
  have hu1 : 1 ≤ u := by omega
  have hnd20 : Lib.nDigits u ≤ 20 := by have := Lib.numDigits_eq u hu1 hu64; split at this <;> omega
  have hal : Tryd.prog.arrayLen 65 = 24 := by kernel_rfl
  have hel : Tryd.prog.elem 65 = 5 := by kernel_rfl
  have hs5 := Tryd.sizeOf5
  have hsl : ∀ W, (Instr.sliceAt 65 (.pointer (some ⟨w.heap.size, 0, none⟩)) none (some (.int .i64 (Lib.nDigits u : Int))) none).run Tryd.prog W = .ok (.slice (some ⟨w.heap.size, 0, none⟩) (Lib.nDigits u) 24) W := fun W => by
    rw [run_sliceAt_array_h W 65 ⟨w.heap.size, 0, none⟩ (by kernel_rfl) .i64 (Lib.nDigits u : Int) (by omega) (by rw [hal]; omega)]
    rw [hal, hel]; go_simp
  have hH0 := Lib.holds_zero0 w 65 (Lib.nDigits u) (by omega)
  have hfmt := Tryd.internal_strconv_formatBase10 w.heap.size 0 24 u (Array.replicate (Lib.nDigits u) 0) (w.alloc (.cells Lib.zeros24 65)) hH0 (by rw [Array.size_replicate]; exact Lib.lt_pow_nDigits u) hu64 (by rw [Array.size_replicate]; omega)
  rw [Array.size_replicate] at hfmt
  have HF := Lib.hid hfmt
  have HH0 := Lib.hid hH0
  have HN := Lib.hid (Tryd.internal_strconv_numDigits u hu1 hu64 _ (Lib.tabIs_alloc htab (.cells Lib.zeros24 65)))
  have iu : (100 : Int) ≤ (u : Int) := by omega
  clear hH0 hfmt htab hal hel hs5
  go_enter Tryd.func49, Tryd.ntmps49
  go_wp2_with (go_at_call 51; refine HN.out.mono ?_; rintro e w' ⟨rfl, rfl⟩)
  go_at_call 52
  refine HF.out.mono ?_
  rintro e w' ⟨rfl, k, v', dk, rfl, hF⟩
  have hcells : ∀ j u', (Lib.byteCells (Lib.decDigits u))[j]? = some u' → ((putRow (fun (b : UInt8) => Value.int .u8 (b.toNat : Int)) (w.alloc (.cells Lib.zeros24 65)) w.heap.size 0 dk).drewN k).cell? ((⟨w.heap.size, 0, none⟩ : Addr).add j) = some u' := by
    intro j u' hj
    have hjl : j < (Lib.decDigits u).length := by
      have h5 := (List.getElem?_eq_some_iff.1 hj).1
      rwa [Lib.byteCells_length] at h5
    have e5 : (Lib.byteCells (Lib.decDigits u))[j]? = some (Value.int .u8 ((Lib.decDigits u)[j].toNat : Int)) := by simp [Lib.byteCells, hjl]
    rw [e5] at hj
    cases hj
    rw [Lib.row_is_numeral hF j hjl, Lib.add_plain, World.cell?_drewN]
    exact cell?_putRow (fun (b : UInt8) => Value.int .u8 (b.toNat : Int)) _ w.heap.size 0 _ dk HH0.out (by rw [hF.size, Array.size_replicate]) j (by rw [hF.size]; rw [Lib.decDigits_length] at hjl; exact hjl)
  obtain ⟨os, eo⟩ := Lib.fin_at w (.cells Lib.zeros24 65) dk k 0
  have hin2 : InRow ((putRow (fun (b : UInt8) => Value.int .u8 (b.toNat : Int)) (w.alloc (.cells Lib.zeros24 65)) w.heap.size 0 dk).drewN k) g T N xs := by rw [eo]; exact HI.out.same (Lib.heap_grow_old w k os g hlt)
  have hb2 : Below g w ((putRow (fun (b : UInt8) => Value.int .u8 (b.toNat : Int)) (w.alloc (.cells Lib.zeros24 65)) w.heap.size 0 dk).drewN k) := by rw [eo]; exact Lib.below_grow g w (by omega) k os
  generalize (putRow (fun (b : UInt8) => Value.int .u8 (b.toNat : Int)) (w.alloc (.cells Lib.zeros24 65)) w.heap.size 0 dk).drewN k = W2 at hcells hin2 hb2 ⊢
  clear eo HH0 HF
  have HC := Lib.hid hcells
  have HI2 := Lib.hid hin2
  have HB2 := Lib.hid hb2
  clear hcells hin2 hb2
  go_wp2_with (at_builtin; refine wpList_append_in _ rfl _ _ 55 rfl 5 i0 Tryd.underlying55 hi hz1 g T N xs rfl HI2.out ⟨w.heap.size, 0, none⟩ (Lib.nDigits u) 24 (Lib.byteCells (Lib.decDigits u)) rfl (by rw [Lib.byteCells_length, Lib.decDigits_length]) HC.out (byteCells_one' _) hroom ?_)
  intro w1 hin1 hgrow
  go_wp2_with fail
  go_ret
  have hb := HB2.out
  exact ⟨rfl, hin1, hb.grown hgrow (by have := hb.size; omega) (fun k hk => by cases hk; exact Nat.le_refl _)⟩

theorem appu_any (u : Nat) (hu64 : u < 18446744073709551616) (g T N : Nat) (xs : List Value) (w : World) (hin : InRow w g T N xs) (hroom : xs.length + Lib.nDigits u ≤ N)
    (htab : Lib.TabIs Tryd.prog w "internal/strconv.uint64pow10" .u64 Lib.pow10Tab) :
    Calls Tryd.prog 49 #[.slice (some ⟨g, 0, none⟩) xs.length N, .int .u64 u, .int .i64 10] w fun e w' => e = .returned (.slice (some ⟨g, 0, none⟩) (xs.length + Lib.nDigits u) N) ∧ InRow w' g T N (xs ++ Lib.byteCells (Lib.decDigits u)) ∧ Below g w w' := by
  by_cases h : u < 100
  · exact appu_small u h g T N xs w hin hroom
  · exact appu_big u (by omega) hu64 g T N xs w hin hroom htab

theorem nDigits_le (k u : Nat) (h : u < 10 ^ k) (hk : 1 ≤ k) : Lib.nDigits u ≤ k := by
  induction k generalizing u with
  | zero => omega
  | succ k ih =>
    by_cases h10 : u < 10
    · rw [Lib.nDigits_small h10]; omega
    · rw [Lib.nDigits_big h10]
      have : 1 ≤ k := by
        rcases Nat.eq_zero_or_pos k with rfl | h1
        · simp at h; omega
        · exact h1
      have := ih (u / 10) (by rw [Nat.pow_succ] at h; omega) this
      omega

theorem itoa_len20 (n : Int) (h0 : -9223372036854775808 ≤ n) (h1 : n ≤ 9223372036854775807) : (Lib.itoa n).length ≤ 20 := by
  by_cases hneg : n < 0
  · obtain ⟨u, rfl⟩ : ∃ u : Nat, n = -(u : Int) := ⟨n.natAbs, by omega⟩
    rw [Lib.itoa_neg u (by omega), List.length_cons, Lib.decDigits_length]
    have := nDigits_le 19 u (by omega) (by omega)
    omega
  · obtain ⟨u, rfl⟩ : ∃ u : Nat, n = u := ⟨n.toNat, by omega⟩
    rw [Lib.itoa_nonneg, Lib.decDigits_length]
    have := nDigits_le 19 u (by omega) (by omega)
    omega

set_option maxHeartbeats 2000000 in
set_option maxRecDepth 100000 in
/-- strconv.AppendInt onto the first cells of an array with room. -/
theorem appi_in (n : Int) (h0 : -9223372036854775808 ≤ n) (h1 : n ≤ 9223372036854775807) (g T N : Nat) (xs : List Value) (w : World) (hin : InRow w g T N xs) (hroom : xs.length + (Lib.itoa n).length ≤ N)
    (htab : Lib.TabBelow Tryd.prog g w "internal/strconv.uint64pow10" .u64 Lib.pow10Tab) :
    Calls Tryd.prog 48 #[.slice (some ⟨g, 0, none⟩) xs.length N, .int .i64 n, .int .i64 10] w fun e w' => e = .returned (.slice (some ⟨g, 0, none⟩) (xs.length + (Lib.itoa n).length) N) ∧ InRow w' g T N (xs ++ Lib.byteCells (Lib.itoa n)) ∧ Below g w w' := by
  obtain ⟨i0, hi, hz0, hz1, hz2⟩ := info_parts info_u8
  have hlt := hin.lt
  have HI := Lib.hid hin
  have HT := Lib.hid htab
  clear hin htab
  by_cases hneg : n < 0
  · obtain ⟨u, rfl⟩ : ∃ u : Nat, n = -(u : Int) := ⟨n.natAbs, by omega⟩
    have hu1 : 1 ≤ u := by omega
    have hu64 : u < 18446744073709551616 := by omega
    have hwr : IntKind.u64.wrap (-IntKind.u64.wrap (-(u : Int))) = (u : Int) := by rw [IntKind.wrap_u64, IntKind.wrap_u64]; omega
    rw [Lib.itoa_neg u hu1] at hroom ⊢
    rw [List.length_cons, Lib.decDigits_length] at hroom ⊢
    go_enter Tryd.func48, Tryd.ntmps48
    go_wp2_with (at_builtin; refine wpList_append_in _ rfl _ _ 55 rfl 5 i0 Tryd.underlying55 hi hz1 g T N xs rfl (HI.out.alloc _) ⟨w.heap.size, 0, none⟩ 1 1 [Value.int .u8 45] rfl rfl (by intro j u' hj; match j, hj with | 0, hj => simp at hj; subst hj; simp [Addr.add]) (by simp [Value.oneCell']) (by omega) ?_)
    intro w1 hin1 hgrow
    have hba := (Below.refl g w).alloc (Nat.le_of_lt hlt) (.cells #[Value.int .u8 45] 5)
    have hb1 : Below g w w1 := hba.grown hgrow (Nat.le_trans (Nat.le_of_lt hlt) hba.size) (fun k hk => by cases hk; exact Nat.le_refl _)
    have HA := Lib.hid (appu_any u hu64 g T N (xs ++ [Value.int .u8 45]) w1 hin1 (by rw [List.length_append]; simp; omega) (HT.out w1 hb1))
    rw [List.length_append, List.length_singleton] at HA
    have HB1 := Lib.hid hb1
    clear hin1 hgrow hb1 hba
    go_wp2_with (go_at_call 49; refine HA.out.mono ?_; rintro e w2 ⟨rfl, hin2, hb2⟩)
    go_ret
    refine ⟨congrArg (fun k => Ending.returned (Value.slice (some ⟨g, 0, none⟩) k N)) (show xs.length + 1 + Lib.nDigits u = xs.length + (Lib.nDigits u + 1) by omega), ?_, HB1.out.trans hb2⟩
    rwa [List.append_assoc] at hin2
  · obtain ⟨u, rfl⟩ : ∃ u : Nat, n = u := ⟨n.toNat, by omega⟩
    have hu64 : u < 18446744073709551616 := by omega
    rw [Lib.itoa_nonneg] at hroom ⊢
    rw [Lib.decDigits_length] at hroom ⊢
    have HA := Lib.hid (appu_any u hu64 g T N xs w HI.out hroom HT.out.here)
    go_enter Tryd.func48, Tryd.ntmps48
    go_wp2_with (go_at_call 49; refine HA.out.mono ?_; rintro e w2 ⟨rfl, hin2, hb2⟩)
    first | go_ret | go_ret2
    exact ⟨rfl, hin2, hb2⟩

theorem appi_any (n : Int) (h0 : -9223372036854775808 ≤ n) (h1 : n ≤ 9223372036854775807) (g T N : Nat) (xs : List Value) (w : World) (hin : InRow w g T N xs) (hroom : xs.length + (Lib.itoa n).length ≤ N)
    (htab : Lib.TabBelow Tryd.prog g w "internal/strconv.uint64pow10" .u64 Lib.pow10Tab) :
    Calls Tryd.prog 47 #[.slice (some ⟨g, 0, none⟩) xs.length N, .int .i64 n, .int .i64 10] w fun e w' => e = .returned (.slice (some ⟨g, 0, none⟩) (xs.length + (Lib.itoa n).length) N) ∧ InRow w' g T N (xs ++ Lib.byteCells (Lib.itoa n)) ∧ Below g w w' := by
  have HA := Lib.hid (appi_in n h0 h1 g T N xs w hin hroom htab)
  clear hin htab
  go_enter Tryd.func47, Tryd.ntmps47
  go_wp2_with (go_at_call 48; refine HA.out.mono ?_; rintro e w2 ⟨rfl, hin2, hb2⟩)
  go_ret
  exact ⟨rfl, hin2, hb2⟩
end Go.Proofs.YtlimkcodbmafaaaDoor
