/- Layer 2: Cover of package interval, as the fold of its loop's body over the ends. -/
import Derived.Maps.AppendAt
import Derived.Laws.EntriesVeiled
import Derived.Test.YtpooifjieoijjaaIter
import Derived.Test.YtpooifjieoijjaaCount
import Derived.Test.YtpooifjieoijjaaPkg4
namespace Go.Proofs.Ytpooifjieoijjaa
open Go.RowKit Go Go.Shelf
set_option linter.unusedVariables false
attribute [local go_sem] Oper.semAt_some

/-- What the loop's body of Cover does to depth, begin and what is covered. -/
structure CS where
  d : Int
  b : Int
  out : List (Int × Int)
def cstep (need : Int) (c : CS) (e : Int × Int) : CS :=
  if decide (need ≤ c.d) = false ∧ decide (need ≤ c.d + e.2) = true then ⟨c.d + e.2, e.1, c.out⟩
  else if decide (need ≤ c.d) = true ∧ decide (need ≤ c.d + e.2) = false then ⟨c.d + e.2, c.b, c.out ++ [(c.b, e.1 - 1)]⟩
  else ⟨c.d + e.2, c.b, c.out⟩
def cfold (need : Int) (l : List (Int × Int)) : CS := l.foldl (cstep need) ⟨0, 0, []⟩
theorem cfold_snoc (need : Int) (l : List (Int × Int)) (e : Int × Int) : cfold need (l ++ [e]) = cstep need (cfold need l) e := by simp [cfold]
theorem cstep_d (need : Int) (c : CS) (e : Int × Int) : (cstep need c e).d = c.d + e.2 := by unfold cstep; split <;> (try split) <;> rfl
theorem cstep_out (need : Int) (c : CS) (e : Int × Int) : (cstep need c e).out.length ≤ c.out.length + 1 := by unfold cstep; split <;> (try split) <;> simp
theorem cfold_bound (need : Int) (pre : List Ev) : -128 * (pre.length : Int) ≤ (cfold need (pre.map (·.1))).d ∧ (cfold need (pre.map (·.1))).d ≤ 128 * (pre.length : Int) ∧ (cfold need (pre.map (·.1))).out.length ≤ pre.length := by
  suffices H : ∀ (l : List Ev), -128 * (l.length : Int) ≤ (cfold need (l.reverse.map (·.1))).d ∧ (cfold need (l.reverse.map (·.1))).d ≤ 128 * (l.length : Int) ∧ (cfold need (l.reverse.map (·.1))).out.length ≤ l.length by
    have := H pre.reverse
    simpa using this
  intro l
  induction l with
  | nil => simp [cfold]
  | cons x l ih =>
    rw [List.reverse_cons, List.map_append, List.map_cons, List.map_nil, cfold_snoc, cstep_d]
    have := cstep_out need (cfold need (l.reverse.map (·.1))) x.1
    obtain ⟨_, _, h3, h4⟩ := x.2
    simp only [List.length_cons]
    omega

theorem info_iv : (Try.prog.info? 24).map (fun i => (i.zero, i.size, i.bytes)) = some (some (.agg #[.int .i64 0, .int .i64 0]), 2, 16) := by kernel_rfl

/-- What Cover has made: the intervals, in a row of its own; made of the ends in rising order. -/
def CoverMade (zs : List (Int × Int)) (need : Int) (w : World) (e : Ending) (w' : World) : Prop :=
  ∃ (v : Value) (E : List (Int × Int)), e = .returned (.tuple #[v, .int .i64 0]) ∧ E.Perm (endsL zs) ∧ Rises E ∧ (cfold need (grp E 0)).out.length ≤ 128 ∧
    w'.ownsRow w.heap.size 24 2 v (cfold need (grp E 0)).out.length (cellsE (cfold need (grp E 0)).out) ∧ Below w.heap.size w w'

def countF (C : Nat) : Value := .func (.func 34) #[] #[.pointer (some ⟨C + 1 + 1 + 1, 0, none⟩), .pointer (some ⟨C + 1 + 1, 0, none⟩)]

/-- Cover's variables, and the row of what is covered. -/
structure Boxes (n2 C : Nat) (need : Int) (c : CS) (v : Value) (W : World) : Prop where
  bc : Boxed W C 22 v
  bb : Boxed W (C + 1) 3 (.int .i64 c.b)
  bn : Boxed W (C + 1 + 1) 3 (.int .i64 need)
  bd : Boxed W (C + 1 + 1 + 1) 3 (.int .i64 c.d)
  bf : Boxed W (C + 1 + 1 + 1 + 1) 51 (countF C)
  row : W.ownsRow n2 24 2 v c.out.length (cellsE c.out)

section
variable {n2 C : Nat} {need : Int} {c : CS} {v : Value} {W W' : World}
theorem Boxes.begin_ (h : Boxes n2 C need c v W) (x : Int) : Boxes n2 C need ⟨c.d, x, c.out⟩ v (W.setCell ⟨C + 1, 0, none⟩ (.int .i64 x)) :=
  ⟨h.bc.other (by omega) _, h.bb.set _, h.bn.other (by omega) _, h.bd.other (by omega) _, h.bf.other (by omega) _, h.row.kept (grownBy_setCell' _ _ _) (.inr (h.bb.not_row (by decide) h.row).symm)⟩
theorem Boxes.depth (h : Boxes n2 C need c v W) (x : Int) (n : Nat) : Boxes n2 C need ⟨x, c.b, c.out⟩ v ((W.setCell ⟨C + 1 + 1 + 1, 0, none⟩ (.int .i64 x)).drewN n) :=
  have k : Boxes n2 C need ⟨x, c.b, c.out⟩ v (W.setCell ⟨C + 1 + 1 + 1, 0, none⟩ (.int .i64 x)) :=
    ⟨h.bc.other (by omega) _, h.bb.other (by omega) _, h.bn.other (by omega) _, h.bd.set _, h.bf.other (by omega) _, h.row.kept (grownBy_setCell' _ _ _) (.inr (h.bd.not_row (by decide) h.row).symm)⟩
  ⟨k.bc, k.bb, k.bn, k.bd, k.bf, k.row⟩
theorem Boxes.kept (h : Boxes n2 C need c v W) {row : Option Nat} (hg : W.grownBy W' row) (hr : ∀ r, row = some r → ∃ o : Obj, W.heap[r]? = some o ∧ o.isCells = false) : Boxes n2 C need c v W' := by
  have ne : ∀ {B : Nat} {t : TypeId} {u : Value}, Boxed W B t u → some B ≠ row := fun hb e => by
    obtain ⟨o, ho, hc⟩ := hr _ e.symm; rw [show W.heap[_]? = _ from hb] at ho; cases ho; cases hc
  refine ⟨h.bc.kept hg (ne h.bc), h.bb.kept hg (ne h.bb), h.bn.kept hg (ne h.bn), h.bd.kept hg (ne h.bd), h.bf.kept hg (ne h.bf), h.row.kept hg ?_⟩
  rcases h.row.2 with ⟨rfl, _⟩ | ⟨g, cap, cur, rfl, _, hgb, _⟩
  · exact .inl rfl
  · refine .inr fun e' => ?_
    obtain ⟨o, ho, hc⟩ := hr g (by simpa [Value.ownBlock] using e'.symm)
    rw [hgb] at ho; cases ho; cases hc
theorem Boxes.append (h : Boxes n2 C need c v W) {w1 : World} {v' : Value} {tmp : Obj} {e : Int × Int}
    (hown' : w1.ownsRow n2 24 2 v' (c.out.length + 1) (cellsE c.out ++ encE e)) (hgrow : (W.alloc tmp).grownBy w1 v.ownBlock) (hn2 : n2 ≤ W.heap.size) :
    Boxed w1 C 22 v ∧ Boxes n2 C need ⟨c.d, c.b, c.out ++ [e]⟩ v' (w1.setCell ⟨C, 0, none⟩ v') ∧ KeepsOthers W (w1.setCell ⟨C, 0, none⟩ v') ∧ (∀ n1, C < n1 → KeepIn n1 n2 W (w1.setCell ⟨C, 0, none⟩ v')) ∧ (∀ B w, Below B w W → B ≤ n2 → B ≤ C → Below B w (w1.setCell ⟨C, 0, none⟩ v')) := by
  have k1 : Boxed w1 C 22 v := (h.bc.alloc tmp).kept hgrow (h.bc.not_row (by decide) h.row)
  have hrow : (w1.setCell ⟨C, 0, none⟩ v').ownsRow n2 24 2 v' (c.out.length + 1) (cellsE c.out ++ encE e) := hown'.kept (grownBy_setCell' w1 C v') (.inr (k1.not_row (by decide) hown').symm)
  have own : ∀ j, v.ownBlock = some j → n2 ≤ j := fun j e => (h.row.lt j e).1
  refine ⟨k1, ⟨k1.set v', ?_, ?_, ?_, ?_, ?_⟩, ?_, ?_, ?_⟩
  · exact ((h.bb.alloc tmp).kept hgrow (h.bb.not_row (by decide) h.row)).other (by omega) _
  · exact ((h.bn.alloc tmp).kept hgrow (h.bn.not_row (by decide) h.row)).other (by omega) _
  · exact ((h.bd.alloc tmp).kept hgrow (h.bd.not_row (by decide) h.row)).other (by omega) _
  · exact ((h.bf.alloc tmp).kept hgrow (h.bf.not_row (by decide) h.row)).other (by omega) _
  · show World.ownsRow _ _ _ _ _ (c.out ++ [e]).length (cellsE (c.out ++ [e]))
    rw [List.length_append, cellsE_app]
    simpa [cellsE] using hrow
  · refine ((KeepsOthers.alloc W tmp).trans (KeepsOthers.of_grownBy hgrow fun j o ej hj => ?_)).trans (KeepsOthers.setCell _ _ _)
    rcases (h.row.alloc tmp).2 with ⟨rfl, _⟩ | ⟨g, cap, cur, rfl, _, hgb, _⟩
    · simp [Value.ownBlock] at ej
    · obtain rfl : g = j := by simpa [Value.ownBlock] using ej
      rw [hgb] at hj; cases hj; rfl
  · intro n1 hC
    exact ((KeepIn.alloc W tmp hn2).trans (KeepIn.grown hgrow (by simp; omega) fun r e => .inr (own r e))).trans (KeepIn.setCell _ _ _ (.inl hC))
  · intro B w hb h1 h2
    exact ((hb.alloc (by omega) tmp).grown hgrow (by simp; omega) (fun j e => by have := own j e; omega)).setCell (p := ⟨C, 0, none⟩) h2 v'
end

theorem own_base {w : World} {b b' : Nat} {e : TypeId} {size : Nat} {v : Value} {n : Nat} {xs : List Value} (h : w.ownsRow b e size v n xs) (hb : b' ≤ b) : w.ownsRow b' e size v n xs := by
  refine ⟨h.1, ?_⟩
  rcases h.2 with h2 | ⟨g, cap, cur, h1, h2, h3⟩
  · exact .inl h2
  · exact .inr ⟨g, cap, cur, h1, Nat.le_trans hb h2, h3⟩

theorem grp_len : ∀ (E : List (Int × Int)) (s : Int), (grp E s).length ≤ E.length
  | [], _ => by simp [grp]
  | [e], s => by simp [grp]
  | e :: f :: r, s => by
    rw [grp]
    split
    · have := grp_len (f :: r) (s + e.2); simp only [List.length_cons] at *; omega
    · have := grp_len (f :: r) 0; simp only [List.length_cons] at *; omega

theorem after_depth (W w : World) (n1 n2 C B : Nat) (u : Value) (n : Nat) (h1 : C + 1 + 1 + 1 < n1) (hB : Below B w W) (h2 : B ≤ C) :
    KeepsOthers W ((W.setCell ⟨C + 1 + 1 + 1, 0, none⟩ u).drewN n) ∧ KeepIn n1 n2 W ((W.setCell ⟨C + 1 + 1 + 1, 0, none⟩ u).drewN n) ∧ Below B w ((W.setCell ⟨C + 1 + 1 + 1, 0, none⟩ u).drewN n) ∧ W.heap.size ≤ ((W.setCell ⟨C + 1 + 1 + 1, 0, none⟩ u).drewN n).heap.size := by
  have k := KeepsOthers.setCell W ⟨C + 1 + 1 + 1, 0, none⟩ u
  have b := hB.setCell (p := ⟨C + 1 + 1 + 1, 0, none⟩) (show B ≤ C + 1 + 1 + 1 by omega) u
  exact ⟨⟨k.size, k.same⟩, (KeepIn.setCell W ⟨C + 1 + 1 + 1, 0, none⟩ u (.inl h1)).drewN n, ⟨b.os, b.tape, b.output, b.size, b.block⟩, k.size⟩

theorem cover_boxes (w1 : World) (need : Int) : ∃ W2, (((((w1.alloc (.cells #[.slice none 0 0] 22)).alloc (.cells #[.int .i64 0] 3)).alloc (.cells #[.int .i64 need] 3)).alloc (.cells #[.int .i64 0] 3)).alloc
      (.cells #[.func (.func 34) #[] #[.pointer (some ⟨w1.heap.size + 1 + 1 + 1, 0, none⟩), .pointer (some ⟨w1.heap.size + 1 + 1, 0, none⟩)]] 51)) = W2 ∧ W2.heap.size = w1.heap.size + 5 ∧ Below w1.heap.size w1 W2 ∧
      ∀ n2, Boxes n2 w1.heap.size need ⟨0, 0, []⟩ (.slice none 0 0) W2 := by
  refine ⟨_, rfl, by simp, ((((below_alloc w1 _).alloc (by simp) _).alloc (by simp; omega) _).alloc (by simp; omega) _).alloc (by simp; omega) _, fun n2 => ⟨?_, ?_, ?_, ?_, ?_, World.ownsRow_nil _ _ _ _⟩⟩
  · exact ((((Boxed.new _ _ _).alloc _).alloc _).alloc _).alloc _
  · have := Boxed.new (w1.alloc (.cells #[.slice none 0 0] 22)) 3 (.int .i64 0)
    rw [World.size_alloc] at this
    exact ((this.alloc _).alloc _).alloc _
  · have := Boxed.new ((w1.alloc (.cells #[.slice none 0 0] 22)).alloc (.cells #[.int .i64 0] 3)) 3 (.int .i64 need)
    rw [World.size_alloc, World.size_alloc] at this
    exact (this.alloc _).alloc _
  · have := Boxed.new (((w1.alloc (.cells #[.slice none 0 0] 22)).alloc (.cells #[.int .i64 0] 3)).alloc (.cells #[.int .i64 need] 3)) 3 (.int .i64 0)
    rw [World.size_alloc, World.size_alloc, World.size_alloc] at this
    exact this.alloc _
  · have := Boxed.new ((((w1.alloc (.cells #[.slice none 0 0] 22)).alloc (.cells #[.int .i64 0] 3)).alloc (.cells #[.int .i64 need] 3)).alloc (.cells #[.int .i64 0] 3)) 51 (countF w1.heap.size)
    rw [World.size_alloc, World.size_alloc, World.size_alloc, World.size_alloc] at this
    exact this

theorem Boxes.below {n2 C B : Nat} {need : Int} {c : CS} {W W' : World} (h : Boxes n2 C need c (.slice none 0 0) W) (hc : c.out = []) (hb : Below B W W') (hB : W.heap.size ≤ B) : Boxes n2 C need c (.slice none 0 0) W' :=
  ⟨(hb.block _ (by have := h.bc.lt; omega)).trans h.bc, (hb.block _ (by have := h.bb.lt; omega)).trans h.bb, (hb.block _ (by have := h.bn.lt; omega)).trans h.bn, (hb.block _ (by have := h.bd.lt; omega)).trans h.bd, (hb.block _ (by have := h.bf.lt; omega)).trans h.bf, by rw [hc]; exact World.ownsRow_nil _ _ _ _⟩

theorem endsL_ok {zs E : List (Int × Int)} (h : zs.all validB = true) (hp : E.Perm (endsL zs)) : ∀ k, k < E.length → EndOk (E.getD k (0, 0)) := by
  intro k hk
  rw [show E.getD k (0, 0) = E[k] by simp [List.getD, hk]]
  have hm : E[k] ∈ endsL zs := hp.mem_iff.1 (List.getElem_mem hk)
  generalize E[k] = e at hm
  simp only [endsL, List.mem_flatMap] at hm
  obtain ⟨i, hi, he⟩ := hm
  obtain ⟨v1, v2, v3⟩ := validB_yes (List.all_eq_true.1 h i hi)
  simp at he
  rcases he with rfl | rfl <;> (refine ⟨?_, ?_, ?_, ?_⟩ <;> simp only <;> omega)

theorem iter_stops (n : Nat) (hn : 1 ≤ n) (n1 n2 bx blk cap : Nat) (E : List (Int × Int)) (hE : E.length ≤ 128) (hok : ∀ k, k < E.length → EndOk (E.getD k (0, 0))) (h1 : n1 ≤ bx) (h2 : bx < n2) (h3 : n1 ≤ blk) (h4 : blk < n2) (w : World) (hn2 : n2 ≤ w.heap.size) (hEA : EndsAt w bx blk cap E) :
    SeqStopsK Fence.wide n Try.prog 38 #[.pointer (some ⟨bx, 0, none⟩)] evV (KeepIn n1 n2) (fun ys => ys.map (·.1) = grp E 0) (fun _ => True) E.length w := fun l J Jx W hW hJ hJx hY h0 =>
  iter_in Fence.wide n trivial rfl hn l n1 n2 bx blk cap E hE hok h1 h2 h3 h4 J Jx W hJ hJx hY (Nat.le_trans hn2 hW.size) (hEA.keep ⟨hW.size, fun b _ hb => hW.block b (by omega)⟩ h1 h2 h3 h4) h0

set_option maxRecDepth 100000 in
set_option maxHeartbeats 4000000 in
theorem cover_yes (A : Option Addr) (len cap : Nat) (zs : List (Int × Int)) (need : Int) (w : World) (hr : Row w.heap.size w A len zs) (ho : okList zs = true) (hn1 : 1 ≤ need) (hn2 : need ≤ 64) :
    Calls Try.prog 22 #[.slice A len cap, .int .i64 need] w (CoverMade zs need w) := by
  have hlen : len ≤ 64 := by
    have h := hr.1
    rw [okList, Bool.and_eq_true] at ho
    have := ho.1
    simp at this; omega
  have hval : zs.all validB = true := by rw [okList, Bool.and_eq_true] at ho; exact ho.2
  have V := Lib.hid (validList_any A len cap zs w hr (by omega))
  have HR := Lib.hid hr
  have HL := Lib.hid hr.1
  have HO := Lib.hid ho
  have HV := Lib.hid hval
  clear hr ho hval
  refine (callsIn_wide (n := 6)).1 ?_
  refine callsIn_of_wp_marks Try.func22 rfl trivial ?_ rfl
  simp only [Try.ntmps22, List.size_toArray, List.length_cons, List.length_nil, Nat.reduceAdd, Nat.reduceSub, Array.replicate_succ, Array.replicate_zero, List.push_toArray, List.append_toArray, List.nil_append, List.cons_append]
  gi_wp2
  refine ⟨trivial, (callsIn_wide.2 V.out).mono ?_⟩
  rintro e w1 ⟨rfl, b1⟩
  rw [HO.out]
  clear V
  have HB1 := Lib.hid b1
  clear b1
  gi_wp2
  refine ⟨trivial, (callsIn_wide.2 (counter_any need _)).mono ?_⟩
  rintro e w2 ⟨rfl, rfl⟩
  gi_wp2
  obtain ⟨W2, e2, hz2, hb2, hbx2⟩ := cover_boxes w1 need
  rw [e2]
  clear e2
  have hb12 : Below w.heap.size w W2 := HB1.out.trans (hb2.mono HB1.out.size)
  refine ⟨trivial, (callsIn_wide.2 (ends_any A len cap zs W2 ((HR.out.below hb12).more hb12.size) hlen HV.out)).mono ?_⟩
  rintro e W3 ⟨bx, blk, cp, E, rfl, hx1, hk1, hEA, hp, hs, hb3⟩
  have bx3 := Lib.hid ((hbx2 W3.heap.size).below rfl hb3 (Nat.le_refl _))
  have hb13 := Lib.hid (hb12.trans (hb3.mono hb12.size))
  have hz3 : w1.heap.size + 5 ≤ W3.heap.size := by have := hb3.size; omega
  have hw1 := HB1.out.size
  have hbx : bx < W3.heap.size := hEA.1.lt
  have hbk : blk < W3.heap.size := hEA.2.1
  have hEl : E.length ≤ 128 := by rw [hp.length_eq, endsL_len, HL.out]; omega
  have IT := Lib.hid (iter_stops 5 (by omega) W2.heap.size W3.heap.size bx blk cp E hEl (endsL_ok HV.out hp) hx1 hbx hk1 hbk W3 (Nat.le_refl _) hEA)
  have HP := Lib.hid hp
  have HS := Lib.hid hs
  have hz2' := Lib.hid hz2
  clear hb2 hb12 hb3 hbx2 hEA hp hs hz2
  obtain ⟨i0, hi, hi0, hi1, hi2⟩ := info_parts info_iv
  gi_wp2
  obtain ⟨C, hC⟩ : ∃ C, C = w1.heap.size := ⟨_, rfl⟩
  have bx3' := bx3.out
  refine wpIn_rangeFunc_ownG (α := Ev) rfl (by omega) (gf := 38) (lb := #[.pointer (some ⟨bx, 0, none⟩)]) rfl trivial (enters_of Try.func38 (by kernel_rfl) rfl)
    IT.out (fun h k => KeepIn.trans h k) (fun W l o o' hl _ _ _ => KeepIn.grown (grownBy_putObj' W l o') (by have := (Array.getElem?_eq_some_iff.1 ‹W.heap[l]? = some o›).1; omega) (fun r e => by cases e; exact .inr hl)) (Below.refl _ _) (fun _ => rfl)
    (fun pre W => (∃ v, Boxes W3.heap.size w1.heap.size need (cfold need (pre.map (·.1))) v W) ∧ (Below w.heap.size w W ∧ W3.heap.size ≤ W.heap.size))
    (fun _ _ _ => False)
    ?own (fun _ _ _ _ _ hs _ _ => hs) ⟨⟨_, bx3'⟩, hb13.out, Nat.le_refl _⟩
    (fun x => { tmps := #[.slice A len cap, .int .i64 need, undef, undef, .slice none 0 0, .int .i64 0, .pointer (some ⟨w1.heap.size, 0, none⟩), .pointer (some ⟨w1.heap.size + 1, 0, none⟩), .pointer (some ⟨w1.heap.size + 1 + 1 + 1 + 1, 0, none⟩), .int .i64 x.1.1, .int .i64 x.1.2, undef, undef, .slice A len cap, .bool true, .bool false, .bool false, .int .i64 need, .bool (decide (need < 1)), .bool (decide (need < 1)), .bool (decide (need < 1)), .int .i64 need, .bool (decide (64 < need)), .bool (decide (need < 1) || decide (64 < need)), .int .i64 need, .func (.func 34) #[] #[.pointer (some ⟨w1.heap.size + 1 + 1 + 1, 0, none⟩), .pointer (some ⟨w1.heap.size + 1 + 1, 0, none⟩)], .slice A len cap, .func (.func 38) #[] #[.pointer (some ⟨bx, 0, none⟩)], .int .i64 x.1.1, .int .i64 x.1.2, undef, undef, undef, undef, undef, undef, undef, undef, undef, undef, undef, undef, undef, undef, undef, undef, undef, undef, undef, undef, undef, undef, undef, undef, undef, undef, undef], defers := [] }) ?assign ?body ?done ?stop
  case own =>
    refine OwnFrom.and (Own.from (fun s X Y row hs hg hr => ?_) _) (OwnFrom.and (ownFrom_below (Nat.le_refl _) hb13.out.size) (fun s X Y row hs hg hr => Nat.le_trans hs hg.size))
    obtain ⟨v, hv⟩ := hs
    exact ⟨v, hv.kept hg hr⟩
  case assign =>
    intro l x W K hK
    dsimp only [evV]
    gi_wp2
    exact hK
  case body =>
    rintro l pre x W ⟨⟨v, hbx⟩, hB, hW3⟩ hlt
    obtain ⟨q1, q2, q3⟩ := cfold_bound need pre
    have hfs : Hid (cfold need ((pre ++ [x]).map (·.1)) = cstep need (cfold need (pre.map (·.1))) x.1) := by
      show cfold need _ = _
      rw [List.map_append, List.map_cons, List.map_nil, cfold_snoc]
    obtain ⟨⟨x1, x2⟩, p1, p2, p3, p4⟩ := x
    dsimp only at p1 p2 p3 p4 hfs ⊢
    generalize cfold need (pre.map (·.1)) = c at hbx q1 q2 q3 hfs
    have HBX := Lib.hid hbx
    have f1 : W.cell? ⟨w1.heap.size + 1 + 1 + 1 + 1, 0, none⟩ = some (.func (.func 34) #[] #[.pointer (some ⟨w1.heap.size + 1 + 1 + 1, 0, none⟩), .pointer (some ⟨w1.heap.size + 1 + 1, 0, none⟩)]) := hbx.bf.cell
    have CT := counter1_any (w1.heap.size + 1 + 1 + 1) (w1.heap.size + 1 + 1) c.d need x2 W hbx.bd hbx.bn (by omega) (by omega) (by omega) (by omega) (by omega)
    clear hbx
    cases hp : decide (need ≤ c.d) with
    | false =>
      cases hq : decide (need ≤ c.d + x2) with
      | false =>
        rw [hp, hq] at CT
        have HCT := Lib.hid CT
        have HC : Hid (cstep need c (x1, x2) = ⟨c.d + x2, c.b, c.out⟩) := by
          show cstep need c (x1, x2) = _
          rw [cstep, hp, hq]; rfl
        clear CT hp hq
        gi_wp2
        refine ⟨trivial, (CallsIn.inRound l (callsIn_wide.2 HCT.out)).mono ?_⟩
        rintro e W4 ⟨rfl, n, rfl⟩
        have hbx4 := Lib.hid (HBX.out.depth (c.d + x2) n)
        have AD := Lib.hid (after_depth W w W2.heap.size W3.heap.size w1.heap.size w.heap.size (.int .i64 (c.d + x2)) n (by have := hz2'.out; omega) hB hw1)
        generalize (W.setCell ⟨w1.heap.size + 1 + 1 + 1, 0, none⟩ (.int .i64 (c.d + x2))).drewN n = W4 at hbx4 AD ⊢
        gi_wp2
        refine ⟨AD.out.1.from _, AD.out.2.1, ⟨v, ?_⟩, AD.out.2.2.1, Nat.le_trans hW3 AD.out.2.2.2⟩
        rw [hfs.out, HC.out]
        exact hbx4.out
      | true =>
        rw [hp, hq] at CT
        have HCT := Lib.hid CT
        have HC : Hid (cstep need c (x1, x2) = ⟨c.d + x2, x1, c.out⟩) := by
          show cstep need c (x1, x2) = _
          rw [cstep, hp, hq]; rfl
        clear CT hp hq
        gi_wp2
        refine ⟨trivial, (CallsIn.inRound l (callsIn_wide.2 HCT.out)).mono ?_⟩
        rintro e W4 ⟨rfl, n, rfl⟩
        have hbx4 := Lib.hid (HBX.out.depth (c.d + x2) n)
        have AD := Lib.hid (after_depth W w W2.heap.size W3.heap.size w1.heap.size w.heap.size (.int .i64 (c.d + x2)) n (by have := hz2'.out; omega) hB hw1)
        generalize (W.setCell ⟨w1.heap.size + 1 + 1 + 1, 0, none⟩ (.int .i64 (c.d + x2))).drewN n = W4 at hbx4 AD ⊢
        have g1 := hbx4.out.bb.cell
        have g2 := hbx4.out.bb.frozen
        gi_wp2
        refine ⟨(AD.out.1.trans (KeepsOthers.setCell _ _ _)).from _, AD.out.2.1.trans (KeepIn.setCell _ _ _ (.inl (by have := hz2'.out; simp only; omega))), ⟨v, ?_⟩, AD.out.2.2.1.setCell (p := ⟨w1.heap.size + 1, 0, none⟩) (by simp only; omega) _, Nat.le_trans hW3 (Nat.le_trans AD.out.2.2.2 (KeepsOthers.setCell _ _ _).size)⟩
        rw [hfs.out, HC.out]
        exact hbx4.out.begin_ x1
    | true =>
      cases hq : decide (need ≤ c.d + x2) with
      | false =>
        rw [hp, hq] at CT
        have HCT := Lib.hid CT
        have HC : Hid (cstep need c (x1, x2) = ⟨c.d + x2, c.b, c.out ++ [(c.b, x1 - 1)]⟩) := by
          show cstep need c (x1, x2) = _
          rw [cstep, hp, hq]; rfl
        clear CT hp hq
        gi_wp2
        refine ⟨trivial, (CallsIn.inRound l (callsIn_wide.2 HCT.out)).mono ?_⟩
        rintro e W4 ⟨rfl, n, rfl⟩
        have hbx4 := Lib.hid (HBX.out.depth (c.d + x2) n)
        have AD := Lib.hid (after_depth W w W2.heap.size W3.heap.size w1.heap.size w.heap.size (.int .i64 (c.d + x2)) n (by have := hz2'.out; omega) hB hw1)
        generalize (W.setCell ⟨w1.heap.size + 1 + 1 + 1, 0, none⟩ (.int .i64 (c.d + x2))).drewN n = W4 at hbx4 AD ⊢
        have g1 := hbx4.out.bb.cell
        have g3 := hbx4.out.bc.cell
        have hrow4 := Lib.hid hbx4.out.row
        have hs4 : W3.heap.size ≤ W4.heap.size := Nat.le_trans hW3 AD.out.2.2.2
        have HCN := Lib.hid (cells_new W4 24 [.int .i64 c.b, .int .i64 (x1 - 1)])
        gi_wp2_with (gi_at_builtin; refine wpListIn_append_own _ rfl _ _ 22 rfl W3.heap.size 24 i0 (.agg #[.int .i64 0, .int .i64 0]) 2 16 Try.underlying22 hi hi0 hi1 hi2 rfl (by decide) _ _ _ rfl (hrow4.out.alloc _) ⟨W4.heap.size, 0, none⟩ 1 1 [.int .i64 c.b, .int .i64 (x1 - 1)] rfl rfl HCN.out (by simp [Value.oneCell']) (by unfold maxLen; omega) (by omega) (by simp; omega) ?_; intro v' w5 hown' hgrow _; obtain ⟨g', cap', rfl⟩ := ownsRow_succ hown'; obtain ⟨k1, k2, k3, k4, k5⟩ := hbx4.out.append (e := (c.b, x1 - 1)) hown' hgrow hs4; have hc1 := k1.cell; have hf1 := k1.frozen)
        refine ⟨(AD.out.1.trans k3).from _, AD.out.2.1.trans (k4 _ (by have := hz2'.out; omega)), ⟨.slice (some ⟨g', 0, none⟩) (c.out.length + 1) cap', ?_⟩, k5 _ _ AD.out.2.2.1 hb13.out.size hw1, Nat.le_trans hs4 k3.size⟩
        rw [hfs.out, HC.out]
        exact k2
      | true =>
        rw [hp, hq] at CT
        have HCT := Lib.hid CT
        have HC : Hid (cstep need c (x1, x2) = ⟨c.d + x2, c.b, c.out⟩) := by
          show cstep need c (x1, x2) = _
          rw [cstep, hp, hq]; rfl
        clear CT hp hq
        gi_wp2
        refine ⟨trivial, (CallsIn.inRound l (callsIn_wide.2 HCT.out)).mono ?_⟩
        rintro e W4 ⟨rfl, n, rfl⟩
        have hbx4 := Lib.hid (HBX.out.depth (c.d + x2) n)
        have AD := Lib.hid (after_depth W w W2.heap.size W3.heap.size w1.heap.size w.heap.size (.int .i64 (c.d + x2)) n (by have := hz2'.out; omega) hB hw1)
        generalize (W.setCell ⟨w1.heap.size + 1 + 1 + 1, 0, none⟩ (.int .i64 (c.d + x2))).drewN n = W4 at hbx4 AD ⊢
        gi_wp2
        refine ⟨AD.out.1.from _, AD.out.2.1, ⟨v, ?_⟩, AD.out.2.2.1, Nat.le_trans hW3 AD.out.2.2.2⟩
        rw [hfs.out, HC.out]
        exact hbx4.out
  case done =>
    rintro D ys W hD hys ⟨⟨v, hbx⟩, hB, hW3⟩ hK
    rw [hys] at hbx
    have g1 := hbx.bc.cell
    have hol : (cfold need (grp E 0)).out.length ≤ 128 := by
      have h1 := (cfold_bound need ys).2.2
      have h2 := grp_len E 0
      rw [← hys, List.length_map] at h2
      rw [hys] at h1
      omega
    have hfin : Hid (CoverMade zs need w (.returned (.tuple #[v, .int .i64 0])) (W.putObj D (.deferred none))) :=
      ⟨v, E, rfl, HP.out, HS.out, hol, own_base (ownsRow_putObj hbx.row _ hK rfl) hb13.out.size, hB.trans (belowK_b (w := w) (Nat.le_refl _) W D _ _ (by have := hb13.out.size; omega) hK rfl rfl)⟩
    clear hbx hB hol
    gi_wp2
    refine ⟨by simp, .inl ⟨_, _, rfl, run_takeDeferred hK, ?_⟩⟩
    exact ⟨_, results_tmp2 (t := 4) (u := 5) rfl _ _ _, hfin.out⟩
  case stop =>
    rintro D c pre W _ _ h _
    exact h.elim
end Go.Proofs.Ytpooifjieoijjaa
