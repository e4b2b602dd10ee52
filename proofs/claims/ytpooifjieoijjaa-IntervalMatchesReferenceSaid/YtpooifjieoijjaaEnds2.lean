/- Layer 2: the function ends, the whole of it. -/
import Derived.Test.YtpooifjieoijjaaEnds
namespace Go.Proofs.Ytpooifjieoijjaa
open Go.RowKit Go Go.Shelf Go.Lib Go.Sort
set_option linter.unusedVariables false

theorem cellsE_at (l : List (Int × Int)) : ∀ k, k < l.length → (cellsE l)[2 * k]? = some (.int .i64 (l.getD k (0, 0)).1) ∧ (cellsE l)[2 * k + 1]? = some (.int .i64 (l.getD k (0, 0)).2) := by
  induction l with
  | nil => intro k h; simp at h
  | cons x l ih =>
    intro k h
    cases k with
    | zero => exact ⟨rfl, rfl⟩
    | succ k =>
      obtain ⟨h1, h2⟩ := ih k (by simpa using h)
      rw [show 2 * (k + 1) = 2 * k + 1 + 1 by omega, List.getD_cons_succ]
      exact ⟨h1, h2⟩
theorem cellsE_len (l : List (Int × Int)) : (cellsE l).length = 2 * l.length := by
  induction l with
  | nil => rfl
  | cons x l ih => simp only [cellsE, List.flatMap_cons, List.length_append, List.length_cons] at *; simp [encE] at *; omega
theorem cellsE_app (a b : List (Int × Int)) : cellsE (a ++ b) = cellsE a ++ cellsE b := by simp [cellsE]
theorem endsL_app (a b : List (Int × Int)) : endsL (a ++ b) = endsL a ++ endsL b := by simp [endsL]
theorem endsL_len (l : List (Int × Int)) : (endsL l).length = 2 * l.length := by
  induction l with
  | nil => rfl
  | cons x l ih => simp only [endsL, List.flatMap_cons, List.length_append, List.length_cons] at *; simp at *; omega

theorem grownBy_sortK {w : World} {g n : Nat} {os : Array Obj} (d : Array (Int × Int)) : w.grownBy (sortWorldK encE 2 w g 0 n d os) (some g) := by
  refine ⟨rfl, rfl, rfl, size_sortWorldK_c encE 2 w g 0 n d os, fun k hk hne => ?_⟩
  unfold sortWorldK
  rw [heap_grow_old _ _ (by rw [size_putRowK]; exact hk)]
  have : g ≠ k := fun e => hne (by rw [e])
  simp [putRowK, putRow, mapBlock, Sort.ahead, Array.getElem?_modify, this]

/-- The box bx holds a slice, whose elements are E, in block blk. -/
def EndsAt (w : World) (bx blk cap : Nat) (E : List (Int × Int)) : Prop :=
  Boxed w bx 57 (.slice (some ⟨blk, 0, none⟩) E.length cap) ∧ blk < w.heap.size ∧ ∀ k, k < E.length → w.cell? ⟨blk, k * 2, none⟩ = some (.int .i64 (E.getD k (0, 0)).1) ∧ w.cell? ⟨blk, k * 2 + 1, none⟩ = some (.int .i64 (E.getD k (0, 0)).2)
def Rises (E : List (Int × Int)) : Prop := E.Pairwise (fun a b => a.1 ≤ b.1)
def EndsGive (zs : List (Int × Int)) (w : World) (e : Ending) (w' : World) : Prop :=
  ∃ (bx blk cap : Nat) (E : List (Int × Int)), e = .returned (.func (.func 38) #[] #[.pointer (some ⟨bx, 0, none⟩)]) ∧ w.heap.size ≤ bx ∧ w.heap.size ≤ blk ∧ EndsAt w' bx blk cap E ∧ E.Perm (endsL zs) ∧ Rises E ∧ Below w.heap.size w w'

theorem rises_of {d : Array (Int × Int)} (h : SortedIn (ltOf fun x y : Int × Int => Lib.compareInt x.1 y.1) 0 d.size d) : Rises d.toList := by
  unfold Rises
  rw [List.pairwise_iff_getElem]
  intro i j hi hj hij
  have := h i j (Nat.zero_le _) hij (by simpa using hj)
  rw [lt_at] at this
  simp only [Array.length_toList] at hi hj
  rw [getElem!_pos d j (by simpa using hj), getElem!_pos d i (by simpa using hi)] at this
  simp at this
  simpa using this

theorem perm_of {d d' : Array (Int × Int)} (h : PermIn 0 d.size d d') : d'.size = d.size ∧ d'.toList.Perm d.toList := by
  obtain ⟨h1, _, h2⟩ := h
  refine ⟨h1, ?_⟩
  rw [← h1] at h2
  simp only [Array.extract_size] at h2
  rw [h1] at h2
  simpa using h2

theorem ends_fin (w wr : World) (B g cap : Nat) (L : List (Int × Int)) (hB : w.heap.size ≤ B) (hg : w.heap.size ≤ g) (hx : Boxed wr B 57 (.slice (some ⟨g, 0, none⟩) L.length cap)) (hgb : g < wr.heap.size) (hne : B ≠ g) (hb : Below w.heap.size w wr) (hH : HoldsK encE 2 wr g 0 L.toArray)
    (d' : Array (Int × Int)) (n : Nat) (os : Array Obj) (hp : PermIn 0 L.toArray.size L.toArray d') (hs : SortedIn (ltOf fun x y : Int × Int => Lib.compareInt x.1 y.1) 0 L.toArray.size d') :
    ∃ E : List (Int × Int), EndsAt (sortWorldK encE 2 wr g 0 n d' os) B g cap E ∧ E.Perm L ∧ Rises E ∧ Below w.heap.size w (sortWorldK encE 2 wr g 0 n d' os) := by
  obtain ⟨h1, h2⟩ := perm_of hp
  have hz : d'.size = L.length := by rw [h1]; simp
  refine ⟨d'.toList, ⟨?_, Nat.lt_of_lt_of_le hgb (size_sortWorldK_c encE 2 wr g 0 n d' os), fun k hk => ?_⟩, by simpa using h2, rises_of (by rw [h1]; exact hs), hb.grown (grownBy_sortK d') hb.size (fun k e => by cases e; exact hg)⟩
  · have := hx.kept (grownBy_sortK (w := wr) (g := g) (n := n) (os := os) d') (by intro e; exact hne (Option.some.inj e))
    rwa [show d'.toList.length = L.length by simpa using hz]
  · have hk' : k < d'.size := by simpa using hk
    have HH := holdsK_sortWorldK_c encE 2 wr g 0 L.toArray d' n os hH hgb (by rw [h1])
    have c0 := (HH.cell (i := k) (c := 0) hk' (by omega)).1
    have c1 := (HH.cell (i := k) (c := 1) hk' (by omega)).1
    rw [getElem!_pos d' k hk'] at c0 c1
    simp only [Nat.zero_add, Nat.add_zero] at c0 c1
    rw [show d'.toList.getD k (0, 0) = d'[k] by simp [List.getD, hk']]
    exact ⟨c0, c1⟩

theorem holds_of (wr : World) (base g cap n : Nat) (L : List (Int × Int)) (hn : n = L.length) (h : wr.ownsRow base 59 2 (.slice (some ⟨g, 0, none⟩) n cap) n (cellsE L)) : HoldsK encE 2 wr g 0 L.toArray := by
  subst hn
  intro j hj
  rw [size_flatK] at hj
  simp only [List.size_toArray] at hj
  rw [Nat.zero_add, get_flatK _ _ _ _ (by simpa using hj)]
  refine ⟨?_, h.frozenAt j⟩
  rw [h.cellAt j hj]
  have hk : j / 2 < L.length := by omega
  obtain ⟨h0, h1⟩ := cellsE_at L (j / 2) hk
  rw [getElem!_pos L.toArray (j / 2) (by simpa using hk)]
  have hd : L.toArray[j / 2]'(by simpa using hk) = L.getD (j / 2) (0, 0) := by simp [List.getD, hk]
  rw [hd]
  rcases Nat.mod_two_eq_zero_or_one j with hm | hm
  · have e : 2 * (j / 2) = j := by omega
    rw [e] at h0; rw [h0, hm]; rfl
  · have e : 2 * (j / 2) + 1 = j := by omega
    rw [e] at h1; rw [h1, hm]; rfl

set_option maxHeartbeats 2000000 in
theorem ends_any (A : Option Addr) (len cap : Nat) (zs : List (Int × Int)) (w : World) (hr : Row w.heap.size w A len zs) (hl : len ≤ 64) (ho : zs.all validB = true) :
    Calls Try.prog 32 #[.slice A len cap] w (EndsGive zs w) := by
  obtain ⟨i0, hi, hz0, hz1, hz2⟩ := info_parts info_end
  have HR : Hid (Row w.heap.size w A len zs) := hr
  have HL : Hid (zs.length = len) := hr.1
  have HO : Hid _ := ho
  clear hr ho
  go_enter Try.func32, Try.ntmps32
  go_wp2_with (at_make; refine wpList_make_own _ rfl _ _ 57 rfl w.heap.size 59 i0 (.agg #[.int .i64 0, .int .i64 0]) 2 Try.underlying57 hi hz0 hz1 .i64 .i64 _ (2 * len) rfl rfl (by omega) (by rw [hz2]; omega) (by unfold maxLen; omega) (Nat.le_refl _) ?_; intro w0 hown0 hgrow0)
  have hz0' := hown0.lt _ rfl
  have hb0 : Below w.heap.size w w0 := (Below.refl _ w).grown hgrow0 (Nat.le_refl _) (fun k e => by cases e)
  have hown1 : Hid _ := hown0.alloc (.cells #[.slice (some ⟨w.heap.size, 0, none⟩) 0 (2 * len)] 57)
  clear hown0 hgrow0
  obtain ⟨B, hB⟩ : ∃ B, B = w0.heap.size := ⟨_, rfl⟩
  have HB : Hid _ := hB
  have hwB : w.heap.size < B := by omega
  rw [← hB]
  clear hB
  have W0 : Hid (Boxed (w0.alloc (.cells #[.slice (some ⟨w.heap.size, 0, none⟩) 0 (2 * len)] 57)) B 57 (.slice (some ⟨w.heap.size, 0, none⟩) 0 (2 * len))) := by rw [HB.out]; exact Boxed.new _ _ _
  have hb1 : Hid (Below w.heap.size w (w0.alloc (.cells #[.slice (some ⟨w.heap.size, 0, none⟩) 0 (2 * len)] 57))) := hb0.alloc hb0.size _
  clear hb0 hz0'
  go_loopw [5, 12] (fun _ i wr => ∃ (k g c : Nat), k ≤ len ∧ i = .int .i64 k ∧ w.heap.size ≤ g ∧ g < wr.heap.size ∧ Hid (Boxed wr B 57 (.slice (some ⟨g, 0, none⟩) (2 * k) c)) ∧ Hid (wr.ownsRow w.heap.size 59 2 (.slice (some ⟨g, 0, none⟩) (2 * k) c) (2 * k) (cellsE (endsL (zs.take k)))) ∧ Below w.heap.size w wr) (fun _ i _ => len - (intOf i).toNat)
  case atStart => exact ⟨0, w.heap.size, 2 * len, Nat.zero_le _, rfl, Nat.le_refl _, (World.ownsRow.lt hown1.out _ rfl).2, W0.out, hown1.out, hb1.out⟩
  case round =>
    obtain ⟨k, g, c, hk, rfl, hg, hgw, HBX, HOWN, hbr⟩ := hrel
    by_cases hlt : k < len
    · obtain ⟨p, rfl, hp, hc⟩ := (HR.out.below hbr).2 (by omega)
      obtain ⟨c1, c2⟩ := hc k hlt
      clear hc
      have HS : Hid _ := take_snoc zs (0, 0) k (by rw [HL.out]; exact hlt)
      have hvd : validB (zs.getD k (0, 0)) = true := by
        have hk' : k < zs.length := by rw [HL.out]; exact hlt
        have := HO.out
        rw [List.all_eq_true] at this
        rw [show zs.getD k (0, 0) = zs[k] by simp [List.getD, hk']]
        exact this _ (List.getElem_mem hk')
      generalize zs.getD k (0, 0) = x at c1 c2 HS hvd
      obtain ⟨v1, v2, v3⟩ := validB_yes hvd
      clear hvd
      have bc := HBX.out.cell
      have bf := HBX.out.frozen
      have bl := HBX.out.lt
      go_wp2_with (at_builtin; refine wpList_append_own _ rfl _ _ 57 rfl w.heap.size 59 i0 (.agg #[.int .i64 0, .int .i64 0]) 2 16 Try.underlying57 hi hz0 hz1 hz2 rfl (by decide) _ _ _ rfl ((HOWN.out.alloc _).alloc _) ⟨wr.heap.size + 1, 0, none⟩ 2 2 [.int .i64 x.1, .int .i64 1, .int .i64 (x.2 + 1), .int .i64 (-1)] rfl rfl (by have := cells_new (wr.alloc (.cells #[.int .i64 x.1, .int .i64 x.2] 24)) 59 [.int .i64 x.1, .int .i64 1, .int .i64 (x.2 + 1), .int .i64 (-1)]; rwa [World.size_alloc] at this) (by simp [Value.oneCell']) (by unfold maxLen; omega) (by omega) (by have := hbr.size; simp; omega) ?_; intro v' w1 hown' hgrow _; obtain ⟨g', cap', rfl⟩ := ownsRow_succ hown'; obtain ⟨hv1, hv2, hr2, _, hb2⟩ := Boxed.appended (HBX.out.alloc _) (by decide) (HOWN.out.alloc _) (by have := hbr.size; simp; omega) (Nat.le_of_lt hwB) hown' hgrow; have hc1 := hv1.cell; have hf1 := hv1.frozen)
      go_roundw
      case rel =>
        refine ⟨k + 1, g', cap', by omega, by go_num, (World.ownsRow.lt hr2 _ rfl).1, (World.ownsRow.lt hr2 _ rfl).2, hv2, ?_, (hbr.alloc hbr.size _).trans hb2⟩
        show World.ownsRow _ _ _ _ _ (2 * k + 2) _
        have e : cellsE (endsL (zs.take (k + 1))) = cellsE (endsL (zs.take k)) ++ [.int .i64 x.1, .int .i64 1, .int .i64 (x.2 + 1), .int .i64 (-1)] := by
          rw [HS.out, endsL_app, cellsE_app]; rfl
        rw [e]
        exact hr2
      case measure => simp [intOf]; omega
    · obtain rfl : k = len := by omega
      have hE : zs.take k = zs := by rw [← HL.out]; exact List.take_length
      have hlen : (endsL zs).length = 2 * k := by rw [endsL_len, HL.out]
      have HEL : Hid _ := hlen
      rw [hE] at HOWN
      clear hE
      have hne : B ≠ g := by
        have := HBX.out.not_row (by decide) HOWN.out
        intro e; exact this (by rw [e]; rfl)
      have hH := holds_of wr w.heap.size g c (2 * k) (endsL zs) hlen.symm HOWN.out
      have hBX := HBX.out
      rw [← hlen] at hBX
      have hsort := sort_any g c (endsL zs).toArray wr hH hgw (by simp [hlen]; omega)
      have hfin : Hid (∀ d' n os, PermIn 0 (endsL zs).toArray.size (endsL zs).toArray d' → SortedIn (ltOf fun x y : Int × Int => Lib.compareInt x.1 y.1) 0 (endsL zs).toArray.size d' → ∃ E : List (Int × Int), EndsAt (sortWorldK encE 2 wr g 0 n d' os) B g c E ∧ E.Perm (endsL zs) ∧ Rises E ∧ Below w.heap.size w (sortWorldK encE 2 wr g 0 n d' os)) :=
        fun d' n os hp hs => ends_fin w wr B g c (endsL zs) (Nat.le_of_lt hwB) hg hBX hgw hne hbr hH d' n os hp hs
      have hsz : (endsL zs).toArray.size = 2 * k := by simpa using hlen
      rw [hsz] at hsort hfin
      have HSO := Lib.hid hsort
      clear hsort hsz hlen hBX hH
      have bc := HBX.out.cell
      have bf := HBX.out.frozen
      have bl := HBX.out.lt
      go_wp2_with fail
      refine HSO.out.mono ?_
      rintro e w2 ⟨rfl, d', n, os, hp, hs, rfl⟩
      obtain ⟨E, h1, h2, h3, h4⟩ := hfin.out d' n os hp hs
      generalize sortWorldK encE 2 wr g 0 n d' os = w2 at h1 h4
      clear hfin HSO
      have H : Hid (EndsGive zs w (.returned (.func (.func 38) #[] #[.pointer (some ⟨B, 0, none⟩)])) w2) := ⟨B, g, c, E, rfl, Nat.le_of_lt hwB, hg, h1, h2, h3, h4⟩
      clear h1 h2 h3 h4 hp hs
      go_wp2_with fail
      go_ret
      exact H.out
end Go.Proofs.Ytpooifjieoijjaa
