/- Layer 4: what the calls of the laws return, as rows; slices of what lies. -/
import Derived.Test.YtdambggcaimndaaRSame
namespace Go.Proofs.Ytdambggcaimndaa
open Go.RowKit Go.Sort Go
set_option linter.unusedVariables false

theorem below_alloc (w : World) (o : Obj) : Below w.heap.size w (w.alloc o) := (Below.refl _ _).alloc (Nat.le_refl _) _

theorem row8_new (w : World) (bs : List UInt8) (n : Nat) (hn : n = bs.length) : Row8 (w.alloc (.cells (Lib.byteCells bs).toArray 5)).heap.size (w.alloc (.cells (Lib.byteCells bs).toArray 5)) (some ⟨w.heap.size, 0, none⟩) n bs := by
  subst hn
  refine ⟨rfl, fun _ => ⟨_, rfl, (by simp), fun i hi => ?_⟩⟩
  rw [Lib.add_plain, Nat.zero_add, cell_of_row _ w.heap.size i _ 5 (0, 0) (heap_alloc_new w _)]
  simp [Lib.byteCells, List.getD, hi]

theorem rowI_new (w : World) (zs : List Int) (n : Nat) (hn : n = zs.length) (hz : ∀ x ∈ zs, -9223372036854775808 ≤ x ∧ x ≤ 9223372036854775807) : RowI (w.alloc (.cells (intCells zs).toArray 3)).heap.size (w.alloc (.cells (intCells zs).toArray 3)) (some ⟨w.heap.size, 0, none⟩) n zs := by
  subst hn
  refine ⟨rfl, fun _ => ⟨_, rfl, (by simp), fun i hi => ?_⟩, hz⟩
  rw [Lib.add_plain, Nat.zero_add, cell_of_row _ w.heap.size i _ 3 (0, 0) (heap_alloc_new w _)]
  simp [intCells, List.getD, hi]

theorem own_new (w : World) (bs : List UInt8) (B : Nat) (hB : B ≤ w.heap.size) (hn : bs.length ≤ maxLen) : Own B (w.alloc (.cells (Lib.byteCells bs).toArray 5)) (.slice (some ⟨w.heap.size, 0, none⟩) bs.length bs.length) bs := by
  exact World.ownsRow_lit (base := B) (e := 5) (size := 1) w (Lib.byteCells bs).toArray bs.length hB hn (by simp [Lib.byteCells])

theorem getR_in {bs : List UInt8} {l : List Int} (h : getR bs = some l) : l.length ≤ 1000 ∧ ∀ x ∈ l, -9223372036854775808 ≤ x ∧ x ≤ 9223372036854775807 := (getR_some h).2

theorem get_row (A : Option Addr) (n cap : Nat) (bs : List UInt8) (l : List Int) (w : World) (hr : Row8 w.heap.size w A n bs) (hn : n ≤ 1000000000) (hc : n ≤ cap) (hg : getR bs = some l) :
    Calls Try.prog 16 #[.slice A n cap] w fun e w' => ∃ A' n' cap', e = .returned (.tuple #[.slice A' n' cap', .int .i64 0]) ∧ n' ≤ cap' ∧ RowI w'.heap.size w' A' n' l ∧ Below w.heap.size w w' := by
  refine (get_any A n cap bs w hr hn hc).mono ?_
  rintro e w' ⟨hb, h⟩
  rw [hg] at h
  obtain ⟨v, rfl, ho⟩ := h
  obtain ⟨A', n', cap', rfl, h1, h2, h3, h4⟩ := ho.row (getR_in hg).2
  exact ⟨A', n', cap', rfl, h1, h4, hb⟩
theorem get_none (A : Option Addr) (n cap : Nat) (bs : List UInt8) (w : World) (hr : Row8 w.heap.size w A n bs) (hn : n ≤ 1000000000) (hc : n ≤ cap) (hg : getR bs = none) :
    Calls Try.prog 16 #[.slice A n cap] w (Gives (.tuple #[.slice none 0 0, .int .i64 7]) w) := by
  refine (get_any A n cap bs w hr hn hc).mono ?_
  rintro e w' ⟨hb, h⟩
  rw [hg] at h
  exact ⟨h, hb⟩

theorem OwnL.row {B : Nat} {w : World} {v : Value} {ls : List (List Int)} (h : OwnL B w v ls) (ho : AllOk ls) : ∃ A n cap, v = .slice A n cap ∧ n ≤ cap ∧ RowL w.heap.size w A n ls := by
  obtain ⟨vs, h1, h2, h3, h4⟩ := h
  obtain ⟨A, cap, rfl, c1, c2, c3, c4⟩ := own_row h1
  refine ⟨A, ls.length, cap, rfl, c1, rfl, fun i => vs.getD i undef, c4 _ fun i hi => by simp [h2, hi], fun i hi => ?_⟩
  have hvi : vs[i]? = some (vs.getD i undef) := by simp [h2, hi]
  have hli : ls[i]? = some (ls.getD i []) := by simp [hi]
  have hm : ls.getD i [] ∈ ls := List.mem_of_getElem? hli
  obtain ⟨a, n, c, e, k1, k2, k3, k4⟩ := (h4 i _ _ hvi hli).row (ho _ hm).2
  refine ⟨a, n, c, e, ?_, k4⟩
  have := (ho _ hm).1
  have := k4.1
  omega

theorem told_len {bs : List UInt8} {ls : List (List Int)} {m : Nat} (h : Told bs ls m) : m ≤ bs.length ∧ 12 * ls.length ≤ bs.length := by
  obtain ⟨⟨r, e, _⟩, h2, h3⟩ := h
  have h4 := framesB_long ls
  rw [e, List.length_append]; omega

theorem frames_row (A : Option Addr) (n cap : Nat) (bs : List UInt8) (ls : List (List Int)) (m : Nat) (w : World) (hr : Row8 w.heap.size w A n bs) (hn : n ≤ 100000) (hc : n ≤ cap) (ht : Told bs ls m) :
    Calls Try.prog 19 #[.slice A n cap] w fun e w' => ∃ A' n' cap', e = .returned (.tuple #[.slice A' n' cap', .int .i64 (m : Nat), .int .i64 0]) ∧ n' ≤ cap' ∧ RowL w'.heap.size w' A' n' ls ∧ Below w.heap.size w w' := by
  refine (frames_any A n cap bs w hr hn hc).mono ?_
  rintro e w' ⟨v, ls', m', rfl, ho, ht', hb⟩
  obtain ⟨rfl, rfl⟩ := ht'.unique ht
  obtain ⟨A', n', cap', rfl, h1, h2⟩ := ho.row ht.2.2
  exact ⟨A', n', cap', rfl, h1, h2, hb⟩

theorem frames_big (A : Option Addr) (n cap : Nat) (w : World) (hn : 100000 < n) :
    Calls Try.prog 19 #[.slice A n cap] w (Gives (.tuple #[.slice none 0 0, .int .i64 0, .int .i64 2]) w) := by
  have f1 : decide ((100000 : Int) < (n : Int)) = true := by rw [decide_eq_true_eq]; omega
  go_enter Try.func19, Try.ntmps19
  go_wp2_with fail
  go_ret3
  exact ⟨rfl, Below.refl _ _⟩

/-- What lies up to a place; from a place on. -/
theorem RowV.take {B : Nat} {w : World} {A : Option Addr} {n k : Nat} {f : Nat → Value} (h : RowV B w A n f) (hk : k ≤ n) : RowV B w A k f := fun h0 => by
  obtain ⟨p, e, hp, hc⟩ := h (by omega)
  exact ⟨p, e, hp, fun i hi => hc i (by omega)⟩
theorem Row8.take {B : Nat} {w : World} {A : Option Addr} {n k : Nat} {bs : List UInt8} (h : Row8 B w A n bs) (hk : k ≤ n) : Row8 B w A k (bs.take k) := by
  refine ⟨by rw [List.length_take, h.1]; omega, fun h0 => ?_⟩
  obtain ⟨p, e, hp, hc⟩ := h.2 (by omega)
  refine ⟨p, e, hp, fun i hi => ?_⟩
  rw [hc i (by omega)]
  simp [List.getD, hi]
theorem RowI.take {B : Nat} {w : World} {A : Option Addr} {n k : Nat} {bs : List Int} (h : RowI B w A n bs) (hk : k ≤ n) : RowI B w A k (bs.take k) := by
  refine ⟨by rw [List.length_take, h.1]; omega, fun h0 => ?_, fun x hx => h.2.2 x (List.mem_of_mem_take hx)⟩
  obtain ⟨p, e, hp, hc⟩ := h.2.1 (by omega)
  refine ⟨p, e, hp, fun i hi => ?_⟩
  rw [hc i (by omega)]
  simp [List.getD, hi]
end Go.Proofs.Ytdambggcaimndaa
