/- Layer 11: the contracts as the laws meet them (gen/gen_head.py writes this). -/
import Derived.Test.YtmfbnajaocaikaaRGetP
namespace Go.Proofs.Ytmfbnajaocaikaa
open Go.RowKit Go.Sort Go
set_option linter.unusedVariables false
set_option linter.unusedSimpArgs false

/-- A packet's bytes, with no error. -/
def PkYes (bs : List UInt8) (w : World) (e : Ending) (w' : World) : Prop :=
  ∃ (A : Option Addr) (n cap : Nat), e = .returned (.tuple #[.slice A n cap, .int .i64 0]) ∧ n ≤ cap ∧ cap ≤ 9223372036854775807 ∧ Row8 w'.heap.size w' A n bs ∧ Below w.heap.size w w'
/-- Nothing, with ErrArg. -/
def PkNo (w : World) (e : Ending) (w' : World) : Prop :=
  ∃ (A : Option Addr) (n cap : Nat), e = .returned (.tuple #[.slice A n cap, .int .i64 1]) ∧ n ≤ cap ∧ cap ≤ 9223372036854775807 ∧ Row8 w'.heap.size w' A n [] ∧ Below w.heap.size w w'
theorem PutIs.yes {ok : Prop} [Decidable ok] {bs : List UInt8} {w : World} {e : Ending} {w' : World} (h : PutIs ok bs w e w') (k : ok) : PkYes bs w e w' := by
  obtain ⟨A, n, cap, h1, h2, h3, h4, h5, h6⟩ := h
  rw [if_pos k] at h1 h5
  exact ⟨A, n, cap, h1, h2, h3, h5, h6⟩
theorem PutIs.no {ok : Prop} [Decidable ok] {bs : List UInt8} {w : World} {e : Ending} {w' : World} (h : PutIs ok bs w e w') (k : ¬ ok) : PkNo w e w' := by
  obtain ⟨A, n, cap, h1, h2, h3, h4, h5, h6⟩ := h
  rw [if_neg k] at h1 h5
  exact ⟨A, n, cap, h1, h2, h3, h5, h6⟩
theorem pk_len {k : UInt8} {l : List Int} (h : AllI l) (hl : l.length ≤ 1000) : (pkB k l).length ≤ 10003 := by
  have := listB_len h hl
  unfold pkB
  rw [List.length_cons]; omega
theorem Pkt.putq_yes (G : Pkt) {q : Rq} (h : q.Ok) (hi : q.In) (w : World) : Calls Try.prog 11 #[rqV q] w (PkYes (pkB 1 q.ints) w) := (G.putq q hi w).mono fun e w' k => k.yes h
theorem Pkt.putq_no (G : Pkt) {q : Rq} (h : ¬ q.Ok) (hi : q.In) (w : World) : Calls Try.prog 11 #[rqV q] w (PkNo w) := (G.putq q hi w).mono fun e w' k => k.no h
theorem rputq_yes {q : Rq} (h : q.Ok) (hi : q.In) (w : World) : Calls Try.prog 12 #[rqV q] w (PkYes (pkB 1 q.ints) w) := (rputq_any q hi w).mono fun e w' k => k.yes h
theorem rputq_no {q : Rq} (h : ¬ q.Ok) (hi : q.In) (w : World) : Calls Try.prog 12 #[rqV q] w (PkNo w) := (rputq_any q hi w).mono fun e w' k => k.no h
theorem Pkt.getq_yes (G : Pkt) {bs : List UInt8} {q : Rq} (h : getQ bs = some q) (hb : bs.length ≤ 100000) (A : Option Addr) (n cap : Nat) (w : World) (hc : n ≤ cap) (hm : cap ≤ 9223372036854775807) (hr : Row8 w.heap.size w A n bs) :
    Calls Try.prog 14 #[.slice A n cap] w (Gives (.tuple #[rqV q, .int .i64 0]) w) := by
  have k := G.getq A n cap bs (by have := hr.1; omega) hc hm w hr
  rw [h] at k
  exact k
theorem Pkt.getq_no (G : Pkt) {bs : List UInt8} (h : getQ bs = none) (hb : bs.length ≤ 100000) (A : Option Addr) (n cap : Nat) (w : World) (hc : n ≤ cap) (hm : cap ≤ 9223372036854775807) (hr : Row8 w.heap.size w A n bs) :
    Calls Try.prog 14 #[.slice A n cap] w (Gives (.tuple #[rqV Rq.nil, .int .i64 7]) w) := by
  have k := G.getq A n cap bs (by have := hr.1; omega) hc hm w hr
  rw [h] at k
  exact k
theorem Pkt.putp_yes (G : Pkt) {q : Rp} (h : q.Ok) (hi : q.In) (w : World) : Calls Try.prog 16 #[rpV q] w (PkYes (pkB 2 q.ints) w) := (G.putp q hi w).mono fun e w' k => k.yes h
theorem Pkt.putp_no (G : Pkt) {q : Rp} (h : ¬ q.Ok) (hi : q.In) (w : World) : Calls Try.prog 16 #[rpV q] w (PkNo w) := (G.putp q hi w).mono fun e w' k => k.no h
theorem rputp_yes {q : Rp} (h : q.Ok) (hi : q.In) (w : World) : Calls Try.prog 17 #[rpV q] w (PkYes (pkB 2 q.ints) w) := (rputp_any q hi w).mono fun e w' k => k.yes h
theorem rputp_no {q : Rp} (h : ¬ q.Ok) (hi : q.In) (w : World) : Calls Try.prog 17 #[rpV q] w (PkNo w) := (rputp_any q hi w).mono fun e w' k => k.no h
theorem Pkt.getp_yes (G : Pkt) {bs : List UInt8} {q : Rp} (h : getP bs = some q) (hb : bs.length ≤ 100000) (A : Option Addr) (n cap : Nat) (w : World) (hc : n ≤ cap) (hm : cap ≤ 9223372036854775807) (hr : Row8 w.heap.size w A n bs) :
    Calls Try.prog 18 #[.slice A n cap] w (Gives (.tuple #[rpV q, .int .i64 0]) w) := by
  have k := G.getp A n cap bs (by have := hr.1; omega) hc hm w hr
  rw [h] at k
  exact k
theorem Pkt.getp_no (G : Pkt) {bs : List UInt8} (h : getP bs = none) (hb : bs.length ≤ 100000) (A : Option Addr) (n cap : Nat) (w : World) (hc : n ≤ cap) (hm : cap ≤ 9223372036854775807) (hr : Row8 w.heap.size w A n bs) :
    Calls Try.prog 18 #[.slice A n cap] w (Gives (.tuple #[rpV Rp.nil, .int .i64 7]) w) := by
  have k := G.getp A n cap bs (by have := hr.1; omega) hc hm w hr
  rw [h] at k
  exact k
theorem get_kinds {bs : List UInt8} : getQ bs = none ∨ getP bs = none := by
  match bs with
  | [] => exact .inl rfl
  | c :: b =>
    rw [getQ_at, getP_at]
    by_cases h : c = 1
    · subst h; exact .inr (if_neg (by decide))
    · exact .inl (if_neg h)
theorem same_c {xs ys : List UInt8} {b : Bool} (hb : decide (xs = ys) = b) (A A' : Option Addr) (len len' cap cap' : Nat) (w : World) (hr : Row8 w.heap.size w A len xs) (hr' : Row8 w.heap.size w A' len' ys) (h1 : xs.length ≤ 100000) (h2 : ys.length ≤ 100000) :
    Calls Try.prog 13 #[.slice A len cap, .slice A' len' cap'] w (Gives (.bool b) w) := by
  have := hr.1
  have := hr'.1
  refine (rsame_any A A' len len' cap cap' xs ys w hr hr' (by omega) (by omega)).mono ?_
  rintro e w' ⟨rfl, d⟩
  exact ⟨by rw [hb], d.below _⟩
end Go.Proofs.Ytmfbnajaocaikaa
