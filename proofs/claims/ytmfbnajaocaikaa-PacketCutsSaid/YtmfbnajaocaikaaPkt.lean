/- Layer 11: requests and replies, their integers and packets, what package packet's functions are to return, as plain functions and as one bundle: the laws are walked over it. -/
import Derived.Test.YtmfbnajaocaikaaRGet
namespace Go.Proofs.Ytmfbnajaocaikaa
open Go.RowKit Go.Sort Go
set_option linter.unusedVariables false
set_option linter.unusedSimpArgs false

def rgV (lo hi : Int) : Value := .agg #[.int .i64 lo, .int .i64 hi]
def IvOk (l h : Int) : Prop := 0 ≤ l ∧ l ≤ h ∧ h ≤ 3000000000000000
instance (l h : Int) : Decidable (IvOk l h) := by unfold IvOk; infer_instance
def U64 (x : Int) : Prop := 0 ≤ x ∧ x ≤ 18446744073709551615

/-- A request; a reply. -/
structure Rq where
  (h a r n : Int)
structure Rp where
  (a h r n l u k t c s : Int)
deriving instance DecidableEq for Rq
deriving instance DecidableEq for Rp
def Rq.nil : Rq := ⟨0, 0, 0, 0⟩
def Rp.nil : Rp := ⟨0, 0, 0, 0, 0, 0, 0, 0, 0, 0⟩
def Rq.In (q : Rq) : Prop := I64 q.h ∧ I64 q.a ∧ I64 q.r ∧ U64 q.n
def Rp.In (p : Rp) : Prop := I64 p.a ∧ I64 p.h ∧ I64 p.r ∧ U64 p.n ∧ I64 p.l ∧ I64 p.u ∧ I64 p.k ∧ I64 p.t ∧ I64 p.c ∧ I64 p.s
def RqOk (h a r : Int) : Prop := (1 ≤ h ∧ h ≤ 64) ∧ (1 ≤ a ∧ a ≤ 16) ∧ (1 ≤ r ∧ r ≤ 200)
instance (h a r : Int) : Decidable (RqOk h a r) := by unfold RqOk; infer_instance
def Rq.Ok (q : Rq) : Prop := RqOk q.h q.a q.r
def Rp.Ok (p : Rp) : Prop := RqOk p.h p.a p.r ∧ IvOk p.l p.u ∧ (0 ≤ p.k ∧ p.k ≤ 1000) ∧ (0 ≤ p.t ∧ p.t ≤ 1000) ∧ (0 ≤ p.c ∧ p.c ≤ 1073741788) ∧ (0 ≤ p.s ∧ p.s ≤ 1073741788)
instance (q : Rq) : Decidable q.Ok := by unfold Rq.Ok; infer_instance
instance (p : Rp) : Decidable p.Ok := by unfold Rp.Ok; infer_instance
def rqV (q : Rq) : Value := .agg #[.int .i64 q.h, .int .i64 q.a, .int .i64 q.r, .int .u64 q.n]
def rpV (p : Rp) : Value := .agg #[.int .i64 p.a, .int .i64 p.h, .int .i64 p.r, .int .u64 p.n, .int .i64 p.l, .int .i64 p.u, .int .i64 p.k, .int .i64 p.t, .int .i64 p.c, .int .i64 p.s]
def Rq.ints (q : Rq) : List Int := [q.h, q.a, q.r, q.n / 4294967296, q.n % 4294967296]
def Rp.ints (p : Rp) : List Int := [p.a, p.h, p.r, p.n / 4294967296, p.n % 4294967296, p.l, p.u, p.k, p.t, p.c, p.s]
/-- The packet of integers. -/
def pkB (k : UInt8) (l : List Int) : List UInt8 := k :: listB l
def Half (x : Int) : Prop := 0 ≤ x ∧ x ≤ 4294967295
instance (x : Int) : Decidable (Half x) := by unfold Half; infer_instance

/-- The request, the reply, of integers; of bytes. -/
def ofQ : List Int → Option Rq
  | [h, a, r, u, v] => if Half u ∧ Half v ∧ RqOk h a r then some ⟨h, a, r, u * 4294967296 + v⟩ else none
  | _ => none
def ofP : List Int → Option Rp
  | [a, h, r, u, v, l, g, k, t, c, s] => if Half u ∧ Half v ∧ (Rp.mk a h r (u * 4294967296 + v) l g k t c s).Ok then some ⟨a, h, r, u * 4294967296 + v, l, g, k, t, c, s⟩ else none
  | _ => none
def getQ : List UInt8 → Option Rq
  | [] => none
  | c :: b => if c = 1 then (getR b).bind ofQ else none
def getP : List UInt8 → Option Rp
  | [] => none
  | c :: b => if c = 2 then (getR b).bind ofP else none

theorem ofQ_at (h a r u v : Int) : ofQ [h, a, r, u, v] = if Half u ∧ Half v ∧ RqOk h a r then some ⟨h, a, r, u * 4294967296 + v⟩ else none := rfl
theorem ofP_at (a h r u v l g k t c s : Int) : ofP [a, h, r, u, v, l, g, k, t, c, s] = if Half u ∧ Half v ∧ (Rp.mk a h r (u * 4294967296 + v) l g k t c s).Ok then some ⟨a, h, r, u * 4294967296 + v, l, g, k, t, c, s⟩ else none := rfl
theorem getQ_at (c : UInt8) (b : List UInt8) : getQ (c :: b) = if c = 1 then (getR b).bind ofQ else none := rfl
theorem getP_at (c : UInt8) (b : List UInt8) : getP (c :: b) = if c = 2 then (getR b).bind ofP else none := rfl
theorem half_parts {n : Int} (h : U64 n) : Half (n / 4294967296) ∧ Half (n % 4294967296) ∧ n / 4294967296 * 4294967296 + n % 4294967296 = n := by
  obtain ⟨h1, h2⟩ := h
  unfold Half
  omega
theorem parts_half {u v : Int} (h : Half u) (k : Half v) : U64 (u * 4294967296 + v) ∧ (u * 4294967296 + v) / 4294967296 = u ∧ (u * 4294967296 + v) % 4294967296 = v := by
  obtain ⟨h1, h2⟩ := h
  obtain ⟨k1, k2⟩ := k
  unfold U64
  omega
theorem ofQ_ints {q : Rq} (h : q.Ok) (hn : U64 q.n) : ofQ q.ints = some q := by
  obtain ⟨p1, p2, p3⟩ := half_parts hn
  unfold Rq.ints
  rw [ofQ_at, if_pos ⟨p1, p2, h⟩, p3]
theorem ofQ_some {l : List Int} {q : Rq} (h : ofQ l = some q) : l = q.ints ∧ q.Ok ∧ q.In := by
  unfold ofQ at h
  split at h
  · split at h
    · rename_i c
      obtain ⟨c1, c2, c3⟩ := c
      obtain ⟨p1, p2, p3⟩ := parts_half c1 c2
      simp only [Option.some.injEq] at h
      subst h
      refine ⟨by unfold Rq.ints; dsimp only; rw [p2, p3], c3, ?_⟩
      obtain ⟨⟨_, _⟩, ⟨_, _⟩, _, _⟩ := c3
      exact ⟨⟨by dsimp only; omega, by dsimp only; omega⟩, ⟨by dsimp only; omega, by dsimp only; omega⟩, ⟨by dsimp only; omega, by dsimp only; omega⟩, p1⟩
    · cases h
  · cases h
theorem ofP_ints {p : Rp} (h : p.Ok) (hn : U64 p.n) : ofP p.ints = some p := by
  obtain ⟨p1, p2, p3⟩ := half_parts hn
  unfold Rp.ints
  rw [ofP_at, p3, if_pos ⟨p1, p2, h⟩]
theorem ofP_some {l : List Int} {p : Rp} (h : ofP l = some p) : l = p.ints ∧ p.Ok ∧ p.In := by
  unfold ofP at h
  split at h
  · split at h
    · rename_i c
      obtain ⟨c1, c2, c3⟩ := c
      obtain ⟨p1, p2, p3⟩ := parts_half c1 c2
      simp only [Option.some.injEq] at h
      subst h
      refine ⟨by unfold Rp.ints; dsimp only; rw [p2, p3], c3, ?_⟩
      obtain ⟨⟨⟨_, _⟩, ⟨_, _⟩, _, _⟩, ⟨_, _, _⟩, ⟨_, _⟩, ⟨_, _⟩, ⟨_, _⟩, _, _⟩ := c3
      dsimp only at *
      refine ⟨⟨?_, ?_⟩, ⟨?_, ?_⟩, ⟨?_, ?_⟩, p1, ⟨?_, ?_⟩, ⟨?_, ?_⟩, ⟨?_, ?_⟩, ⟨?_, ?_⟩, ⟨?_, ?_⟩, ⟨?_, ?_⟩⟩ <;> dsimp only <;> omega
    · cases h
  · cases h
theorem ints_in {q : Rq} (h : q.In) : AllI q.ints := by
  obtain ⟨⟨_, _⟩, ⟨_, _⟩, ⟨_, _⟩, _, _⟩ := h
  intro x hx
  simp only [Rq.ints, List.mem_cons, List.not_mem_nil, or_false] at hx
  unfold InI
  omega
theorem pints_in {p : Rp} (h : p.In) : AllI p.ints := by
  obtain ⟨⟨_, _⟩, ⟨_, _⟩, ⟨_, _⟩, ⟨_, _⟩, ⟨_, _⟩, ⟨_, _⟩, ⟨_, _⟩, ⟨_, _⟩, ⟨_, _⟩, _, _⟩ := h
  intro x hx
  simp only [Rp.ints, List.mem_cons, List.not_mem_nil, or_false] at hx
  unfold InI
  omega
theorem getQ_put {q : Rq} (h : q.Ok) (hi : q.In) : getQ (pkB 1 q.ints) = some q := by
  unfold pkB
  rw [getQ_at, if_pos rfl, getR_list (ints_in hi) (by simp [Rq.ints])]
  exact ofQ_ints h hi.2.2.2
theorem getP_put {p : Rp} (h : p.Ok) (hi : p.In) : getP (pkB 2 p.ints) = some p := by
  unfold pkB
  rw [getP_at, if_pos rfl, getR_list (pints_in hi) (by simp [Rp.ints])]
  exact ofP_ints h hi.2.2.2.1
theorem getQ_some {b : List UInt8} {q : Rq} (h : getQ b = some q) : b = pkB 1 q.ints ∧ q.Ok ∧ q.In := by
  cases b with
  | nil => cases h
  | cons c b =>
    rw [getQ_at] at h
    split at h
    · rename_i hc
      subst hc
      cases hg : getR b with
      | none => rw [hg] at h; cases h
      | some l =>
        rw [hg] at h
        obtain ⟨e, h1, h2⟩ := ofQ_some (show ofQ l = some q from h)
        exact ⟨by rw [(getR_some hg).1, e]; rfl, h1, h2⟩
    · cases h
theorem getP_some {b : List UInt8} {p : Rp} (h : getP b = some p) : b = pkB 2 p.ints ∧ p.Ok ∧ p.In := by
  cases b with
  | nil => cases h
  | cons c b =>
    rw [getP_at] at h
    split at h
    · rename_i hc
      subst hc
      cases hg : getR b with
      | none => rw [hg] at h; cases h
      | some l =>
        rw [hg] at h
        obtain ⟨e, h1, h2⟩ := ofP_some (show ofP l = some p from h)
        exact ⟨by rw [(getR_some hg).1, e]; rfl, h1, h2⟩
    · cases h

/-- A packet's bytes are returned, with no error; or nothing, with ErrArg. -/
def PutIs (ok : Prop) [Decidable ok] (bs : List UInt8) (w : World) (e : Ending) (w' : World) : Prop :=
  ∃ (A : Option Addr) (n cap : Nat), e = .returned (.tuple #[.slice A n cap, .int .i64 (if ok then 0 else 1)]) ∧ n ≤ cap ∧ cap ≤ 9223372036854775807 ∧ (A = none → cap = 0) ∧ Row8 w'.heap.size w' A n (if ok then bs else []) ∧ Below w.heap.size w w'
structure Pkt : Prop where
  putq : ∀ q : Rq, q.In → ∀ w, Calls Try.prog 11 #[rqV q] w (PutIs q.Ok (pkB 1 q.ints) w)
  getq : ∀ (A : Option Addr) (n cap : Nat) (bs : List UInt8), n ≤ 100000 → n ≤ cap → cap ≤ 9223372036854775807 → ∀ w, Row8 w.heap.size w A n bs →
    Calls Try.prog 14 #[.slice A n cap] w (Gives (.tuple #[rqV ((getQ bs).getD Rq.nil), .int .i64 (if (getQ bs).isSome then 0 else 7)]) w)
  putp : ∀ p : Rp, p.In → ∀ w, Calls Try.prog 16 #[rpV p] w (PutIs p.Ok (pkB 2 p.ints) w)
  getp : ∀ (A : Option Addr) (n cap : Nat) (bs : List UInt8), n ≤ 100000 → n ≤ cap → cap ≤ 9223372036854775807 → ∀ w, Row8 w.heap.size w A n bs →
    Calls Try.prog 18 #[.slice A n cap] w (Gives (.tuple #[rpV ((getP bs).getD Rp.nil), .int .i64 (if (getP bs).isSome then 0 else 7)]) w)
end Go.Proofs.Ytmfbnajaocaikaa
