/- Layer 10: delays, links, what package link's functions are to return, as plain functions and as one bundle: the laws are walked over it. -/
import Derived.Test.YtkeahbdeddjoeaaBase
namespace Go.Proofs.Ytkeahbdeddjoeaa
open Go.RowKit Go
set_option linter.unusedVariables false
set_option linter.unusedSimpArgs false

def TimeOk (n : Int) : Prop := 0 ≤ n ∧ n ≤ 3000000000000000
def IvOk (l h : Int) : Prop := 0 ≤ l ∧ l ≤ h ∧ h ≤ 3000000000000000
def DelOk (l h : Int) : Prop := 0 ≤ l ∧ l ≤ h ∧ h ≤ 1000000
instance (n : Int) : Decidable (TimeOk n) := by unfold TimeOk; infer_instance
instance (l h : Int) : Decidable (IvOk l h) := by unfold IvOk; infer_instance
instance (l h : Int) : Decidable (DelOk l h) := by unfold DelOk; infer_instance

/-- Delays, from a time on. -/
structure Ch where
  (t a b c d : Int)
instance : Inhabited Ch := ⟨⟨0, 0, 0, 0, 0⟩⟩
deriving instance DecidableEq for Ch
def Ch.nil : Ch := ⟨0, 0, 0, 0, 0⟩
def Ch.Int64 (s : Ch) : Prop := I64 s.t ∧ I64 s.a ∧ I64 s.b ∧ I64 s.c ∧ I64 s.d
def Ch.Form (s : Ch) : Prop := DelOk s.a s.b ∧ DelOk s.c s.d
instance (s : Ch) : Decidable s.Form := by unfold Ch.Form; infer_instance
def chV (s : Ch) : Value := .agg #[.int .i64 s.t, .int .i64 s.a, .int .i64 s.b, .int .i64 s.c, .int .i64 s.d]
def rgV (lo hi : Int) : Value := .agg #[.int .i64 lo, .int .i64 hi]

/-- Its five cells, from q on. -/
def ChAt (w : World) (q : Addr) (s : Ch) : Prop :=
  w.cell? q = some (.int .i64 s.t) ∧ w.cell? ⟨q.block, q.off + 1, none⟩ = some (.int .i64 s.a) ∧ w.cell? ⟨q.block, q.off + 2, none⟩ = some (.int .i64 s.b) ∧
    w.cell? ⟨q.block, q.off + 3, none⟩ = some (.int .i64 s.c) ∧ w.cell? ⟨q.block, q.off + 4, none⟩ = some (.int .i64 s.d)
theorem ChAt.below {B : Nat} {w w' : World} {q : Addr} {s : Ch} (h : ChAt w q s) (hb : Below B w w') (hq : q.block < B) : ChAt w' q s :=
  ⟨(hb.cell hq).trans h.1, (hb.cell (p := ⟨q.block, q.off + 1, none⟩) hq).trans h.2.1, (hb.cell (p := ⟨q.block, q.off + 2, none⟩) hq).trans h.2.2.1,
    (hb.cell (p := ⟨q.block, q.off + 3, none⟩) hq).trans h.2.2.2.1, (hb.cell (p := ⟨q.block, q.off + 4, none⟩) hq).trans h.2.2.2.2⟩
/-- A slice holds these delays. -/
def RowC (B : Nat) (w : World) (A : Option Addr) (len : Nat) (l : List Ch) : Prop :=
  l.length = len ∧ (0 < len → ∃ p : Addr, A = some p ∧ p.block < B ∧ ∀ i, i < len → ChAt w (p.add (i * 5)) (l.getD i Ch.nil)) ∧ ∀ s ∈ l, s.Int64
theorem RowC.step {w w' : World} {A : Option Addr} {len : Nat} {l : List Ch} (h : RowC w.heap.size w A len l) (b : Below w.heap.size w w') : RowC w'.heap.size w' A len l :=
  ⟨h.1, fun hn => by
    obtain ⟨p, e, hp, hc⟩ := h.2.1 hn
    exact ⟨p, e, Nat.lt_of_lt_of_le hp b.size, fun i hi => (hc i hi).below b (by rw [block_of_add]; exact hp)⟩, h.2.2⟩
theorem RowC.at_ {B : Nat} {w : World} {A : Option Addr} {len : Nat} {l : List Ch} (h : RowC B w A len l) (k : Nat) (hk : k < len) :
    ∃ p, A = some p ∧ p.block < B ∧ ChAt w (p.add (k * 5)) (l.getD k Ch.nil) ∧ (l.getD k Ch.nil).Int64 := by
  obtain ⟨p, e, hp, hc⟩ := h.2.1 (by omega)
  have hz := h.1
  have hm : l.getD k Ch.nil ∈ l := by
    have : k < l.length := by omega
    simp [List.getD, this]
  exact ⟨p, e, hp, hc k hk, h.2.2 _ hm⟩

/-- The delay at the place k of a link is right. -/
def ElOk (l : List Ch) (k : Nat) : Prop := (l.getD k Ch.nil).Form ∧ (if k = 0 then (l.getD k Ch.nil).t = 0 else (l.getD (k - 1) Ch.nil).t < (l.getD k Ch.nil).t) ∧ (l.getD k Ch.nil).t ≤ 3000000000000000
def LkOk (l : List Ch) : Prop := 1 ≤ l.length ∧ l.length ≤ 20 ∧ ∀ k, k < l.length → ElOk l k
instance (l : List Ch) (k : Nat) : Decidable (ElOk l k) := by unfold ElOk; infer_instance
instance (l : List Ch) : Decidable (LkOk l) := by unfold LkOk; infer_instance

def inR (t : Int) : Ch → List Ch → Ch
  | o, [] => o
  | o, x :: r => inR t (if x.t ≤ t then x else o) r
/-- The delays in force at a time. -/
def forceR (l : List Ch) (t : Int) : Ch := inR t (l.getD 0 Ch.nil) l
def joinR (o x : Ch) : Ch := ⟨o.t, min o.a x.a, max o.b x.b, min o.c x.c, max o.d x.d⟩
def foldR (lo hi : Int) : Ch → List Ch → Ch
  | o, [] => o
  | o, x :: r => foldR lo hi (if lo < x.t ∧ x.t ≤ hi then joinR o x else o) r
def boundsR (l : List Ch) (lo hi : Int) : Ch × Int :=
  if LkOk l ∧ IvOk lo hi then (foldR lo hi { forceR l lo with t := lo } l, 0) else (Ch.nil, 1)

def sentR (s : Ch) (lo hi : Int) : Int × Int × Int :=
  if s.Form ∧ IvOk lo hi then (if hi - s.a < 0 then (0, 0, 22) else (max 0 (lo - s.b), hi - s.a, 0)) else (0, 0, 1)
def gotR (s : Ch) (lo hi : Int) : Int × Int × Int :=
  if s.Form ∧ IvOk lo hi then (if 3000000000000000 < hi + s.d then (0, 0, 3) else (lo + s.c, hi + s.d, 0)) else (0, 0, 1)
def roundR (s : Ch) (lo hi x y : Int) : Int × Int × Int :=
  if s.Form ∧ IvOk lo hi ∧ IvOk x y then
    (if min s.b (y - s.c) < max s.a (x - s.d) ∨ hi - max s.a (x - s.d) < 0 then (0, 0, 22) else (max 0 (lo - min s.b (y - s.c)), hi - max s.a (x - s.d), 0))
  else (0, 0, 1)

structure Lnk : Prop where
  valid : ∀ (A : Option Addr) (len cap : Nat) (l : List Ch) (q : Bool), (q = true ↔ LkOk l) → ∀ w, RowC w.heap.size w A len l → len ≤ cap → cap ≤ 9223372036854775807 →
    Calls Try.prog 13 #[.slice A len cap] w (Gives (.bool q) w)
  bounds : ∀ (A : Option Addr) (len cap : Nat) (l : List Ch) (lo hi : Int), I64 lo → I64 hi → ∀ w, RowC w.heap.size w A len l → len ≤ cap → cap ≤ 9223372036854775807 →
    Calls Try.prog 11 #[.slice A len cap, rgV lo hi] w (Gives (.tuple #[chV (boundsR l lo hi).1, .int .i64 (boundsR l lo hi).2]) w)
  sent : ∀ (s : Ch) (lo hi : Int), s.Int64 → I64 lo → I64 hi → ∀ w, Calls Try.prog 15 #[chV s, rgV lo hi] w (Gives (.tuple #[rgV (sentR s lo hi).1 (sentR s lo hi).2.1, .int .i64 (sentR s lo hi).2.2]) w)
  got : ∀ (s : Ch) (lo hi : Int), s.Int64 → I64 lo → I64 hi → ∀ w, Calls Try.prog 17 #[chV s, rgV lo hi] w (Gives (.tuple #[rgV (gotR s lo hi).1 (gotR s lo hi).2.1, .int .i64 (gotR s lo hi).2.2]) w)
  round : ∀ (s : Ch) (lo hi x y : Int), s.Int64 → I64 lo → I64 hi → I64 x → I64 y → ∀ w, Calls Try.prog 19 #[chV s, rgV lo hi, rgV x y] w
    (Gives (.tuple #[rgV (roundR s lo hi x y).1 (roundR s lo hi x y).2.1, .int .i64 (roundR s lo hi x y).2.2]) w)
end Go.Proofs.Ytkeahbdeddjoeaa
