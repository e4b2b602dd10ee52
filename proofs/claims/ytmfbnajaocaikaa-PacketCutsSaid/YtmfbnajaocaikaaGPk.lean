/- Layer 11: package packet's four functions over the landed code, and the bundle (gen/gen_prog.py writes this). -/
import Derived.Test.YtmfbnajaocaikaaGPut2
import Derived.Test.YtmfbnajaocaikaaGGq
import Derived.Test.YtmfbnajaocaikaaGGp
import Derived.Test.YtmfbnajaocaikaaLaws
namespace Go.Proofs.Ytmfbnajaocaikaa
open Go.RowKit Go.Sort Go
set_option linter.unusedVariables false
set_option linter.unusedSimpArgs false

set_option maxRecDepth 100000 in
set_option maxHeartbeats 8000000 in
theorem ggetq_bad (A : Option Addr) (m cap : Nat) (w : World) (h : ∀ W gr gh, Below w.heap.size w W → Calls Try.prog 28 #[.int .u8 1, .slice A m cap, .agg #[.pointer (some ⟨gr, 0, none⟩), .pointer (some ⟨gr, 1, none⟩), .pointer (some ⟨gr, 2, none⟩), .pointer (some ⟨gh, 0, none⟩), .pointer (some ⟨gh, 1, none⟩)], .func (.func 29) #[.pointer (some ⟨gh, 0, none⟩)] #[]] W (Gives (.tuple #[.int .u64 0, .bool false]) W)) :
    Calls Try.prog 14 #[.slice A m cap] w (Gives (.tuple #[rqV Rq.nil, .int .i64 7]) w) :=
  ggetq_off A m cap 0 0 0 0 w (Lib.hid fun W gr gh hb hne hR hH => (h W gr gh hb).mono (fun e w' k => ⟨k.1, Keep2.of_below k.2, ⟨_, hR.below k.2 hR.lt, rfl⟩, _, hH.below k.2 hH.lt⟩))
theorem ggetq_any (A : Option Addr) (n cap : Nat) (bs : List UInt8) (hn : n ≤ 100000) (hc : n ≤ cap) (hm : cap ≤ 9223372036854775807) (w : World) (hr : Row8 w.heap.size w A n bs) :
    Calls Try.prog 14 #[.slice A n cap] w (Gives (.tuple #[rqV ((getQ bs).getD Rq.nil), .int .i64 (if (getQ bs).isSome then 0 else 7)]) w) := by
  match bs, hr with
  | [], hr =>
    obtain rfl : n = 0 := by simpa using hr.1.symm
    exact ggetq_bad A 0 cap w (fun W gr gh hb => gread5_short gr gh A cap W)
  | c :: b, hr =>
    obtain ⟨m, rfl⟩ : ∃ m, n = m + 1 := ⟨b.length, by simpa using hr.1.symm⟩
    obtain ⟨p, rfl, hp, -⟩ := hr.2 (by omega)
    have HX : ∀ V, Below w.heap.size w V → Hid (∀ W, Below V.heap.size V W → W.cell? p = some (.int .u8 ((c.toNat : Nat) : Int))) := fun V hv W hb => by
      obtain ⟨p', e, -, hx⟩ := (hr.step (below_more hv hb)).2 (by omega)
      obtain rfl := Option.some.inj e
      have x0 := hx 0 (by omega)
      rw [addr_add0] at x0
      exact x0
    rw [getQ_at]
    by_cases h1 : c = 1
    · subst h1
      rw [if_pos rfl]
      have hbm : b.length = m := by simpa using hr.1
      have RG : ∀ V, Below w.heap.size w V → ∀ (q : Addr) (capx : Nat), m ≤ capx → (q = p.add 1 ∨ m = 0) → Hid (∀ W, Below V.heap.size V W → Calls Try.prog 44 #[.slice (some q) m capx] W (GetEnd (getR b) W)) := fun V hv q capx hcx hq W hb => by
        have k := RowV.cut (q := q) (k := m) (at_ := 1) (hr.step (below_more hv hb)) (by omega) hq
        rw [show ((1 :: b : List UInt8).drop 1).take m = b by rw [List.drop_succ_cons, List.drop_zero, ← hbm, List.take_length]] at k
        exact get_any (some q) m capx b W k (by omega) hcx
      cases hg : getR b with
      | none =>
        rw [hg] at RG
        by_cases cc : cap = 1
        · subst cc
          obtain rfl : m = 0 := by omega
          exact ggetq_bad _ _ _ w (fun W gr gh hb => gread5_none1 gr gh p W (HX W hb) (RG W hb p 0 (Nat.le_refl _) (.inr rfl)))
        · exact ggetq_bad _ _ _ w (fun W gr gh hb => gread5_none gr gh p m cap W hc (by omega) hm (HX W hb) (RG W hb ⟨p.block, p.off + 1, none⟩ (cap - 1) (by omega) (.inl (addr_add1 p))))
      | some l =>
        have hcap : 1 < cap := by
          cases b with
          | nil => exact absurd (hg.symm.trans (show getR [] = none from rfl)) (by simp)
          | cons x y => simp at hbm; omega
        obtain ⟨hl1, hl2⟩ := getR_in hg
        rw [hg] at RG
        have RG1 := fun W (hb : Below w.heap.size w W) => RG W hb ⟨p.block, p.off + 1, none⟩ (cap - 1) (by omega) (.inl (addr_add1 p))
        show Calls _ _ _ w (Gives (.tuple #[rqV ((ofQ l).getD Rq.nil), .int .i64 (if (ofQ l).isSome then 0 else 7)]) w)
        by_cases h5 : l.length = 5
        · match l, h5 with
          | [h, a, r, u, v], _ =>
            rw [ofQ_at]
            by_cases hu : Half u
            · by_cases hv : Half v
              · obtain ⟨n, hn2⟩ : ∃ n, u * 4294967296 + v = n := ⟨_, rfl⟩
                rw [hn2]
                by_cases hq : RqOk h a r
                · rw [if_pos ⟨hu, hv, hq⟩]
                  exact ggetq_good _ _ _ h a r n w (Lib.hid (fun W gr gh hb hne hR hH => (gread5_yes gr gh p m cap h a r u v W hc hcap hm (HX W hb) (RG1 W hb) hR hH hne hu hv n hn2).mono (fun e w' k => ⟨k.1, k.2.1, ⟨_, k.2.2.1, rfl⟩, _, k.2.2.2⟩))) (Lib.hid (gvreq_any ⟨h, a, r, n⟩ true (by simp [Rq.Ok, hq])))
                · rw [if_neg (fun z => hq z.2.2)]
                  exact ggetq_no _ _ _ h a r n w (Lib.hid (fun W gr gh hb hne hR hH => (gread5_yes gr gh p m cap h a r u v W hc hcap hm (HX W hb) (RG1 W hb) hR hH hne hu hv n hn2).mono (fun e w' k => ⟨k.1, k.2.1, ⟨_, k.2.2.1, rfl⟩, _, k.2.2.2⟩))) (Lib.hid (gvreq_any ⟨h, a, r, n⟩ false (by simp [Rq.Ok, hq])))
              · rw [if_neg (fun z => hv z.2.1)]
                exact ggetq_off _ _ _ h a r 0 w (Lib.hid (fun W gr gh hb hne hR hH => (gread5_v gr gh p m cap h a r u v W hc hcap hm (HX W hb) (RG1 W hb) hR hH hne hu hv).mono (fun e w' k => ⟨k.1, k.2.1, ⟨_, k.2.2.1, rfl⟩, _, k.2.2.2⟩)))
            · rw [if_neg (fun z => hu z.1)]
              exact ggetq_off _ _ _ h a r 0 w (Lib.hid (fun W gr gh hb hne hR hH => (gread5_u gr gh p m cap h a r u v W hc hcap hm (HX W hb) (RG1 W hb) hR hH hne hu).mono (fun e w' k => ⟨k.1, k.2.1, ⟨_, k.2.2.1, rfl⟩, _, k.2.2.2⟩)))
        · rw [ofQ_len h5]
          exact ggetq_bad _ _ _ w (fun W gr gh hb => gread5_len gr gh p m cap l h5 hl2 W hc hcap hm (HX W hb) (RG1 W hb))
    · rw [if_neg h1]
      have hlt := c.toNat_lt
      exact ggetq_bad _ _ _ w (fun W gr gh hb => gread5_kind gr gh p m cap (c.toNat : Nat) W hc hm (by omega) (by omega) (fun z => h1 (UInt8.toNat_inj.1 (by simpa using (by omega : c.toNat = 1)))) (HX W hb))
set_option maxRecDepth 100000 in
set_option maxHeartbeats 8000000 in
theorem ggetp_bad (A : Option Addr) (m cap : Nat) (w : World) (h : ∀ W gr gh, Below w.heap.size w W → Calls Try.prog 36 #[.int .u8 2, .slice A m cap, .agg #[.pointer (some ⟨gr, 0, none⟩), .pointer (some ⟨gr, 1, none⟩), .pointer (some ⟨gr, 2, none⟩), .pointer (some ⟨gh, 0, none⟩), .pointer (some ⟨gh, 1, none⟩), .pointer (some ⟨gr, 4, none⟩), .pointer (some ⟨gr, 5, none⟩), .pointer (some ⟨gr, 6, none⟩), .pointer (some ⟨gr, 7, none⟩), .pointer (some ⟨gr, 8, none⟩), .pointer (some ⟨gr, 9, none⟩)], .func (.func 29) #[.pointer (some ⟨gh, 0, none⟩)] #[]] W (Gives (.tuple #[.int .u64 0, .bool false]) W)) :
    Calls Try.prog 18 #[.slice A m cap] w (Gives (.tuple #[rpV Rp.nil, .int .i64 7]) w) :=
  ggetp_off A m cap 0 0 0 0 0 0 0 0 0 0 w (Lib.hid fun W gr gh hb hne hR hH => (h W gr gh hb).mono (fun e w' k => ⟨k.1, Keep2.of_below k.2, ⟨_, hR.below k.2 hR.lt, rfl⟩, _, hH.below k.2 hH.lt⟩))
theorem ggetp_any (A : Option Addr) (n cap : Nat) (bs : List UInt8) (hn : n ≤ 100000) (hc : n ≤ cap) (hm : cap ≤ 9223372036854775807) (w : World) (hr : Row8 w.heap.size w A n bs) :
    Calls Try.prog 18 #[.slice A n cap] w (Gives (.tuple #[rpV ((getP bs).getD Rp.nil), .int .i64 (if (getP bs).isSome then 0 else 7)]) w) := by
  match bs, hr with
  | [], hr =>
    obtain rfl : n = 0 := by simpa using hr.1.symm
    exact ggetp_bad A 0 cap w (fun W gr gh hb => gread11_short gr gh A cap W)
  | c :: b, hr =>
    obtain ⟨m, rfl⟩ : ∃ m, n = m + 1 := ⟨b.length, by simpa using hr.1.symm⟩
    obtain ⟨p, rfl, hp, -⟩ := hr.2 (by omega)
    have HX : ∀ V, Below w.heap.size w V → Hid (∀ W, Below V.heap.size V W → W.cell? p = some (.int .u8 ((c.toNat : Nat) : Int))) := fun V hv W hb => by
      obtain ⟨p', e, -, hx⟩ := (hr.step (below_more hv hb)).2 (by omega)
      obtain rfl := Option.some.inj e
      have x0 := hx 0 (by omega)
      rw [addr_add0] at x0
      exact x0
    rw [getP_at]
    by_cases h1 : c = 2
    · subst h1
      rw [if_pos rfl]
      have hbm : b.length = m := by simpa using hr.1
      have RG : ∀ V, Below w.heap.size w V → ∀ (q : Addr) (capx : Nat), m ≤ capx → (q = p.add 1 ∨ m = 0) → Hid (∀ W, Below V.heap.size V W → Calls Try.prog 44 #[.slice (some q) m capx] W (GetEnd (getR b) W)) := fun V hv q capx hcx hq W hb => by
        have k := RowV.cut (q := q) (k := m) (at_ := 1) (hr.step (below_more hv hb)) (by omega) hq
        rw [show ((2 :: b : List UInt8).drop 1).take m = b by rw [List.drop_succ_cons, List.drop_zero, ← hbm, List.take_length]] at k
        exact get_any (some q) m capx b W k (by omega) hcx
      cases hg : getR b with
      | none =>
        rw [hg] at RG
        by_cases cc : cap = 1
        · subst cc
          obtain rfl : m = 0 := by omega
          exact ggetp_bad _ _ _ w (fun W gr gh hb => gread11_none1 gr gh p W (HX W hb) (RG W hb p 0 (Nat.le_refl _) (.inr rfl)))
        · exact ggetp_bad _ _ _ w (fun W gr gh hb => gread11_none gr gh p m cap W hc (by omega) hm (HX W hb) (RG W hb ⟨p.block, p.off + 1, none⟩ (cap - 1) (by omega) (.inl (addr_add1 p))))
      | some l =>
        have hcap : 1 < cap := by
          cases b with
          | nil => exact absurd (hg.symm.trans (show getR [] = none from rfl)) (by simp)
          | cons x y => simp at hbm; omega
        obtain ⟨hl1, hl2⟩ := getR_in hg
        rw [hg] at RG
        have RG1 := fun W (hb : Below w.heap.size w W) => RG W hb ⟨p.block, p.off + 1, none⟩ (cap - 1) (by omega) (.inl (addr_add1 p))
        show Calls _ _ _ w (Gives (.tuple #[rpV ((ofP l).getD Rp.nil), .int .i64 (if (ofP l).isSome then 0 else 7)]) w)
        by_cases h5 : l.length = 11
        · match l, h5 with
          | [a, h, r, u, v, l, g, k, t, c, s], _ =>
            rw [ofP_at]
            by_cases hu : Half u
            · by_cases hv : Half v
              · obtain ⟨n, hn2⟩ : ∃ n, u * 4294967296 + v = n := ⟨_, rfl⟩
                rw [hn2]
                by_cases hq : (Rp.mk a h r n l g k t c s).Ok
                · rw [if_pos ⟨hu, hv, hq⟩]
                  exact ggetp_good _ _ _ a h r n l g k t c s w (Lib.hid (fun W gr gh hb hne hR hH => (gread11_yes gr gh p m cap a h r u v l g k t c s W hc hcap hm (HX W hb) (RG1 W hb) hR hH hne hu hv n hn2).mono (fun e w' k => ⟨k.1, k.2.1, ⟨_, k.2.2.1, rfl⟩, _, k.2.2.2⟩))) (Lib.hid (gvrep_any ⟨a, h, r, n, l, g, k, t, c, s⟩ true (by simp [hq])))
                · rw [if_neg (fun z => hq z.2.2)]
                  exact ggetp_no _ _ _ a h r n l g k t c s w (Lib.hid (fun W gr gh hb hne hR hH => (gread11_yes gr gh p m cap a h r u v l g k t c s W hc hcap hm (HX W hb) (RG1 W hb) hR hH hne hu hv n hn2).mono (fun e w' k => ⟨k.1, k.2.1, ⟨_, k.2.2.1, rfl⟩, _, k.2.2.2⟩))) (Lib.hid (gvrep_any ⟨a, h, r, n, l, g, k, t, c, s⟩ false (by simp [hq])))
              · rw [if_neg (fun z => hv z.2.1)]
                exact ggetp_off _ _ _ a h r 0 l g k t c s w (Lib.hid (fun W gr gh hb hne hR hH => (gread11_v gr gh p m cap a h r u v l g k t c s W hc hcap hm (HX W hb) (RG1 W hb) hR hH hne hu hv).mono (fun e w' k => ⟨k.1, k.2.1, ⟨_, k.2.2.1, rfl⟩, _, k.2.2.2⟩)))
            · rw [if_neg (fun z => hu z.1)]
              exact ggetp_off _ _ _ a h r 0 l g k t c s w (Lib.hid (fun W gr gh hb hne hR hH => (gread11_u gr gh p m cap a h r u v l g k t c s W hc hcap hm (HX W hb) (RG1 W hb) hR hH hne hu).mono (fun e w' k => ⟨k.1, k.2.1, ⟨_, k.2.2.1, rfl⟩, _, k.2.2.2⟩)))
        · rw [ofP_len h5]
          exact ggetp_bad _ _ _ w (fun W gr gh hb => gread11_len gr gh p m cap l h5 hl2 W hc hcap hm (HX W hb) (RG1 W hb))
    · rw [if_neg h1]
      have hlt := c.toNat_lt
      exact ggetp_bad _ _ _ w (fun W gr gh hb => gread11_kind gr gh p m cap (c.toNat : Nat) W hc hm (by omega) (by omega) (fun z => h1 (UInt8.toNat_inj.1 (by simpa using (by omega : c.toNat = 2)))) (HX W hb))
/-- Package packet's four functions return what the document says. -/
theorem pkt : Pkt where
  putq := gputq_any
  getq := fun A n cap bs hn hc hm w hr => ggetq_any A n cap bs hn hc hm w hr
  putp := gputp_any
  getp := fun A n cap bs hn hc hm w hr => ggetp_any A n cap bs hn hc hm w hr
end Go.Proofs.Ytmfbnajaocaikaa
