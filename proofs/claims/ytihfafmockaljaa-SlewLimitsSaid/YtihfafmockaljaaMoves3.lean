/- Layer 9: SlewMoves, put together. -/
import Derived.Test.YtihfafmockaljaaMoves2
namespace Go.Proofs.Ytihfafmockaljaa
open Go.RowKit Go
set_option linter.unusedVariables false
set_option linter.unusedSimpArgs false

theorem moves_walk (G : Slw) (p s r a v m h b n : Int) (ip : I64 p) (is : I64 s) (ir : I64 r) (ia : I64 a) (iv : I64 v) (im : I64 m) (ih : I64 h) (b1 : -2147483648 ≤ b) (b2 : b ≤ 2147483647) (n1 : -2147483648 ≤ n) (n2 : n ≤ 2147483647) (w : World) :
    Calls Try.prog 7 #[clV p s r, .int .i64 a, .int .i64 v, .int .i64 m, .int .i64 h, .int .i32 b, .int .i32 n] w (Gives (.bool true) w) := by
  have HD : Hid HeadIs := head_true G
  have yes : ∀ c, Far c → Hid (FarIs c true) := fun c hc w => far_any c true ⟨fun _ => hc, fun _ => rfl⟩ w
  have no : ∀ c, ¬ Far c → Hid (FarIs c false) := fun c hc w => far_any c false ⟨fun h => (by cases h), fun h => absurd h hc⟩ w
  by_cases f1 : Far p
  · exact moves_far1 p s r a v m h b n w HD (yes p f1)
  by_cases f2 : Far s
  · exact moves_far2 p s r a v m h b n w HD (no p f1) (yes s f2)
  by_cases f3 : Far a
  · exact moves_far3 p s r a v m h b n w HD (no p f1) (no s f2) (yes a f3)
  by_cases f4 : Far v
  · exact moves_far4 p s r a v m h b n w HD (no p f1) (no s f2) (no a f3) (yes v f4)
  obtain ⟨x, y, z, e, x', y', z', f, h1, h2, h3, h4⟩ := moves_err (r := r) (m := m) (h := h) f1 f2 f3 f4 b1 b2 n1 n2
  have near : ∀ c : Int, ¬ Far c → 2000000000000 ≤ c ∧ c ≤ 2998000000000000 := by
    intro c hc
    unfold Far at hc
    omega
  have fb : ∀ c d : Int, ¬ Far c → -2147483648 ≤ d → d ≤ 2147483647 → I64 (c + d) := by
    intro c d hc d1 d2
    have := near c hc
    exact ⟨by omega, by omega⟩
  have A1 : Hid (SteerIs p s r a v m h x y z e) := fun w => by
    have := G.steer p s r a v m h ip is ir ia iv im ih w
    rwa [h1] at this
  have A2 : Hid (SteerIs (p + b) (s + n) r (a + b) (v + n) m h x' y' z' f) := fun w => by
    have := G.steer (p + b) (s + n) r (a + b) (v + n) m h (fb p b f1 b1 b2) (fb s n f2 n1 n2) ir (fb a b f3 b1 b2) (fb v n f4 n1 n2) im ih w
    rwa [h2] at this
  by_cases e0 : e = 0
  · subst e0
    by_cases f0 : f = 0
    · subst f0
      obtain ⟨rfl, rfl, rfl⟩ := h4 rfl rfl
      obtain ⟨_, rfl, _⟩ := steer_ok h1
      by_cases fy : Far y
      · exact moves_y p s r x v m h b n _ _ _ _ y z' _ w HD (no p f1) (no s f2) (no x f3) (no v f4) b1 b2 n1 n2 (near p f1) (near s f2) (near x f3) (near v f4) rfl rfl rfl rfl (yes y fy) A1 A2
      · obtain ⟨l, l1, l2⟩ := moves_left fy f3 f4 b1 b2 n1 n2 h1 h2
        refine moves_yes p s r x v m h b n _ _ _ _ y z' _ l w HD (no p f1) (no s f2) (no x f3) (no v f4) b1 b2 n1 n2 (near p f1) (near s f2) (near x f3) (near v f4) rfl rfl rfl rfl rfl (near y fy) (no y fy) (fun w => ?_) (fun w => ?_) A1 A2
        · have := G.left p s r x v m h ip is ir ia iv im ih w
          rwa [l1] at this
        · have := G.left (p + b) (s + n) r (x + b) (v + n) m h (fb p b f1 b1 b2) (fb s n f2 n1 n2) ir (fb x b f3 b1 b2) (fb v n f4 n1 n2) im ih w
          rwa [l2] at this
    · obtain rfl : f = 3 := by have := h3 (.inr f0); omega
      exact moves_e0 p s r a v m h b n _ _ _ _ x y z x' y' z' w HD (no p f1) (no s f2) (no a f3) (no v f4) b1 b2 n1 n2 (near p f1) (near s f2) (near a f3) (near v f4) rfl rfl rfl rfl A1 A2
  · by_cases q1 : e = f
    · subst q1
      exact moves_ee p s r a v m h b n _ _ _ _ x y z x' y' z' e w HD (no p f1) (no s f2) (no a f3) (no v f4) b1 b2 n1 n2 (near p f1) (near s f2) (near a f3) (near v f4) rfl rfl rfl rfl e0 A1 A2
    · by_cases q2 : e = 3
      · subst q2
        exact moves_3e p s r a v m h b n _ _ _ _ x y z x' y' z' f w HD (no p f1) (no s f2) (no a f3) (no v f4) b1 b2 n1 n2 (near p f1) (near s f2) (near a f3) (near v f4) rfl rfl rfl rfl (fun h => q1 h.symm) A1 A2
      · obtain rfl : f = 3 := by have := h3 (.inl e0); omega
        exact moves_e3 p s r a v m h b n _ _ _ _ x y z x' y' z' e w HD (no p f1) (no s f2) (no a f3) (no v f4) b1 b2 n1 n2 (near p f1) (near s f2) (near a f3) (near v f4) rfl rfl rfl rfl e0 q2 A1 A2
end Go.Proofs.Ytihfafmockaljaa
