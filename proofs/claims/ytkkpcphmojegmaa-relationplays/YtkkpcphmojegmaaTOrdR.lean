/-
  Plain facts on rows: it is one order. No Go text.
-/
import Derived.Test.YtkkpcphmojegmaaTCmp
namespace Go.Proofs.Ytkkpcphmojegmaa
set_option linter.unusedSimpArgs false
set_option linter.unusedVariables false
set_option linter.unusedSectionVars false
set_option maxRecDepth 100000
variable [DecidableEq V]

theorem V.cmp_bd (a b : V) : -1 ≤ a.cmp b ∧ a.cmp b ≤ 1 := vcmp_bd _ _ _ _ _ _
theorem V.cmp_swap (a b : V) : b.cmp a = -a.cmp b := vcmp_swap _ _ _ _ _ _
theorem V.cmp_self (a : V) : a.cmp a = 0 := vcmp_self _ _ _
theorem V.cmp_le_trans {a b c : V} (h1 : a.cmp b ≤ 0) (h2 : b.cmp c ≤ 0) : a.cmp c ≤ 0 := vcmp_le_trans _ _ _ _ _ _ _ _ _ h1 h2
theorem V.cmp_lt_trans {a b c : V} (h1 : a.cmp b < 0) (h2 : b.cmp c < 0) : a.cmp c < 0 := vcmp_lt_trans _ _ _ _ _ _ _ _ _ h1 h2
theorem V.cmp_congr {a b : V} (c : V) (h : a.cmp b = 0) : b.cmp c = a.cmp c := vcmp_congr _ _ _ _ _ _ _ _ _ h
theorem V.cmp_bare {a b : V} : a.cmp b = 0 ↔ a.bare = b.bare := by
  obtain ⟨uk, us, un⟩ := a
  obtain ⟨vk, vs, vn⟩ := b
  rw [V.cmp, vcmp_eq]
  cases uk <;> cases vk
  · simp [V.bare, bareS, bareN]
  · simp [V.bare]
  · simp [V.bare]
  · simp [V.bare, bareS, bareN]
    exact ⟨fun h => by
      have e2 : us.data = vs.data := by cases hu : us.data; cases hv : vs.data; simp_all
      cases us; cases vs; simp_all, fun h => by rw [h]⟩

theorem rcmp_bd (a b : List V) : -1 ≤ rcmp a b ∧ rcmp a b ≤ 1 := by
  induction a generalizing b with
  | nil => cases b <;> simp [rcmp]
  | cons x a ih =>
    cases b with
    | nil => simp [rcmp]
    | cons y b => rw [rcmp]; split; exact ih b; exact V.cmp_bd x y
theorem rcmp_swap (a b : List V) : rcmp b a = -rcmp a b := by
  induction a generalizing b with
  | nil => cases b <;> simp [rcmp]
  | cons x a ih =>
    cases b with
    | nil => simp [rcmp]
    | cons y b =>
      have := V.cmp_swap x y
      rw [rcmp, rcmp]
      by_cases h : x.cmp y = 0
      · rw [if_pos h, if_pos (by omega), ih]
      · rw [if_neg h, if_neg (by omega), this]
theorem rcmp_self (a : List V) : rcmp a a = 0 := by
  induction a with
  | nil => rfl
  | cons x a ih => rw [rcmp, if_pos (V.cmp_self x), ih]
theorem rcmp_bare {a b : List V} : rcmp a b = 0 ↔ a.map V.bare = b.map V.bare := by
  induction a generalizing b with
  | nil => cases b <;> simp [rcmp]
  | cons x a ih =>
    cases b with
    | nil => simp [rcmp]
    | cons y b =>
      rw [rcmp]
      by_cases h : x.cmp y = 0
      · rw [if_pos h, ih]; simp [V.cmp_bare.1 h]
      · rw [if_neg h]
        have : x.bare ≠ y.bare := fun e => h (V.cmp_bare.2 e)
        simp [h, this]
theorem rcmp_le_trans {a b c : List V} (h1 : rcmp a b ≤ 0) (h2 : rcmp b c ≤ 0) : rcmp a c ≤ 0 := by
  induction a generalizing b c with
  | nil => cases c <;> simp [rcmp]
  | cons x a ih =>
    cases b with
    | nil => simp [rcmp] at h1
    | cons y b =>
      cases c with
      | nil => simp [rcmp] at h2
      | cons z c =>
        rw [rcmp] at h1 h2 ⊢
        by_cases e1 : x.cmp y = 0
        · have hc := V.cmp_congr z e1
          rw [if_pos e1] at h1
          by_cases e2 : y.cmp z = 0
          · rw [if_pos e2] at h2; rw [if_pos (by omega)]; exact ih h1 h2
          · rw [if_neg e2] at h2; rw [if_neg (by omega)]; omega
        · rw [if_neg e1] at h1
          by_cases e2 : y.cmp z = 0
          · have h3 := V.cmp_congr x (show z.cmp y = 0 by have := V.cmp_swap y z; omega)
            have h4 := V.cmp_swap x y
            have h5 := V.cmp_swap x z
            rw [if_neg (by omega)]; omega
          · rw [if_neg e2] at h2
            have h3 := V.cmp_lt_trans (a := x) (b := y) (c := z) (by omega) (by omega)
            rw [if_neg (by omega)]; omega
theorem rcmp_congr {a b : List V} (c : List V) (h : rcmp a b = 0) : rcmp b c = rcmp a c := by
  have h1 : rcmp b a = 0 := by have := rcmp_swap a b; omega
  have t1 := fun h => rcmp_le_trans (a := a) (b := b) (c := c) (by omega) h
  have t2 := fun h => rcmp_le_trans (a := b) (b := a) (c := c) (by omega) h
  have t3 := fun h => rcmp_le_trans (a := c) (b := a) (c := b) h (by omega)
  have t4 := fun h => rcmp_le_trans (a := c) (b := b) (c := a) h (by omega)
  have s1 := rcmp_swap a c
  have s2 := rcmp_swap b c
  have b1 := rcmp_bd a c
  have b2 := rcmp_bd b c
  by_cases p1 : rcmp a c ≤ 0 <;> by_cases p2 : rcmp b c ≤ 0
  · have q1 : rcmp c a ≤ 0 ↔ rcmp c b ≤ 0 := ⟨t3, t4⟩; omega
  · exact absurd (t2 p1) p2
  · exact absurd (t1 p2) p1
  · omega
theorem rcmp_lt_trans {a b c : List V} (h1 : rcmp a b < 0) (h2 : rcmp b c < 0) : rcmp a c < 0 := by
  have h3 := rcmp_le_trans (a := a) (b := b) (c := c) (by omega) (by omega)
  by_cases e : rcmp a c = 0
  · have := rcmp_congr b (a := a) (b := c) e
    have := rcmp_swap b c
    omega
  · omega

/-- Rows that begin alike. -/
theorem rcmp_join (a b c : List V) : rcmp (a ++ b) (a ++ c) = rcmp b c := by
  induction a with
  | nil => rfl
  | cons x a ih => simp only [List.cons_append, rcmp, V.cmp_self, if_true, ih]
theorem rcmp_less (a b : List V) (h : b ≠ []) : rcmp a (a ++ b) = -1 := by
  have := rcmp_join a [] b
  rw [List.append_nil] at this
  rw [this]
  cases b with
  | nil => exact absurd rfl h
  | cons y b => rfl
end Go.Proofs.Ytkkpcphmojegmaa
