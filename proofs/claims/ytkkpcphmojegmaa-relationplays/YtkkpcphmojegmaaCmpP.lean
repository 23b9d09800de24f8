/-
  Plain facts on the order of values: it is one order. No Go text.
-/
import Derived.Test.YtkkpcphmojegmaaCmp
namespace Go.Proofs.Ytkkpcphmojegmaa
set_option linter.unusedSimpArgs false
set_option linter.unusedVariables false
set_option linter.unusedSectionVars false
set_option maxRecDepth 100000

theorem icmp_bd (x y : Int) : -1 ≤ icmp x y ∧ icmp x y ≤ 1 := by unfold icmp; split <;> (try split) <;> omega
theorem icmp_lt (x y : Int) : icmp x y < 0 ↔ x < y := by unfold icmp; split <;> (try split) <;> omega
theorem icmp_gt (x y : Int) : 0 < icmp x y ↔ y < x := by unfold icmp; split <;> (try split) <;> omega
theorem icmp_swap (x y : Int) : icmp y x = -icmp x y := by
  have a := icmp_bd x y; have b := icmp_bd y x; have c := icmp_lt x y; have d := icmp_gt x y; have e := icmp_lt y x; have f := icmp_gt y x; omega
theorem icmp_self (x : Int) : icmp x x = 0 := by simp [icmp]
theorem icmp_le_trans {x y z : Int} (h1 : icmp x y ≤ 0) (h2 : icmp y z ≤ 0) : icmp x z ≤ 0 := by
  have d := icmp_gt x y; have f := icmp_gt y z; have g := icmp_gt x z; omega
theorem icmp_lt_trans {x y z : Int} (h1 : icmp x y < 0) (h2 : icmp y z < 0) : icmp x z < 0 := by
  have d := icmp_lt x y; have f := icmp_lt y z; have g := icmp_lt x z; omega
theorem icmp_eq {x y : Int} (h : icmp x y = 0) : x = y := by
  have d := icmp_lt x y; have f := icmp_gt x y; omega

theorem cb_bd (a b : List UInt8) : -1 ≤ Lib.compareBytes a b ∧ Lib.compareBytes a b ≤ 1 := by
  induction a generalizing b with
  | nil => cases b <;> simp [Lib.compareBytes]
  | cons x a ih =>
    cases b with
    | nil => simp [Lib.compareBytes]
    | cons y b => rw [Lib.compareBytes]; split <;> (try split) <;> (first | exact ih b | simp)
theorem cb_swap (a b : List UInt8) : Lib.compareBytes b a = -Lib.compareBytes a b := by
  induction a generalizing b with
  | nil => cases b <;> simp [Lib.compareBytes]
  | cons x a ih =>
    cases b with
    | nil => simp [Lib.compareBytes]
    | cons y b =>
      rw [Lib.compareBytes, Lib.compareBytes]
      by_cases h1 : x < y
      · have h2 : ¬ y < x := fun h => absurd (UInt8.lt_trans h1 h) (UInt8.lt_irrefl _)
        simp [h1, h2]
      · by_cases h2 : y < x
        · simp [h1, h2]
        · simp [h1, h2, ih b]
theorem cb_eq (a b : List UInt8) : Lib.compareBytes a b = 0 ↔ a = b := by
  induction a generalizing b with
  | nil => cases b <;> simp [Lib.compareBytes]
  | cons x a ih =>
    cases b with
    | nil => simp [Lib.compareBytes]
    | cons y b =>
      rw [Lib.compareBytes]
      by_cases h1 : x < y
      · have : x ≠ y := fun e => UInt8.lt_irrefl _ (e ▸ h1)
        simp [h1, this]
      · by_cases h2 : y < x
        · have : x ≠ y := fun e => UInt8.lt_irrefl _ (e ▸ h2)
          simp [h1, h2, this]
        · have : x = y := UInt8.le_antisymm (UInt8.not_lt.1 h2) (UInt8.not_lt.1 h1)
          simp [h1, h2, this, ih b]
theorem cb_self (a : List UInt8) : Lib.compareBytes a a = 0 := (cb_eq a a).2 rfl
theorem cb_lt_trans {a b c : List UInt8} (h1 : Lib.compareBytes a b < 0) (h2 : Lib.compareBytes b c < 0) : Lib.compareBytes a c < 0 := by
  induction a generalizing b c with
  | nil =>
    cases c with
    | nil => cases b <;> simp [Lib.compareBytes] at h1 h2
    | cons z c => simp [Lib.compareBytes]
  | cons x a ih =>
    cases b with
    | nil => simp [Lib.compareBytes] at h1
    | cons y b =>
      cases c with
      | nil => simp [Lib.compareBytes] at h2
      | cons z c =>
        rw [Lib.compareBytes] at h1 h2 ⊢
        by_cases e1 : x < y
        · by_cases e2 : y < z
          · have : x < z := UInt8.lt_trans e1 e2
            simp [this]
          · by_cases e3 : z < y
            · simp [e2, e3] at h2
            · have : y = z := UInt8.le_antisymm (UInt8.not_lt.1 e3) (UInt8.not_lt.1 e2)
              subst this; simp [e1]
        · by_cases e4 : y < x
          · simp [e1, e4] at h1
          · have : x = y := UInt8.le_antisymm (UInt8.not_lt.1 e4) (UInt8.not_lt.1 e1)
            subst this
            rw [if_neg e1, if_neg e4] at h1
            by_cases e2 : x < z
            · simp [e2]
            · by_cases e3 : z < x
              · simp [e2, e3] at h2
              · rw [if_neg e2, if_neg e3] at h2 ⊢
                exact ih h1 h2
theorem cb_le_trans {a b c : List UInt8} (h1 : Lib.compareBytes a b ≤ 0) (h2 : Lib.compareBytes b c ≤ 0) : Lib.compareBytes a c ≤ 0 := by
  by_cases e1 : Lib.compareBytes a b = 0
  · rw [(cb_eq a b).1 e1]; exact h2
  · by_cases e2 : Lib.compareBytes b c = 0
    · rw [← (cb_eq b c).1 e2]; exact h1
    · have := cb_lt_trans (a := a) (b := b) (c := c) (by omega) (by omega); omega

theorem vcmp_bd (ak : Bool) (sa : ByteArray) (an : Int) (bk : Bool) (sb : ByteArray) (bn : Int) : -1 ≤ vcmp ak sa an bk sb bn ∧ vcmp ak sa an bk sb bn ≤ 1 := by
  cases ak <;> cases bk
  · exact icmp_bd an bn
  · show (-1 : Int) ≤ -1 ∧ (-1 : Int) ≤ 1; decide
  · show (-1 : Int) ≤ 1 ∧ (1 : Int) ≤ 1; decide
  · exact cb_bd _ _
theorem vcmp_swap (ak : Bool) (sa : ByteArray) (an : Int) (bk : Bool) (sb : ByteArray) (bn : Int) : vcmp bk sb bn ak sa an = -vcmp ak sa an bk sb bn := by
  cases ak <;> cases bk <;> simp only [vcmp]
  · exact icmp_swap an bn
  · rfl
  · rfl
  · exact cb_swap _ _
theorem vcmp_self (ak : Bool) (sa : ByteArray) (an : Int) : vcmp ak sa an ak sa an = 0 := by
  cases ak <;> simp only [vcmp]
  · exact icmp_self an
  · exact cb_self _
theorem vcmp_le_trans (ak : Bool) (sa : ByteArray) (an : Int) (bk : Bool) (sb : ByteArray) (bn : Int) (ck : Bool) (sc : ByteArray) (cn : Int)
    (h1 : vcmp ak sa an bk sb bn ≤ 0) (h2 : vcmp bk sb bn ck sc cn ≤ 0) : vcmp ak sa an ck sc cn ≤ 0 := by
  cases ak <;> cases bk <;> cases ck <;> simp only [vcmp] at h1 h2 ⊢ <;> first | exact icmp_le_trans h1 h2 | exact cb_le_trans h1 h2 | (simp at h1 h2 ⊢)
theorem vcmp_lt_trans (ak : Bool) (sa : ByteArray) (an : Int) (bk : Bool) (sb : ByteArray) (bn : Int) (ck : Bool) (sc : ByteArray) (cn : Int)
    (h1 : vcmp ak sa an bk sb bn < 0) (h2 : vcmp bk sb bn ck sc cn < 0) : vcmp ak sa an ck sc cn < 0 := by
  cases ak <;> cases bk <;> cases ck <;> simp only [vcmp] at h1 h2 ⊢ <;> first | exact icmp_lt_trans h1 h2 | exact cb_lt_trans h1 h2 | (simp at h1 h2 ⊢)
/-- The same just if the same kind holds the same. -/
theorem vcmp_eq (ak : Bool) (sa : ByteArray) (an : Int) (bk : Bool) (sb : ByteArray) (bn : Int) :
    vcmp ak sa an bk sb bn = 0 ↔ ak = bk ∧ (if ak then sa.data.toList = sb.data.toList else an = bn) := by
  cases ak <;> cases bk
  · show icmp an bn = 0 ↔ _
    exact ⟨fun h => ⟨rfl, by simpa using icmp_eq h⟩, fun h => by have := h.2; simp at this; rw [this]; exact icmp_self _⟩
  · simp [vcmp]
  · simp [vcmp]
  · simp [vcmp, cb_eq]
theorem vcmp_congr (ak : Bool) (sa : ByteArray) (an : Int) (bk : Bool) (sb : ByteArray) (bn : Int) (ck : Bool) (sc : ByteArray) (cn : Int)
    (h : vcmp ak sa an bk sb bn = 0) : vcmp bk sb bn ck sc cn = vcmp ak sa an ck sc cn := by
  obtain ⟨rfl, h2⟩ := (vcmp_eq ak sa an bk sb bn).1 h
  cases ak <;> simp at h2
  · subst h2; cases ck <;> rfl
  · cases ck <;> simp [vcmp, h2]
end Go.Proofs.Ytkkpcphmojegmaa
