/-
  Plain facts for the document's tokens (lambrequinref05): numbers by their figures, marks by their first two bytes. No walk.
-/
import Derived.Test.YtekhcaanjaoioaaGreatDoorKRefA
import Derived.Test.YtekhcaanjaoioaaGreatDoorKDig
namespace Go.Proofs.YtekhcaanjaoioaaGreatDoor
set_option linter.unusedSimpArgs false
set_option linter.unusedVariables false
set_option linter.unusedSectionVars false
set_option maxRecDepth 100000
open Go.RowKit

theorem parseM_ok (M : Nat) : ∀ (l : List UInt8) (acc u : Nat), Lib.parseUintM M acc l = .ok u → u = l.foldl (fun a c => 10 * a + (c.toNat - 48)) acc := by
  intro l
  induction l with
  | nil =>
    intro acc u h
    rw [Lib.parseUintM] at h
    cases h
    rfl
  | cons c l ih =>
    intro acc u h
    rw [Lib.parseUintM] at h
    split at h
    · split at h
      · cases h
      · split at h
        · cases h
        · have := ih _ _ h
          rw [this, List.foldl_cons, Nat.mul_comm acc 10]
    · cases h
theorem figure_range {c : UInt8} (h : figureQ c = true) : 48 ≤ c.toNat ∧ c.toNat ≤ 57 := by simpa [figureQ] using h
theorem parseU_all {D : List UInt8} (h0 : D ≠ []) (hD : ∀ c ∈ D, figureQ c = true) (h : digVal D ≤ 9223372036854775808) : Lib.parseUintB 64 D = .ok (digVal D) := by
  rw [Lib.parseUintB, if_neg h0, parseM _ _ _ (fun c hc => figure_range (hD c hc)) (by decide) (by show digVal D ≤ _; exact Nat.le_trans h (by decide))]
  rfl
theorem parseU_val {D : List UInt8} {u : Nat} (h : Lib.parseUintB 64 D = .ok u) : u = digVal D := by
  unfold Lib.parseUintB at h
  split at h
  · cases h
  · exact parseM_ok _ _ _ _ h
theorem run_all_take (f : UInt8 → Bool) (l : List UInt8) : ∀ x ∈ l.take (runLen f l), f x = true := by
  induction l with
  | nil => simp
  | cons c l ih =>
    intro x hx
    cases hc : f c
    · simp [runLen, hc] at hx
    · have e : runLen f (c :: l) = runLen f l + 1 := by simp [runLen, hc]
      rw [e, List.take_succ_cons] at hx
      rcases List.mem_cons.1 hx with rfl | hx
      · exact hc
      · exact ih x hx
/-- A number that begins with a figure. -/
theorem num_high {c : UInt8} {t : List UInt8} (hc : figureQ c = true) : numL (c :: t) = if digVal (c :: t.take (runLen figureQ t)) ≤ 9223372036854775807 then ⟨0, ⟨3, ⟨#[]⟩, (digVal (c :: t.take (runLen figureQ t)) : Int), false, 0⟩, 1 + runLen figureQ t⟩ else ⟨3, Tk.zero, 0⟩ := by
  have hr := figure_range hc
  have n1 : ¬ (c.toNat = 43 ∨ c.toNat = 45) := by omega
  have n2 : ¬ c.toNat = 45 := by omega
  unfold numL
  rw [List.tail_cons, Nat.add_comm 1, List.take_succ_cons]
  obtain ⟨D, hD⟩ : ∃ D, D = t.take (runLen figureQ t) := ⟨_, rfl⟩
  have hall : ∀ x ∈ c :: D, figureQ x = true := by
    intro x hx
    rcases List.mem_cons.1 hx with rfl | hx
    · exact hc
    · rw [hD] at hx; exact run_all_take _ _ x hx
  rw [← hD]
  clear hD
  by_cases h : digVal (c :: D) ≤ 9223372036854775807
  · rw [if_pos h]
    refine numOf_ok ?_
    have hp := parseU_all (D := c :: D) (by simp) hall (by omega)
    have n3 : ¬ (2 ^ (64 - 1) ≤ digVal (c :: D)) := by omega
    simp only [Lib.parseIntB, if_neg n1, hp]
    simp [n2, n3]
  · rw [if_neg h]
    refine numOf_bad ?_
    intro v hv
    simp only [Lib.parseIntB, if_neg n1] at hv
    cases hq : Lib.parseUintB 64 (c :: D) with
    | ok u =>
      have hu := parseU_val hq
      rw [hq] at hv
      have n3 : 2 ^ (64 - 1) ≤ u := by omega
      simp [n2, n3] at hv
    | _ =>
      rw [hq] at hv
      cases hv
/-- A number that begins with a hyphen. -/
theorem num_low {t : List UInt8} (ht : 0 < runLen figureQ t) : numL (45 :: t) = if digVal (t.take (runLen figureQ t)) ≤ 9223372036854775808 then ⟨0, ⟨3, ⟨#[]⟩, -(digVal (t.take (runLen figureQ t)) : Int), false, 0⟩, 1 + runLen figureQ t⟩ else ⟨3, Tk.zero, 0⟩ := by
  unfold numL
  rw [List.tail_cons, Nat.add_comm 1, List.take_succ_cons]
  have hl := runLen_le figureQ t
  obtain ⟨D, hD⟩ : ∃ D, D = t.take (runLen figureQ t) := ⟨_, rfl⟩
  have hne : D ≠ [] := by
    intro e
    have h0 : (t.take (runLen figureQ t)).length = 0 := by rw [← hD, e]; rfl
    rw [List.length_take] at h0
    omega
  have hall : ∀ x ∈ D, figureQ x = true := by
    intro x hx
    rw [hD] at hx; exact run_all_take _ _ x hx
  rw [← hD]
  clear hD
  have e1 : (if (45 : UInt8).toNat = 43 ∨ (45 : UInt8).toNat = 45 then D else 45 :: D) = D := if_pos (.inr rfl)
  by_cases h : digVal D ≤ 9223372036854775808
  · rw [if_pos h]
    refine numOf_ok ?_
    have hp := parseU_all hne hall h
    have n3 : ¬ (2 ^ (64 - 1) < digVal D) := by omega
    rw [Lib.parseIntB, e1, hp]
    simp [n3]
  · rw [if_neg h]
    refine numOf_bad ?_
    intro v hv
    rw [Lib.parseIntB, e1] at hv
    cases hq : Lib.parseUintB 64 D with
    | ok u =>
      have hu := parseU_val hq
      rw [hq] at hv
      have n3 : 2 ^ (64 - 1) < u := by omega
      simp [n3] at hv
    | _ =>
      rw [hq] at hv
      cases hv

/-- The first two bytes of a text, the second one 0 where there is none. -/
theorem mark_two {c d : UInt8} (t : List UInt8) (h : (c = 58 ∧ d = 45) ∨ ((c = 60 ∨ c = 62 ∨ c = 33) ∧ d = 61)) : markL (c :: d :: t) = ⟨0, ⟨4, ⟨#[c, d]⟩, 0, false, 0⟩, 2⟩ := by
  rcases h with ⟨rfl, rfl⟩ | ⟨rfl | rfl | rfl, rfl⟩ <;> rfl
theorem mark_one {c : UInt8} (t : List UInt8) (h : c = 40 ∨ c = 41 ∨ c = 44 ∨ c = 46 ∨ c = 47 ∨ c = 60 ∨ c = 62 ∨ c = 61) (hn : c = 60 ∨ c = 62 → t.headD 0 ≠ 61) : markL (c :: t) = ⟨0, ⟨4, ⟨#[c]⟩, 0, false, 0⟩, 1⟩ := by
  rcases h with rfl | rfl | rfl | rfl | rfl | rfl | rfl | rfl
  all_goals
    cases t with
    | nil => rfl
    | cons d t =>
      first
        | rfl
        | (have hd : d ≠ 61 := hn (by first | exact .inl rfl | exact .inr rfl)
           have hd' : ((61 : UInt8) == d) = false := beq_eq_false_iff_ne.2 (fun e => hd e.symm)
           simp [markL, markT, markOf, List.find?, List.isPrefixOf, hd'])
theorem mark_none {c : UInt8} (t : List UInt8) (h : ¬ (c = 40 ∨ c = 41 ∨ c = 44 ∨ c = 46 ∨ c = 47 ∨ c = 60 ∨ c = 62 ∨ c = 61)) (h58 : c = 58 → t.headD 0 ≠ 45) (h33 : c = 33 → t.headD 0 ≠ 61) : markL (c :: t) = ⟨2, Tk.zero, 0⟩ := by
  simp only [not_or] at h
  obtain ⟨n1, n2, n3, n4, n5, n6, n7, n8⟩ := h
  have q : ∀ {k : UInt8}, ¬ c = k → (k == c) = false := fun hk => beq_eq_false_iff_ne.2 (fun e => hk e.symm)
  have e1 := q n1
  have e2 := q n2
  have e3 := q n3
  have e4 := q n4
  have e5 := q n5
  have e6 := q n6
  have e7 := q n7
  have e8 := q n8
  by_cases c58 : c = 58
  · subst c58
    have hd := h58 rfl
    cases t with
    | nil => rfl
    | cons d t =>
      have hd' : ((45 : UInt8) == d) = false := beq_eq_false_iff_ne.2 (fun e => hd e.symm)
      simp [markL, markT, markOf, List.find?, List.isPrefixOf, hd']
  · have e9 := q c58
    by_cases c33 : c = 33
    · subst c33
      have hd := h33 rfl
      cases t with
      | nil => rfl
      | cons d t =>
        have hd' : ((61 : UInt8) == d) = false := beq_eq_false_iff_ne.2 (fun e => hd e.symm)
        simp [markL, markT, markOf, List.find?, List.isPrefixOf, hd']
    · have e0 := q c33
      simp [markL, markT, markOf, List.find?, List.isPrefixOf, e0, e1, e2, e3, e4, e5, e6, e7, e8, e9]
end Go.Proofs.YtekhcaanjaoioaaGreatDoor
