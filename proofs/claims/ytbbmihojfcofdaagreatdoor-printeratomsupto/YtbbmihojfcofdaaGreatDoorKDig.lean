/-
  Plain facts on figures: how a number is written, and read. No Go text.
-/
import Derived.Test.YtbbmihojfcofdaaGreatDoorTextP
import Derived.Lib.ParseIntBTie
namespace Go.Proofs.YtbbmihojfcofdaaGreatDoor
set_option linter.unusedSimpArgs false
set_option linter.unusedVariables false
set_option linter.unusedSectionVars false
set_option maxRecDepth 100000

def digVal (l : List UInt8) : Nat := l.foldl (fun a c => 10 * a + (c.toNat - 48)) 0
theorem digVal_snoc (l : List UInt8) (c : UInt8) : digVal (l ++ [c]) = 10 * digVal l + (c.toNat - 48) := by simp [digVal]
theorem dig_toNat {k : Nat} (h : k < 10) : (UInt8.ofNat (48 + k)).toNat = 48 + k := by
  rw [UInt8.toNat_ofNat']; omega
theorem digVal_dec (u : Nat) : digVal (Lib.decDigits u) = u ∧ Lib.decDigits u ≠ [] ∧ ∀ c ∈ Lib.decDigits u, 48 ≤ c.toNat ∧ c.toNat ≤ 57 := by
  induction u using Nat.strongRecOn with
  | _ u ih =>
    rw [Lib.decDigits]
    by_cases h : u < 10
    · rw [dif_pos h]
      refine ⟨?_, by simp, ?_⟩
      · have := dig_toNat h
        simp only [digVal, List.foldl_cons, List.foldl_nil, this]; omega
      · intro c hc
        simp only [List.mem_singleton] at hc
        subst hc
        have := dig_toNat h
        omega
    · rw [dif_neg h]
      obtain ⟨h1, h2, h3⟩ := ih (u / 10) (by omega)
      have hd := dig_toNat (k := u % 10) (by omega)
      refine ⟨?_, by simp, ?_⟩
      · rw [digVal_snoc, h1, hd]; omega
      · intro c hc
        rcases List.mem_append.1 hc with hc | hc
        · exact h3 c hc
        · simp only [List.mem_singleton] at hc
          subst hc; omega
theorem itoa_head (n : Int) : ∃ c r, Lib.itoa n = c :: r ∧ (c.toNat = 45 ∨ 48 ≤ c.toNat ∧ c.toNat ≤ 57) := by
  unfold Lib.itoa
  by_cases h : n < 0
  · rw [if_pos h]; exact ⟨45, _, rfl, .inl rfl⟩
  · rw [if_neg h]
    obtain ⟨-, h2, h3⟩ := digVal_dec n.toNat
    cases e : Lib.decDigits n.toNat with
    | nil => exact absurd e h2
    | cons c r => exact ⟨c, r, rfl, .inr (h3 c (by rw [e]; simp))⟩
theorem itoa_inj {n m : Int} (h : Lib.itoa n = Lib.itoa m) : n = m := by
  unfold Lib.itoa at h
  by_cases h1 : n < 0 <;> by_cases h2 : m < 0
  · rw [if_pos h1, if_pos h2] at h
    have h := (List.cons.inj h).2
    have a := (digVal_dec n.natAbs).1
    have b := (digVal_dec m.natAbs).1
    rw [h, b] at a; omega
  · rw [if_pos h1, if_neg h2] at h
    obtain ⟨-, -, h3⟩ := digVal_dec m.toNat
    have := h3 45 (by rw [← h]; simp)
    have e : (45 : UInt8).toNat = 45 := rfl
    omega
  · rw [if_neg h1, if_pos h2] at h
    obtain ⟨-, -, h3⟩ := digVal_dec n.toNat
    have := h3 45 (by rw [h]; simp)
    have e : (45 : UInt8).toNat = 45 := rfl
    omega
  · rw [if_neg h1, if_neg h2] at h
    have a := (digVal_dec n.toNat).1
    have b := (digVal_dec m.toNat).1
    rw [h, b] at a; omega

theorem escC_cases (c : UInt8) : (c = 10 ∧ escC c = [92, 110]) ∨ (c ≠ 10 ∧ (c = 92 ∨ c = 39) ∧ escC c = [92, c]) ∨ (c ≠ 10 ∧ c ≠ 92 ∧ c ≠ 39 ∧ escC c = [c]) := by
  by_cases h1 : c = 10
  · exact .inl ⟨h1, by simp [escC, h1]⟩
  · by_cases h2 : c = 92
    · exact .inr (.inl ⟨h1, .inl h2, by simp [escC, h2]⟩)
    · by_cases h3 : c = 39
      · exact .inr (.inl ⟨h1, .inr h3, by simp [escC, h3]⟩)
      · exact .inr (.inr ⟨h1, h2, h3, by simp [escC, h1, h2, h3]⟩)
def InR (n : Int) : Prop := -9223372036854775808 ≤ n ∧ n ≤ 9223372036854775807
theorem fold_ge (l : List UInt8) (acc : Nat) : acc ≤ l.foldl (fun a c => 10 * a + (c.toNat - 48)) acc := by
  induction l generalizing acc with
  | nil => exact Nat.le_refl _
  | cons c l ih => have := ih (10 * acc + (c.toNat - 48)); simp only [List.foldl_cons]; omega
theorem parseM (l : List UInt8) (M acc : Nat) (hl : ∀ c ∈ l, 48 ≤ c.toNat ∧ c.toNat ≤ 57) (hM : M ≤ 18446744073709551615) (h : l.foldl (fun a c => 10 * a + (c.toNat - 48)) acc ≤ M) :
    Lib.parseUintM M acc l = .ok (l.foldl (fun a c => 10 * a + (c.toNat - 48)) acc) := by
  induction l generalizing acc with
  | nil => rfl
  | cons c l ih =>
    have hc := hl c (by simp)
    have hg := fold_ge l (10 * acc + (c.toNat - 48))
    simp only [List.foldl_cons] at h ⊢
    rw [Lib.parseUintM, if_pos hc, if_neg (by omega), if_neg (by omega), Nat.mul_comm acc 10]
    exact ih _ (fun d hd => hl d (by simp [hd])) h
theorem parse_dec (u : Nat) (h : u ≤ 18446744073709551615) : Lib.parseUintB 64 (Lib.decDigits u) = .ok u := by
  obtain ⟨h1, h2, h3⟩ := digVal_dec u
  rw [Lib.parseUintB, if_neg h2, parseM _ _ _ h3 (by decide) (by show digVal _ ≤ _; rw [h1]; exact h)]
  show Lib.NumEnd.ok (digVal _) = _
  rw [h1]
theorem parse_itoa {n : Int} (h : InR n) : Lib.parseIntB 64 (Lib.itoa n) = .ok n := by
  obtain ⟨h0, h1⟩ := h
  by_cases hn : n < 0
  · have e : Lib.itoa n = 45 :: Lib.decDigits n.natAbs := by rw [Lib.itoa, if_pos hn]
    rw [e, Lib.parseIntB]
    have e1 : (if (45 : UInt8).toNat = 43 ∨ (45 : UInt8).toNat = 45 then Lib.decDigits n.natAbs else 45 :: Lib.decDigits n.natAbs) = Lib.decDigits n.natAbs := if_pos (.inr rfl)
    rw [e1, parse_dec _ (by omega)]
    have : ¬ (2 ^ (64 - 1) < n.natAbs) := by omega
    simp [this]
    omega
  · obtain ⟨-, h2, h3⟩ := digVal_dec n.toNat
    have e : Lib.itoa n = Lib.decDigits n.toNat := by rw [Lib.itoa, if_neg hn]
    rw [e]
    have hp := parse_dec n.toNat (by omega)
    cases hd : Lib.decDigits n.toNat with
    | nil => exact absurd hd h2
    | cons c r =>
      have hc := h3 c (by rw [hd]; simp)
      rw [hd] at hp
      have n1 : ¬ (c.toNat = 43 ∨ c.toNat = 45) := by omega
      have n2 : ¬ c.toNat = 45 := by omega
      have n3 : ¬ (2 ^ (64 - 1) ≤ n.toNat) := by omega
      simp only [Lib.parseIntB, if_neg n1, hp]
      simp [n2, n3]
      omega
end Go.Proofs.YtbbmihojfcofdaaGreatDoor
