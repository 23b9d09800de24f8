/-
  Each token that is scanned is read again as it is, and its text is no longer than it stood. Plain facts; no walk.
-/
import Derived.Test.YtngnhoonpgkhdaaDoorKBackP
namespace Go.Proofs.YtngnhoonpgkhdaaDoor
set_option linter.unusedSimpArgs false
set_option linter.unusedVariables false
set_option linter.unusedSectionVars false
set_option maxRecDepth 100000
open Go.RowKit

theorem quoS_len2 {l : List UInt8} {r : List UInt8 × Nat} (h : quoS l = some r) : (escL r.1).length + 1 = r.2 := by
  have aux : ∀ (n : Nat) (l : List UInt8), l.length ≤ n → ∀ r, quoS l = some r → (escL r.1).length + 1 = r.2 := by
    intro n
    induction n with
    | zero =>
      intro l hl r hr
      have : l = [] := List.length_eq_zero_iff.1 (by omega)
      subst this
      simp [quoS] at hr
    | succ n ih =>
      intro l hl r hr
      match l, hl, hr with
      | [], _, hr => simp [quoS] at hr
      | c :: l, hl, hr =>
        have hcons : ∀ (b : UInt8) (t : List UInt8), escL (b :: t) = escC b ++ escL t := fun b t => by simp [escL]
        by_cases h1 : c = 39
        · subst h1
          rw [quoS_39] at hr
          cases hr
          simp [escL]
        by_cases h2 : c = 10
        · subst h2
          rw [quoS_10] at hr
          cases hr
        by_cases h3 : c = 92
        · subst h3
          match l, hl, hr with
          | [], _, hr => simp [quoS] at hr
          | d :: l', hl, hr =>
            rw [quoS_92] at hr
            cases he : escO [d] with
            | none => rw [he] at hr; cases hr
            | some b =>
              rw [he] at hr
              obtain ⟨q, hq, rfl⟩ := Option.map_eq_some_iff.1 hr
              have := ih l' (by simp at hl; omega) q hq
              have hb : (escC b).length = 2 := by
                unfold escO at he
                split at he
                · cases he
                · rename_i d' t' hd
                  split at he
                  · cases he; rfl
                  · split at he
                    · rename_i h5
                      cases he
                      rcases h5 with h5 | h5 <;> subst h5 <;> rfl
                    · cases he
              show (escL (b :: q.1)).length + 1 = q.2 + 2
              rw [hcons, List.length_append, hb]
              omega
        · rw [quoS_else _ h1 h2 h3] at hr
          obtain ⟨q, hq, rfl⟩ := Option.map_eq_some_iff.1 hr
          have := ih l (by simp at hl; omega) q hq
          show (escL (c :: q.1)).length + 1 = q.2 + 1
          have hb : (escC c).length = 1 := by simp [escC, h1, h2, h3]
          rw [hcons, List.length_append, hb]
          omega
  exact aux l.length l (Nat.le_refl _) r h
theorem dec_len (u : Nat) : ∀ k, 1 ≤ k → u < 10 ^ k → (Lib.decDigits u).length ≤ k := by
  induction u using Nat.strongRecOn with
  | _ u ih =>
    intro k hk hu
    rw [Lib.decDigits]
    by_cases h : u < 10
    · rw [dif_pos h]; simpa using hk
    · rw [dif_neg h]
      match k, hk, hu with
      | 1, _, hu => exact absurd hu (by simpa using h)
      | k + 2, _, hu =>
        have := ih (u / 10) (by omega) (k + 1) (by omega) (by
          rw [Nat.div_lt_iff_lt_mul (by decide)]
          have e : 10 ^ (k + 2) = 10 ^ (k + 1) * 10 := Nat.pow_succ ..
          omega)
        simp
        omega
theorem parseM_lt (M : Nat) : ∀ (l : List UInt8) (acc k u : Nat), acc < 10 ^ k → Lib.parseUintM M acc l = .ok u → u < 10 ^ (k + l.length) := by
  intro l
  induction l with
  | nil =>
    intro acc k u ha h
    rw [Lib.parseUintM] at h
    cases h
    simpa using ha
  | cons c l ih =>
    intro acc k u ha h
    rw [Lib.parseUintM] at h
    split at h
    · rename_i hc
      split at h
      · cases h
      · split at h
        · cases h
        · have e : 10 ^ (k + 1) = 10 ^ k * 10 := Nat.pow_succ ..
          have := ih _ (k + 1) u (by omega) h
          rw [show k + 1 + l.length = k + (c :: l).length by simp; omega] at this
          exact this
    · cases h
theorem parseU_len {l : List UInt8} {u : Nat} (h : Lib.parseUintB 64 l = .ok u) : (Lib.decDigits u).length ≤ l.length := by
  unfold Lib.parseUintB at h
  split at h
  · cases h
  · rename_i h0
    have := parseM_lt _ l 0 0 u (by decide) h
    rw [Nat.zero_add] at this
    exact dec_len u _ (List.length_pos_iff.2 h0) this
theorem itoa_nat (u : Nat) : Lib.itoa (u : Int) = Lib.decDigits u := by
  have : ¬ ((u : Int) < 0) := by omega
  rw [Lib.itoa, if_neg this]; simp
theorem itoa_len {l : List UInt8} {v : Int} (h : Lib.parseIntB 64 l = .ok v) : (Lib.itoa v).length ≤ l.length := by
  cases l with
  | nil => simp [Lib.parseIntB] at h
  | cons c r =>
    simp only [Lib.parseIntB] at h
    cases hq : Lib.parseUintB 64 (if c.toNat = 43 ∨ c.toNat = 45 then r else c :: r) with
    | ok u =>
      rw [hq] at h
      have hu := parseU_len hq
      simp only at h
      split at h
      · cases h
      · split at h
        · cases h
        · by_cases h45 : c.toNat = 45
          · rw [if_pos (.inr h45)] at hu
            simp only [h45, if_true] at h
            cases h
            by_cases h0 : u = 0
            · subst h0; simp [Lib.itoa, Lib.decDigits]
            · have hn : (-(u : Int)) < 0 := by omega
              rw [Lib.itoa, if_pos hn]
              simp
              exact hu
          · simp only [h45, if_false] at h
            cases h
            rw [itoa_nat]
            refine Nat.le_trans hu ?_
            split <;> simp
    | _ =>
      rw [hq] at h
      cases h
end Go.Proofs.YtngnhoonpgkhdaaDoor
