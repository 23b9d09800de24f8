/-
  Plain: two values have one text just if they are the same. No Go text.
-/
import Derived.Test.YtljbjkhpgekmfaaDoorTextP
import Derived.Test.YtljbjkhpgekmfaaDoorCmpP
namespace Go.Proofs.YtljbjkhpgekmfaaDoor
set_option linter.unusedSimpArgs false
set_option linter.unusedVariables false

def digVal (l : List UInt8) : Nat := l.foldl (fun a c => 10 * a + (c.toNat - 48)) 0
theorem digVal_snoc (l : List UInt8) (c : UInt8) : digVal (l ++ [c]) = 10 * digVal l + (c.toNat - 48) := by simp [digVal]
theorem dig_toNat {k : Nat} (h : k < 10) : (UInt8.ofNat (48 + k)).toNat = 48 + k := by
  rw [UInt8.toNat_ofNat']; omega
theorem digVal_dec (u : Nat) : digVal (Lib.decDigits u) = u ∧ Lib.decDigits u ≠ [] ∧ ∀ c ∈ Lib.decDigits u, 48 ≤ c.toNat ∧ c.toNat ≤ 57 := by
  induction u using Nat.strongRecOn with
  | _ u ih =>
    rw [Lib.decDigits]
    by_cases h : u < 10
    · rw [dif_pos h]
      refine ⟨?_, by simp, ?_⟩
      · have := dig_toNat h
        simp only [digVal, List.foldl_cons, List.foldl_nil, this]; omega
      · intro c hc
        simp only [List.mem_singleton] at hc
        subst hc
        have := dig_toNat h
        omega
    · rw [dif_neg h]
      obtain ⟨h1, h2, h3⟩ := ih (u / 10) (by omega)
      have hd := dig_toNat (k := u % 10) (by omega)
      refine ⟨?_, by simp, ?_⟩
      · rw [digVal_snoc, h1, hd]; omega
      · intro c hc
        rcases List.mem_append.1 hc with hc | hc
        · exact h3 c hc
        · simp only [List.mem_singleton] at hc
          subst hc; omega
theorem itoa_head (n : Int) : ∃ c r, Lib.itoa n = c :: r ∧ (c.toNat = 45 ∨ 48 ≤ c.toNat ∧ c.toNat ≤ 57) := by
  unfold Lib.itoa
  by_cases h : n < 0
  · rw [if_pos h]; exact ⟨45, _, rfl, .inl rfl⟩
  · rw [if_neg h]
    obtain ⟨-, h2, h3⟩ := digVal_dec n.toNat
    cases e : Lib.decDigits n.toNat with
    | nil => exact absurd e h2
    | cons c r => exact ⟨c, r, rfl, .inr (h3 c (by rw [e]; simp))⟩
theorem itoa_inj {n m : Int} (h : Lib.itoa n = Lib.itoa m) : n = m := by
  unfold Lib.itoa at h
  by_cases h1 : n < 0 <;> by_cases h2 : m < 0
  · rw [if_pos h1, if_pos h2] at h
    have h := (List.cons.inj h).2
    have a := (digVal_dec n.natAbs).1
    have b := (digVal_dec m.natAbs).1
    rw [h, b] at a; omega
  · rw [if_pos h1, if_neg h2] at h
    obtain ⟨-, -, h3⟩ := digVal_dec m.toNat
    have := h3 45 (by rw [← h]; simp)
    have e : (45 : UInt8).toNat = 45 := rfl
    omega
  · rw [if_neg h1, if_pos h2] at h
    obtain ⟨-, -, h3⟩ := digVal_dec n.toNat
    have := h3 45 (by rw [h]; simp)
    have e : (45 : UInt8).toNat = 45 := rfl
    omega
  · rw [if_neg h1, if_neg h2] at h
    have a := (digVal_dec n.toNat).1
    have b := (digVal_dec m.toNat).1
    rw [h, b] at a; omega

theorem escC_cases (c : UInt8) : (c = 10 ∧ escC c = [92, 110]) ∨ (c ≠ 10 ∧ (c = 92 ∨ c = 39) ∧ escC c = [92, c]) ∨ (c ≠ 10 ∧ c ≠ 92 ∧ c ≠ 39 ∧ escC c = [c]) := by
  by_cases h1 : c = 10
  · exact .inl ⟨h1, by simp [escC, h1]⟩
  · by_cases h2 : c = 92
    · exact .inr (.inl ⟨h1, .inl h2, by simp [escC, h2]⟩)
    · by_cases h3 : c = 39
      · exact .inr (.inl ⟨h1, .inr h3, by simp [escC, h3]⟩)
      · exact .inr (.inr ⟨h1, h2, h3, by simp [escC, h1, h2, h3]⟩)
theorem escL_inj {a b : List UInt8} (h : escL a = escL b) : a = b := by
  induction a generalizing b with
  | nil =>
    cases b with
    | nil => rfl
    | cons d b =>
      have := (escC_len d).1
      have h2 := congrArg List.length h
      simp only [escL, List.flatMap_cons, List.flatMap_nil, List.length_append, List.length_nil] at h2
      omega
  | cons c a ih =>
    cases b with
    | nil =>
      have := (escC_len c).1
      have h2 := congrArg List.length h
      simp only [escL, List.flatMap_cons, List.flatMap_nil, List.length_append, List.length_nil] at h2
      omega
    | cons d b =>
      have e1 : escL (c :: a) = escC c ++ escL a := rfl
      have e2 : escL (d :: b) = escC d ++ escL b := rfl
      rw [e1, e2] at h
      rcases escC_cases c with ⟨hc, ec⟩ | ⟨hc, hc2, ec⟩ | ⟨hc, hc2, hc3, ec⟩ <;> rcases escC_cases d with ⟨hd, ed⟩ | ⟨hd, hd2, ed⟩ | ⟨hd, hd2, hd3, ed⟩ <;>
        rw [ec, ed] at h <;> simp only [List.cons_append, List.nil_append, List.cons.injEq] at h
      · rw [hc, hd, ih h.2.2]
      · rcases hd2 with e | e <;> rw [e] at h <;> exact absurd h.2.1 (by decide)
      · exact absurd h.1.symm hd2
      · rcases hc2 with e | e <;> rw [e] at h <;> exact absurd h.2.1 (by decide)
      · rw [h.2.1, ih h.2.2]
      · exact absurd h.1.symm hd2
      · exact absurd h.1 hc2
      · exact absurd h.1 hc2
      · rw [h.1, ih h.2]
theorem quoteL_inj {a b : List UInt8} (h : quoteL a = quoteL b) : a = b := by
  have h := (List.cons.inj h).2
  exact escL_inj (List.append_inj_left' h rfl)
theorem plain_head {l : List UInt8} (h : plainL l = true) : ∃ c r, l = c :: r ∧ 97 ≤ c.toNat ∧ c.toNat ≤ 122 := by
  cases l with
  | nil => cases h
  | cons c r =>
    simp only [plainL, smallB, Bool.and_eq_true, decide_eq_true_eq] at h
    exact ⟨c, r, rfl, by omega, by omega⟩
theorem sym_head (l : List UInt8) (n : Int) : ∃ c r, textL true l n = c :: r ∧ (c.toNat = 39 ∨ 97 ≤ c.toNat ∧ c.toNat ≤ 122) := by
  cases h : shortPlain l with
  | false => exact ⟨39, _, by simp [textL, h, quoteL]; rfl, .inl rfl⟩
  | true =>
    simp only [shortPlain, Bool.and_eq_true] at h
    obtain ⟨c, r, rfl, h1, h2⟩ := plain_head h.2
    exact ⟨c, r, by simp [textL, shortPlain, h.2]; intro h3; simp at h; omega, .inr ⟨h1, h2⟩⟩
theorem text_sym_inj {a b : List UInt8} {n m : Int} (h : textL true a n = textL true b m) : a = b := by
  cases ha : shortPlain a <;> cases hb : shortPlain b <;> simp [textL, ha, hb] at h
  · exact quoteL_inj h
  · simp only [shortPlain, Bool.and_eq_true] at hb
    obtain ⟨c, r, rfl, h1, h2⟩ := plain_head hb.2
    have := (List.cons.inj h).1
    rw [← this] at h1
    exact absurd h1 (by decide)
  · simp only [shortPlain, Bool.and_eq_true] at ha
    obtain ⟨c, r, rfl, h1, h2⟩ := plain_head ha.2
    have := (List.cons.inj h).1
    rw [this] at h1
    exact absurd h1 (by decide)
  · exact h
/-- ONE TEXT JUST IF THE SAME. -/
theorem text_same (ak : Bool) (sa : ByteArray) (an : Int) (bk : Bool) (sb : ByteArray) (bn : Int) :
    (textL ak sa.data.toList an = textL bk sb.data.toList bn) ↔ vcmp ak sa an bk sb bn = 0 := by
  rw [vcmp_eq]
  cases ak <;> cases bk
  · show Lib.itoa an = Lib.itoa bn ↔ _
    exact ⟨fun h => ⟨rfl, by simpa using itoa_inj h⟩, fun h => by have := h.2; simp at this; rw [this]⟩
  · refine ⟨fun h => ?_, fun h => absurd h.1 (by decide)⟩
    obtain ⟨c, r, e1, h1⟩ := itoa_head an
    obtain ⟨d, q, e2, h2⟩ := sym_head sb.data.toList bn
    have h : Lib.itoa an = textL true sb.data.toList bn := h
    rw [e1, e2] at h
    have := (List.cons.inj h).1
    rw [this] at h1; omega
  · refine ⟨fun h => ?_, fun h => absurd h.1 (by decide)⟩
    obtain ⟨c, r, e1, h1⟩ := itoa_head bn
    obtain ⟨d, q, e2, h2⟩ := sym_head sa.data.toList an
    have h : textL true sa.data.toList an = Lib.itoa bn := h
    rw [e1, e2] at h
    have := (List.cons.inj h).1
    rw [this] at h2; omega
  · refine ⟨fun h => ⟨rfl, by simpa using text_sym_inj h⟩, fun h => ?_⟩
    have := h.2
    simp at this
    simp [textL, this]
end Go.Proofs.YtljbjkhpgekmfaaDoor
