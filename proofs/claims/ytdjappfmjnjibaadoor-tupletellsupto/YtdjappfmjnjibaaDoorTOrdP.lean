/-
  Plain facts on rows: it is one order; rows are alike just if they have one key. No Go text.
-/
import Derived.Test.YtdjappfmjnjibaaDoorTKey
namespace Go.Proofs.YtdjappfmjnjibaaDoor
set_option linter.unusedSimpArgs false
set_option linter.unusedVariables false
set_option linter.unusedSectionVars false
set_option maxRecDepth 100000
variable [DecidableEq V]

theorem V.cmp_bd (a b : V) : -1 ≤ a.cmp b ∧ a.cmp b ≤ 1 := vcmp_bd _ _ _ _ _ _
theorem V.cmp_swap (a b : V) : b.cmp a = -a.cmp b := vcmp_swap _ _ _ _ _ _
theorem V.cmp_self (a : V) : a.cmp a = 0 := vcmp_self _ _ _
theorem V.cmp_le_trans {a b c : V} (h1 : a.cmp b ≤ 0) (h2 : b.cmp c ≤ 0) : a.cmp c ≤ 0 := vcmp_le_trans _ _ _ _ _ _ _ _ _ h1 h2
theorem V.cmp_lt_trans {a b c : V} (h1 : a.cmp b < 0) (h2 : b.cmp c < 0) : a.cmp c < 0 := vcmp_lt_trans _ _ _ _ _ _ _ _ _ h1 h2
theorem V.cmp_congr {a b : V} (c : V) (h : a.cmp b = 0) : b.cmp c = a.cmp c := vcmp_congr _ _ _ _ _ _ _ _ _ h
theorem V.cmp_bare {a b : V} : a.cmp b = 0 ↔ a.bare = b.bare := by
  obtain ⟨uk, us, un⟩ := a
  obtain ⟨vk, vs, vn⟩ := b
  rw [V.cmp, vcmp_eq]
  cases uk <;> cases vk
  · simp [V.bare, bareS, bareN]
  · simp [V.bare]
  · simp [V.bare]
  · simp [V.bare, bareS, bareN]
    exact ⟨fun h => by
      have e2 : us.data = vs.data := by cases hu : us.data; cases hv : vs.data; simp_all
      cases us; cases vs; simp_all, fun h => by rw [h]⟩

theorem rcmp_bd (a b : List V) : -1 ≤ rcmp a b ∧ rcmp a b ≤ 1 := by
  induction a generalizing b with
  | nil => cases b <;> simp [rcmp]
  | cons x a ih =>
    cases b with
    | nil => simp [rcmp]
    | cons y b => rw [rcmp]; split; exact ih b; exact V.cmp_bd x y
theorem rcmp_swap (a b : List V) : rcmp b a = -rcmp a b := by
  induction a generalizing b with
  | nil => cases b <;> simp [rcmp]
  | cons x a ih =>
    cases b with
    | nil => simp [rcmp]
    | cons y b =>
      have := V.cmp_swap x y
      rw [rcmp, rcmp]
      by_cases h : x.cmp y = 0
      · rw [if_pos h, if_pos (by omega), ih]
      · rw [if_neg h, if_neg (by omega), this]
theorem rcmp_self (a : List V) : rcmp a a = 0 := by
  induction a with
  | nil => rfl
  | cons x a ih => rw [rcmp, if_pos (V.cmp_self x), ih]
theorem rcmp_bare {a b : List V} : rcmp a b = 0 ↔ a.map V.bare = b.map V.bare := by
  induction a generalizing b with
  | nil => cases b <;> simp [rcmp]
  | cons x a ih =>
    cases b with
    | nil => simp [rcmp]
    | cons y b =>
      rw [rcmp]
      by_cases h : x.cmp y = 0
      · rw [if_pos h, ih]; simp [V.cmp_bare.1 h]
      · rw [if_neg h]
        have : x.bare ≠ y.bare := fun e => h (V.cmp_bare.2 e)
        simp [h, this]
theorem rcmp_le_trans {a b c : List V} (h1 : rcmp a b ≤ 0) (h2 : rcmp b c ≤ 0) : rcmp a c ≤ 0 := by
  induction a generalizing b c with
  | nil => cases c <;> simp [rcmp]
  | cons x a ih =>
    cases b with
    | nil => simp [rcmp] at h1
    | cons y b =>
      cases c with
      | nil => simp [rcmp] at h2
      | cons z c =>
        rw [rcmp] at h1 h2 ⊢
        by_cases e1 : x.cmp y = 0
        · have hc := V.cmp_congr z e1
          rw [if_pos e1] at h1
          by_cases e2 : y.cmp z = 0
          · rw [if_pos e2] at h2; rw [if_pos (by omega)]; exact ih h1 h2
          · rw [if_neg e2] at h2; rw [if_neg (by omega)]; omega
        · rw [if_neg e1] at h1
          by_cases e2 : y.cmp z = 0
          · have h3 := V.cmp_congr x (show z.cmp y = 0 by have := V.cmp_swap y z; omega)
            have h4 := V.cmp_swap x y
            have h5 := V.cmp_swap x z
            rw [if_neg (by omega)]; omega
          · rw [if_neg e2] at h2
            have h3 := V.cmp_lt_trans (a := x) (b := y) (c := z) (by omega) (by omega)
            rw [if_neg (by omega)]; omega
theorem rcmp_congr {a b : List V} (c : List V) (h : rcmp a b = 0) : rcmp b c = rcmp a c := by
  have h1 : rcmp b a = 0 := by have := rcmp_swap a b; omega
  have t1 := fun h => rcmp_le_trans (a := a) (b := b) (c := c) (by omega) h
  have t2 := fun h => rcmp_le_trans (a := b) (b := a) (c := c) (by omega) h
  have t3 := fun h => rcmp_le_trans (a := c) (b := a) (c := b) h (by omega)
  have t4 := fun h => rcmp_le_trans (a := c) (b := b) (c := a) h (by omega)
  have s1 := rcmp_swap a c
  have s2 := rcmp_swap b c
  have b1 := rcmp_bd a c
  have b2 := rcmp_bd b c
  by_cases p1 : rcmp a c ≤ 0 <;> by_cases p2 : rcmp b c ≤ 0
  · have q1 : rcmp c a ≤ 0 ↔ rcmp c b ≤ 0 := ⟨t3, t4⟩; omega
  · exact absurd (t2 p1) p2
  · exact absurd (t1 p2) p1
  · omega
theorem rcmp_lt_trans {a b c : List V} (h1 : rcmp a b < 0) (h2 : rcmp b c < 0) : rcmp a c < 0 := by
  have h3 := rcmp_le_trans (a := a) (b := b) (c := c) (by omega) (by omega)
  by_cases e : rcmp a c = 0
  · have := rcmp_congr b (a := a) (b := c) e
    have := rcmp_swap b c
    omega
  · omega

/-- Figures are no colon, and tell their number. -/
def digVal (l : List UInt8) : Nat := l.foldl (fun a c => 10 * a + (c.toNat - 48)) 0
theorem digVal_snoc (l : List UInt8) (c : UInt8) : digVal (l ++ [c]) = 10 * digVal l + (c.toNat - 48) := by simp [digVal]
theorem dig_toNat {k : Nat} (h : k < 10) : (UInt8.ofNat (48 + k)).toNat = 48 + k := by
  rw [UInt8.toNat_ofNat']; omega
theorem digVal_dec (u : Nat) : digVal (Lib.decDigits u) = u ∧ Lib.decDigits u ≠ [] ∧ ∀ c ∈ Lib.decDigits u, 48 ≤ c.toNat ∧ c.toNat ≤ 57 := by
  induction u using Nat.strongRecOn with
  | _ u ih =>
    rw [Lib.decDigits]
    by_cases h : u < 10
    · rw [dif_pos h]
      refine ⟨?_, by simp, ?_⟩
      · have := dig_toNat h
        simp only [digVal, List.foldl_cons, List.foldl_nil, this]; omega
      · intro c hc
        simp only [List.mem_singleton] at hc
        subst hc
        have := dig_toNat h
        omega
    · rw [dif_neg h]
      obtain ⟨h1, h2, h3⟩ := ih (u / 10) (by omega)
      have hd := dig_toNat (k := u % 10) (by omega)
      refine ⟨?_, by simp, ?_⟩
      · rw [digVal_snoc, h1, hd]; omega
      · intro c hc
        rcases List.mem_append.1 hc with hc | hc
        · exact h3 c hc
        · simp only [List.mem_singleton] at hc
          subst hc; omega
theorem itoa_head (n : Int) : ∃ c r, Lib.itoa n = c :: r ∧ (c.toNat = 45 ∨ 48 ≤ c.toNat ∧ c.toNat ≤ 57) := by
  unfold Lib.itoa
  by_cases h : n < 0
  · rw [if_pos h]; exact ⟨45, _, rfl, .inl rfl⟩
  · rw [if_neg h]
    obtain ⟨-, h2, h3⟩ := digVal_dec n.toNat
    cases e : Lib.decDigits n.toNat with
    | nil => exact absurd e h2
    | cons c r => exact ⟨c, r, rfl, .inr (h3 c (by rw [e]; simp))⟩
theorem itoa_inj {n m : Int} (h : Lib.itoa n = Lib.itoa m) : n = m := by
  unfold Lib.itoa at h
  by_cases h1 : n < 0 <;> by_cases h2 : m < 0
  · rw [if_pos h1, if_pos h2] at h
    have h := (List.cons.inj h).2
    have a := (digVal_dec n.natAbs).1
    have b := (digVal_dec m.natAbs).1
    rw [h, b] at a; omega
  · rw [if_pos h1, if_neg h2] at h
    obtain ⟨-, -, h3⟩ := digVal_dec m.toNat
    have := h3 45 (by rw [← h]; simp)
    have e : (45 : UInt8).toNat = 45 := rfl
    omega
  · rw [if_neg h1, if_pos h2] at h
    obtain ⟨-, -, h3⟩ := digVal_dec n.toNat
    have := h3 45 (by rw [h]; simp)
    have e : (45 : UInt8).toNat = 45 := rfl
    omega
  · rw [if_neg h1, if_neg h2] at h
    have a := (digVal_dec n.toNat).1
    have b := (digVal_dec m.toNat).1
    rw [h, b] at a; omega
theorem decDigits_ne (n : Nat) : ∀ b ∈ Lib.decDigits n, 48 ≤ b.toNat ∧ b.toNat ≤ 57 := (digVal_dec n).2.2
theorem itoa_ne (n : Int) : ∀ b ∈ Lib.itoa n, b ≠ 58 := by
  intro b hb e
  subst e
  unfold Lib.itoa at hb
  split at hb
  · rcases List.mem_cons.1 hb with h | h
    · exact absurd h (by decide)
    · have := decDigits_ne _ _ h; simp at this
  · have := decDigits_ne _ _ hb; simp at this
theorem split58 {a b c d : List UInt8} (ha : ∀ x ∈ a, x ≠ 58) (hb : ∀ x ∈ b, x ≠ 58) (h : a ++ 58 :: c = b ++ 58 :: d) : a = b ∧ c = d := by
  induction a generalizing b with
  | nil =>
    cases b with
    | nil => simpa using h
    | cons y b => simp at h; exact absurd h.1.symm (hb y (by simp))
  | cons x a ih =>
    cases b with
    | nil => simp at h; exact absurd h.1 (ha x (by simp))
    | cons y b =>
      simp at h
      obtain ⟨e1, e2⟩ := ih (b := b) (fun z hz => ha z (by simp [hz])) (fun z hz => hb z (by simp [hz])) h.2
      exact ⟨by rw [h.1, e1], e2⟩
theorem bytes_ext {a b : ByteArray} (h : a.data.toList = b.data.toList) : a = b := Go.WideShapes.bytes_inj h
theorem part_one {u v : V} {r s : List UInt8} (h : u.part ++ r = v.part ++ s) : u.bare = v.bare ∧ r = s := by
  simp only [V.part, List.cons_append, List.append_assoc, List.cons.injEq] at h
  obtain ⟨hm, h⟩ := h
  obtain ⟨e1, e2⟩ := split58 (itoa_ne _) (itoa_ne _) h
  have e3 := itoa_inj e1
  have e4 : u.body.data.toList.length = v.body.data.toList.length := by simp only [data_len]; omega
  obtain ⟨e5, e6⟩ := List.append_inj e2 e4
  refine ⟨?_, e6⟩
  have e7 := bytes_ext e5
  obtain ⟨uk, us, un⟩ := u
  obtain ⟨vk, vs, vn⟩ := v
  cases uk <;> cases vk
  · have : (⟨(Lib.itoa un).toArray⟩ : ByteArray) = ⟨(Lib.itoa vn).toArray⟩ := e7
    have : Lib.itoa un = Lib.itoa vn := by simpa using this
    rw [itoa_inj this]; rfl
  · exact absurd (show (110 : UInt8) = 115 from hm) (by decide)
  · exact absurd (show (115 : UInt8) = 110 from hm) (by decide)
  · have : us = vs := e7
    rw [this]; rfl
theorem part_bare (v : V) : v.bare.part = v.part := by
  obtain ⟨k, s, n⟩ := v; cases k <;> rfl
theorem key_bare (vs : List V) : keyL (vs.map V.bare) = keyL vs := by
  induction vs with
  | nil => rfl
  | cons v l ih => simp only [keyL, List.map_cons, List.flatMap_cons, part_bare] at ih ⊢; rw [ih]
theorem part_cons (v : V) (r : List UInt8) : v.part ++ r ≠ [] := by simp [V.part]
theorem key_one {a b : List V} : keyL a = keyL b ↔ a.map V.bare = b.map V.bare := by
  refine ⟨fun h => ?_, fun h => by rw [← key_bare a, ← key_bare b, h]⟩
  induction a generalizing b with
  | nil =>
    cases b with
    | nil => rfl
    | cons y b => exact absurd h.symm (part_cons y _)
  | cons x a ih =>
    cases b with
    | nil => exact absurd h (part_cons x _)
    | cons y b =>
      obtain ⟨e1, e2⟩ := part_one (u := x) (v := y) (r := keyL a) (s := keyL b) h
      simp [e1, ih e2]
theorem key_join (a b : List V) : keyL (a ++ b) = keyL a ++ keyL b := by simp [keyL]
/-- Rows that begin alike. -/
theorem rcmp_join (a b c : List V) : rcmp (a ++ b) (a ++ c) = rcmp b c := by
  induction a with
  | nil => rfl
  | cons x a ih => simp only [List.cons_append, rcmp, V.cmp_self, if_true, ih]
theorem rcmp_less (a b : List V) (h : b ≠ []) : rcmp a (a ++ b) = -1 := by
  have := rcmp_join a [] b
  rw [List.append_nil] at this
  rw [this]
  cases b with
  | nil => exact absurd rfl h
  | cons y b => rfl
end Go.Proofs.YtdjappfmjnjibaaDoor
