/-
  What is joined is scanned again. Plain facts; no walk.
-/
import Derived.Test.YtbbmihojfcofdaaGreatDoorKDig
import Derived.Test.YtbbmihojfcofdaaGreatDoorKFacts
import Derived.Test.YtbbmihojfcofdaaGreatDoorKJoinP
namespace Go.Proofs.YtbbmihojfcofdaaGreatDoor
set_option linter.unusedSimpArgs false
set_option linter.unusedVariables false
set_option linter.unusedSectionVars false
set_option maxRecDepth 100000
open Go.RowKit

/-- The same, but for places. -/
def Alike (a b : Tk) : Prop := a.kind = b.kind ∧ a.s = b.s ∧ a.n = b.n ∧ a.q = b.q

theorem quoS_quote (l r : List UInt8) : quoS (escL l ++ 39 :: r) = some (l, (escL l).length + 1) := by
  induction l with
  | nil => exact quoS_39 r
  | cons c l ih =>
    have e : escL (c :: l) = escC c ++ escL l := by simp [escL]
    rw [e]
    rcases escC_cases c with ⟨rfl, h⟩ | ⟨h1, h2, h⟩ | ⟨h1, h2, h3, h⟩
    · rw [h]
      simp only [List.cons_append, List.nil_append]
      rw [quoS_92, ih]
      simp [escO]
    · rw [h]
      simp only [List.cons_append, List.nil_append]
      rw [quoS_92, ih]
      rcases h2 with rfl | rfl <;> simp [escO]
    · rw [h]
      simp only [List.cons_append, List.nil_append]
      rw [quoS_else _ h3 h1 h2, ih]
      simp
theorem one_quote (l r : List UInt8) : oneL (quoteL l ++ 32 :: r) = ⟨0, ⟨1, ⟨l.toArray⟩, 0, true, 0⟩, (quoteL l).length⟩ := by
  have e : quoteL l ++ 32 :: r = 39 :: (escL l ++ 39 :: (32 :: r)) := by simp [quoteL]
  rw [e, oneL_cons]
  unfold oneC
  rw [if_neg (by decide), if_neg (by decide), if_pos rfl]
  unfold quoL
  rw [List.tail_cons, quoS_quote]
  simp [quoOf, quoteL]
theorem fig_of {c : UInt8} (h : 48 ≤ c.toNat ∧ c.toNat ≤ 57) : figureQ c = true := by simp [figureQ, h.1, h.2]
theorem runLen_all (f : UInt8 → Bool) (t r : List UInt8) (c : UInt8) (h : ∀ x ∈ t, f x = true) (hc : f c = false) : runLen f (t ++ c :: r) = t.length := by
  induction t with
  | nil => simp [runLen, hc]
  | cons a t ih =>
    have ha := h a (by simp)
    have := ih (fun x hx => h x (by simp [hx]))
    simp [runLen, ha] at this ⊢
    exact this
theorem itoa_form (n : Int) : ∃ c t, Lib.itoa n = c :: t ∧ (∀ x ∈ t, figureQ x = true) ∧ (figureQ c = true ∨ (c = 45 ∧ t ≠ [])) := by
  by_cases hn : n < 0
  · obtain ⟨-, h2, h3⟩ := digVal_dec n.natAbs
    exact ⟨45, _, by rw [Lib.itoa, if_pos hn], fun x hx => fig_of (h3 x hx), .inr ⟨rfl, h2⟩⟩
  · obtain ⟨-, h2, h3⟩ := digVal_dec n.toNat
    have e : Lib.itoa n = Lib.decDigits n.toNat := by rw [Lib.itoa, if_neg hn]
    cases hd : Lib.decDigits n.toNat with
    | nil => exact absurd hd h2
    | cons c t =>
      rw [hd] at h3
      exact ⟨c, t, by rw [e, hd], fun x hx => fig_of (h3 x (by simp [hx])), .inl (fig_of (h3 c (by simp)))⟩
theorem fig_kind {c : UInt8} (h : figureQ c = true ∨ c = 45) : smallQ c = false ∧ greatQ c = false ∧ c ≠ 39 ∧ blankQ c = false ∧ c ≠ 37 := by
  rcases h with h | rfl
  · simp [figureQ] at h
    refine ⟨by simp [smallQ]; omega, by simp [greatQ]; omega, fun e => ?_, ?_, fun e => ?_⟩
    · subst e; revert h; decide
    · simp only [blankQ, Bool.or_eq_false_iff, beq_eq_false_iff_ne]
      refine ⟨⟨⟨?_, ?_⟩, ?_⟩, ?_⟩ <;> (rintro rfl; revert h; decide)
    · subst e; revert h; decide
  · decide
theorem one_num {n : Int} (hn : InR n) (r : List UInt8) : oneL (Lib.itoa n ++ 32 :: r) = ⟨0, ⟨3, ⟨#[]⟩, n, false, 0⟩, (Lib.itoa n).length⟩ := by
  have hp := parse_itoa hn
  obtain ⟨c, t, e, ht, hc⟩ := itoa_form n
  rw [e] at hp ⊢
  have hk := fig_kind (c := c) (hc.elim .inl (fun h => .inr h.1))
  have hrun : runLen figureQ (t ++ 32 :: r) = t.length := runLen_all _ _ _ _ ht rfl
  rw [List.cons_append, oneL_cons]
  unfold oneC
  rw [if_neg (by simp [hk.1]), if_neg (by simp [hk.2.1]), if_neg hk.2.2.1, if_pos]
  · unfold numL
    rw [List.tail_cons, hrun]
    have e2 : (c :: (t ++ 32 :: r)).take (1 + t.length) = c :: t := by rw [Nat.add_comm]; simp
    rw [e2, numOf_ok hp]
    simp; omega
  · rcases hc with hc | ⟨rfl, h0⟩
    · simp [hc]
    · have : 0 < t.length := by cases t with
        | nil => exact absurd rfl h0
        | cons a t => simp
      rw [hrun]; simp [this]

/-- A token that is read again as it is. -/
def Good (t : Tk) : Prop := (∃ c u, textT t = c :: u ∧ blankQ c = false ∧ c ≠ 37) ∧ ∀ r, ∃ t', oneL (textT t ++ 32 :: r) = ⟨0, t', (textT t).length⟩ ∧ Alike t' t
theorem scan_blank (p : Nat) (l : List UInt8) : scanAt p (32 :: l) = scanAt (p + 1) l := by
  rw [scanAt_skip p, skipS_blank rfl, scanAt_skip (p + 1), Nat.add_comm 1, List.drop_succ_cons]
  congr 1
  omega
theorem scan_join (T : List Tk) (h : ∀ t ∈ T, Good t) : ∀ p, ∃ T', scanAt p (joinL T) = ⟨0, 0, T'⟩ ∧ T'.length = T.length ∧ ∀ (i : Nat) (h1 : i < T'.length) (h2 : i < T.length), Alike T'[i] T[i] := by
  induction T with
  | nil =>
    intro p
    exact ⟨[], by rw [scanAt_eq]; rfl, rfl, fun i h1 => by simp at h1⟩
  | cons t T ih =>
    intro p
    obtain ⟨⟨c, u, e, hb, h37⟩, hg⟩ := h t (by simp)
    obtain ⟨t', ht', ha⟩ := hg (joinL T)
    have ej : joinL (t :: T) = textT t ++ 32 :: joinL T := by simp [joinL]
    have hs : skipS false (joinL (t :: T)) = 0 := by rw [ej, e, List.cons_append]; exact skipS_no hb (by simpa using h37) _
    obtain ⟨T', hT', hl, hal⟩ := ih (fun x hx => h x (by simp [hx])) (p + (textT t).length + 1)
    refine ⟨t'.put p :: T', ?_, by simp [hl], ?_⟩
    · rw [scanAt_eq, hs]
      simp only [List.drop_zero, Nat.add_zero, Nat.zero_add]
      rw [ej, ht', if_neg (by simp), if_pos rfl]
      have ed : (textT t ++ 32 :: joinL T).drop (textT t).length = 32 :: joinL T := by simp
      rw [ed, scan_blank, hT']
      simp [Res.cons]
    · intro i h1 h2
      cases i with
      | zero => exact ha
      | succ i => exact hal i (by simpa using h1) (by simpa using h2)
theorem good_quote (s : ByteArray) (pl : Int) : Good ⟨1, s, 0, true, pl⟩ := by
  have e : textT ⟨1, s, 0, true, pl⟩ = quoteL s.data.toList := by simp [textT]
  unfold Good
  rw [e]
  exact ⟨⟨39, _, rfl, rfl, by decide⟩, fun r => ⟨_, one_quote _ r, rfl, by simp, rfl, rfl⟩⟩
theorem good_num (s : ByteArray) {n : Int} (q : Bool) (pl : Int) (hn : InR n) (hs : s = ⟨#[]⟩) (hq : q = false) : Good ⟨3, s, n, q, pl⟩ := by
  subst hs hq
  have e : textT ⟨3, ⟨#[]⟩, n, false, pl⟩ = Lib.itoa n := by simp [textT]
  unfold Good
  rw [e]
  obtain ⟨c, t, e1, ht, hc⟩ := itoa_form n
  have hk := fig_kind (c := c) (hc.elim .inl (fun h => .inr h.1))
  exact ⟨⟨c, t, e1, hk.2.2.2.1, hk.2.2.2.2⟩, fun r => ⟨_, one_num hn r, rfl, rfl, rfl, rfl⟩⟩
end Go.Proofs.YtbbmihojfcofdaaGreatDoor
