/-
  Two texts with a line's end between: scanned one behind the other. Plain facts; no walk.
-/
import Derived.Test.YtfpamkijkaeafaaDoorKFacts
namespace Go.Proofs.YtfpamkijkaeafaaDoor
set_option linter.unusedSimpArgs false
set_option linter.unusedVariables false
set_option linter.unusedSectionVars false
set_option maxRecDepth 100000
open Go.RowKit

theorem runLen_line (f : UInt8 → Bool) (h : f 10 = false) (l t : List UInt8) : runLen f (l ++ 10 :: t) = runLen f l := by
  induction l with
  | nil => simp [runLen, h]
  | cons c l ih =>
    cases hc : f c
    · simp [runLen, hc]
    · simp [runLen, hc] at ih ⊢
      exact ih
theorem take_line (l t : List UInt8) (k : Nat) (h : k ≤ l.length) : (l ++ 10 :: t).take k = l.take k := by
  rw [List.take_append_of_le_length h]
theorem quoS_line (t : List UInt8) : ∀ (n : Nat) (l : List UInt8), l.length ≤ n → quoS (l ++ 10 :: t) = quoS l := by
  intro n
  induction n with
  | zero =>
    intro l hl
    have : l = [] := List.length_eq_zero_iff.1 (by omega)
    subst this
    rw [List.nil_append, quoS_10]; rfl
  | succ n ih =>
    intro l hl
    match l, hl with
    | [], _ => rw [List.nil_append, quoS_10]; rfl
    | c :: l, hl =>
      simp at hl
      by_cases h1 : c = 39
      · subst h1; rw [List.cons_append, quoS_39, quoS_39]
      by_cases h2 : c = 10
      · subst h2; rw [List.cons_append, quoS_10, quoS_10]
      by_cases h3 : c = 92
      · subst h3
        match l, hl with
        | [], _ =>
          show quoS (92 :: 10 :: t) = quoS [92]
          rw [quoS_92]; rfl
        | d :: l', hl =>
          simp at hl
          rw [List.cons_append, List.cons_append, quoS_92, quoS_92, ih l' (by omega)]
      · rw [List.cons_append, quoS_else _ h1 h2 h3, quoS_else _ h1 h2 h3, ih l (by omega)]
theorem prefix_line (m l t : List UInt8) (hm : 10 ∉ m) : m.isPrefixOf (l ++ 10 :: t) = m.isPrefixOf l := by
  induction m generalizing l with
  | nil => simp
  | cons a m ih =>
    simp at hm
    cases l with
    | nil =>
      have : (a == (10 : UInt8)) = false := by simpa using fun e => hm.1 e.symm
      simp [List.isPrefixOf, this]
    | cons c l => simp [List.isPrefixOf, ih l hm.2]
theorem find_line (l t : List UInt8) : markT.find? (fun m => m.isPrefixOf (l ++ 10 :: t)) = markT.find? (fun m => m.isPrefixOf l) := by
  have h10 : ∀ m ∈ markT, (10 : UInt8) ∉ m := by decide
  have aux : ∀ L : List (List UInt8), (∀ m ∈ L, (10 : UInt8) ∉ m) → L.find? (fun m => m.isPrefixOf (l ++ 10 :: t)) = L.find? (fun m => m.isPrefixOf l) := by
    intro L
    induction L with
    | nil => intro _; rfl
    | cons m L ih =>
      intro h
      rw [List.find?_cons, List.find?_cons, prefix_line m l t (h m (by simp)), ih (fun x hx => h x (by simp [hx]))]
  exact aux markT h10
theorem one_line {l : List UInt8} (h0 : l ≠ []) (t : List UInt8) : oneL (l ++ 10 :: t) = oneL l := by
  match l, h0 with
  | c :: l, _ =>
    rw [List.cons_append, oneL_cons, oneL_cons]
    have hn : ∀ k, nameL k (c :: (l ++ 10 :: t)) = nameL k (c :: l) := fun k => by
      unfold nameL
      rw [← List.cons_append, runLen_line _ rfl, take_line _ _ _ (runLen_le _ _)]
    have hq : quoL (c :: (l ++ 10 :: t)) = quoL (c :: l) := by
      unfold quoL
      rw [List.tail_cons, List.tail_cons, quoS_line t l.length l (Nat.le_refl _)]
    have hu : numL (c :: (l ++ 10 :: t)) = numL (c :: l) := by
      unfold numL
      rw [List.tail_cons, List.tail_cons, runLen_line _ rfl, ← List.cons_append, take_line _ _ _ (by have := runLen_le figureQ l; simp; omega)]
    have hm : markL (c :: (l ++ 10 :: t)) = markL (c :: l) := by
      unfold markL
      rw [← List.cons_append, find_line]
    unfold oneC
    rw [hn, hn, hq, hu, hm, runLen_line _ rfl]
theorem skip_line (t : List UInt8) : ∀ (l : List UInt8) (r : Bool), skipS r (l ++ 10 :: t) = if skipS r l < l.length then skipS r l else l.length + 1 + skipS false t := by
  intro l
  induction l with
  | nil =>
    intro r
    have e : skipS r (10 :: t) = 1 + skipS false t := by
      rw [skipS, if_neg (by simp [blankQ])]; rfl
    simp [e]
  | cons c l ih =>
    intro r
    rw [List.cons_append, skipS, skipS]
    by_cases h : (r || c == 37) = false ∧ blankQ c = false
    · rw [if_pos h, if_pos h, if_pos (by simp)]
    · rw [if_neg h, if_neg h]
      obtain ⟨r', hr'⟩ : ∃ r', r' = (if c == 10 then false else r || c == 37) := ⟨_, rfl⟩
      rw [← hr', ih]
      by_cases h2 : skipS r' l < l.length
      · rw [if_pos h2, if_pos (by rw [List.length_cons]; omega)]
      · rw [if_neg h2, if_neg (by rw [List.length_cons]; omega), List.length_cons]; omega
theorem scan_line (t : List UInt8) : ∀ (n : Nat) (l : List UInt8), l.length ≤ n → ∀ p, scanAt p (l ++ 10 :: t) = if (scanAt p l).bad = 0 then Res.app (scanAt p l).toks (scanAt (p + l.length + 1) t) else scanAt p l := by
  intro n
  induction n with
  | zero =>
    intro l hl p
    have : l = [] := List.length_eq_zero_iff.1 (by omega)
    subst this
    have e : scanAt p [] = ⟨0, 0, []⟩ := by rw [scanAt_eq]; rfl
    rw [e, if_pos rfl, Res.app_nil (scanAt_pl _ _), List.nil_append, scanAt_skip p, skipS_blank rfl, scanAt_skip (p + ([] : List UInt8).length + 1), Nat.add_comm 1, List.drop_succ_cons]
    congr 1
    simp; omega
  | succ n ih =>
    intro l hl p
    by_cases h1 : l.length ≤ skipS false l
    · have e : scanAt p l = ⟨0, 0, []⟩ := by rw [scanAt_eq, if_pos h1]
      have hk : skipS false (l ++ 10 :: t) = l.length + 1 + skipS false t := by rw [skip_line, if_neg (by omega)]
      rw [e, if_pos rfl, Res.app_nil (scanAt_pl _ _), scanAt_skip p, hk, scanAt_skip (p + l.length + 1)]
      have ed : (l ++ 10 :: t).drop (l.length + 1 + skipS false t) = t.drop (skipS false t) := by
        rw [List.drop_append, List.drop_of_length_le (by omega), List.nil_append, show l.length + 1 + skipS false t - l.length = skipS false t + 1 by omega, List.drop_succ_cons]
      rw [ed]
      congr 1
      omega
    · have hk : skipS false (l ++ 10 :: t) = skipS false l := by rw [skip_line, if_pos (by omega)]
      have hne : l.drop (skipS false l) ≠ [] := by
        intro e
        have := congrArg List.length e
        simp at this
        omega
      have ed : (l ++ 10 :: t).drop (skipS false l) = l.drop (skipS false l) ++ 10 :: t := by rw [List.drop_append_of_le_length (by omega)]
      rw [scanAt_eq p (l ++ 10 :: t), scanAt_eq p l, hk, ed, one_line hne, if_neg (by simp; omega), if_neg h1]
      by_cases h2 : (oneL (l.drop (skipS false l))).bad = 0
      · have hl2 := oneL_len hne h2
        have hl3 := hl2.2
        simp at hl3
        obtain ⟨g, hg⟩ : ∃ g, g = oneL (l.drop (skipS false l)) := ⟨_, rfl⟩
        rw [← hg] at h2 hl2 hl3 ⊢
        have ed2 : (l ++ 10 :: t).drop (skipS false l + g.len) = l.drop (skipS false l + g.len) ++ 10 :: t := by rw [List.drop_append_of_le_length (by omega)]
        have hi := ih (l.drop (skipS false l + g.len)) (by simp; omega) (p + skipS false l + g.len)
        have ep : p + skipS false l + g.len + (l.drop (skipS false l + g.len)).length + 1 = p + l.length + 1 := by simp; omega
        rw [if_pos h2, if_pos h2, ed2, hi, ep]
        generalize scanAt (p + skipS false l + g.len) (l.drop (skipS false l + g.len)) = r
        generalize scanAt (p + l.length + 1) t = R
        by_cases h3 : r.bad = 0
        · rw [if_pos h3]
          have e1 : Res.cons (g.tok.put (p + skipS false l)) r = ⟨0, 0, g.tok.put (p + skipS false l) :: r.toks⟩ := by simp [Res.cons, h3]
          rw [e1, if_pos rfl]
          by_cases h4 : R.bad = 0 <;> simp [Res.app, Res.cons, h4]
        · rw [if_neg h3]
          have e1 : Res.cons (g.tok.put (p + skipS false l)) r = r := by simp [Res.cons, h3]
          rw [e1, if_neg h3]
      · rw [if_neg h2, if_neg h2, if_neg h2]
end Go.Proofs.YtfpamkijkaeafaaDoor
