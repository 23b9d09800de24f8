/-
  What is read stays what it is with more tokens behind it. Plain facts; no walk.
-/
import Derived.Test.YtfpamkijkaeafaaDoorGFacts
import Derived.Test.YtfpamkijkaeafaaDoorKJoinsP
namespace Go.Proofs.YtfpamkijkaeafaaDoor
set_option linter.unusedSimpArgs false
set_option linter.unusedVariables false
set_option linter.unusedSectionVars false
set_option maxRecDepth 100000
open Go.RowKit

theorem at_ext {e e' : Int} {L : List Tk} (U : List Tk) {k : Nat} (h : k < L.length) : atT e' (L ++ U) k = atT e L k := by
  unfold atT
  rw [List.getElem?_append_left h, List.getElem?_eq_getElem h]
  rfl
theorem tail_ext {L : List Tk} (U : List Tk) (h : L ≠ []) : (L ++ U).tail = L.tail ++ U := by
  cases L with
  | nil => exact absurd rfl h
  | cons a l => rfl
theorem pos_of_ne {L : List Tk} (h : L ≠ []) : 0 < L.length := List.length_pos_iff.2 h
/-- Read alike with the tokens U behind. -/
def Ext {α : Type} (rd rd' : List Tk → Rd α) (U : List Tk) : Prop := ∀ L, (rd L).bad = 0 → (rd L).rest ≠ [] → rd' (L ++ U) = ⟨0, (rd L).val, (rd L).rest ++ U⟩
theorem nameP_ext (e e' : Int) (U : List Tk) : ∀ L, (nameP e L).bad = 0 → nameP e' (L ++ U) = ⟨0, (nameP e L).val, (nameP e L).rest ++ U⟩ := by
  intro L hb
  unfold nameP at *
  split at hb
  · rename_i hn
    have hl := at_lt (nm_kind hn) (by decide)
    rw [if_pos hn, at_ext U hl, if_pos hn, tail_ext U (ne_of_lt hl)]
  · cases hb
theorem termP_ext (e e' : Int) (U : List Tk) : Ext (termP e) (termP e') U := by
  intro L hb _
  unfold termP at *
  cases hx : termT (atT e L 0) with
  | none => rw [hx] at hb; cases hb
  | some x =>
    have hl := at_ne (termT_kind hx)
    rw [at_ext U hl, hx]
    simp only [termO]
    rw [tail_ext U (ne_of_lt hl)]
theorem listP_ext {α : Type} {rd rd' : List Tk → Rd α} {e e' : Int} {U : List Tk} (h : Ext rd rd' U) : ∀ (n : Nat) (acc : List α), Ext (listP rd e n acc) (listP rd' e' n acc) U := by
  intro n
  induction n with
  | zero => intro acc L hb; cases hb
  | succ n ih =>
    intro acc L hb hne
    unfold listP at hb hne ⊢
    by_cases h1 : (rd L).bad = 0
    · rw [if_pos h1] at hb hne ⊢
      by_cases h2 : isMk [44] (atT e (rd L).rest 0) = true
      · rw [if_pos h2] at hb hne ⊢
        have hl := at_lt (mk_kind h2) (by decide)
        have hr := h L h1 (ne_of_lt hl)
        rw [hr, if_pos rfl, at_ext U hl, if_pos h2, tail_ext U (ne_of_lt hl)]
        exact ih _ _ hb hne
      · rw [if_neg h2] at hb hne ⊢
        have hl := pos_of_ne hne
        rw [h L h1 hne, if_pos rfl, at_ext U hl, if_neg h2]
    · rw [if_neg h1] at hb
      exact absurd hb h1
theorem endP_ext {α : Type} (m : List UInt8) (e e' : Int) (v z : α) (U : List Tk) : ∀ L, (endP m e v z L).bad = 0 → endP m e' v z (L ++ U) = ⟨0, v, (endP m e v z L).rest ++ U⟩ ∧ (endP m e v z L).val = v ∧ L ≠ [] := by
  intro L hb
  unfold endP at *
  split at hb
  · rename_i hm
    have hl := at_lt (mk_kind hm) (by decide)
    rw [at_ext U hl, if_pos hm, if_pos hm, tail_ext U (ne_of_lt hl)]
    exact ⟨rfl, rfl, ne_of_lt hl⟩
  · cases hb
theorem atomP_ext (e e' : Int) (U : List Tk) : Ext (atomP e) (atomP e') U := by
  intro L hb hne
  unfold atomP at hb hne ⊢
  by_cases h1 : (nameP e L).bad = 0
  · rw [if_pos h1] at hb hne ⊢
    rw [nameP_ext e e' U L h1, if_pos rfl]
    by_cases h2 : isMk [40] (atT e (nameP e L).rest 0) = true
    · rw [if_pos h2] at hb hne ⊢
      have hl := at_lt (mk_kind h2) (by decide)
      rw [at_ext U hl, if_pos h2, tail_ext U (ne_of_lt hl)]
      unfold argsP at hb hne ⊢
      by_cases h3 : (listP (termP e) e 6 [] (nameP e L).rest.tail).bad = 0
      · rw [if_pos h3] at hb hne ⊢
        obtain ⟨h4, h5, h6⟩ := endP_ext [41] e e' (⟨(nameP e L).val, (listP (termP e) e 6 [] (nameP e L).rest.tail).val⟩ : Am) Am.zero U _ hb
        rw [listP_ext (termP_ext e e' U) 6 [] _ h3 h6, if_pos rfl, h4, h5]
      · rw [if_neg h3] at hb
        exact absurd hb h3
    · rw [if_neg h2] at hb hne ⊢
      rw [at_ext U (pos_of_ne hne), if_neg h2]
  · rw [if_neg h1] at hb
    exact absurd hb h1
theorem litA_ext {k : Int} {r r' : Rd Am} {U : List Tk} (hb : (litA k r).bad = 0) (h : r.bad = 0 → r' = ⟨0, r.val, r.rest ++ U⟩) : litA k r' = ⟨0, (litA k r).val, (litA k r).rest ++ U⟩ := by
  have h0 : r.bad = 0 := by rw [← (litA_rest k r).2]; exact hb
  rw [h h0]
  unfold litA
  rw [if_pos rfl, if_pos h0]
theorem cmpP_ext (e e' : Int) (U : List Tk) : Ext (cmpP e) (cmpP e') U := by
  intro L hb hne
  unfold cmpP at hb hne ⊢
  by_cases h1 : (termP e L).bad = 0
  · rw [if_pos h1] at hb hne ⊢
    by_cases h2 : isOp (atT e (termP e L).rest 0) = true
    · rw [if_pos h2] at hb hne ⊢
      have hl := at_lt (op_kind h2) (by decide)
      rw [termP_ext e e' U L h1 (ne_of_lt hl), if_pos rfl, at_ext U hl, if_pos h2, tail_ext U (ne_of_lt hl)]
      rw [(cmpR_rest _ _ _).2] at hb
      rw [(cmpR_rest _ _ _).1] at hne
      rw [termP_ext e e' U _ hb hne]
      unfold cmpR
      rw [if_pos rfl, if_pos hb]
    · rw [if_neg h2] at hb
      cases hb
  · rw [if_neg h1] at hb
    exact absurd hb h1
theorem litP_ext (e e' : Int) (U : List Tk) : Ext (litP e) (litP e') U := by
  intro L hb hne
  have h2 : 2 ≤ L.length := by
    have h3 := (litP_len e L).2 hb
    have := pos_of_ne hne
    omega
  unfold litP at hb hne ⊢
  rw [at_ext U (by omega : 0 < L.length), at_ext U (by omega : 1 < L.length)]
  by_cases h1 : isNg (atT e L 0) = true
  · rw [if_pos h1] at hb hne ⊢
    rw [if_pos h1, tail_ext U (by rintro rfl; simp at h2)]
    rw [(litA_rest _ _).1] at hne
    exact litA_ext hb (fun h => atomP_ext e e' U _ h hne)
  · rw [if_neg h1] at hb hne ⊢
    rw [if_neg h1]
    by_cases h3 : isNm (atT e L 0) = true ∧ isOp (atT e L 1) = false
    · rw [if_pos h3] at hb hne ⊢
      rw [if_pos h3]
      rw [(litA_rest _ _).1] at hne
      exact litA_ext hb (fun h => atomP_ext e e' U _ h hne)
    · rw [if_neg h3] at hb hne ⊢
      rw [if_neg h3]
      exact cmpP_ext e e' U L hb hne
theorem ruleP_ext (e e' : Int) (U : List Tk) : ∀ L, (ruleP e L).bad = 0 → ruleP e' (L ++ U) = ⟨0, (ruleP e L).val, (ruleP e L).rest ++ U⟩ := by
  intro L hb
  unfold ruleP at hb ⊢
  by_cases h1 : (atomP e L).bad = 0
  · rw [if_pos h1] at hb ⊢
    by_cases h2 : isMk [58, 45] (atT e (atomP e L).rest 0) = true
    · rw [if_pos h2] at hb ⊢
      have hl := at_lt (mk_kind h2) (by decide)
      rw [atomP_ext e e' U L h1 (ne_of_lt hl), if_pos rfl, at_ext U hl, if_pos h2, tail_ext U (ne_of_lt hl)]
      unfold bodyP at hb ⊢
      by_cases h3 : (listP (litP e) e 8 [] (atomP e L).rest.tail).bad = 0
      · rw [if_pos h3] at hb ⊢
        obtain ⟨h4, h5, h6⟩ := endP_ext [46] e e' (⟨(atomP e L).val, (listP (litP e) e 8 [] (atomP e L).rest.tail).val⟩ : Ru) Ru.zero U _ hb
        rw [listP_ext (litP_ext e e' U) 8 [] _ h3 h6, if_pos rfl, h4, h5]
      · rw [if_neg h3] at hb
        exact absurd hb h3
    · rw [if_neg h2] at hb ⊢
      obtain ⟨h4, h5, h6⟩ := endP_ext [46] e e' (⟨(atomP e L).val, []⟩ : Ru) Ru.zero U _ hb
      rw [atomP_ext e e' U L h1 h6, if_pos rfl, at_ext U (pos_of_ne h6), if_neg h2, h4, h5]
  · rw [if_neg h1] at hb
    exact absurd hb h1
theorem declP_ext (e e' : Int) (U : List Tk) : ∀ L, isMk [47] (atT e L 1) = true → (declP e L).bad = 0 → declP e' (L ++ U) = ⟨0, (declP e L).val, (declP e L).rest ++ U⟩ := by
  intro L hs hb
  have hl2 := at_lt (mk_kind hs) (by decide)
  unfold declP at hb ⊢
  by_cases h1 : (nameP e L).bad = 0
  · rw [if_pos h1] at hb ⊢
    have hr : (nameP e L).rest ≠ [] := by
      have : (nameP e L).rest = L.tail := by
        unfold nameP at h1 ⊢
        split at h1
        · rename_i hn; rw [if_pos hn]
        · cases h1
      rw [this]
      intro h0
      have := congrArg List.length h0
      simp at this
      omega
    rw [nameP_ext e e' U L h1, if_pos rfl, tail_ext U hr]
    unfold declN at hb ⊢
    by_cases h3 : (atT e (nameP e L).rest.tail 0).kind = 3
    · have hl := at_lt h3 (by decide)
      rw [if_pos h3] at hb ⊢
      rw [at_ext U hl, if_pos h3]
      by_cases h4 : (atT e (nameP e L).rest.tail 0).n < 0 ∨ 6 < (atT e (nameP e L).rest.tail 0).n
      · rw [if_pos h4] at hb; cases hb
      · rw [if_neg h4] at hb ⊢
        rw [if_neg h4, tail_ext U (ne_of_lt hl)]
        obtain ⟨h5, h6, -⟩ := endP_ext [46] e e' (⟨(nameP e L).val, (atT e (nameP e L).rest.tail 0).n⟩ : De) De.zero U _ hb
        rw [h5, h6]
    · rw [if_neg h3] at hb; cases hb
  · rw [if_neg h1] at hb
    exact absurd hb h1
theorem clauseP_two {e : Int} {g : Pr} {L : List Tk} (hb : (clauseP e g L).bad = 0) : 2 ≤ L.length := by
  unfold clauseP at hb
  split at hb
  · rename_i h
    have := at_lt (mk_kind h) (by decide)
    omega
  · split at hb
    · cases hb
    · have hb' : (ruleP e L).bad = 0 := hb
      unfold ruleP at hb'
      split at hb'
      · rename_i h1
        have h2 := (atomP_len e L).2 h1
        split at hb'
        · rename_i h3
          have := at_lt (mk_kind h3) (by decide)
          omega
        · unfold endP at hb'
          split at hb'
          · rename_i h3
            have := at_lt (mk_kind h3) (by decide)
            omega
          · cases hb'
      · rename_i h1
        exact absurd hb' h1
theorem clauseP_ext (e e' : Int) (g : Pr) (U : List Tk) : ∀ L, (clauseP e g L).bad = 0 → clauseP e' g (L ++ U) = ⟨0, (clauseP e g L).val, (clauseP e g L).rest ++ U⟩ := by
  intro L hb
  have h2 := clauseP_two hb
  unfold clauseP at hb ⊢
  rw [at_ext U (by omega : 1 < L.length)]
  by_cases h1 : isMk [47] (atT e L 1) = true
  · rw [if_pos h1] at hb ⊢
    rw [if_pos h1]
    by_cases h3 : g.decls.length = 400
    · rw [if_pos h3] at hb; cases hb
    · rw [if_neg h3] at hb ⊢
      rw [if_neg h3, declP_ext e e' U L h1 hb]
  · rw [if_neg h1] at hb ⊢
    rw [if_neg h1]
    by_cases h3 : g.rules.length = 400
    · rw [if_pos h3] at hb; cases hb
    · rw [if_neg h3] at hb ⊢
      rw [if_neg h3, ruleP_ext e e' U L hb]
/-- Behind a program more tokens are read as behind its clauses. -/
theorem progG_ext (e e' : Int) (U : List Tk) : ∀ (n : Nat) (g : Pr) (L : List Tk), L.length ≤ n → (progG e g L).bad = 0 → progG e' g (L ++ U) = progG e' (progG e g L).val U := by
  intro n
  induction n with
  | zero =>
    intro g L hn _
    have : L = [] := List.length_eq_zero_iff.1 (by omega)
    subst this
    rw [List.nil_append, progG_nil]
  | succ n ih =>
    intro g L hn hb
    by_cases h0 : L = []
    · subst h0
      rw [List.nil_append, progG_nil]
    · have h1 := progG_step e g h0
      by_cases hc : (clauseP e g L).bad = 0
      · rw [if_pos hc] at h1
        rw [h1] at hb ⊢
        have hl := (clauseP_len e g L).2 hc
        have h2 := progG_step e' g (L := L ++ U) (by simp [h0])
        rw [clauseP_ext e e' g U L hc, if_pos rfl] at h2
        rw [h2]
        exact ih _ _ (by omega) hb
      · rw [if_neg hc] at h1
        rw [h1] at hb
        exact absurd hb hc
end Go.Proofs.YtfpamkijkaeafaaDoor
