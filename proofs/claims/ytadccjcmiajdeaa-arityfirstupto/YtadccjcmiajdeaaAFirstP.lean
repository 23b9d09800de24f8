/-
  A program of one clause more: what is told. Plain facts; no walk.
-/
import Derived.Test.YtadccjcmiajdeaaAOrderP
namespace Go.Proofs.Ytadccjcmiajdeaa
set_option linter.unusedSimpArgs false
set_option linter.unusedVariables false
set_option linter.unusedSectionVars false
set_option maxRecDepth 100000
open Go.RowKit

theorem firsts_more (U V : List De) : ∃ R, firsts (U ++ V) = firsts U ++ R := by
  have aux : ∀ (V acc : List De), ∃ R, V.foldl (fun acc u => if (findD acc u.p).isSome then acc else acc ++ [u]) acc = acc ++ R := by
    intro V
    induction V with
    | nil => intro acc; exact ⟨[], by simp⟩
    | cons v V ih =>
      intro acc
      simp only [List.foldl_cons]
      split
      · exact ih acc
      · obtain ⟨R, hR⟩ := ih (acc ++ [v])
        exact ⟨v :: R, by rw [hR]; simp⟩
  unfold firsts
  rw [List.foldl_append]
  exact aux V _
theorem told_more_bad {U : List De} (V : List De) (h : ¬ Fine U) : told (U ++ V) = told U := by
  rcases fine_or U with hf | ⟨a, u, b, rfl, hf, hc⟩
  · exact absurd hf h
  · rw [told_bad hf hc, List.append_assoc, List.cons_append, told_bad hf hc]
theorem told_more {U : List De} (V : List De) (h : Fine U) :
    (Fine (U ++ V) ∧ told (U ++ V) = ⟨firsts (U ++ V), 0, false⟩) ∨ (∃ k, U.length ≤ k ∧ told (U ++ V) = ⟨[], k, true⟩) := by
  rcases fine_or (U ++ V) with hf | ⟨a, u, b, e, hf, hc⟩
  · exact .inl ⟨hf, told_fine hf⟩
  · refine .inr ⟨a.length, ?_, by rw [e, told_bad hf hc]⟩
    rcases Nat.lt_or_ge a.length U.length with hl | hl
    · exfalso
      have hk : ∃ c, U = a ++ u :: c := by
        rcases List.append_eq_append_iff.1 e with ⟨c, h1, -⟩ | ⟨c, h1, h2⟩
        · rw [h1] at hl
          simp at hl
          omega
        · cases c with
          | nil =>
            rw [h1] at hl
            simp at hl
          | cons z c => exact ⟨c, by rw [h1, (List.cons.inj h2).1]⟩
      obtain ⟨c, rfl⟩ := hk
      have h2 := h a u c rfl
      rw [hc] at h2
      cases h2
    · exact hl
/-- A program with one rule more. -/
def moreP (g : Pr) (r : Ru) : Pr := ⟨g.decls, g.rules ++ [r]⟩
theorem uses_more (g : Pr) (r : Ru) : usesL (moreP g r) = usesL g ++ (atomsL r).map useOf := by
  simp [usesL, moreP, rulesU]
theorem ats_len (r : Ru) : ((atomsL r).map useOf).length ≤ r.body.length + 1 := by
  have h1 : (bodyAts r.body).length ≤ r.body.length := by unfold bodyAts; simp; exact List.length_filter_le _ _
  simp [atomsL]
  omega
theorem uses_in_ru {r : Ru} (hs : szRu r ≤ 1048576) : ∀ u ∈ (atomsL r).map useOf, DeV u := by
  intro u hu
  obtain ⟨a, ha, rfl⟩ := List.mem_map.1 hu
  exact atom_in (by have := atoms_of ha; omega)
end Go.Proofs.Ytadccjcmiajdeaa
