/-
  Plain facts for the walk of RelationPlays: the program's rows beside the document's three lists.
-/
import Derived.Test.YtkkpcphmojegmaaRRef0
namespace Go.Proofs.Ytkkpcphmojegmaa
set_option linter.unusedSimpArgs false
set_option linter.unusedVariables false
set_option linter.unusedSectionVars false
set_option maxRecDepth 100000
open Go.RowKit Go.Maps
variable [DecidableEq V]

/-- The program's rows M (s1 full, s2 full or delta) are the document's, in their order. -/
structure Both (M : List (List V)) (s1 s2 : Nat) (N D F : List (List V)) : Prop where
  all : F ++ D ++ N = M
  f : F.length = s1
  d : F.length + D.length = s2
section
variable {M : List (List V)} {s1 s2 : Nat} {N D F : List (List V)}
theorem Both.start : Both [] 0 0 [] [] [] := ⟨rfl, rfl, rfl⟩
theorem Both.add (h : Both M s1 s2 N D F) (r : List V) : Both (M ++ [r]) s1 s2 (N ++ [r]) D F := ⟨by rw [← h.all]; simp, h.f, h.d⟩
theorem Both.turn (h : Both M s1 s2 N D F) : Both M s2 M.length [] N (F ++ D) := ⟨by rw [← h.all]; simp, by rw [List.length_append, h.d], by rw [← h.all]; simp; omega⟩
theorem Both.news (h : Both M s1 s2 N D F) : decide (s2 < M.length) = decide (0 < N.length) := by
  have := h.d
  rw [← h.all]
  simp only [List.length_append]
  apply Bool.eq_iff_iff.2
  simp only [decide_eq_true_eq]
  omega
theorem Both.delta (h : Both M s1 s2 N D F) : (M.drop s1).take (s2 - s1) = D := by
  have h2 := h.d
  have h1 := h.f
  rw [← h.all, List.append_assoc, ← h1, List.drop_left, show s2 - F.length = D.length by omega, List.take_left]
theorem Both.old (h : Both M s1 s2 N D F) : (M.drop 0).take (s2 - 0) = F ++ D := by
  rw [List.drop_zero, Nat.sub_zero, ← h.all, ← h.d, ← List.length_append, List.take_left]
theorem Both.len (h : Both M s1 s2 N D F) : M.length = (F ++ D ++ N).length := by rw [h.all]
theorem Both.has (h : Both M s1 s2 N D F) (hb : Bare M) (vs : List V) : (inB N vs || inB D vs || inB F vs) = decide (vs.map V.bare ∈ M) := by
  have hN : Bare N := fun r hr => hb r (by rw [← h.all]; simp [hr])
  have hD : Bare D := fun r hr => hb r (by rw [← h.all]; simp [hr])
  have hF : Bare F := fun r hr => hb r (by rw [← h.all]; simp [hr])
  rw [inB_bare hN, inB_bare hD, inB_bare hF, ← h.all]
  apply Bool.eq_iff_iff.2
  simp only [Bool.or_eq_true, decide_eq_true_eq, List.mem_append]
  exact ⟨fun h => by rcases h with (h | h) | h <;> simp [h], fun h => by rcases h with (h | h) | h <;> simp [h]⟩
/-- What the program matches, and what the document does, are the same rows in order. -/
theorem Both.matched (h : Both M s1 s2 N D F) (hu : Unlike M) (cols : List Int) (vs : List V) (o : Bool) : srt (sel M s1 s2 cols vs o) = srt ((D ++ (if o then [] else F)).filter (holdB cols vs)) := by
  have hs : (F ++ D).Sublist M := by rw [← h.all]; exact List.sublist_append_left _ _
  have huFD : Unlike (F ++ D) := hu.sublist hs
  cases o with
  | true =>
    have e : sel M s1 s2 cols vs true = D.filter (holdB cols vs) := by unfold sel; simp only [if_true]; rw [h.delta]
    rw [e]; simp
  | false =>
    have e : sel M s1 s2 cols vs false = (F ++ D).filter (holdB cols vs) := by unfold sel; simp only [Bool.false_eq_true, if_false]; rw [h.old]
    rw [e]
    simp only [Bool.false_eq_true, if_false]
    have huDF : Unlike (D ++ F) := by
      have := List.pairwise_append.1 huFD
      refine List.pairwise_append.2 ⟨this.2.1, this.1, fun a ha b hb e0 => this.2.2 b hb a ha (rcmp_sym0 e0)⟩
    apply srt_one (huFD.sublist List.filter_sublist) (huDF.sublist List.filter_sublist)
    intro v
    simp only [List.mem_filter, List.mem_append]
    exact ⟨fun h => ⟨h.1.symm, h.2⟩, fun h => ⟨h.1.symm, h.2⟩⟩
end
end Go.Proofs.Ytkkpcphmojegmaa
