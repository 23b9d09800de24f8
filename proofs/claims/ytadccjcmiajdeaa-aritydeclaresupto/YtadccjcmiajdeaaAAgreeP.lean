/-
  What follows of what is told: each use agrees, each name once. Plain facts; no walk.
-/
import Derived.Test.YtadccjcmiajdeaaALaw
namespace Go.Proofs.Ytadccjcmiajdeaa
set_option linter.unusedSimpArgs false
set_option linter.unusedVariables false
set_option linter.unusedSectionVars false
set_option maxRecDepth 100000
open Go.RowKit

theorem fine_or (L : List De) : Fine L ∨ ∃ a u b, L = a ++ u :: b ∧ Fine a ∧ clash a u = true := by
  have aux : ∀ (r pre : List De), Fine pre → Fine (pre ++ r) ∨ ∃ a u b, pre ++ r = a ++ u :: b ∧ Fine a ∧ clash a u = true := by
    intro r
    induction r with
    | nil => intro pre h; left; simpa using h
    | cons u r ih =>
      intro pre h
      by_cases hc : clash pre u = true
      · exact .inr ⟨pre, u, r, rfl, h, hc⟩
      · rw [Bool.not_eq_true] at hc
        have := ih (pre ++ [u]) (h.snoc hc)
        simpa using this
  simpa using aux L [] fine_nil
theorem told_or (L : List De) : (Fine L ∧ told L = ⟨firsts L, 0, false⟩) ∨ (¬ Fine L ∧ ∃ k, k < L.length ∧ told L = ⟨[], k, true⟩) := by
  rcases fine_or L with h | ⟨a, u, b, rfl, h, hc⟩
  · exact .inl ⟨h, told_fine h⟩
  · refine .inr ⟨fun hf => ?_, a.length, by simp, told_bad h hc⟩
    have := hf a u b rfl
    rw [hc] at this
    cases this
/-- Each use agrees. -/
theorem Fine.find {L : List De} (h : Fine L) {u : De} (hu : u ∈ L) : findD L u.p = some u.ar := by
  obtain ⟨a, b, rfl⟩ := List.append_of_mem hu
  have hc := h a u b rfl
  rw [findD_app]
  unfold clash at hc
  cases hf : findD a u.p with
  | some n =>
    rw [hf] at hc
    simp at hc
    rw [hc]
  | none =>
    show findD (u :: b) u.p = _
    rw [findD_cons, if_pos rfl]
theorem Fine.found {L : List De} (h : Fine L) {u : De} (hu : u ∈ L) : findD (firsts L) u.p = some u.ar := by rw [findD_firsts]; exact h.find hu
theorem findD_mem {L : List De} {u : De} (hu : u ∈ L) : (findD L u.p).isSome = true := by
  obtain ⟨a, b, rfl⟩ := List.append_of_mem hu
  rw [findD_app]
  cases findD a u.p with
  | some n => rfl
  | none => show (findD (u :: b) u.p).isSome = true; rw [findD_cons, if_pos rfl]; rfl
theorem findD_some {L : List De} {p : ByteArray} {n : Int} (h : findD L p = some n) : (⟨p, n⟩ : De) ∈ L := by
  unfold findD at h
  cases hf : L.find? (fun d => decide (d.p = p)) with
  | none => rw [hf] at h; cases h
  | some d =>
    rw [hf] at h
    have h1 := List.find?_some hf
    have h2 := List.mem_of_find?_eq_some hf
    simp at h1 h
    obtain ⟨dp, da⟩ := d
    simp only at h1 h
    subst h1 h
    exact h2
/-- Each name once. -/
def Uniq (L : List De) : Prop := ∀ a u b, L = a ++ u :: b → findD a u.p = none
theorem uniq_firsts (L : List De) : Uniq (firsts L) := by
  have aux : ∀ n (L : List De), L.length = n → Uniq (firsts L) := by
    intro n
    induction n with
    | zero => intro L h; obtain rfl := List.length_eq_zero_iff.1 h; intro a u b e; simp [firsts] at e
    | succ n ih =>
      intro L h
      rcases List.eq_nil_or_concat L with rfl | ⟨M, u, rfl⟩
      · simp at h
      · have hM : M.length = n := by simpa using h
        have i1 := ih M hM
        rw [List.concat_eq_append, firsts_snoc]
        split
        · exact i1
        · rename_i hn
          intro a v b e
          rcases List.eq_nil_or_concat b with rfl | ⟨b', z, rfl⟩
          · have := List.append_inj' e (by simp)
            obtain ⟨rfl, h2⟩ := this
            simp at h2
            subst h2
            cases hf : findD (firsts M) u.p with
            | none => rfl
            | some n => rw [hf] at hn; simp at hn
          · rw [List.concat_eq_append, ← List.cons_append, ← List.append_assoc] at e
            have := List.append_inj' e (by simp)
            exact i1 a v b' this.1
  exact aux _ L rfl
theorem Uniq.take {L : List De} (h : Uniq L) {i : Nat} (hi : i < L.length) : findD (L.take i) (L[i]'hi).p = none :=
  h (L.take i) (L[i]'hi) (L.drop (i + 1)) (by rw [List.getElem_cons_drop, List.take_append_drop])
theorem firsts_mem {L : List De} {d : De} (h : Fine L) (hd : d ∈ firsts L) : d ∈ L := by
  have := told_mem (L := L) d
  rw [told_fine h] at this
  exact this hd
end Go.Proofs.Ytadccjcmiajdeaa
