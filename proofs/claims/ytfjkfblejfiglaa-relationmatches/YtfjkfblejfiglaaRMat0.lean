/-
  Plain facts for the walk of RelationMatches.
-/
import Derived.Test.YtfjkfblejfiglaaRLaw1
import Derived.Test.YtfjkfblejfiglaaTRefSort
namespace Go.Proofs.Ytfjkfblejfiglaa
set_option linter.unusedSimpArgs false
set_option linter.unusedVariables false
set_option linter.unusedSectionVars false
set_option maxRecDepth 100000
open Go.RowKit Go.Maps
variable [DecidableEq V]

/-- A row has a value at a place. -/
def pvB (cn : Nat) (v : V) (r : List V) : Bool := decide (r.getD cn vZ = v.bare)
theorem sel_one {M : List (List V)} {N : Nat} (hN : M.length = N) (cn : Nat) (v : V) : sel M 0 N [(cn : Int)] [v] false = M.filter (pvB cn v) := by
  unfold sel
  simp only [Bool.false_eq_true, if_false, List.drop_zero, Nat.sub_zero]
  rw [List.take_of_length_le (by omega)]
  apply List.filter_congr
  intro r _
  simp [holdB, pvB]
theorem two_at {r : List V} (h : r.length = 2) : r = [r.getD 0 vZ, r.getD 1 vZ] := by
  match r, h with
  | [a, b], _ => rfl
theorem sel_own {M : List (List V)} {N : Nat} (hN : M.length = N) (hb : ∀ r ∈ M, r.length = 2 ∧ ∀ v ∈ r, v.bare = v) (hn : M.Nodup) {r0 : List V} (h0 : r0 ∈ M) : sel M 0 N [0, 1] r0 false = [r0] := by
  unfold sel
  simp only [Bool.false_eq_true, if_false, List.drop_zero, Nat.sub_zero]
  rw [List.take_of_length_le (by omega)]
  obtain ⟨l0, b0⟩ := hb r0 h0
  have key : ∀ r ∈ M, holdB [0, 1] r0 r = decide (r = r0) := fun r hr => by
    obtain ⟨l1, b1⟩ := hb r hr
    match r0, l0, r, l1 with
    | [a, b], _, [x, y], _ =>
      have ea : a.bare = a := b0 a (by simp)
      have eb : b.bare = b := b0 b (by simp)
      simp [holdB, List.range, List.range.loop, ea, eb]
  rw [List.filter_congr key]
  clear key hb hN l0 b0
  induction M with
  | nil => simp at h0
  | cons r M ih =>
    have hn' := List.nodup_cons.1 hn
    by_cases e : r = r0
    · subst e
      rw [List.filter_cons_of_pos (by simp)]
      congr 1
      rw [List.filter_eq_nil_iff]
      intro x hx h
      simp at h
      subst h
      exact hn'.1 hx
    · rw [List.filter_cons_of_neg (by simp [e])]
      exact ih hn'.2 (by rcases List.mem_cons.1 h0 with h | h; exact absurd h.symm e; exact h)
theorem srt_filter {M : List (List V)} (hu : Unlike M) (p : List V → Bool) : srt (M.filter p) = (srt M).filter p := by
  apply rise_one (srt_rise _) ((srt_rise M).sublist List.filter_sublist)
  intro v
  rw [srt_mem, first_unlike (hu.sublist List.filter_sublist), List.mem_filter, List.mem_filter, srt_mem, first_unlike hu]
/-- How many of the first i are so. -/
def cnt (p : List V → Bool) (A : List (List V)) (i : Nat) : Nat := ((A.take i).filter p).length
theorem cnt_step {p : List V → Bool} {A : List (List V)} {i : Nat} (hi : i < A.length) : cnt p A (i + 1) = cnt p A i + (if p A[i] = true then 1 else 0) := by
  unfold cnt
  rw [filter_snoc p A hi, List.length_append]
  split <;> simp
theorem cnt_at {p : List V → Bool} {A : List (List V)} {i : Nat} (hi : i < A.length) (hp : p A[i] = true) : ∃ h : cnt p A i < (A.filter p).length, (A.filter p)[cnt p A i] = A[i] := by
  have e : A.filter p = (A.take i).filter p ++ ([A[i]] ++ (A.drop (i + 1)).filter p) := by
    conv => lhs; rw [← List.take_append_drop i A, List.drop_eq_getElem_cons hi]
    rw [List.filter_append, List.filter_cons_of_pos hp]
    rfl
  have hl : cnt p A i < (A.filter p).length := by rw [e]; simp [cnt]
  refine ⟨hl, ?_⟩
  have := List.getElem_of_eq e hl
  rw [this, List.getElem_append_right (by simp [cnt])]
  simp [cnt]
theorem cnt_all (p : List V → Bool) (A : List (List V)) : cnt p A A.length = (A.filter p).length := by unfold cnt; rw [List.take_of_length_le (Nat.le_refl _)]
theorem cnt_le (p : List V → Bool) (A : List (List V)) (i : Nat) : cnt p A i ≤ i := by
  unfold cnt
  refine Nat.le_trans (List.length_filter_le _ _) ?_
  simp; omega
theorem pv_cmp {r : List V} {v : V} {cn : Nat} (hr : ∀ u ∈ r, u.bare = u) (h : cn < r.length) : (rcmp [r[cn]] [v] == 0) = pvB cn v r := by
  unfold pvB
  apply Bool.eq_iff_iff.2
  rw [beq_iff_eq, rcmp_bare, decide_eq_true_eq, getD_at h]
  have := hr _ (List.getElem_mem h)
  simp [this]
end Go.Proofs.Ytfjkfblejfiglaa
