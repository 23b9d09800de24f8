/-
  Plain facts on sorting: one strict order of rows with where they stood; what a merge's two halves are. No Go text.
-/
import Derived.Test.YtkkpcphmojegmaaTSortM
namespace Go.Proofs.Ytkkpcphmojegmaa
set_option linter.unusedSimpArgs false
set_option linter.unusedVariables false
set_option linter.unusedSectionVars false
set_option maxRecDepth 100000
variable [DecidableEq V]

/-- One row is ahead of another one: by the order; where they are alike, by where they stood. -/
def rlt (r s : R) : Prop := rcmp r.vs s.vs < 0 ∨ (rcmp r.vs s.vs = 0 ∧ r.ix < s.ix)
theorem rlt_trans {a b c : R} (h1 : rlt a b) (h2 : rlt b c) : rlt a c := by
  unfold rlt at *
  rcases h1 with h1 | ⟨h1, i1⟩ <;> rcases h2 with h2 | ⟨h2, i2⟩
  · exact .inl (rcmp_lt_trans h1 h2)
  · left
    have := rcmp_congr a.vs (a := c.vs) (b := b.vs) (by have := rcmp_swap b.vs c.vs; omega)
    have := rcmp_swap a.vs b.vs
    have := rcmp_swap a.vs c.vs
    omega
  · left
    have := rcmp_congr c.vs h1
    omega
  · right
    have := rcmp_congr c.vs h1
    exact ⟨by omega, by omega⟩
/-- Where the one stood ahead of the other one. -/
theorem rlt_of_ge {x y : R} (hi : x.ix < y.ix) (h : ¬ rcmp y.vs x.vs < 0) : rlt x y := by
  have := rcmp_swap x.vs y.vs
  unfold rlt
  by_cases e : rcmp x.vs y.vs = 0
  · exact .inr ⟨e, hi⟩
  · exact .inl (by omega)
theorem rlt_of_lt {x y : R} (h : rcmp y.vs x.vs < 0) : rlt y x := .inl h

/-- Rows that rise. -/
def Up (l : List R) : Prop := l.Pairwise rlt
theorem Up.le_at {l : List R} (h : Up l) {i j : Nat} (hij : i < j) (hj : j < l.length) : rlt l[i] l[j] := List.pairwise_iff_getElem.1 h i j (by omega) hj hij
theorem Up.take {l : List R} (h : Up l) (i : Nat) : Up (l.take i) := List.Pairwise.sublist (List.take_sublist _ _) h
theorem Up.drop {l : List R} (h : Up l) (i : Nat) : Up (l.drop i) := List.Pairwise.sublist (List.drop_sublist _ _) h
/-- What is ahead of the cut, and behind it. -/
theorem cut_ok {X Y : List R} (hX : Up X) (hY : Up Y) {i j : Nat} (hi : i ≤ X.length) (hj : j ≤ Y.length)
    (h1 : ∀ (a : 0 < i) (b : j < Y.length), rlt X[i - 1] Y[j]) (h2 : ∀ (a : i < X.length) (b : 0 < j), rlt Y[j - 1] X[i]) :
    (∀ x ∈ X.take i, ∀ y ∈ Y.drop j, rlt x y) ∧ (∀ y ∈ Y.take j, ∀ x ∈ X.drop i, rlt y x) := by
  constructor
  · intro x hx y hy
    obtain ⟨p, hp, rfl⟩ := List.mem_iff_getElem.1 hx
    obtain ⟨q, hq, rfl⟩ := List.mem_iff_getElem.1 hy
    simp only [List.length_take, List.length_drop] at hp hq
    rw [List.getElem_take, List.getElem_drop]
    have e := h1 (by omega) (by omega)
    have e1 : p = i - 1 ∨ rlt X[p] X[i - 1] := by
      by_cases h : p = i - 1
      · exact .inl h
      · exact .inr (hX.le_at (by omega) (by omega))
    have e2 : q = 0 ∨ rlt Y[j] Y[j + q] := by
      by_cases h : q = 0
      · exact .inl h
      · exact .inr (hY.le_at (by omega) (by omega))
    rcases e1 with rfl | e1 <;> rcases e2 with rfl | e2
    · simpa using e
    · exact rlt_trans e e2
    · exact rlt_trans e1 (by simpa using e)
    · exact rlt_trans e1 (rlt_trans e e2)
  · intro y hy x hx
    obtain ⟨q, hq, rfl⟩ := List.mem_iff_getElem.1 hy
    obtain ⟨p, hp, rfl⟩ := List.mem_iff_getElem.1 hx
    simp only [List.length_take, List.length_drop] at hp hq
    rw [List.getElem_take, List.getElem_drop]
    have e := h2 (by omega) (by omega)
    have e1 : q = j - 1 ∨ rlt Y[q] Y[j - 1] := by
      by_cases h : q = j - 1
      · exact .inl h
      · exact .inr (hY.le_at (by omega) (by omega))
    have e2 : p = 0 ∨ rlt X[i] X[i + p] := by
      by_cases h : p = 0
      · exact .inl h
      · exact .inr (hX.le_at (by omega) (by omega))
    rcases e1 with rfl | e1 <;> rcases e2 with rfl | e2
    · simpa using e
    · exact rlt_trans e e2
    · exact rlt_trans e1 (by simpa using e)
    · exact rlt_trans e1 (rlt_trans e e2)
/-- Two halves that rise, each of the one ahead of each of the other one. -/
theorem up_join {A B : List R} (hA : Up A) (hB : Up B) (h : ∀ a ∈ A, ∀ b ∈ B, rlt a b) : Up (A ++ B) := List.pairwise_append.2 ⟨hA, hB, h⟩
theorem up_mem {A B : List R} (h : A.Perm B) {p : R → Prop} (hp : ∀ b ∈ B, p b) : ∀ a ∈ A, p a := fun a ha => hp a (h.mem_iff.1 ha)
/-- A merge by halves. -/
theorem merge_halves {X Y Z1 Z2 : List R} {i j : Nat} (hX : Up X) (hY : Up Y) (hi : i ≤ X.length) (hj : j ≤ Y.length)
    (h1 : ∀ (a : 0 < i) (b : j < Y.length), rlt X[i - 1] Y[j]) (h2 : ∀ (a : i < X.length) (b : 0 < j), rlt Y[j - 1] X[i])
    (p1 : Z1.Perm (X.take i ++ Y.take j)) (u1 : Up Z1) (p2 : Z2.Perm (X.drop i ++ Y.drop j)) (u2 : Up Z2) : Up (Z1 ++ Z2) ∧ (Z1 ++ Z2).Perm (X ++ Y) := by
  obtain ⟨c1, c2⟩ := cut_ok hX hY hi hj h1 h2
  have hx : ∀ x ∈ X.take i, ∀ y ∈ X.drop i, rlt x y := by
    have := hX
    rw [← List.take_append_drop i X] at this
    exact (List.pairwise_append.1 this).2.2
  have hy : ∀ x ∈ Y.take j, ∀ y ∈ Y.drop j, rlt x y := by
    have := hY
    rw [← List.take_append_drop j Y] at this
    exact (List.pairwise_append.1 this).2.2
  refine ⟨up_join u1 u2 ?_, ?_⟩
  · intro a ha b hb
    have ha := p1.mem_iff.1 ha
    have hb := p2.mem_iff.1 hb
    rcases List.mem_append.1 ha with ha | ha <;> rcases List.mem_append.1 hb with hb | hb
    · exact hx a ha b hb
    · exact c1 a ha b hb
    · exact c2 a ha b hb
    · exact hy a ha b hb
  · refine (p1.append p2).trans ?_
    have e : X ++ Y = (X.take i ++ X.drop i) ++ (Y.take j ++ Y.drop j) := by rw [List.take_append_drop, List.take_append_drop]
    rw [e, List.append_assoc, List.append_assoc]
    refine List.Perm.append_left _ ?_
    rw [← List.append_assoc, ← List.append_assoc]
    exact List.Perm.append_right _ List.perm_append_comm
/-- Rows that stood in turn. -/
def InTurn (l : List R) : Prop := l.Pairwise (fun a b => a.ix < b.ix)
/-- Two lists of the same rows that rise are one. -/
theorem rlt_irrefl (a : R) : ¬ rlt a a := by
  unfold rlt
  have := rcmp_self a.vs
  omega
theorem up_one {A B : List R} (hA : Up A) (hB : Up B) (h : A.Perm B) : A = B := by
  induction A generalizing B with
  | nil => exact (List.nil_perm.1 h).symm
  | cons a A ih =>
    cases B with
    | nil => exact absurd h.symm (by simp)
    | cons b B =>
      have hab : a = b := by
        have m1 : a ∈ b :: B := h.mem_iff.1 (by simp)
        have m2 : b ∈ a :: A := h.mem_iff.2 (by simp)
        rcases List.mem_cons.1 m1 with e | e
        · exact e
        · rcases List.mem_cons.1 m2 with e' | e'
          · exact e'.symm
          · have r1 := (List.pairwise_cons.1 hB).1 a e
            have r2 := (List.pairwise_cons.1 hA).1 b e'
            exact absurd (rlt_trans r1 r2) (rlt_irrefl b)
      subst hab
      rw [ih (List.pairwise_cons.1 hA).2 (List.pairwise_cons.1 hB).2 ((List.perm_cons a).1 h)]
end Go.Proofs.Ytkkpcphmojegmaa
