/-
  The uses of a program in turn, the arities that they tell, and what follows. Plain facts; no walk.
-/
import Derived.Test.YtadccjcmiajdeaaQMem
namespace Go.Proofs.Ytadccjcmiajdeaa
set_option linter.unusedSimpArgs false
set_option linter.unusedVariables false
set_option linter.unusedSectionVars false
set_option maxRecDepth 100000
open Go.RowKit

def isAt (l : Lt) : Bool := (l.kind == 1) || (l.kind == 2)
def bodyAts (L : List Lt) : List Am := (L.filter isAt).map (·.atom)
def atomsL (r : Ru) : List Am := r.head :: bodyAts r.body
def useOf (a : Am) : De := ⟨a.p, (a.args.length : Nat)⟩
def rulesU (R : List Ru) : List De := R.flatMap (fun r => (atomsL r).map useOf)
def usesL (g : Pr) : List De := g.decls ++ rulesU g.rules

theorem bodyAts_snoc_yes (L : List Lt) {l : Lt} (h : isAt l = true) : bodyAts (L ++ [l]) = bodyAts L ++ [l.atom] := by simp [bodyAts, h]
theorem bodyAts_snoc_no (L : List Lt) {l : Lt} (h : isAt l = false) : bodyAts (L ++ [l]) = bodyAts L := by simp [bodyAts, h]
theorem bodyAts_take {L : List Lt} {k : Nat} (hk : k < L.length) (h : isAt (L[k]'hk) = true) : ∃ rest, bodyAts L = bodyAts (L.take k) ++ (L[k]'hk).atom :: rest := by
  have e : L = L.take k ++ L[k]'hk :: L.drop (k + 1) := by rw [List.getElem_cons_drop, List.take_append_drop]
  generalize L.take k = A, L[k]'hk = l, L.drop (k + 1) = B at *
  subst e
  exact ⟨bodyAts B, by simp [bodyAts, h]⟩
theorem rulesU_take {R : List Ru} {k : Nat} (hk : k < R.length) : rulesU R = rulesU (R.take k) ++ (atomsL (R[k]'hk)).map useOf ++ rulesU (R.drop (k + 1)) := by
  have e : R = R.take k ++ R[k]'hk :: R.drop (k + 1) := by rw [List.getElem_cons_drop, List.take_append_drop]
  generalize R.take k = A, R[k]'hk = l, R.drop (k + 1) = B at *
  subst e
  simp [rulesU]
theorem rulesU_snoc {R : List Ru} {k : Nat} (hk : k < R.length) : rulesU (R.take (k + 1)) = rulesU (R.take k) ++ (atomsL (R[k]'hk)).map useOf := by
  rw [List.take_succ_eq_append_getElem hk]
  generalize R.take k = A, R[k]'hk = l
  simp [rulesU]

/-- A name's arity, of those that are told. -/
def findD (L : List De) (p : ByteArray) : Option Int := (L.find? (fun d => decide (d.p = p))).map (·.ar)
/-- The first uses. -/
def firsts (L : List De) : List De := L.foldl (fun acc u => if (findD acc u.p).isSome then acc else acc ++ [u]) []
/-- Does u's name have another arity in L? -/
def clash (L : List De) (u : De) : Bool := match findD L u.p with | some n => !(n == u.ar) | none => false
/-- What is told: the names, the place, is it an error. -/
structure Told where
  l : List De
  at' : Nat
  bad : Bool
def toldF (pre : List De) : List De → Told
  | [] => ⟨firsts pre, 0, false⟩
  | u :: r => if clash pre u then ⟨[], pre.length, true⟩ else toldF (pre ++ [u]) r
def told (L : List De) : Told := toldF [] L

theorem findD_snoc (L : List De) (u : De) (p : ByteArray) : findD (L ++ [u]) p = match findD L p with | some n => some n | none => if u.p = p then some u.ar else none := by
  unfold findD
  rw [List.find?_append]
  cases h : L.find? (fun d => decide (d.p = p)) with
  | some d => simp
  | none =>
    by_cases e : u.p = p
    · simp [e]
    · simp [e]
theorem firsts_snoc (L : List De) (u : De) : firsts (L ++ [u]) = if (findD (firsts L) u.p).isSome then firsts L else firsts L ++ [u] := by unfold firsts; rw [List.foldl_append]; rfl
theorem findD_firsts (p : ByteArray) (L : List De) : findD (firsts L) p = findD L p := by
  have aux : ∀ n (L : List De), L.length = n → findD (firsts L) p = findD L p := by
    intro n
    induction n with
    | zero => intro L h; obtain rfl := List.length_eq_zero_iff.1 h; rfl
    | succ n ih =>
      intro L h
      rcases List.eq_nil_or_concat L with rfl | ⟨M, u, rfl⟩
      · simp at h
      · have hM : M.length = n := by simpa using h
        have i1 := ih M hM
        rw [List.concat_eq_append, firsts_snoc, findD_snoc]
        by_cases hs : (findD (firsts M) u.p).isSome = true
        · rw [if_pos hs, i1]
          cases e : findD M p with
          | some v => rfl
          | none =>
            by_cases e2 : u.p = p
            · rw [e2, i1, e] at hs; simp at hs
            · simp [e2]
        · rw [if_neg hs, findD_snoc, i1]
  exact aux _ L rfl
theorem firsts_clash (L : List De) (u : De) : clash (firsts L) u = clash L u := by unfold clash; rw [findD_firsts]
theorem firsts_snoc' (L : List De) (u : De) : firsts (L ++ [u]) = if (findD L u.p).isSome then firsts L else firsts L ++ [u] := by rw [firsts_snoc, findD_firsts]
theorem firsts_len (L : List De) : (firsts L).length ≤ L.length := by
  have aux : ∀ (L acc : List De), (L.foldl (fun acc u => if (findD acc u.p).isSome then acc else acc ++ [u]) acc).length ≤ acc.length + L.length := by
    intro L
    induction L with
    | nil => intro acc; simp
    | cons u L ih =>
      intro acc
      simp only [List.foldl_cons]
      refine Nat.le_trans (ih _) ?_
      split <;> simp <;> omega
  have := aux L []
  simpa [firsts] using this

theorem toldF_ok {pre : List De} {u : De} {r : List De} (h : clash pre u = false) : toldF pre (u :: r) = toldF (pre ++ [u]) r := by simp [toldF, h]
theorem toldF_bad {pre : List De} {u : De} {r : List De} (h : clash pre u = true) : toldF pre (u :: r) = ⟨[], pre.length, true⟩ := by simp [toldF, h]
/-- What is told, once the first ones go well. -/
def Fine (pre : List De) : Prop := ∀ a u b, pre = a ++ u :: b → clash a u = false
theorem fine_nil : Fine [] := fun a u b h => by simp at h
theorem Fine.snoc {pre : List De} {u : De} (h : Fine pre) (hu : clash pre u = false) : Fine (pre ++ [u]) := by
  intro a v b e
  rcases List.eq_nil_or_concat b with rfl | ⟨b', z, rfl⟩
  · have := List.append_inj' e (by simp)
    obtain ⟨rfl, h2⟩ := this
    simp at h2
    rw [← h2]; exact hu
  · rw [List.concat_eq_append, ← List.cons_append, ← List.append_assoc] at e
    have := List.append_inj' e (by simp)
    exact h a v b' this.1
theorem toldF_fine : ∀ (r pre : List De), Fine pre → Fine (pre ++ r) → toldF pre r = ⟨firsts (pre ++ r), 0, false⟩
  | [], pre, _, _ => by simp [toldF]
  | u :: r, pre, h, hr => by
    have hu := hr pre u r rfl
    rw [toldF_ok hu, toldF_fine r (pre ++ [u]) (h.snoc hu) (by simpa using hr)]
    simp
theorem told_fine {L : List De} (h : Fine L) : told L = ⟨firsts L, 0, false⟩ := toldF_fine L [] fine_nil h
theorem toldF_first : ∀ (a pre : List De) {u : De} {b : List De}, Fine (pre ++ a) → clash (pre ++ a) u = true → toldF pre (a ++ u :: b) = ⟨[], (pre ++ a).length, true⟩
  | [], pre, u, b, h, hu => by simp at hu ⊢; exact toldF_bad hu
  | v :: a, pre, u, b, h, hu => by
    have hv := h pre v a rfl
    rw [List.cons_append, toldF_ok hv, toldF_first a (pre ++ [v]) (by simpa using h) (by simpa using hu)]
    simp
theorem told_bad {a : List De} {u : De} {b : List De} (h : Fine a) (hu : clash a u = true) : told (a ++ u :: b) = ⟨[], a.length, true⟩ := by
  have := toldF_first a [] (b := b) h hu
  simpa [told] using this
end Go.Proofs.Ytadccjcmiajdeaa
