/-
  A relation's calls told with their lengths alone, for the walks of layer 4's laws.
-/
import Derived.Test.YtkkpcphmojegmaaRMatch
import Derived.Test.YtkkpcphmojegmaaRPairs
import Derived.Test.YtkkpcphmojegmaaRLaw0
namespace Go.Proofs.Ytkkpcphmojegmaa
set_option linter.unusedSimpArgs false
set_option linter.unusedVariables false
set_option linter.unusedSectionVars false
set_option maxRecDepth 100000
open Go.RowKit Go.Maps
variable [DecidableEq V]
section
variable {w : World} {B : Nat} {F : Nat → Prop} {rb ar c : Nat} {M : List (List V)} {s1 s2 : Nat}
theorem turn_z (hR : Rln w B F rb ar c M s1 s2) (hc : c ≤ 10000) {z : Bool} (hz : decide (s2 < M.length) = z) {n : Nat} (hn : M.length = n) :
    Calls Try.prog 10 #[.pointer (some ⟨rb, 0, none⟩)] w fun e w' => e = .returned (.bool z) ∧ Turns F w w' ∧ Rln w' B F rb ar c M s2 n := by
  subst hz hn
  exact turn_rel hR (by omega)
theorem len_n (hR : Rln w B F rb ar c M s1 s2) {n : Nat} (hn : M.length = n) :
    Calls Try.prog 17 #[.pointer (some ⟨rb, 0, none⟩)] w fun e w' => e = .returned (.int .i64 (n : Int)) ∧ w' = w := by
  subst hn
  exact len_rel hR
theorem delta_n (hR : Rln w B F rb ar c M s1 s2) (hc : c < 10000) {n : Nat} (hn : s2 - s1 = n) :
    Calls Try.prog 21 #[.pointer (some ⟨rb, 0, none⟩)] w fun e w' => ∃ xo xc, e = .returned (.slice xo n xc) ∧ Below w.heap.size w w' := by
  refine (delta_told hR hc).mono ?_
  rintro e w' ⟨xo, xc, D, rfl, hb, -, -⟩
  have e : ((M.drop s1).take (s2 - s1)).length = n := by have := hR.nums; simp; omega
  exact ⟨xo, xc, by rw [e], hb⟩
theorem all_n (hR : Rln w B F rb ar c M s1 s2) (hc : c < 10000) {n : Nat} (hn : M.length = n) :
    Calls Try.prog 19 #[.pointer (some ⟨rb, 0, none⟩)] w fun e w' => ∃ xo xc, e = .returned (.slice xo n xc) ∧ Below w.heap.size w w' := by
  subst hn
  refine (all_told hR hc).mono ?_
  rintro e w' ⟨xo, xc, D, rfl, hb, -, -⟩
  exact ⟨xo, xc, rfl, hb⟩
theorem sel_nil (o : Bool) : sel M s1 s2 [] [] o = (M.drop (if o then s1 else 0)).take (s2 - (if o then s1 else 0)) := by
  unfold sel
  rw [List.filter_eq_self]
  intro a _
  simp [holdB]
theorem match_n (hR : Rln w B F rb ar c M s1 s2) (hc : c < 10000) (o : Bool) {n : Nat} (hn : s2 - (if o then s1 else 0) = n) :
    Calls Try.prog 12 #[.pointer (some ⟨rb, 0, none⟩), .slice none 0 0, .slice none 0 0, .bool o] w fun e w' => ∃ xo xc, e = .returned (.tuple #[.slice xo n xc, .int .i64 0]) ∧ Below w.heap.size w w' := by
  refine (match_rln hR (Ints.nil w) (Vals.nil w) hc (by simp) o).mono ?_
  rintro e w' ⟨hb, ⟨hno, -⟩ | ⟨-, xo, xc, D, rfl, -, -⟩⟩
  · exact absurd ⟨rfl, fun z hz => by simp at hz⟩ hno
  · have e : (sel M s1 s2 [] [] o).length = n := by
      rw [sel_nil]
      have := hR.nums
      cases o with
      | true => simp only [if_true] at hn ⊢; simp; omega
      | false => simp only [Bool.false_eq_true, if_false] at hn ⊢; simp; omega
    exact ⟨xo, xc, by rw [e], hb⟩
end
theorem addRow_len {M : List (List V)} {r : List V} : (addRow M r).length = M.length + (if r ∈ M then 0 else 1) := by
  unfold addRow
  split <;> simp
theorem fillM_le (ps : List (V × V)) : ∀ {M : List (List V)}, (fillM M ps).length ≤ M.length + ps.length := by
  induction ps with
  | nil => intro M; simp [fillM]
  | cons p ps ih =>
    intro M
    have h1 := ih (M := addRow M (prow p))
    have h2 := addRow_len (M := M) (r := prow p)
    have : fillM M (p :: ps) = fillM (addRow M (prow p)) ps := rfl
    rw [this]
    have : (addRow M (prow p)).length ≤ M.length + 1 := by rw [h2]; split <;> omega
    simp; omega
end Go.Proofs.Ytkkpcphmojegmaa
