/-
  What all of layer 9's laws begin with: few, told ahead; what calls hand back, in their forms.
-/
import Derived.Test.YtcpdikhiodbdjaaSfShown
namespace Go.Proofs.Ytcpdikhiodbdjaa
set_option linter.unusedSimpArgs false
set_option linter.unusedVariables false
set_option linter.unusedSectionVars false
set_option maxRecDepth 100000
open Go.RowKit Go.Maps

theorem few_is {r : Ru} {x y : Value} {w : World} {b : Bool} (hb : b = true ↔ Few r) (hx : Tms w x r.head.args) (hy : Lts w y r.body) :
    Calls Try.prog 10 #[.agg #[.string r.head.p, x, y]] w fun e w' => e = .returned (.bool b) ∧ Below w.heap.size w w' := by
  refine (few_any hx hy).mono ?_
  rintro e w' ⟨c, rfl, hc, hbl⟩
  have : c = b := by
    cases c <;> cases b <;> simp_all [FewD]
  subst this
  exact ⟨rfl, hbl⟩
theorem chkV_form (o : Option (ByteArray × Int)) : ∃ s p e, chkV o = .tuple #[.string s, .int .i64 p, .int .i64 e] := by
  rcases o with _ | ⟨s, p⟩
  · exact ⟨_, _, _, rfl⟩
  · exact ⟨_, _, _, rfl⟩
theorem allV_form (o : Option (Nat × ByteArray × Int)) : ∃ k s p e, allV o = .tuple #[.int .i64 k, .string s, .int .i64 p, .int .i64 e] := by
  rcases o with _ | ⟨k, s, p⟩
  · exact ⟨_, _, _, _, rfl⟩
  · exact ⟨_, _, _, _, rfl⟩
theorem below_to {B : Nat} {a b c : World} (h : Below B a b) (k : Below b.heap.size b c) (hB : B ≤ a.heap.size) : Below B a c := h.trans (k.mono (Nat.le_trans hB h.size))
/-- Three cells of a box, and where it lies. -/
theorem three_keep {wr W : World} {a : Nat} {v0 v1 v2 : Value} {t : TypeId} (h : wr.heap[a]? = some (.cells #[v0, v1, v2] t (0, 0))) (hb : Below wr.heap.size wr W) :
    W.cell? ⟨a, 0, none⟩ = some v0 ∧ W.cell? ⟨a, 1, none⟩ = some v1 ∧ W.cell? ⟨a, 2, none⟩ = some v2 ∧ a < W.heap.size := box3 ((hb.block _ (Array.getElem?_eq_some_iff.1 h).1).trans h)
theorem two_keep2 {wr W : World} {a : Nat} {v0 v1 : Value} {t : TypeId} (h : wr.heap[a]? = some (.cells #[v0, v1] t (0, 0))) (hb : Below wr.heap.size wr W) :
    W.cell? ⟨a, 0, none⟩ = some v0 ∧ W.cell? ⟨a, 1, none⟩ = some v1 ∧ a < W.heap.size := box2c ((hb.block _ (Array.getElem?_eq_some_iff.1 h).1).trans h)
end Go.Proofs.Ytcpdikhiodbdjaa
