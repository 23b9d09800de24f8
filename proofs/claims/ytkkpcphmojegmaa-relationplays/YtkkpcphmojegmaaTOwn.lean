/-
  A list of values in a block of the call's own. Plain facts; no walk.
-/
import Derived.Test.YtkkpcphmojegmaaTCmp
import Derived.OwnWalk
namespace Go.Proofs.Ytkkpcphmojegmaa
set_option linter.unusedSimpArgs false
set_option linter.unusedVariables false
set_option linter.unusedSectionVars false
set_option maxRecDepth 100000
open Go.RowKit
variable [DecidableEq V]

/-- A list of values in a block of the call's own, from B on. -/
def Own (w : World) (B : Nat) (x : Value) (L : List V) : Prop := w.ownsRow B 55 3 x L.length (L.flatMap V.cells) ∧ ∀ v ∈ L, v.Ok
theorem Own.own {w : World} {B : Nat} {x : Value} {L : List V} (h : Own w B x L) : w.ownsRow B 55 3 x L.length (L.flatMap V.cells) := h.1
theorem Own.nil (w : World) (B : Nat) : Own w B (.slice none 0 0) [] := ⟨World.ownsRow_nil _ _ _ _, fun _ h => by simp at h⟩
theorem Own.below {w w' : World} {B : Nat} {x : Value} {L : List V} (h : Own w B x L) (hb : Below w.heap.size w w') : Own w' B x L :=
  ⟨ownsRow_block h.1 (fun k hk => hb.block k (h.1.lt k hk).2), h.2⟩
theorem Own.vals {w : World} {B : Nat} {x : Value} {L : List V} (h : Own w B x L) : Vals w x L := vals_row h.1 h.2
theorem Own.app {w w' : World} {B : Nat} {x x' : Value} {L : List V} {v : V} (h : Own w B x L) (hv : v.Ok) (hr : w'.ownsRow B 55 3 x' (L.length + 1) (L.flatMap V.cells ++ v.cells)) : Own w' B x' (L ++ [v]) :=
  ⟨by simpa using hr, fun u hu => by
    rcases List.mem_append.1 hu with hu | hu
    · exact h.2 u hu
    · simp at hu; subst hu; exact hv⟩
theorem Own.mono {w : World} {B B' : Nat} {x : Value} {L : List V} (h : Own w B x L) (hB : B' ≤ B) : Own w B' x L := by
  refine ⟨⟨h.1.1, ?_⟩, h.2⟩
  rcases h.1.2 with h0 | ⟨g, cap, cur, e, hb, r⟩
  · exact .inl h0
  · exact .inr ⟨g, cap, cur, e, by omega, r⟩
theorem Own.form {w : World} {B : Nat} {x : Value} {L : List V} (h : Own w B x L) : ∃ ao cap, x = .slice ao L.length cap := by
  obtain ⟨ao, cap, e, -⟩ := h.vals.len
  exact ⟨ao, cap, e⟩

end Go.Proofs.Ytkkpcphmojegmaa
