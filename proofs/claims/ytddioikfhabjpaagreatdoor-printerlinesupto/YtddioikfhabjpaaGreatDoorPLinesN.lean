/-
  A list of rules that came in and is nil has no room.
-/
import Derived.Test.YtddioikfhabjpaaGreatDoorPLinesW
import Derived.Test.YtddioikfhabjpaaGreatDoorPOpen
namespace Go.Proofs.YtddioikfhabjpaaGreatDoor
set_option linter.unusedSimpArgs false
set_option linter.unusedVariables false
set_option linter.unusedSectionVars false
set_option maxRecDepth 100000
open Go.RowKit Go.Maps Go.Deep Go.WideShapes Go.Joins

theorem trod_nilc {H : Type} {enc : TypeId × Value → H} {W : World} {sp : Nat → Bool} {hd : Bool} {base fuel : Nat} {cs : List Value} {y : DataW H × List MemPlace} (hf : DataW.trod enc Tryz.prog W base sp hd fuel 23 cs = some y) : ∀ x, cs = [x] → NilC x := by
  rcases open_slice Tryz.underlying23 hf with ⟨rfl, -⟩ | ⟨a, len, cap, m, n, D, Pl, rfl, -⟩
  · intro x e n c e'
    cases e
    cases e'
    rfl
  · intro x e n c e'
    cases e
    cases e'
theorem nilc_prog {H : Type} {enc : TypeId × Value → H} {W : World} {sp : Nat → Bool} {hd : Bool} {base : Nat} {x y : Value} {d : DataW H} {p : List MemPlace} (h : DataW.Trod enc Tryz.prog W base sp hd 25 (.agg #[x, y]) d p) : NilC y := by
  obtain ⟨fuel, hf⟩ := h
  obtain ⟨xs, n, _, he, hl, hlen, hf⟩ := DataW.trod_struct Tryz.underlying25 hf
  simp only [Value.cells] at hf
  match xs, hlen with
  | [y0, y1], _ =>
    have g1 := hf 1 _ rfl
    simp [cellsLD, cellsLR] at g1
    exact trod_nilc g1 _ rfl
end Go.Proofs.YtddioikfhabjpaaGreatDoor
