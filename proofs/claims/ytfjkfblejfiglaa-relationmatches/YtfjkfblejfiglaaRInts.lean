/-
  A list of numbers that lies in memory: what it holds. Plain facts; no walk.
-/
import Derived.Test.YtfjkfblejfiglaaTV
import Derived.OwnWalk
namespace Go.Proofs.Ytfjkfblejfiglaa
set_option linter.unusedSimpArgs false
set_option linter.unusedVariables false
set_option linter.unusedSectionVars false
set_option maxRecDepth 100000
open Go.RowKit Go.Deep Go.WideShapes
variable [DecidableEq V]

/-- y is a list of the numbers zs, in memory that is there. -/
def Ints (W : World) (y : Value) (zs : List Int) : Prop :=
  ∃ (ao : Option Addr) (cap : Nat), y = .slice ao zs.length cap ∧ zs.length ≤ maxLen ∧ ∀ i (hi : i < zs.length), ∃ b off, ao = some ⟨b, off, none⟩ ∧ b < W.heap.size ∧ W.cell? ⟨b, off + i, none⟩ = some (.int .i64 zs[i])
theorem Ints.below {W w1 : World} {x : Value} {zs : List Int} (h : Ints W x zs) (hb : Below W.heap.size W w1) : Ints w1 x zs := by
  obtain ⟨ao, cap, h1, h2, h4⟩ := h
  refine ⟨ao, cap, h1, h2, fun i hi => ?_⟩
  obtain ⟨b, off, e, hlt, c0⟩ := h4 i hi
  exact ⟨b, off, e, Nat.lt_of_lt_of_le hlt hb.size, (hb.cell (p := ⟨b, off + i, none⟩) hlt).trans c0⟩
theorem Ints.at {W wr : World} {ao : Option Addr} {n cap : Nat} {zs : List Int} (h : Ints W (.slice ao n cap) zs) (hb : Below W.heap.size W wr) (k : Nat) (hk : k < zs.length) :
    ∃ b off, ao = some ⟨b, off, none⟩ ∧ wr.cell? ⟨b, off + k, none⟩ = some (.int .i64 zs[k]) ∧ b < W.heap.size := by
  obtain ⟨ao', cap', e, h2, h4⟩ := h
  injection e with e1 e2 e3
  subst e1
  obtain ⟨b, off, e, hlt, c0⟩ := h4 k hk
  exact ⟨b, off, e, (hb.cell (p := ⟨b, off + k, none⟩) hlt).trans c0, hlt⟩
theorem Ints.len {W : World} {x : Value} {zs : List Int} (h : Ints W x zs) : ∃ ao cap, x = .slice ao zs.length cap ∧ zs.length ≤ maxLen := by
  obtain ⟨ao, cap, h1, h2, -⟩ := h; exact ⟨ao, cap, h1, h2⟩
theorem Ints.nil (W : World) : Ints W (.slice none 0 0) [] := ⟨none, 0, rfl, by simp [maxLen], fun i hi => by simp at hi⟩
theorem Ints.one (w : World) (z : Int) : Ints (w.alloc (.cells #[.int .i64 z] 3)) (.slice (some ⟨w.heap.size, 0, none⟩) 1 1) [z] := by
  refine ⟨_, _, rfl, by simp [maxLen], fun i hi => ⟨w.heap.size, 0, rfl, by simp, ?_⟩⟩
  match i, hi with
  | 0, _ => simp
theorem Ints.two (w : World) (z z' : Int) : Ints (w.alloc (.cells #[.int .i64 z, .int .i64 z'] 3)) (.slice (some ⟨w.heap.size, 0, none⟩) 2 2) [z, z'] := by
  refine ⟨_, _, rfl, by simp [maxLen], fun i hi => ⟨w.heap.size, 0, rfl, by simp, ?_⟩⟩
  match i, hi with
  | 0, _ => simp
  | 1, _ => simp
theorem Ints.row {w : World} {B : Nat} {x : Value} {zs : List Int} (h : w.ownsRow B 3 1 x zs.length (zs.map (Value.int .i64))) : Ints w x zs := by
  rcases h.2 with ⟨rfl, hn⟩ | ⟨g, cap, cur, rfl, _, hg, h1, h2, _⟩
  · exact ⟨none, 0, by rw [hn], by rw [hn]; exact Nat.zero_le _, fun i hi => absurd hi (by omega)⟩
  · refine ⟨some ⟨g, 0, none⟩, cap, rfl, by omega, fun i hi => ⟨g, 0, rfl, (Array.getElem?_eq_some_iff.1 hg).1, ?_⟩⟩
    have c := h.cells (g := g) rfl i (.int .i64 zs[i]) (by simp [hi])
    rwa [add_none] at c

end Go.Proofs.Ytfjkfblejfiglaa
