/-
  A list of rows of numbers that lies in memory: what it holds. Plain facts; no walk.
-/
import Derived.Test.YtfjkfblejfiglaaRTell
namespace Go.Proofs.Ytfjkfblejfiglaa
set_option linter.unusedSimpArgs false
set_option linter.unusedVariables false
set_option linter.unusedSectionVars false
set_option maxRecDepth 100000
open Go.RowKit Go.Maps
variable [DecidableEq V]

/-- x is a list of rows of numbers, in memory that is there. -/
def Mtx (w : World) (x : Value) (QS : List (List Nat)) : Prop :=
  ∃ (ao : Option Addr) (cap : Nat), x = .slice ao QS.length cap ∧ QS.length ≤ maxLen ∧
    ∀ i (hi : i < QS.length), ∃ b off, ao = some ⟨b, off, none⟩ ∧ b < w.heap.size ∧ ∀ j u, (six QS[i])[j]? = some u → w.cell? ⟨b, off + i * 6 + j, none⟩ = some u
theorem Mtx.len {W : World} {x : Value} {QS : List (List Nat)} (h : Mtx W x QS) : ∃ ao cap, x = .slice ao QS.length cap ∧ QS.length ≤ maxLen := by
  obtain ⟨ao, cap, h1, h2, -⟩ := h; exact ⟨ao, cap, h1, h2⟩
theorem Mtx.at {W wr : World} {ao : Option Addr} {n cap : Nat} {QS : List (List Nat)} (h : Mtx W (.slice ao n cap) QS) (hb : Below W.heap.size W wr) (k : Nat) (hk : k < QS.length) :
    ∃ b off, ao = some ⟨b, off, none⟩ ∧ b < W.heap.size ∧ wr.cell? ⟨b, off + k * 6, none⟩ = some (.int .i64 (QS[k].getD 0 0 : Nat)) ∧ wr.cell? ⟨b, off + k * 6 + 1, none⟩ = some (.int .i64 (QS[k].getD 1 0 : Nat)) ∧ wr.cell? ⟨b, off + k * 6 + 2, none⟩ = some (.int .i64 (QS[k].getD 2 0 : Nat)) ∧
      wr.cell? ⟨b, off + k * 6 + 3, none⟩ = some (.int .i64 (QS[k].getD 3 0 : Nat)) ∧ wr.cell? ⟨b, off + k * 6 + 4, none⟩ = some (.int .i64 (QS[k].getD 4 0 : Nat)) ∧ wr.cell? ⟨b, off + k * 6 + 5, none⟩ = some (.int .i64 (QS[k].getD 5 0 : Nat)) := by
  obtain ⟨ao', cap', e, h2, h4⟩ := h
  injection e with e1
  subst e1
  obtain ⟨b, off, e, hlt, hc⟩ := h4 k hk
  have c : ∀ j u, (six QS[k])[j]? = some u → wr.cell? ⟨b, off + k * 6 + j, none⟩ = some u := fun j u hj => (hb.cell (p := ⟨b, off + k * 6 + j, none⟩) hlt).trans (hc j u hj)
  exact ⟨b, off, e, hlt, c 0 _ rfl, c 1 _ rfl, c 2 _ rfl, c 3 _ rfl, c 4 _ rfl, c 5 _ rfl⟩
theorem six_len (q : List Nat) : (six q).length = 6 := rfl
theorem flat6_len (QS : List (List Nat)) : (QS.flatMap six).length = QS.length * 6 := by
  induction QS with
  | nil => rfl
  | cons q QS ih => simp [six_len, ih, Nat.add_mul]; omega
theorem flat6_at {QS : List (List Nat)} : ∀ {i : Nat} (hi : i < QS.length) {j : Nat} {u : Value}, (six QS[i])[j]? = some u → (QS.flatMap six)[i * 6 + j]? = some u := by
  induction QS with
  | nil => intro i hi; simp at hi
  | cons q QS ih =>
    intro i hi j u h
    have hj : j < 6 := by have := (List.getElem?_eq_some_iff.1 h).1; rwa [six_len] at this
    cases i with
    | zero =>
      rw [List.flatMap_cons, Nat.zero_mul, Nat.zero_add, List.getElem?_append_left (by rw [six_len]; exact hj)]
      exact h
    | succ i =>
      have e : (i + 1) * 6 + j = i * 6 + j + 6 := by omega
      rw [List.flatMap_cons, List.getElem?_append_right (by rw [six_len]; omega), six_len, e, Nat.add_sub_cancel]
      exact ih (by simpa using hi) h
theorem Rl.mtx {w : World} {B : Nat} {FT FR : Nat → Prop} {rb ar : Nat} {L : List V} {RS : List (List Nat)} {to : Option Nat} {rv : Value} {s1 s2 : Nat} (h : Rl w B FT FR rb ar L RS to rv s1 s2) : Mtx w rv RS := by
  have hr := h.row
  rcases hr.2 with ⟨h1, h2⟩ | ⟨g, cap, cur, h1, h2, h3, h4, h5, h6, h7⟩
  · exact ⟨none, 0, by rw [h1, h2], by rw [h2]; exact Nat.zero_le _, fun i hi => absurd hi (by omega)⟩
  · refine ⟨some ⟨g, 0, none⟩, cap, h1, by omega, fun i hi => ⟨g, 0, rfl, (Array.getElem?_eq_some_iff.1 h3).1, fun j u hj => ?_⟩⟩
    subst h1
    have := hr.cells (g := g) rfl _ _ (flat6_at hi hj)
    rw [add_none] at this
    rw [Nat.zero_add] at this ⊢
    exact this
end Go.Proofs.Ytfjkfblejfiglaa
