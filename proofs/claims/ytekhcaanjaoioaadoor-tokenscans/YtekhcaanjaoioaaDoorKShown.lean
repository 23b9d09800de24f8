/-
  The document's example, which all statements ask first.
-/
import Derived.Test.YtekhcaanjaoioaaDoorKJoin
namespace Go.Proofs.YtekhcaanjaoioaaDoor
set_option linter.unusedSimpArgs false
set_option linter.unusedVariables false
set_option linter.unusedSectionVars false
set_option maxRecDepth 100000
open Go.RowKit

def shownT : List Tk := [⟨1, ⟨#[112]⟩, 0, false, 0⟩, ⟨4, ⟨#[40]⟩, 0, false, 1⟩, ⟨2, ⟨#[88]⟩, 0, false, 2⟩, ⟨4, ⟨#[44]⟩, 0, false, 3⟩, ⟨3, ⟨#[]⟩, 12, false, 5⟩, ⟨4, ⟨#[41]⟩, 0, false, 7⟩, ⟨4, ⟨#[46]⟩, 0, false, 8⟩]
theorem shown_scan : scanR ⟨#[112, 40, 88, 44, 32, 49, 50, 41, 46, 32, 37, 32, 120]⟩ = ⟨0, 0, shownT⟩ := by kernel_rfl
theorem shown_join : joinL (shownT.take 2) = [112, 32, 40, 32] := by kernel_rfl
theorem shown_mem {w : World} {B : Nat} {v : Value} (h : TkOwn w B v shownT) : ∃ g cap, v = .slice (some ⟨g, 0, none⟩) 7 cap ∧ 7 ≤ cap ∧ g < w.heap.size ∧ w.cell? ⟨g, 1, none⟩ = some (.string ⟨#[112]⟩) ∧ w.cell? ⟨g, 10, none⟩ = some (.int .i64 2) ∧ w.cell? ⟨g, 22, none⟩ = some (.int .i64 12) ∧ w.cell? ⟨g, 24, none⟩ = some (.int .i64 5) ∧ Tks w (.slice (some ⟨g, 0, none⟩) 2 cap) (shownT.take 2) := by
  have ht := h.tks (by decide)
  obtain ⟨ao, cap, rfl, h1, h2, h3⟩ := ht
  have ht := h.tks (by decide)
  obtain ⟨b, off, rfl, hl, c⟩ := h3 0 (by decide)
  obtain ⟨g, cap', e⟩ := Joins.ownsRow_form h (by decide)
  cases e
  obtain ⟨b', off', e, -, -, d1, -⟩ := h3 0 (by decide)
  cases e
  obtain ⟨b', off', e, -, d2, -⟩ := h3 2 (by decide)
  cases e
  obtain ⟨b', off', e, -, -, -, d3, -, d4⟩ := h3 4 (by decide)
  cases e
  exact ⟨_, _, rfl, h1, hl, d1, d2, d3, d4, ht.take (k := 2) (by decide)⟩

set_option maxHeartbeats 1000000 in
theorem shown_any (w : World) (hE : Env w) (hT : Tab w) : Calls Tryd.prog 5 #[] w fun e w' => e = .returned (.bool true) ∧ Below w.heap.size w w' := by
  have HE := Lib.hid hE
  have HT := Lib.hid hT
  clear hE hT
  go_enter Tryd.func5, Tryd.ntmps5
  go_wp2_with fail
  refine (scan_any _ _ HE.out).mono ?_
  rintro e w1 ⟨v, rfl, hb1, ho⟩
  rw [shown_scan] at ho ⊢
  obtain ⟨g, cap, rfl, h7, hgl, c1, c2, c3, c4, htk⟩ := shown_mem ho
  have hcI : (7 : Int) ≤ (cap : Int) := by omega
  have HJ := Lib.hid (join_any htk (by intro t ht; simp [shownT] at ht; rcases ht with rfl | rfl <;> exact ⟨by decide, by decide, by decide⟩) (by rw [shown_join]; decide) (HT.out.on hb1))
  rw [shown_join] at HJ
  clear ho htk
  go_wp2_with (go_at_call 9; refine (HJ.out).mono ?_; rintro e w2 ⟨rfl, hb2⟩)
  go_ret
  exact ⟨rfl, hb1.trans (hb2.mono hb1.size)⟩
end Go.Proofs.YtekhcaanjaoioaaDoor
