/-
  The document's example, which all statements of parse ask first.
-/
import Derived.Test.YtfpamkijkaeafaaDoorGParse
namespace Go.Proofs.YtfpamkijkaeafaaDoor
set_option linter.unusedSimpArgs false
set_option linter.unusedVariables false
set_option linter.unusedSectionVars false
set_option maxRecDepth 100000
open Go.RowKit Go.Maps

def xT : Tm := ⟨true, ⟨#[88]⟩, false, ⟨#[]⟩, 0⟩
def shownG : Pr := ⟨[], [⟨⟨⟨#[112]⟩, [xT]⟩, [⟨1, ⟨⟨#[113]⟩, [xT, ⟨false, ⟨#[]⟩, true, ⟨#[97]⟩, 0⟩]⟩, ⟨#[]⟩, Tm.zero, Tm.zero⟩, ⟨2, ⟨⟨#[114]⟩, [xT]⟩, ⟨#[]⟩, Tm.zero, Tm.zero⟩, ⟨3, Am.zero, ⟨#[60]⟩, xT, ⟨false, ⟨#[]⟩, false, ⟨#[]⟩, 3⟩⟩]⟩]⟩
theorem shown_parse : parseR ⟨#[112, 40, 88, 41, 32, 58, 45, 32, 113, 40, 88, 44, 32, 97, 41, 44, 32, 110, 111, 116, 32, 114, 40, 88, 41, 44, 32, 88, 32, 60, 32, 51, 46]⟩ = ⟨0, 0, shownG⟩ := by kernel_rfl
theorem shown_mem {w : World} {B : Nat} {y : Value} (h : RusO w B y shownG.rules) : ∃ g1 c1 g2 c2, y = .slice (some ⟨g1, 0, none⟩) 1 c1 ∧ 1 ≤ c1 ∧ w.cell? ⟨g1, 2, none⟩ = some (.slice (some ⟨g2, 0, none⟩) 3 c2) ∧ 3 ≤ c2 ∧ w.cell? ⟨g2, 0, none⟩ = some (.int .i64 1) ∧ w.cell? ⟨g2, 14, none⟩ = some (.int .i64 2) ∧ w.cell? ⟨g2, 28, none⟩ = some (.int .i64 3) ∧ w.cell? ⟨g2, 31, none⟩ = some (.string ⟨#[60]⟩) ∧ w.cell? ⟨g2, 41, none⟩ = some (.int .i64 3) := by
  obtain ⟨ao, cap, rfl, h1, h2⟩ := h.cells
  obtain ⟨g1, c, rfl, -, -, ⟨x, z, rfl, -, hb⟩, hc⟩ := h2 0 (by decide)
  obtain ⟨ao2, cap2, rfl, k1, k2⟩ := hb.cells
  obtain ⟨g2, c0, rfl, -, -, ⟨x0, rfl, -⟩, d0⟩ := k2 0 (by decide)
  obtain ⟨g2', c1, e, -, -, ⟨x1, rfl, -⟩, d1⟩ := k2 1 (by decide)
  cases e
  obtain ⟨g2', c2, e, -, -, ⟨x2, rfl, -⟩, d2⟩ := k2 2 (by decide)
  cases e
  exact ⟨g1, cap, g2, cap2, rfl, h1, hc 2 _ rfl, k1, d0 0 _ rfl, d1 0 _ rfl, d2 0 _ rfl, d2 3 _ rfl, d2 13 _ rfl⟩

set_option maxHeartbeats 2000000 in
theorem shown_any (w : World) (hE : PEnv w) : Calls Tryd.prog 6 #[] w fun e w' => e = .returned (.bool true) ∧ Below w.heap.size w w' := by
  have HE := Lib.hid hE
  clear hE
  go_enter Tryd.func6, Tryd.ntmps6
  go_wp2_with fail
  refine (parse_any _ _ HE.out (by decide)).mono ?_
  rintro e w1 ⟨x, y, rfl, hb1, hd, hu⟩
  rw [shown_parse] at hd hu ⊢
  obtain ⟨xo, xc, rfl, -⟩ := hd.cells
  obtain ⟨g1, c1, g2, c2, rfl, k1, d0, k2, d1, d2, d3, d4, d5⟩ := shown_mem (hu.below keepRu (al_below w1 (.cells #[.slice xo shownG.decls.length xc, y] 26)))
  have l1 : (1 : Int) ≤ (c1 : Int) := by omega
  have l2 : (3 : Int) ≤ (c2 : Int) := by omega
  have HB := Lib.hid hb1
  clear hd hu hb1 HE
  go_wp2
  go_ret
  exact ⟨rfl, HB.out.alloc HB.out.size _⟩
end Go.Proofs.YtfpamkijkaeafaaDoor
