/-
  What the list of variables of parse's rows gives (PEnv), at a seat of laws of parse alone (the first law's list is all laws' list).
-/
import Derived.Test.YtfpamkijkaeafaaDoorGParse
import Derived.Test.YtfpamkijkaeafaaDoorKLaidA
namespace Go.Proofs.YtfpamkijkaeafaaDoor
set_option linter.unusedSimpArgs false
set_option linter.unusedVariables false
set_option linter.unusedSectionVars false
set_option maxRecDepth 100000
open Go.ChangeShapes Go.WideShapes Go.ChangeAt Go.RowKit Go.Joins

theorem gOps : Tryd.prog.globalNamed "lambrequin/parse.operators" = some 1 := by kernel_rfl
theorem gOpsType : (Tryd.prog.globals[1]?).map (·.type) = some 124 := by kernel_rfl
theorem cellsOps : Tryd.prog.cellsOf 124 = 6 := by kernel_rfl
theorem penv_of {W : World} (h : laidMetH Tryd.prog Rows.parseCutsRow.laid W) : PEnv W := by
  have h' : laidMet Tryd.prog Rows.parseCutsRow.laid W := h
  obtain ⟨g5, t5, cs5, f5, p5, hg5, -, hv5, -⟩ := Lib.laidMet.reads h' (n := "math/bits.deBruijn64tab") (.tail _ (.head _))
  obtain rfl := Option.some.inj (gDeb.symm.trans hg5)
  obtain ⟨t5', fr5, hh5⟩ := heap_of_var gDeb hv5
  have big := (Array.getElem?_eq_some_iff.1 hh5).1
  obtain ⟨g6, t6, cs6, f6, p6, hg6, ht6, hv6, hd6⟩ := Lib.laidMet.reads h' (n := "lambrequin/parse.operators") (.tail _ (.tail _ (.tail _ (.tail _ (.tail _ (.tail _ (.head _)))))))
  obtain rfl := Option.some.inj (gOps.symm.trans hg6)
  obtain rfl := Option.some.inj (gOpsType.symm.trans ht6)
  have hcs := cells_of_texts (zs := [[61], [33, 61], [60], [60, 61], [62], [62, 61]]) Tryd.underlying124 Tryd.underlying9 cellsStr cellsOps hd6
  obtain ⟨t6', fr6, hh6⟩ := heap_of_var gOps hv6
  have hm : cs6 = opsA := by
    apply Array.toList_inj.1
    rw [hcs]; rfl
  rw [hm] at hh6
  exact ⟨env_of h, ⟨_, _, hh6⟩, by omega⟩
end Go.Proofs.YtfpamkijkaeafaaDoor
