/-
  What the rows' list of variables gives where it holds the library's errors.
-/
import Derived.Test.YtdjappfmjnjibaaDoorTLaid
import Derived.Test.YtdjappfmjnjibaaDoorTBack
import Derived.Shelf.Vars
import Derived.LaidLaws
namespace Go.Proofs.YtdjappfmjnjibaaDoor
set_option linter.unusedSimpArgs false
set_option linter.unusedVariables false
set_option linter.unusedSectionVars false
set_option maxRecDepth 100000
open Go.ChangeShapes Go.WideShapes Go.ChangeAt Go.RowKit Go.Joins
variable [DecidableEq V]

theorem max_of {w : World} (h : w.ShapedOpen Tryd.prog) : ∃ m, w.cell? ⟨0, 0, none⟩ = some (.int .i64 m) :=
  cell_of_shapedOpen_int (zero := #[.int .i64 0]) (t := 3) h (of_decide_eq_true (by kernel_rfl)) (by kernel_rfl) rfl (by kernel_rfl) (by kernel_rfl) Tryd.underlying3
theorem gRng : Tryd.prog.globalNamed "strconv.ErrRange" = some 3 := by kernel_rfl
theorem gSyn : Tryd.prog.globalNamed "strconv.ErrSyntax" = some 2 := by kernel_rfl
theorem gRngType : (Tryd.prog.globals[3]?).map (·.type) = some 73 := by kernel_rfl
theorem gSynType : (Tryd.prog.globals[2]?).map (·.type) = some 73 := by kernel_rfl
theorem star : "*" ++ "errors.errorString" = "*errors.errorString" := by decide
theorem rowErr (u : TypeId) (h : Tryd.prog.typeName? 3 u = some "*errors.errorString") : u = 113 :=
  typeName_ptr_named (nm := "errors.errorString") (by rw [star]; kernel_rfl) (by kernel_rfl) (by decide) u (by rw [star]; exact h)
theorem cellsErr : Tryd.prog.cellsOf 115 = 1 := by kernel_rfl

/-- The list that holds the two errors. -/
theorem glob_of {W : World} (h : laidMetH Tryd.prog Rows.tupleBackRow.laid W) (hs : W.ShapedOpen Tryd.prog) : Glob W := by
  have h' : laidMet Tryd.prog Rows.tupleBackRow.laid W := h
  obtain ⟨a0, s0, hv0, -⟩ := laid_sentinel h'.tail.tail.tail gRng gRngType Tryd.underlying73 rowErr Tryd.underlying113 Tryd.underlying115 rfl rfl Tryd.underlying9 cellsErr cellsS
  obtain ⟨a1, s1, hv1, -⟩ := laid_sentinel h'.tail.tail.tail.tail gSyn gSynType Tryd.underlying73 rowErr Tryd.underlying113 Tryd.underlying115 rfl rfl Tryd.underlying9 cellsErr cellsS
  exact ⟨Lib.tabIs_of_head gPow gPowType Tryd.underlying99 Tryd.underlying78 cellsU64 cellsPow h'.tail.tail, max_of hs, ⟨_, _, hv1⟩, ⟨_, _, hv0⟩⟩
end Go.Proofs.YtdjappfmjnjibaaDoor
