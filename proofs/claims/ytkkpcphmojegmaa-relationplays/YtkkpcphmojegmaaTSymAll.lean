/-
  Contract of slices.symMergeCmpFunc over rows, by the length of what is merged.
-/
import Derived.Test.YtkkpcphmojegmaaTSym2
namespace Go.Proofs.Ytkkpcphmojegmaa
set_option linter.unusedSimpArgs false
set_option linter.unusedVariables false
set_option linter.unusedSectionVars false
set_option maxRecDepth 100000
open Go.RowKit
variable [DecidableEq V]

theorem sym_all (g cap N : Nat) (hcap : N ≤ 1000000) (k : Nat) : SymIH g cap N k := by
  induction k with
  | zero => intro w' a' m' b' A' X' Y' C' h; omega
  | succ k ih =>
    intro w a m b A X Y C hk h ha hm hb hN hX hY hT hx0 hy0
    by_cases hx1 : X.length = 1
    · obtain ⟨x, rfl⟩ := List.length_eq_one_iff.1 hx1
      refine (symA_any (Y := Y) (C := C) (x := x) (by simpa using h) ha (by simpa using hm) hb hN hcap hY (fun y hy => hT x (by simp) y hy)).mono ?_
      rintro e w' ⟨rfl, ho, Z, hp, hu, hm'⟩
      exact SymOut.mk ho (by simpa using hp) hu hm'
    · by_cases hy1 : Y.length = 1
      · obtain ⟨y, rfl⟩ := List.length_eq_one_iff.1 hy1
        refine (symB_any (X := X) (C := C) (y := y) (by simpa using h) ha hm (by simpa using hb) hN hcap hX (fun x hx => hT x hx y (by simp)) hx1).mono ?_
        rintro e w' ⟨rfl, ho, Z, hp, hu, hm'⟩
        exact SymOut.mk ho hp hu hm'
      · have IH : SymIH g cap N (X.length + Y.length) := fun w' a' m' b' A' X' Y' C' h' => ih w' a' m' b' A' X' Y' C' (by omega)
        by_cases hway : m > (a + b) / 2
        · exact sym_step1 h ha hm hb hN hcap hX hY hT (by omega) (by omega) rfl rfl rfl hway IH
        · exact sym_step2 h ha hm hb hN hcap hX hY hT (by omega) (by omega) rfl rfl rfl (by omega) IH
end Go.Proofs.Ytkkpcphmojegmaa
