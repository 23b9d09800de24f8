/-
  The walk of ValueOps: of each two operators that are each other's opposite just one holds; turned round they hold of both turned round.
-/
import Derived.Test.YtljbjkhpgekmfaaDoorShown1
import Derived.Test.YtljbjkhpgekmfaaDoorHoldsW
namespace Go.Proofs.YtljbjkhpgekmfaaDoor
set_option linter.unusedSimpArgs false
set_option linter.unusedVariables false
open Go.RowKit

set_option maxRecDepth 100000 in
set_option maxHeartbeats 8000000 in
theorem ops_walk (ak : Bool) (sa : ByteArray) (an : Int) (bk : Bool) (sb : ByteArray) (bn : Int) (w : World) (ht : Tab w) :
    Calls Tryd.prog 6 #[.agg #[.bool ak, .string sa, .int .i64 an], .agg #[.bool bk, .string sb, .int .i64 bn]] w
      fun e w' => e = .returned (.bool true) ∧ Below w.heap.size w w' := by
  have hT : ∀ w1, Below w.heap.size w w1 → Tab w1 := fun w1 hb => ht.on hb
  have HT := Lib.hid hT
  clear hT ht
  obtain ⟨x, hx⟩ : ∃ x, vcmp ak sa an bk sb bn = x := ⟨_, rfl⟩
  have HX := Lib.hid hx
  have HS := Lib.hid (show vcmp bk sb bn ak sa an = -x by rw [vcmp_swap, hx])
  have bx : -1 ≤ x ∧ x ≤ 1 := hx ▸ vcmp_bd ak sa an bk sb bn
  have F : x = -1 ∨ x = 0 ∨ x = 1 := by omega
  clear hx bx
  have n1 : ((-1 : Int) == 0) = false := rfl
  have n2 : ((-1 : Int) != 0) = true := rfl
  have n3 : ((0 : Int) != 0) = false := rfl
  have n4 : ((1 : Int) == 0) = false := rfl
  have n5 : ((1 : Int) != 0) = true := rfl
  rcases F with rfl | rfl | rfl
  all_goals
    go_enter Tryd.func6, Tryd.ntmps6
    go_wp2_with fail
    refine (shown1_any _ (HT.out _ (((Below.refl _ _).alloc (Nat.le_refl _) _).alloc (by simp) _))).mono ?_
    rintro e w0 ⟨rfl, hb0⟩
    obtain ⟨hc0, hf0⟩ := bcell hb0
    have hy0 : w.heap.size + 1 < w0.heap.size := by have := hb0.size; simp at this; omega
    have hx0 : w.heap.size < w0.heap.size := by omega
    have hB0 : Hid (Below w.heap.size w w0) := (((Below.refl _ _).alloc (Nat.le_refl _) _).alloc (by simp) _).trans (hb0.mono (by simp; omega))
    clear hb0
    go_wp2_with fail
    refine (holds_eq _ _ _ _ _ _ _).mono ?_
    rintro e w1 ⟨rfl, hb1⟩
    simp only [HX.out, Int.neg_neg, Int.neg_zero]
    obtain ⟨hc1, hf1⟩ := bcell hb1
    have hy1 : w.heap.size + 1 < w1.heap.size := by have := hb1.size; omega
    have hx1 : w.heap.size < w1.heap.size := by omega
    have hB1 : Hid (Below w.heap.size w w1) := hB0.out.trans (hb1.mono (by omega))
    clear hb1 hB0
    go_wp2_with fail
    refine (holds_ne _ _ _ _ _ _ _).mono ?_
    rintro e w2 ⟨rfl, hb2⟩
    simp only [HX.out, Int.neg_neg, Int.neg_zero]
    obtain ⟨hc2, hf2⟩ := bcell hb2
    have hy2 : w.heap.size + 1 < w2.heap.size := by have := hb2.size; omega
    have hx2 : w.heap.size < w2.heap.size := by omega
    have hB2 : Hid (Below w.heap.size w w2) := hB1.out.trans (hb2.mono (by omega))
    clear hb2 hB1
    go_wp2_with fail
    refine (holds_lt _ _ _ _ _ _ _).mono ?_
    rintro e w3 ⟨rfl, hb3⟩
    simp only [HX.out, Int.neg_neg, Int.neg_zero]
    obtain ⟨hc3, hf3⟩ := bcell hb3
    have hy3 : w.heap.size + 1 < w3.heap.size := by have := hb3.size; omega
    have hx3 : w.heap.size < w3.heap.size := by omega
    have hB3 : Hid (Below w.heap.size w w3) := hB2.out.trans (hb3.mono (by omega))
    clear hb3 hB2
    go_wp2_with fail
    refine (holds_ge _ _ _ _ _ _ _).mono ?_
    rintro e w4 ⟨rfl, hb4⟩
    simp only [HX.out, Int.neg_neg, Int.neg_zero]
    obtain ⟨hc4, hf4⟩ := bcell hb4
    have hy4 : w.heap.size + 1 < w4.heap.size := by have := hb4.size; omega
    have hx4 : w.heap.size < w4.heap.size := by omega
    have hB4 : Hid (Below w.heap.size w w4) := hB3.out.trans (hb4.mono (by omega))
    clear hb4 hB3
    go_wp2_with fail
    refine (holds_gt _ _ _ _ _ _ _).mono ?_
    rintro e w5 ⟨rfl, hb5⟩
    simp only [HX.out, Int.neg_neg, Int.neg_zero]
    obtain ⟨hc5, hf5⟩ := bcell hb5
    have hy5 : w.heap.size + 1 < w5.heap.size := by have := hb5.size; omega
    have hx5 : w.heap.size < w5.heap.size := by omega
    have hB5 : Hid (Below w.heap.size w w5) := hB4.out.trans (hb5.mono (by omega))
    clear hb5 hB4
    go_wp2_with fail
    refine (holds_le _ _ _ _ _ _ _).mono ?_
    rintro e w6 ⟨rfl, hb6⟩
    simp only [HX.out, Int.neg_neg, Int.neg_zero]
    obtain ⟨hc6, hf6⟩ := bcell hb6
    have hy6 : w.heap.size + 1 < w6.heap.size := by have := hb6.size; omega
    have hx6 : w.heap.size < w6.heap.size := by omega
    have hB6 : Hid (Below w.heap.size w w6) := hB5.out.trans (hb6.mono (by omega))
    clear hb6 hB5
    go_wp2_with fail
    refine (holds_gt _ _ _ _ _ _ _).mono ?_
    rintro e w7 ⟨rfl, hb7⟩
    simp only [HS.out, Int.neg_neg, Int.neg_zero]
    obtain ⟨hc7, hf7⟩ := bcell hb7
    have hy7 : w.heap.size + 1 < w7.heap.size := by have := hb7.size; omega
    have hx7 : w.heap.size < w7.heap.size := by omega
    have hB7 : Hid (Below w.heap.size w w7) := hB6.out.trans (hb7.mono (by omega))
    clear hb7 hB6
    go_wp2_with fail
    refine (holds_ge _ _ _ _ _ _ _).mono ?_
    rintro e w8 ⟨rfl, hb8⟩
    simp only [HS.out, Int.neg_neg, Int.neg_zero]
    obtain ⟨hc8, hf8⟩ := bcell hb8
    have hy8 : w.heap.size + 1 < w8.heap.size := by have := hb8.size; omega
    have hx8 : w.heap.size < w8.heap.size := by omega
    have hB8 : Hid (Below w.heap.size w w8) := hB7.out.trans (hb8.mono (by omega))
    clear hb8 hB7
    go_wp2
    go_ret
    exact ⟨rfl, hB8.out⟩
end Go.Proofs.YtljbjkhpgekmfaaDoor
