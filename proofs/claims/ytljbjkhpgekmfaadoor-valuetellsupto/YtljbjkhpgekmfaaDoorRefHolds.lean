/-
  Contracts of value.Holds and of the document's Holds (lambrequinref01), for every operator: the same.
-/
import Derived.Test.YtljbjkhpgekmfaaDoorHoldsW
import Derived.Test.YtljbjkhpgekmfaaDoorRefCmp
namespace Go.Proofs.YtljbjkhpgekmfaaDoor
set_option linter.unusedSimpArgs false
set_option linter.unusedVariables false
open Go.RowKit

/-- Whether an operator holds of what Compare tells, and whether it is one. -/
def holdL (op : List UInt8) (x : Int) : Bool × Bool :=
  if op = [61] then (x == 0, true) else
  if op = [33, 61] then (x != 0, true) else
  if op = [60] then (decide (x < 0), true) else
  if op = [60, 61] then (decide (x ≤ 0), true) else
  if op = [62] then (decide (0 < x), true) else
  if op = [62, 61] then (decide (0 ≤ x), true) else
  (false, false)
theorem holdL_eq (x : Int) : holdL [61] x = (x == 0, true) := by simp [holdL]
theorem holdL_ne (x : Int) : holdL [33, 61] x = (x != 0, true) := by simp [holdL]
theorem holdL_lt (x : Int) : holdL [60] x = (decide (x < 0), true) := by simp [holdL]
theorem holdL_le (x : Int) : holdL [60, 61] x = (decide (x ≤ 0), true) := by simp [holdL]
theorem holdL_gt (x : Int) : holdL [62] x = (decide (0 < x), true) := by simp [holdL]
theorem holdL_ge (x : Int) : holdL [62, 61] x = (decide (0 ≤ x), true) := by simp [holdL]
theorem ret_hold {p : Bool × Bool} {a b : Bool} (h : p = (a, b)) : Ending.returned (.tuple #[.bool a, .bool b]) = .returned (.tuple #[.bool p.1, .bool p.2]) := by rw [h]
theorem op_cases (l : List UInt8) : l = [61] ∨ l = [33, 61] ∨ l = [60] ∨ l = [60, 61] ∨ l = [62] ∨ l = [62, 61] ∨ (¬ l = [61] ∧ ¬ l = [33, 61] ∧ ¬ l = [60] ∧ ¬ l = [60, 61] ∧ ¬ l = [62] ∧ ¬ l = [62, 61]) := by
  by_cases h0 : l = [61]
  · simp [h0]
  by_cases h1 : l = [33, 61]
  · simp [h1]
  by_cases h2 : l = [60]
  · simp [h2]
  by_cases h3 : l = [60, 61]
  · simp [h3]
  by_cases h4 : l = [62]
  · simp [h4]
  by_cases h5 : l = [62, 61]
  · simp [h5]
  exact .inr (.inr (.inr (.inr (.inr (.inr ⟨h0, h1, h2, h3, h4, h5⟩)))))
theorem holdL_none {l : List UInt8} (h : ¬ l = [61] ∧ ¬ l = [33, 61] ∧ ¬ l = [60] ∧ ¬ l = [60, 61] ∧ ¬ l = [62] ∧ ¬ l = [62, 61]) (x : Int) : holdL l x = (false, false) := by
  obtain ⟨h0, h1, h2, h3, h4, h5⟩ := h
  simp [holdL, h0, h1, h2, h3, h4, h5]
theorem op_ne {op : ByteArray} {l : List UInt8} (h : ¬ op.data.toList = l) : (l == op.toList) = false ∧ (op.toList == l) = false := by
  rw [toList_data]
  exact ⟨beq_eq_false_iff_ne.2 fun e => h e.symm, beq_eq_false_iff_ne.2 h⟩

theorem holds_any (op : ByteArray) (ak : Bool) (sa : ByteArray) (an : Int) (bk : Bool) (sb : ByteArray) (bn : Int) (w : World) :
    Calls Tryd.prog 10 #[.string op, .agg #[.bool ak, .string sa, .int .i64 an], .agg #[.bool bk, .string sb, .int .i64 bn]] w
      fun e w' => e = .returned (.tuple #[.bool (holdL op.data.toList (vcmp ak sa an bk sb bn)).1, .bool (holdL op.data.toList (vcmp ak sa an bk sb bn)).2]) ∧ Below w.heap.size w w' := by
  rcases op_cases op.data.toList with h | h | h | h | h | h | h
  · obtain rfl : op = ⟨#[61]⟩ := Go.WideShapes.bytes_inj h
    refine (holds_eq ak sa an bk sb bn w).mono fun e w' ⟨he, hb⟩ => ⟨he.trans (ret_hold (holdL_eq _)), hb⟩
  · obtain rfl : op = ⟨#[33, 61]⟩ := Go.WideShapes.bytes_inj h
    refine (holds_ne ak sa an bk sb bn w).mono fun e w' ⟨he, hb⟩ => ⟨he.trans (ret_hold (holdL_ne _)), hb⟩
  · obtain rfl : op = ⟨#[60]⟩ := Go.WideShapes.bytes_inj h
    refine (holds_lt ak sa an bk sb bn w).mono fun e w' ⟨he, hb⟩ => ⟨he.trans (ret_hold (holdL_lt _)), hb⟩
  · obtain rfl : op = ⟨#[60, 61]⟩ := Go.WideShapes.bytes_inj h
    refine (holds_le ak sa an bk sb bn w).mono fun e w' ⟨he, hb⟩ => ⟨he.trans (ret_hold (holdL_le _)), hb⟩
  · obtain rfl : op = ⟨#[62]⟩ := Go.WideShapes.bytes_inj h
    refine (holds_gt ak sa an bk sb bn w).mono fun e w' ⟨he, hb⟩ => ⟨he.trans (ret_hold (holdL_gt _)), hb⟩
  · obtain rfl : op = ⟨#[62, 61]⟩ := Go.WideShapes.bytes_inj h
    refine (holds_ge ak sa an bk sb bn w).mono fun e w' ⟨he, hb⟩ => ⟨he.trans (ret_hold (holdL_ge _)), hb⟩
  · refine (holds_none op (op_ne h.1).1 (op_ne h.2.1).1 (op_ne h.2.2.1).1 (op_ne h.2.2.2.1).1 (op_ne h.2.2.2.2.1).1 (op_ne h.2.2.2.2.2).1 ak sa an bk sb bn w).mono fun e w' ⟨he, hb⟩ => ⟨he.trans (ret_hold (holdL_none h _)), hb⟩

set_option maxRecDepth 100000 in
set_option maxHeartbeats 2000000 in
theorem refHolds_any (op : ByteArray) (ak : Bool) (sa : ByteArray) (an : Int) (bk : Bool) (sb : ByteArray) (bn : Int) (ha : sa.size ≤ maxLen) (hb' : sb.size ≤ maxLen) (w : World) :
    Calls Tryd.prog 11 #[.string op, .agg #[.bool ak, .string sa, .int .i64 an], .agg #[.bool bk, .string sb, .int .i64 bn]] w
      fun e w' => e = .returned (.tuple #[.bool (holdL op.data.toList (vcmp ak sa an bk sb bn)).1, .bool (holdL op.data.toList (vcmp ak sa an bk sb bn)).2]) ∧ Below w.heap.size w w' := by
  have HC : Hid (∀ w1, Calls Tryd.prog 13 #[.agg #[.bool ak, .string sa, .int .i64 an], .agg #[.bool bk, .string sb, .int .i64 bn]] w1 fun e w' => e = .returned (.int .i64 (vcmp ak sa an bk sb bn)) ∧ Below w1.heap.size w1 w') := fun w1 => refCompare_any _ _ _ _ _ _ ha hb' w1
  have bd := vcmp_bd ak sa an bk sb bn
  obtain ⟨x, hx⟩ : ∃ x, vcmp ak sa an bk sb bn = x := ⟨_, rfl⟩
  rw [hx] at bd HC ⊢
  clear hx ha hb'
  have HB := Lib.hid bd
  clear bd
  rcases op_cases op.data.toList with h | h | h | h | h | h | h
  · obtain rfl : op = ⟨#[61]⟩ := Go.WideShapes.bytes_inj h
    have E : Hid (holdL [61] x = (x == 0, true)) := by
      have bd := HB.out
      exact (holdL_eq x).trans (congrArg (·, true) (Bool.eq_iff_iff.2 (by simp; try omega)))
    clear h HB
    go_enter Tryd.func11, Tryd.ntmps11
    go_wp2_with (go_at_call 13; refine (HC.out _).mono ?_; rintro e w' ⟨rfl, hb⟩)
    go_ret2
    exact ⟨ret_hold E.out, (((Below.refl _ _).alloc (Nat.le_refl _) _).alloc (by simp) _).trans (hb.mono (by simp; omega))⟩
  · obtain rfl : op = ⟨#[33, 61]⟩ := Go.WideShapes.bytes_inj h
    have E : Hid (holdL [33, 61] x = (x != 0, true)) := by
      have bd := HB.out
      exact (holdL_ne x).trans (congrArg (·, true) (Bool.eq_iff_iff.2 (by simp; try omega)))
    clear h HB
    go_enter Tryd.func11, Tryd.ntmps11
    go_wp2_with (go_at_call 13; refine (HC.out _).mono ?_; rintro e w' ⟨rfl, hb⟩)
    go_ret2
    exact ⟨ret_hold E.out, (((Below.refl _ _).alloc (Nat.le_refl _) _).alloc (by simp) _).trans (hb.mono (by simp; omega))⟩
  · obtain rfl : op = ⟨#[60]⟩ := Go.WideShapes.bytes_inj h
    have E : Hid (holdL [60] x = (x == -1, true)) := by
      have bd := HB.out
      exact (holdL_lt x).trans (congrArg (·, true) (Bool.eq_iff_iff.2 (by simp; try omega)))
    clear h HB
    go_enter Tryd.func11, Tryd.ntmps11
    go_wp2_with (go_at_call 13; refine (HC.out _).mono ?_; rintro e w' ⟨rfl, hb⟩)
    go_ret2
    exact ⟨ret_hold E.out, (((Below.refl _ _).alloc (Nat.le_refl _) _).alloc (by simp) _).trans (hb.mono (by simp; omega))⟩
  · obtain rfl : op = ⟨#[60, 61]⟩ := Go.WideShapes.bytes_inj h
    have E : Hid (holdL [60, 61] x = (x != 1, true)) := by
      have bd := HB.out
      exact (holdL_le x).trans (congrArg (·, true) (Bool.eq_iff_iff.2 (by simp; try omega)))
    clear h HB
    go_enter Tryd.func11, Tryd.ntmps11
    go_wp2_with (go_at_call 13; refine (HC.out _).mono ?_; rintro e w' ⟨rfl, hb⟩)
    go_ret2
    exact ⟨ret_hold E.out, (((Below.refl _ _).alloc (Nat.le_refl _) _).alloc (by simp) _).trans (hb.mono (by simp; omega))⟩
  · obtain rfl : op = ⟨#[62]⟩ := Go.WideShapes.bytes_inj h
    have E : Hid (holdL [62] x = (x == 1, true)) := by
      have bd := HB.out
      exact (holdL_gt x).trans (congrArg (·, true) (Bool.eq_iff_iff.2 (by simp; try omega)))
    clear h HB
    go_enter Tryd.func11, Tryd.ntmps11
    go_wp2_with (go_at_call 13; refine (HC.out _).mono ?_; rintro e w' ⟨rfl, hb⟩)
    go_ret2
    exact ⟨ret_hold E.out, (((Below.refl _ _).alloc (Nat.le_refl _) _).alloc (by simp) _).trans (hb.mono (by simp; omega))⟩
  · obtain rfl : op = ⟨#[62, 61]⟩ := Go.WideShapes.bytes_inj h
    have E : Hid (holdL [62, 61] x = (x != -1, true)) := by
      have bd := HB.out
      exact (holdL_ge x).trans (congrArg (·, true) (Bool.eq_iff_iff.2 (by simp; try omega)))
    clear h HB
    go_enter Tryd.func11, Tryd.ntmps11
    go_wp2_with (go_at_call 13; refine (HC.out _).mono ?_; rintro e w' ⟨rfl, hb⟩)
    go_ret2
    exact ⟨ret_hold E.out, (((Below.refl _ _).alloc (Nat.le_refl _) _).alloc (by simp) _).trans (hb.mono (by simp; omega))⟩
  · have E : Hid (holdL op.data.toList x = (false, false)) := holdL_none h x
    have o0 := (op_ne h.1).2
    have o1 := (op_ne h.2.1).2
    have o2 := (op_ne h.2.2.1).2
    have o3 := (op_ne h.2.2.2.1).2
    have o4 := (op_ne h.2.2.2.2.1).2
    have o5 := (op_ne h.2.2.2.2.2).2
    clear h HB
    go_enter Tryd.func11, Tryd.ntmps11
    go_wp2_with (go_at_call 13; refine (HC.out _).mono ?_; rintro e w' ⟨rfl, hb⟩)
    go_ret2
    exact ⟨ret_hold E.out, (((Below.refl _ _).alloc (Nat.le_refl _) _).alloc (by simp) _).trans (hb.mono (by simp; omega))⟩
end Go.Proofs.YtljbjkhpgekmfaaDoor
