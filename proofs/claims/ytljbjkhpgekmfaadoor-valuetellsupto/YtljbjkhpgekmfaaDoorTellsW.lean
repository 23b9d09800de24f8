/-
  The walk of ValueTells: which of any two values is ahead, whether any operator holds, and any one's text, is as the document says.
-/
import Derived.Test.YtljbjkhpgekmfaaDoorTextsW
import Derived.Test.YtljbjkhpgekmfaaDoorRefText
import Derived.Test.YtljbjkhpgekmfaaDoorRefHolds
namespace Go.Proofs.YtljbjkhpgekmfaaDoor
set_option linter.unusedSimpArgs false
set_option linter.unusedVariables false
open Go.RowKit
attribute [local go_sem ↓] Go.wp_at_zero Go.wp_at_succ

set_option maxRecDepth 100000 in
set_option maxHeartbeats 8000000 in
theorem tells_walk (ak : Bool) (sa : ByteArray) (an : Int) (la : -9223372036854775808 ≤ an) (ua : an ≤ 9223372036854775807) (ha : 2 * sa.size + 2 ≤ 140737488355328)
    (bk : Bool) (sb : ByteArray) (bn : Int) (hb' : sb.size ≤ maxLen) (op : ByteArray) (w : World) (ht : Tab w) :
    Calls Tryd.prog 3 #[.agg #[.bool ak, .string sa, .int .i64 an], .agg #[.bool bk, .string sb, .int .i64 bn], .string op] w
      fun e w' => e = .returned (.bool true) ∧ Below w.heap.size w w' := by
  have ha' : sa.size ≤ maxLen := by unfold maxLen; omega
  have HT := Lib.hid (fun w1 (hb : Below w.heap.size w w1) => ht.on hb)
  obtain ⟨t, et⟩ : ∃ t, t = textL ak sa.data.toList an := ⟨_, rfl⟩
  obtain ⟨x, hx⟩ : ∃ x, vcmp ak sa an bk sb bn = x := ⟨_, rfl⟩
  obtain ⟨p, hp⟩ : ∃ p, plainL sa.data.toList = p := ⟨_, rfl⟩
  obtain ⟨o, ho⟩ : ∃ o, holdL op.data.toList x = o := ⟨_, rfl⟩
  have H1 : Hid (∀ w1, Calls Tryd.prog 10 #[.string op, .agg #[.bool ak, .string sa, .int .i64 an], .agg #[.bool bk, .string sb, .int .i64 bn]] w1 fun e w' => e = .returned (.tuple #[.bool o.1, .bool o.2]) ∧ Below w1.heap.size w1 w') := fun w1 => by rw [← ho, ← hx]; exact holds_any op ak sa an bk sb bn w1
  have H2 : Hid (∀ w1, Calls Tryd.prog 11 #[.string op, .agg #[.bool ak, .string sa, .int .i64 an], .agg #[.bool bk, .string sb, .int .i64 bn]] w1 fun e w' => e = .returned (.tuple #[.bool o.1, .bool o.2]) ∧ Below w1.heap.size w1 w') := fun w1 => by rw [← ho, ← hx]; exact refHolds_any op ak sa an bk sb bn ha' hb' w1
  have H3 : Hid (∀ w1, Calls Tryd.prog 12 #[.agg #[.bool ak, .string sa, .int .i64 an], .agg #[.bool bk, .string sb, .int .i64 bn]] w1 fun e w' => e = .returned (.int .i64 x) ∧ Below w1.heap.size w1 w') := fun w1 => by rw [← hx]; exact compare_any ak sa an bk sb bn w1
  have H4 : Hid (∀ w1, Calls Tryd.prog 13 #[.agg #[.bool ak, .string sa, .int .i64 an], .agg #[.bool bk, .string sb, .int .i64 bn]] w1 fun e w' => e = .returned (.int .i64 x) ∧ Below w1.heap.size w1 w') := fun w1 => by rw [← hx]; exact refCompare_any ak sa an bk sb bn ha' hb' w1
  have H5 : Hid (∀ w1, Calls Tryd.prog 14 #[.agg #[.bool ak, .string sa, .int .i64 an], .agg #[.bool bk, .string sb, .int .i64 bn]] w1 fun e w' => e = .returned (.bool (x == 0)) ∧ Below w1.heap.size w1 w') := fun w1 => by rw [← hx]; exact same_any ak sa an bk sb bn w1
  have H6 : Hid (∀ w1, Calls Tryd.prog 15 #[.agg #[.bool ak, .string sa, .int .i64 an], .agg #[.bool bk, .string sb, .int .i64 bn]] w1 fun e w' => e = .returned (.bool (x == 0)) ∧ Below w1.heap.size w1 w') := fun w1 => by rw [← hx]; exact refSame_any ak sa an bk sb bn ha' hb' w1
  have H7 : Hid (∀ w1, Below w.heap.size w w1 → Calls Tryd.prog 16 #[.agg #[.bool ak, .string sa, .int .i64 an]] w1 fun e w' => e = .returned (.string ⟨t.toArray⟩) ∧ Below w1.heap.size w1 w') := fun w1 hb => by rw [et]; exact text_any ak sa an la ua w1 ha (HT.out w1 hb)
  have H8 : Hid (∀ w1, Calls Tryd.prog 17 #[.agg #[.bool ak, .string sa, .int .i64 an]] w1 fun e w' => e = .returned (.string ⟨t.toArray⟩) ∧ Below w1.heap.size w1 w') := fun w1 => by rw [et]; exact refText_any ak sa an la ua w1 ha
  have H9 : Hid (∀ w1, Calls Tryd.prog 18 #[.string sa] w1 fun e w' => e = .returned (.bool p) ∧ Below w1.heap.size w1 w') := fun w1 => by rw [← hp]; exact plain_any sa w1 ha'
  have H10 : Hid (∀ w1, Calls Tryd.prog 19 #[.string sa] w1 fun e w' => e = .returned (.bool p) ∧ w' = w1) := fun w1 => by rw [← hp]; exact refPlain_any sa w1 ha'
  obtain ⟨o1, o2⟩ := o
  obtain ⟨z, hz⟩ : ∃ z, (x == 0) = z := ⟨_, rfl⟩
  rw [hz] at H5 H6
  clear ht la ua ha hb' ha' et hx hp ho hz
  go_enter Tryd.func3, Tryd.ntmps3
  go_wp2_with (go_at_call 9; refine (shown1_any _ (HT.out _ (((Below.refl _ _).alloc (Nat.le_refl _) _).alloc (by simp) _))).mono ?_; rintro e w0 ⟨rfl, hb0⟩; refine Hid.out ?_)
  refine Lib.hid ?_
  have hS0 := two_start hb0
  clear hb0
  obtain ⟨q1, q2, q3, q4, q5, q6, q7, q8, q9⟩ := hS0
  go_wp2_with (go_at_call 10; refine (H1.out _).mono ?_; rintro e w1 ⟨rfl, hb1⟩; refine Hid.out ?_)
  refine Lib.hid ?_
  have hS1 := held2_keep ⟨q1, q2, q3, q4, q5, q6, q7, q8, q9⟩ hb1
  clear q1 q2 q3 q4 q5 q6 q7 q8 q9 hb1
  obtain ⟨q1, q2, q3, q4, q5, q6, q7, q8, q9⟩ := hS1
  go_wp2_with (go_at_call 11; refine (H2.out _).mono ?_; rintro e w2 ⟨rfl, hb2⟩; refine Hid.out ?_)
  refine Lib.hid ?_
  have hS0 := held2_keep ⟨q1, q2, q3, q4, q5, q6, q7, q8, q9⟩ hb2
  clear q1 q2 q3 q4 q5 q6 q7 q8 q9 hb2
  go_wp2
  go_region_held3 (fun w' => w'.cell? ⟨w.heap.size, 0, none⟩ = some (.bool ak) ∧ w'.cell? ⟨w.heap.size, 1, none⟩ = some (.string sa) ∧ w'.cell? ⟨w.heap.size, 2, none⟩ = some (.int .i64 an) ∧ w'.cell? ⟨w.heap.size + 1, 0, none⟩ = some (.bool bk) ∧ w'.cell? ⟨w.heap.size + 1, 1, none⟩ = some (.string sb) ∧ w'.cell? ⟨w.heap.size + 1, 2, none⟩ = some (.int .i64 bn) ∧ w.heap.size < w'.heap.size ∧ w.heap.size + 1 < w'.heap.size ∧ Below w.heap.size w w')
    (first | assumption | exact held2_keep (by assumption) hbN | exact ⟨hS0.1, hS0.2.1, hS0.2.2.1, hS0.2.2.2.1, hS0.2.2.2.2.1, hS0.2.2.2.2.2.1, hS0.2.2.2.2.2.2.1, hS0.2.2.2.2.2.2.2.1, hS0.2.2.2.2.2.2.2.2.drew⟩)
    (first
      | (go_at_call 12; refine (H3.out _).mono ?_; rintro e w' ⟨rfl, hbN⟩)
      | (go_at_call 13; refine (H4.out _).mono ?_; rintro e w' ⟨rfl, hbN⟩)
      | (go_at_call 14; refine (H5.out _).mono ?_; rintro e w' ⟨rfl, hbN⟩)
      | (go_at_call 15; refine (H6.out _).mono ?_; rintro e w' ⟨rfl, hbN⟩)
      | (go_at_call 16; refine (H7.out _ (by go_split_ands; assumption)).mono ?_; rintro e w' ⟨rfl, hbN⟩)
      | (go_at_call 17; refine (H8.out _).mono ?_; rintro e w' ⟨rfl, hbN⟩)
      | (go_at_call 18; refine (H9.out _).mono ?_; rintro e w' ⟨rfl, hbN⟩)
      | (go_at_call 19; refine (H10.out _).mono ?_; rintro e w' ⟨rfl, rfl⟩))
  go_wp2
  go_ret
  go_split_ands
  exact ⟨rfl, by assumption⟩
end Go.Proofs.YtljbjkhpgekmfaaDoor
