/-
  The walk of ValueMakes: a symbol and a number are what they were made of; no number is a symbol; numbers are in their order, symbols in theirs.
-/
import Derived.Test.YtljbjkhpgekmfaaDoorShown1
import Derived.Test.YtljbjkhpgekmfaaDoorCmpP
namespace Go.Proofs.YtljbjkhpgekmfaaDoor
set_option linter.unusedSimpArgs false
set_option linter.unusedVariables false
open Go.RowKit
attribute [local go_sem ↓] Go.wp_at_zero Go.wp_at_succ

theorem bytesLess_cb (a b : List UInt8) : Op.bytesLess a b = decide (Lib.compareBytes a b < 0) := by
  induction a generalizing b with
  | nil => cases b <;> simp [Op.bytesLess, Lib.compareBytes]
  | cons x a ih =>
    cases b with
    | nil => simp [Op.bytesLess, Lib.compareBytes]
    | cons y b =>
      rw [Op.bytesLess, Lib.compareBytes, ih b]
      by_cases h1 : x < y
      · simp [h1]
      · by_cases h2 : y < x
        · have : ¬ x = y := fun e => UInt8.lt_irrefl _ (e ▸ h2)
          simp [h1, h2, this]
        · have : x = y := UInt8.le_antisymm (UInt8.not_lt.1 h2) (UInt8.not_lt.1 h1)
          subst this
          simp [UInt8.lt_irrefl]

set_option maxRecDepth 100000 in
set_option maxHeartbeats 8000000 in
theorem makes_walk (s t : ByteArray) (n m : Int) (w : World) (ht : Tab w) :
    Calls Tryd.prog 7 #[.string s, .string t, .int .i64 n, .int .i64 m] w
      fun e w' => e = .returned (.bool true) ∧ Below w.heap.size w w' := by
  have hT : ∀ w1, Below w.heap.size w w1 → Tab w1 := fun w1 hb => ht.on hb
  have HT := Lib.hid hT
  clear hT ht
  have hss : (s.toList == s.toList) = true := by simp
  obtain ⟨x, hx⟩ : ∃ x, vcmp true s 0 true t 0 = x := ⟨_, rfl⟩
  obtain ⟨y, hy⟩ : ∃ y, vcmp false ⟨#[]⟩ n false ⟨#[]⟩ m = y := ⟨_, rfl⟩
  have HX := Lib.hid hx
  have HY := Lib.hid hy
  have HS := Lib.hid (show vcmp false ⟨#[]⟩ n true s 0 = -1 from rfl)
  obtain ⟨bx, hbx⟩ : ∃ bx, decide (x < 0) = bx := ⟨_, rfl⟩
  obtain ⟨cx, hby⟩ : ∃ cx, decide (y < 0) = cx := ⟨_, rfl⟩
  have hlx : Op.bytesLess s.toList t.toList = bx := by
    rw [toList_data, toList_data, bytesLess_cb, ← hbx, ← hx]; rfl
  have hly : decide (n < m) = cx := by
    rw [← hby, ← hy]
    exact decide_eq_decide.2 (icmp_lt n m).symm
  clear hx hy
  go_enter Tryd.func7, Tryd.ntmps7
  go_wp2_with (first | (go_at_call 9; refine (shown1_any _ (HT.out _ (Below.refl _ _))).mono ?_; rintro e w0 ⟨rfl, hb0⟩) | (go_at_call 20; refine (sym_any _ _).mono ?_; rintro e w2 ⟨rfl, hb2⟩) | (go_at_call 21; refine (int_any _ _).mono ?_; rintro e w1 ⟨rfl, hb⟩))
  have hb3 := hb0.trans (hb2.mono hb0.size)
  have hS0 := held2_start (b0 := .bool false) (b1 := .string ⟨#[]⟩) (b2 := .int .i64 n) hb3 hb
  clear hb0 hb2 hb3 hb
  go_region_held3 (fun w' => w'.cell? ⟨w2.heap.size, 0, none⟩ = some (.bool true) ∧ w'.cell? ⟨w2.heap.size, 1, none⟩ = some (.string s) ∧ w'.cell? ⟨w2.heap.size, 2, none⟩ = some (.int .i64 0) ∧ w'.cell? ⟨w1.heap.size, 0, none⟩ = some (.bool false) ∧ w'.cell? ⟨w1.heap.size, 1, none⟩ = some (.string ⟨#[]⟩) ∧ w'.cell? ⟨w1.heap.size, 2, none⟩ = some (.int .i64 n) ∧ w2.heap.size < w'.heap.size ∧ w1.heap.size < w'.heap.size ∧ Below w.heap.size w w')
    (first | assumption | exact held2_keep (by assumption) hbN | exact ⟨hS0.1, hS0.2.1, hS0.2.2.1, hS0.2.2.2.1, hS0.2.2.2.2.1, hS0.2.2.2.2.2.1, hS0.2.2.2.2.2.2.1, hS0.2.2.2.2.2.2.2.1, hS0.2.2.2.2.2.2.2.2.drew⟩)
    (first
      | (go_at_call 21; refine (int_any _ _).mono ?_; rintro e w' ⟨rfl, hbN⟩)
      | (go_at_call 20; refine (sym_any _ _).mono ?_; rintro e w' ⟨rfl, hbN⟩)
      | (go_at_call 12; refine (compare_any _ _ _ _ _ _ _).mono ?_; rintro e w' ⟨rfl, hbN⟩; simp only [HX.out, HY.out, HS.out]))
  go_wp2
  go_ret
  go_split_ands
  exact ⟨rfl, by assumption⟩
end Go.Proofs.YtljbjkhpgekmfaaDoor
