/-
  The walk of ValueOrder: of any three values there is one order: the law returns true; of old memory nothing turns.
-/
import Derived.Test.YtljbjkhpgekmfaaDoorShown1
import Derived.Test.YtljbjkhpgekmfaaDoorCmpP
namespace Go.Proofs.YtljbjkhpgekmfaaDoor
set_option linter.unusedSimpArgs false
set_option linter.unusedVariables false
open Go.RowKit

set_option maxRecDepth 100000 in
set_option maxHeartbeats 4000000 in
theorem order_walk (ak : Bool) (sa : ByteArray) (an : Int) (bk : Bool) (sb : ByteArray) (bn : Int) (ck : Bool) (sc : ByteArray) (cn : Int) (w : World) (ht : Tab w) :
    Calls Tryd.prog 4 #[.agg #[.bool ak, .string sa, .int .i64 an], .agg #[.bool bk, .string sb, .int .i64 bn], .agg #[.bool ck, .string sc, .int .i64 cn]] w
      fun e w' => e = .returned (.bool true) ∧ Below w.heap.size w w' := by
  have hT : ∀ w1, Below w.heap.size w w1 → Tab w1 := fun w1 hb => ht.on hb
  have HT := Lib.hid hT
  clear hT ht
  obtain ⟨x, hx⟩ : ∃ x, vcmp ak sa an bk sb bn = x := ⟨_, rfl⟩
  obtain ⟨y, hy⟩ : ∃ y, vcmp bk sb bn ck sc cn = y := ⟨_, rfl⟩
  obtain ⟨z, hz⟩ : ∃ z, vcmp ak sa an ck sc cn = z := ⟨_, rfl⟩
  have HX := Lib.hid hx
  have HY := Lib.hid hy
  have HZ := Lib.hid hz
  have HS := Lib.hid (show vcmp bk sb bn ak sa an = -x by rw [vcmp_swap, hx])
  have HA := Lib.hid (vcmp_self ak sa an)
  have bx : -1 ≤ x ∧ x ≤ 1 := hx ▸ vcmp_bd ak sa an bk sb bn
  have by' : -1 ≤ y ∧ y ≤ 1 := hy ▸ vcmp_bd bk sb bn ck sc cn
  have bz : -1 ≤ z ∧ z ≤ 1 := hz ▸ vcmp_bd ak sa an ck sc cn
  have HB := Lib.hid (And.intro by' bz)
  have hbx1 := bx.1
  have hbx2 := bx.2
  have L1 : Hid (x ≤ 0 → y ≤ 0 → z ≤ 0) := fun h1 h2 => hz ▸ vcmp_le_trans ak sa an bk sb bn ck sc cn (hx ▸ h1) (hy ▸ h2)
  have L2 : Hid (x < 0 → y < 0 → z < 0) := fun h1 h2 => hz ▸ vcmp_lt_trans ak sa an bk sb bn ck sc cn (hx ▸ h1) (hy ▸ h2)
  have L3 : Hid (x = 0 → y = z) := fun h => by rw [← hy, ← hz]; exact vcmp_congr ak sa an bk sb bn ck sc cn (hx ▸ h)
  clear hx hy hz bx by' bz
  go_enter Tryd.func4, Tryd.ntmps4
  go_wp2_with fail
  refine (shown1_any _ (HT.out _ ((((Below.refl _ _).alloc (Nat.le_refl _) _).alloc (by simp) _).alloc (by simp; omega) _))).mono ?_
  rintro e w0 ⟨rfl, hb0⟩
  obtain ⟨hc0, hf0⟩ := bcell hb0
  have hz0 : w.heap.size + 1 + 1 < w0.heap.size := by have := hb0.size; simp at this; omega
  have hy0 : w.heap.size + 1 < w0.heap.size := by omega
  have hx0 : w.heap.size < w0.heap.size := by omega
  have hB0 : Hid (Below w.heap.size w w0) := ((((Below.refl _ _).alloc (Nat.le_refl _) _).alloc (by simp) _).alloc (by simp; omega) _).trans (hb0.mono (by simp; omega))
  clear hb0
  go_wp2_with fail
  refine (compare_any _ _ _ _ _ _ _).mono ?_
  rintro e w1 ⟨rfl, hb1⟩
  simp only [HX.out]
  obtain ⟨hc1, hf1⟩ := bcell hb1
  have hz1 : w.heap.size + 1 + 1 < w1.heap.size := by have := hb1.size; omega
  have hy1 : w.heap.size + 1 < w1.heap.size := by omega
  have hx1 : w.heap.size < w1.heap.size := by omega
  have hB1 : Hid (Below w.heap.size w w1) := hB0.out.trans (hb1.mono (by omega))
  clear hb1 hB0
  go_wp2_with fail
  refine (compare_any _ _ _ _ _ _ _).mono ?_
  rintro e w2 ⟨rfl, hb2⟩
  simp only [HY.out]
  obtain ⟨hc2, hf2⟩ := bcell hb2
  have hz2 : w.heap.size + 1 + 1 < w2.heap.size := by have := hb2.size; omega
  have hy2 : w.heap.size + 1 < w2.heap.size := by omega
  have hx2 : w.heap.size < w2.heap.size := by omega
  have hB2 : Hid (Below w.heap.size w w2) := hB1.out.trans (hb2.mono (by omega))
  clear hb2 hB1
  go_wp2_with fail
  refine (compare_any _ _ _ _ _ _ _).mono ?_
  rintro e w3 ⟨rfl, hb3⟩
  simp only [HZ.out]
  obtain ⟨hc3, hf3⟩ := bcell hb3
  have hz3 : w.heap.size + 1 + 1 < w3.heap.size := by have := hb3.size; omega
  have hy3 : w.heap.size + 1 < w3.heap.size := by omega
  have hx3 : w.heap.size < w3.heap.size := by omega
  have hB3 : Hid (Below w.heap.size w w3) := hB2.out.trans (hb3.mono (by omega))
  clear hb3 hB2
  go_wp2_with fail
  refine (compare_any _ _ _ _ _ _ _).mono ?_
  rintro e w4 ⟨rfl, hb4⟩
  simp only [HS.out]
  obtain ⟨hc4, hf4⟩ := bcell hb4
  have hz4 : w.heap.size + 1 + 1 < w4.heap.size := by have := hb4.size; omega
  have hy4 : w.heap.size + 1 < w4.heap.size := by omega
  have hx4 : w.heap.size < w4.heap.size := by omega
  have hB4 : Hid (Below w.heap.size w w4) := hB3.out.trans (hb4.mono (by omega))
  clear hb4 hB3
  go_wp2_with fail
  refine (compare_any _ _ _ _ _ _ _).mono ?_
  rintro e w5 ⟨rfl, hb5⟩
  simp only [HA.out]
  obtain ⟨hc5, hf5⟩ := bcell hb5
  have hz5 : w.heap.size + 1 + 1 < w5.heap.size := by have := hb5.size; omega
  have hy5 : w.heap.size + 1 < w5.heap.size := by omega
  have hx5 : w.heap.size < w5.heap.size := by omega
  have hB5 : Hid (Below w.heap.size w w5) := hB4.out.trans (hb5.mono (by omega))
  clear hb5 hB4
  have F : (x = 1) ∨ (x = 0 ∧ y = z ∧ (y = -1 ∨ y = 0 ∨ y = 1)) ∨ (x = -1 ∧ y = 1) ∨ (x = -1 ∧ y = 0 ∧ z = 0) ∨ (x = -1 ∧ y = 0 ∧ z = -1) ∨ (x = -1 ∧ y = -1 ∧ z = -1) := by
    have l1 := L1.out; have l2 := L2.out; have l3 := L3.out; have b := HB.out; omega
  clear L1 L2 L3 HB HX HY HZ HS HA HT hbx1 hbx2
  rcases F with rfl | ⟨rfl, rfl, rfl | rfl | rfl⟩ | ⟨rfl, rfl⟩ | ⟨rfl, rfl, rfl⟩ | ⟨rfl, rfl, rfl⟩ | ⟨rfl, rfl, rfl⟩
  all_goals
    go_wp2
    go_ret
    exact ⟨rfl, hB5.out⟩
end Go.Proofs.YtljbjkhpgekmfaaDoor
