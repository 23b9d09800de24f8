/-
  The walk of ValueTexts: two values have one text just if they are the same.
-/
import Derived.Test.YtljbjkhpgekmfaaDoorShown1
import Derived.Test.YtljbjkhpgekmfaaDoorTextQ
namespace Go.Proofs.YtljbjkhpgekmfaaDoor
set_option linter.unusedSimpArgs false
set_option linter.unusedVariables false
open Go.RowKit
attribute [local go_sem ↓] Go.wp_at_zero Go.wp_at_succ

set_option maxHeartbeats 400000 in
theorem same_any (ak : Bool) (sa : ByteArray) (an : Int) (bk : Bool) (sb : ByteArray) (bn : Int) (w : World) :
    Calls Tryd.prog 14 #[.agg #[.bool ak, .string sa, .int .i64 an], .agg #[.bool bk, .string sb, .int .i64 bn]] w
      fun e w' => e = .returned (.bool (vcmp ak sa an bk sb bn == 0)) ∧ Below w.heap.size w w' := by
  go_enter Tryd.func14, Tryd.ntmps14
  go_wp2_with (go_at_call 12; refine (compare_any _ _ _ _ _ _ _).mono ?_; rintro e w' ⟨rfl, hb⟩)
  go_ret
  exact ⟨rfl, (((Below.refl _ _).alloc (Nat.le_refl _) _).alloc (by simp) _).trans (hb.mono (by simp; omega))⟩

theorem two_start {w w0 : World} {a0 a1 a2 b0 b1 b2 : Value} {t : TypeId}
    (hb : Below ((w.alloc (.cells #[a0, a1, a2] t)).alloc (.cells #[b0, b1, b2] t)).heap.size ((w.alloc (.cells #[a0, a1, a2] t)).alloc (.cells #[b0, b1, b2] t)) w0) :
    w0.cell? ⟨w.heap.size, 0, none⟩ = some a0 ∧ w0.cell? ⟨w.heap.size, 1, none⟩ = some a1 ∧ w0.cell? ⟨w.heap.size, 2, none⟩ = some a2 ∧
    w0.cell? ⟨w.heap.size + 1, 0, none⟩ = some b0 ∧ w0.cell? ⟨w.heap.size + 1, 1, none⟩ = some b1 ∧ w0.cell? ⟨w.heap.size + 1, 2, none⟩ = some b2 ∧
    w.heap.size < w0.heap.size ∧ w.heap.size + 1 < w0.heap.size ∧ Below w.heap.size w w0 := by
  have hs := hb.size
  simp only [World.size_alloc] at hs
  have old : ∀ i v, #[a0, a1, a2][i]? = some v → w0.cell? ⟨w.heap.size, i, none⟩ = some v := fun i v hv => by
    rw [hb.cell (p := ⟨w.heap.size, i, none⟩) (by simp; omega), World.cell?_alloc_past _ _ _ (by simp), World.cell?_alloc_at _ _ _ _ rfl]; exact hv
  have new : ∀ i v, #[b0, b1, b2][i]? = some v → w0.cell? ⟨w.heap.size + 1, i, none⟩ = some v := fun i v hv => by
    rw [hb.cell (p := ⟨w.heap.size + 1, i, none⟩) (by simp), World.cell?_alloc_at _ _ _ _ (by simp)]; exact hv
  exact ⟨old 0 _ rfl, old 1 _ rfl, old 2 _ rfl, new 0 _ rfl, new 1 _ rfl, new 2 _ rfl, by omega, by omega, (((Below.refl _ _).alloc (Nat.le_refl _) _).alloc (by simp) _).trans (hb.mono (by simp; omega))⟩

set_option maxRecDepth 100000 in
set_option maxHeartbeats 8000000 in
theorem texts_walk (ak : Bool) (sa : ByteArray) (an : Int) (la : -9223372036854775808 ≤ an) (ua : an ≤ 9223372036854775807) (ha : 2 * sa.size + 2 ≤ 140737488355328)
    (bk : Bool) (sb : ByteArray) (bn : Int) (lb : -9223372036854775808 ≤ bn) (ub : bn ≤ 9223372036854775807) (hb' : 2 * sb.size + 2 ≤ 140737488355328) (w : World) (ht : Tab w) :
    Calls Tryd.prog 5 #[.agg #[.bool ak, .string sa, .int .i64 an], .agg #[.bool bk, .string sb, .int .i64 bn]] w
      fun e w' => e = .returned (.bool true) ∧ Below w.heap.size w w' := by
  have hT : ∀ w1, Below w.heap.size w w1 → Tab w1 := fun w1 hb => ht.on hb
  have HT := Lib.hid hT
  have TX : ∀ w1, Below w.heap.size w w1 → (∀ k s n, (k = ak ∧ s = sa ∧ n = an) ∨ (k = bk ∧ s = sb ∧ n = bn) → Calls Tryd.prog 16 #[.agg #[.bool k, .string s, .int .i64 n]] w1 fun e w' => e = .returned (.string ⟨(textL k s.data.toList n).toArray⟩) ∧ Below w1.heap.size w1 w') := by
    intro w1 hb k s n h
    rcases h with ⟨rfl, rfl, rfl⟩ | ⟨rfl, rfl, rfl⟩
    · exact text_any _ _ _ la ua w1 ha (hT w1 hb)
    · exact text_any _ _ _ lb ub w1 hb' (hT w1 hb)
  have HTX := Lib.hid TX
  clear TX hT ht la ua lb ub ha hb'
  obtain ⟨ta, eta⟩ : ∃ t, textL ak sa.data.toList an = t := ⟨_, rfl⟩
  obtain ⟨tb, etb⟩ : ∃ t, textL bk sb.data.toList bn = t := ⟨_, rfl⟩
  obtain ⟨x, hx⟩ : ∃ x, (vcmp ak sa an bk sb bn == 0) = x := ⟨_, rfl⟩
  have hq : (ta == tb) = x := by
    rw [← eta, ← etb, ← hx, Bool.eq_iff_iff, beq_iff_eq, beq_iff_eq]
    exact text_same ak sa an bk sb bn
  have HTA := Lib.hid eta
  have HTB := Lib.hid etb
  have HX := Lib.hid hx
  clear eta etb hx
  go_enter Tryd.func5, Tryd.ntmps5
  go_wp2_with (go_at_call 9; refine (shown1_any _ (HT.out _ (((Below.refl _ _).alloc (Nat.le_refl _) _).alloc (by simp) _))).mono ?_; rintro e w0 ⟨rfl, hb0⟩)
  have hS0 := two_start hb0
  clear hb0
  go_region_held3 (fun w' => w'.cell? ⟨w.heap.size, 0, none⟩ = some (.bool ak) ∧ w'.cell? ⟨w.heap.size, 1, none⟩ = some (.string sa) ∧ w'.cell? ⟨w.heap.size, 2, none⟩ = some (.int .i64 an) ∧ w'.cell? ⟨w.heap.size + 1, 0, none⟩ = some (.bool bk) ∧ w'.cell? ⟨w.heap.size + 1, 1, none⟩ = some (.string sb) ∧ w'.cell? ⟨w.heap.size + 1, 2, none⟩ = some (.int .i64 bn) ∧ w.heap.size < w'.heap.size ∧ w.heap.size + 1 < w'.heap.size ∧ Below w.heap.size w w')
    (first | assumption | exact held2_keep (by assumption) hbN | exact ⟨hS0.1, hS0.2.1, hS0.2.2.1, hS0.2.2.2.1, hS0.2.2.2.2.1, hS0.2.2.2.2.2.1, hS0.2.2.2.2.2.2.1, hS0.2.2.2.2.2.2.2.1, hS0.2.2.2.2.2.2.2.2.drew⟩)
    (first
      | (go_at_call 14; refine (same_any _ _ _ _ _ _ _).mono ?_; rintro e w' ⟨rfl, hbN⟩; simp only [HX.out])
      | (go_at_call 16; refine (HTX.out _ (by go_split_ands; assumption) _ _ _ (by first | exact .inl ⟨rfl, rfl, rfl⟩ | exact .inr ⟨rfl, rfl, rfl⟩)).mono ?_; rintro e w' ⟨rfl, hbN⟩; simp only [HTA.out, HTB.out]))
  go_wp2
  go_ret
  go_split_ands
  exact ⟨rfl, by assumption⟩
end Go.Proofs.YtljbjkhpgekmfaaDoor
