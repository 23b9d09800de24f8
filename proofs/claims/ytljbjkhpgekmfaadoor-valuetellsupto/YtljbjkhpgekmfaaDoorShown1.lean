/-
  Contract of the first law's shown: the document's examples of values hold, in every world that holds the library's table; of old memory nothing turns.
-/
import Derived.Test.YtljbjkhpgekmfaaDoorText
import Derived.Deep.RegionHeld3
import Derived.Deep.DrawnRows
namespace Go.Proofs.YtljbjkhpgekmfaaDoor
set_option linter.unusedSimpArgs false
set_option linter.unusedVariables false
open Go.RowKit
attribute [local go_sem ↓] Go.wp_at_zero Go.wp_at_succ

theorem ex_c1 : vcmp false ⟨#[]⟩ 3 true ⟨#[97]⟩ 0 = -1 := rfl
theorem ex_c2 : vcmp true ⟨#[97]⟩ 0 true ⟨#[98]⟩ 0 = -1 := by decide
theorem ex_t1 : textL true [65] 0 = [39, 65, 39] := by decide
theorem ex_t2 : textL false [] (-3) = [45, 51] := by simp [textL, Lib.itoa, Lib.decDigits]

/-- Two boxed values that stay while nothing old turns. -/
theorem held2_keep {w W w' : World} {B1 B2 : Nat} {a0 a1 a2 b0 b1 b2 : Value}
    (h : W.cell? ⟨B1, 0, none⟩ = some a0 ∧ W.cell? ⟨B1, 1, none⟩ = some a1 ∧ W.cell? ⟨B1, 2, none⟩ = some a2 ∧ W.cell? ⟨B2, 0, none⟩ = some b0 ∧ W.cell? ⟨B2, 1, none⟩ = some b1 ∧ W.cell? ⟨B2, 2, none⟩ = some b2 ∧ B1 < W.heap.size ∧ B2 < W.heap.size ∧ Below w.heap.size w W)
    (hb : Below W.heap.size W w') :
    w'.cell? ⟨B1, 0, none⟩ = some a0 ∧ w'.cell? ⟨B1, 1, none⟩ = some a1 ∧ w'.cell? ⟨B1, 2, none⟩ = some a2 ∧ w'.cell? ⟨B2, 0, none⟩ = some b0 ∧ w'.cell? ⟨B2, 1, none⟩ = some b1 ∧ w'.cell? ⟨B2, 2, none⟩ = some b2 ∧ B1 < w'.heap.size ∧ B2 < w'.heap.size ∧ Below w.heap.size w w' := by
  obtain ⟨h1, h2, h3, h4, h5, h6, h7, h8, h9⟩ := h
  have hs := hb.size
  exact ⟨(hb.cell (p := ⟨B1, 0, none⟩) h7).trans h1, (hb.cell (p := ⟨B1, 1, none⟩) h7).trans h2, (hb.cell (p := ⟨B1, 2, none⟩) h7).trans h3, (hb.cell (p := ⟨B2, 0, none⟩) h8).trans h4, (hb.cell (p := ⟨B2, 1, none⟩) h8).trans h5, (hb.cell (p := ⟨B2, 2, none⟩) h8).trans h6, by omega, by omega, h9.trans (hb.mono h9.size)⟩

theorem held2_start {w w2 w1 : World} {a0 a1 a2 b0 b1 b2 : Value} {t : TypeId} (hb2 : Below w.heap.size w w2)
    (hb : Below (w2.alloc (.cells #[a0, a1, a2] t)).heap.size (w2.alloc (.cells #[a0, a1, a2] t)) w1) :
    (w1.alloc (.cells #[b0, b1, b2] t)).cell? ⟨w2.heap.size, 0, none⟩ = some a0 ∧ (w1.alloc (.cells #[b0, b1, b2] t)).cell? ⟨w2.heap.size, 1, none⟩ = some a1 ∧ (w1.alloc (.cells #[b0, b1, b2] t)).cell? ⟨w2.heap.size, 2, none⟩ = some a2 ∧
    (w1.alloc (.cells #[b0, b1, b2] t)).cell? ⟨w1.heap.size, 0, none⟩ = some b0 ∧ (w1.alloc (.cells #[b0, b1, b2] t)).cell? ⟨w1.heap.size, 1, none⟩ = some b1 ∧ (w1.alloc (.cells #[b0, b1, b2] t)).cell? ⟨w1.heap.size, 2, none⟩ = some b2 ∧
    w2.heap.size < (w1.alloc (.cells #[b0, b1, b2] t)).heap.size ∧ w1.heap.size < (w1.alloc (.cells #[b0, b1, b2] t)).heap.size ∧ Below w.heap.size w (w1.alloc (.cells #[b0, b1, b2] t)) := by
  have hs1 := hb2.size
  have hs2 := hb.size
  simp only [World.size_alloc] at hs2
  have old : ∀ i v, #[a0, a1, a2][i]? = some v → (w1.alloc (.cells #[b0, b1, b2] t)).cell? ⟨w2.heap.size, i, none⟩ = some v := fun i v hv => by
    rw [World.cell?_alloc_past _ _ _ (by omega), hb.cell (p := ⟨w2.heap.size, i, none⟩) (by simp), World.cell?_alloc_at _ _ _ _ rfl]; exact hv
  have new : ∀ i v, #[b0, b1, b2][i]? = some v → (w1.alloc (.cells #[b0, b1, b2] t)).cell? ⟨w1.heap.size, i, none⟩ = some v := fun i v hv => by
    rw [World.cell?_alloc_at _ _ _ _ rfl]; exact hv
  exact ⟨old 0 _ rfl, old 1 _ rfl, old 2 _ rfl, new 0 _ rfl, new 1 _ rfl, new 2 _ rfl, by simp; omega, by simp, ((hb2.alloc (by omega) _).trans (hb.mono (by simp; omega))).alloc (by omega) _⟩

set_option maxRecDepth 100000 in
set_option maxHeartbeats 4000000 in
theorem shown1_any (w : World) (ht : Tab w) :
    Calls Tryd.prog 9 #[] w fun e w' => e = .returned (.bool true) ∧ Below w.heap.size w w' := by
  have hT : ∀ w1, Below w.heap.size w w1 → Tab w1 := fun w1 hb => ht.on hb
  have HT := Lib.hid hT
  clear hT ht
  go_enter Tryd.func9, Tryd.ntmps9
  go_wp2_with (go_at_call 20; refine (sym_any _ _).mono ?_; rintro e w1 ⟨rfl, hb⟩)
  rename_i w2 hb2 _ _
  have hS0 := held2_start (b0 := .bool true) (b1 := .string ⟨#[98]⟩) (b2 := .int .i64 0) hb2 hb
  go_region_held3 (fun w' => w'.cell? ⟨w2.heap.size, 0, none⟩ = some (.bool true) ∧ w'.cell? ⟨w2.heap.size, 1, none⟩ = some (.string ⟨#[97]⟩) ∧ w'.cell? ⟨w2.heap.size, 2, none⟩ = some (.int .i64 0) ∧ w'.cell? ⟨w1.heap.size, 0, none⟩ = some (.bool true) ∧ w'.cell? ⟨w1.heap.size, 1, none⟩ = some (.string ⟨#[98]⟩) ∧ w'.cell? ⟨w1.heap.size, 2, none⟩ = some (.int .i64 0) ∧ w2.heap.size < w'.heap.size ∧ w1.heap.size < w'.heap.size ∧ Below w.heap.size w w')
    (first | assumption | exact held2_keep (by assumption) hbN | exact ⟨hS0.1, hS0.2.1, hS0.2.2.1, hS0.2.2.2.1, hS0.2.2.2.2.1, hS0.2.2.2.2.2.1, hS0.2.2.2.2.2.2.1, hS0.2.2.2.2.2.2.2.1, hS0.2.2.2.2.2.2.2.2.drew⟩)
    (first
      | (go_at_call 21; refine (int_any _ _).mono ?_; rintro e w' ⟨rfl, hbN⟩)
      | (go_at_call 20; refine (sym_any _ _).mono ?_; rintro e w' ⟨rfl, hbN⟩)
      | (go_at_call 12; refine (compare_any _ _ _ _ _ _ _).mono ?_; rintro e w' ⟨rfl, hbN⟩; simp only [ex_c1, ex_c2])
      | (go_at_call 16; refine (text_any _ _ _ (by decide) (by decide) _ (by decide) (HT.out _ (by go_split_ands; assumption))).mono ?_; rintro e w' ⟨rfl, hbN⟩; simp only [ex_t1, ex_t2]))
  go_wp2
  go_ret
  go_split_ands
  exact ⟨rfl, by assumption⟩
end Go.Proofs.YtljbjkhpgekmfaaDoor
