/-
  Contract of symtab.bare: what it returns; of old memory nothing turns.
-/
import Derived.Test.YtfjkfblejfiglaaTV
namespace Go.Proofs.Ytfjkfblejfiglaa
set_option linter.unusedSimpArgs false
set_option linter.unusedVariables false
set_option linter.unusedSectionVars false
set_option maxRecDepth 100000
open Go.RowKit

set_option maxHeartbeats 800000 in
theorem bare_any (k : Bool) (s : ByteArray) (n : Int) (w : World) :
    Calls Try.prog 46 #[.agg #[.bool k, .string s, .int .i64 n]] w fun e w' => e = .returned (.agg #[.bool k, .string (bareS k s), .int .i64 (bareN k n)]) ∧ Below w.heap.size w w' := by
  cases k
  · rw [show bareS false s = ⟨#[]⟩ from rfl, show bareN false n = n from rfl]
    go_enter Try.func46, Try.ntmps46
    go_wp2_with (go_at_call 56; refine (int_any _ _).mono ?_; rintro e w1 ⟨rfl, hb⟩; obtain ⟨hc, hf⟩ := bcell hb; have hz : w.heap.size + 1 < w1.heap.size := by (have := hb.size; simp at this; omega))
    exact bodyPost_ret (v := .agg #[.bool false, .string ⟨#[]⟩, .int .i64 n]) (by simp [results, Try.results46, go_sem, hc, hz]) rfl ⟨rfl, ((((Below.refl _ _).alloc (Nat.le_refl _) _).alloc (by simp) _).trans (hb.mono (by simp; omega))).setCell (by simp) _ |>.setCell (by simp) _ |>.setCell (by simp) _⟩
  · rw [show bareS true s = s from rfl, show bareN true n = 0 from rfl]
    go_enter Try.func46, Try.ntmps46
    go_wp2_with (go_at_call 55; refine (sym_any _ _).mono ?_; rintro e w1 ⟨rfl, hb⟩; obtain ⟨hc, hf⟩ := bcell hb; have hz : w.heap.size + 1 < w1.heap.size := by (have := hb.size; simp at this; omega))
    exact bodyPost_ret (v := .agg #[.bool true, .string s, .int .i64 0]) (by simp [results, Try.results46, go_sem, hc, hz]) rfl ⟨rfl, ((((Below.refl _ _).alloc (Nat.le_refl _) _).alloc (by simp) _).trans (hb.mono (by simp; omega))).setCell (by simp) _ |>.setCell (by simp) _ |>.setCell (by simp) _⟩

end Go.Proofs.Ytfjkfblejfiglaa
