/-
  The walk of RelationArity: a row of another arity is refused, and is never there; arities are 0 to 6; a relation that is nil has nothing: the law returns true; of old memory nothing turns.
-/
import Derived.Test.YtfjkfblejfiglaaRShown
namespace Go.Proofs.Ytfjkfblejfiglaa
set_option linter.unusedSimpArgs false
set_option linter.unusedVariables false
set_option linter.unusedSectionVars false
set_option maxRecDepth 100000
open Go.RowKit Go.Maps
variable [DecidableEq V]

set_option maxHeartbeats 800000 in
theorem arity_walk {n : Int} {x : Value} {vs : List V} {w : World} (hx : Vals w x vs) :
    Calls Try.prog 7 #[.int .i64 n, x] w fun e w' => e = .returned (.bool true) ∧ Below w.heap.size w w' := by
  obtain ⟨ao, cap, rfl, hm⟩ := hx.len
  unfold maxLen at hm
  have HX := Lib.hid hx
  clear hx
  go_enter Try.func7, Try.ntmps7
  go_wp2_with fail
  refine (shown4_any w).mono ?_
  rintro e w1 ⟨rfl, hb1⟩
  have HB1 := Lib.hid hb1
  have HX1 := Lib.hid (HX.out.below hb1)
  by_cases hn : n < 0 ∨ n > 6
  · have hN := Lib.hid (new_none w1 n hn)
    clear hb1 HX
    go_wp2_with fail
    refine (hN.out).mono ?_
    rintro e w2 ⟨rfl, rfl⟩
    have hnb : decide (n < 0) = true ∨ decide (n < 0) = false ∧ decide (n > 6) = true := by
      by_cases h0 : n < 0
      · exact .inl (decide_eq_true h0)
      · exact .inr ⟨decide_eq_false h0, decide_eq_true (by omega)⟩
    clear hn hN
    rcases hnb with h0 | ⟨h0, h6⟩
    all_goals
      go_wp2_with (first
        | (go_at_call 12; refine (add_nil).mono ?_; rintro e w' ⟨rfl, rfl⟩)
        | (go_at_call 16; refine (match_nil).mono ?_; rintro e w' ⟨rfl, rfl⟩)
        | (go_at_call 19; refine (has_nil).mono ?_; rintro e w' ⟨rfl, rfl⟩)
        | (go_at_call 14; refine (turn_nil).mono ?_; rintro e w' ⟨rfl, rfl⟩)
        | (go_at_call 21; refine (len_nil).mono ?_; rintro e w' ⟨rfl, rfl⟩)
        | (go_at_call 23; refine (all_nil).mono ?_; rintro e w' ⟨rfl, rfl⟩)
        | (go_at_call 25; refine (delta_nil).mono ?_; rintro e w' ⟨rfl, rfl⟩))
      go_ret
      exact ⟨rfl, HB1.out⟩
  · obtain ⟨a, rfl⟩ : ∃ a : Nat, n = (a : Int) := ⟨n.toNat, by omega⟩
    have hN := Lib.hid (new_rel w1 a (by omega))
    have h0 : decide ((a : Int) < 0) = false := decide_eq_false (by omega)
    have h6 : decide ((a : Int) > 6) = false := decide_eq_false (by omega)
    clear hn hb1 HX
    go_wp2_with fail
    refine (hN.out).mono ?_
    rintro e w2 ⟨rfl, hb2, hR2⟩
    have HB2 : Hid (Below w.heap.size w w2) := HB1.out.trans (hb2.mono HB1.out.size)
    have hs1 := HB1.out.size
    have hs2 : w1.heap.size < w2.heap.size := hR2.low.2.1
    have HX2 := Lib.hid (HX1.out.below hb2)
    have HR2 := Lib.hid hR2
    clear hN hb2 hR2
    have HAP : Hid (Apart (fun k => k = w1.heap.size) (.slice ao vs.length cap)) := Apart.old (B := w1.heap.size) HX1.out (fun k hk => by omega) (Nat.le_refl _)
    by_cases hl : vs.length = a
    · subst hl
      have hA := Lib.hid (add_rln HR2.out HX2.out HAP.out rfl (by decide))
      go_wp2_with fail
      refine (hA.out).mono ?_
      rintro e w3 ⟨F3, b3, M3, rfl, ht3, hF3, hR3, hc3⟩
      obtain ⟨rfl, rfl⟩ : b3 = true ∧ M3 = [vs.map V.bare] := by
        rcases hc3 with ⟨-, h, -⟩ | ⟨h1, -, h2⟩
        · simp at h
        · exact ⟨h1, by simpa using h2⟩
      have HB3 := Lib.hid (HR2.out.step ht3 HB2.out hs1)
      have hH3 := Lib.hid (has_rln hR3 (HX2.out.turns ht3 HAP.out) (by decide))
      have HR3 := Lib.hid hR3
      have hd : decide (vs.map V.bare ∈ [vs.map V.bare]) = true := by simp
      rw [hd] at hH3
      clear hc3 hF3 ht3 hR3 hA hd HAP HX1 HX2
      go_wp2_with fail
      refine (hH3.out).mono ?_
      rintro e w4 ⟨rfl, hb4⟩
      have HB4 : Hid (Below w.heap.size w w4) := HB3.out.trans (hb4.mono HB3.out.size)
      have hL4 := Lib.hid (len_rel (HR3.out.below hb4))
      clear hb4 HR3 hH3
      go_wp2_with fail
      refine (hL4.out).mono ?_
      rintro e w5 ⟨rfl, rfl⟩
      go_wp2
      go_ret
      exact ⟨rfl, HB4.out⟩
    · have hlb : ((vs.length : Int) == (a : Int)) = false := by simp; omega
      have hA := Lib.hid (add_bad HR2.out HX2.out hl)
      have hH := Lib.hid (has_rln HR2.out HX2.out (by decide))
      have hd : decide (vs.map V.bare ∈ ([] : List (List V))) = false := by simp
      rw [hd] at hH
      clear hd HAP HX1 hl
      go_wp2_with fail
      refine (hA.out).mono ?_
      rintro e w3 ⟨rfl, rfl⟩
      go_wp2_with fail
      refine (hH.out).mono ?_
      rintro e w4 ⟨rfl, hb4⟩
      have HB4 : Hid (Below w.heap.size w w4) := HB2.out.trans (hb4.mono HB2.out.size)
      have hL4 := Lib.hid (len_rel (HR2.out.below hb4))
      clear hb4 HR2 hH hA
      go_wp2_with fail
      refine (hL4.out).mono ?_
      rintro e w5 ⟨rfl, rfl⟩
      go_wp2
      go_ret
      exact ⟨rfl, HB4.out⟩
end Go.Proofs.Ytfjkfblejfiglaa
