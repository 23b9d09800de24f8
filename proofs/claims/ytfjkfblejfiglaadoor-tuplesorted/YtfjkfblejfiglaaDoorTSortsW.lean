/-
  Contract of the third law's few; the walk of TupleSorts: any rows in order, each once, are the document's: the law returns true; of old memory nothing turns.
-/
import Derived.Test.YtfjkfblejfiglaaDoorTShown
import Derived.Test.YtfjkfblejfiglaaDoorTSort
import Derived.Test.YtfjkfblejfiglaaDoorTRefSort
namespace Go.Proofs.YtfjkfblejfiglaaDoor
set_option linter.unusedSimpArgs false
set_option linter.unusedVariables false
set_option linter.unusedSectionVars false
set_option maxRecDepth 100000
open Go.RowKit
variable [DecidableEq V]

/-- What few answers. -/
def FewOut (D : List R) (w : World) (e : Ending) (w' : World) : Prop := ∃ c : Bool, e = .returned (.bool c) ∧ w' = w ∧ (c = true → D.length ≤ 40 ∧ ∀ r ∈ D, r.vs.length ≤ 20)

set_option maxHeartbeats 1600000 in
theorem few_any {x : Value} {D : List R} {w : World} (hx : Grid w x D) :
    Calls Tryd.prog 6 #[x] w fun e w' => FewOut D w e w' := by
  obtain ⟨ao, cap, rfl, hm⟩ := hx.len
  unfold maxLen at hm
  have HX := Lib.hid hx
  clear hx
  go_enter Tryd.func6, Tryd.ntmps6
  go_wp2_with fail
  go_loopw [3] (fun i wr => ∃ k : Nat, k ≤ D.length ∧ k ≤ 41 ∧ i = .int .i64 k ∧ wr = w ∧ Hid (∀ i (hi : i < D.length), i < k → D[i].vs.length ≤ 20)) (fun i _ => 100 - (intOf i).toNat)
  case atStart => exact ⟨0, Nat.zero_le _, by omega, rfl, rfl, fun i hi h => absurd h (by omega)⟩
  case round =>
    obtain ⟨k, hk, hk4, rfl, rfl, HK⟩ := hrel
    by_cases hlt : k < D.length
    · have h1I : (k : Int) < (D.length : Int) := by omega
      by_cases h4 : k < 41
      · have h4I : (k : Int) < 41 := by omega
        obtain ⟨b, off, rfl, c0, hbl, hV, -⟩ := HX.out.at (Below.refl _ _) k hlt
        obtain ⟨ra, rc, er, -⟩ := hV.len
        rw [er] at c0
        have HK2 : Hid (D[k].vs.length ≤ 20 → ∀ i (hi : i < D.length), i < k + 1 → D[i].vs.length ≤ 20) := fun h i hi hij => by
          by_cases e : i = k
          · subst e; exact h
          · exact HK.out i hi (by omega)
        generalize D[k].vs.length = n at *
        clear hV er HK
        by_cases h20 : n ≤ 20
        · have h20I : ¬ (n : Int) > 20 := by omega
          have HK3 := Lib.hid (HK2.out h20)
          go_wp2
          go_roundw
          case rel => exact ⟨k + 1, by omega, by omega, by go_num, by first | rfl | trivial, HK3⟩
          case measure => simp [intOf]; omega
        · have h20I : (n : Int) > 20 := by omega
          go_wp2
          go_ret
          exact ⟨false, rfl, rfl, fun h => by cases h⟩
      · have h4I : ¬ (k : Int) < 41 := by omega
        have hl4 : ¬ (D.length : Int) ≤ 40 := by omega
        go_wp2
        go_ret
        refine ⟨false, by simp [hl4], rfl, fun h => by cases h⟩
    · have h1I : ¬ (k : Int) < (D.length : Int) := by omega
      have hl4 : (D.length : Int) ≤ 40 ∨ ¬ (D.length : Int) ≤ 40 := by omega
      have HA : Hid (∀ r ∈ D, r.vs.length ≤ 20) := fun r hr => by
        obtain ⟨i, hi, rfl⟩ := List.mem_iff_getElem.1 hr
        exact HK.out i hi (by omega)
      rcases hl4 with hl4 | hl4
      · go_wp2
        go_ret
        exact ⟨true, by simp [hl4], rfl, fun _ => ⟨by omega, HA.out⟩⟩
      · go_wp2
        go_ret
        refine ⟨false, by simp [hl4], rfl, fun h => by cases h⟩

set_option maxHeartbeats 1600000 in
theorem sorts_walk {x : Value} {D : List R} {w : World} (hx : Grid w x D) (ht : Tab w) :
    Calls Tryd.prog 3 #[x] w fun e w' => e = .returned (.bool true) ∧ Below w.heap.size w w' := by
  obtain ⟨ao, cap, rfl, hm⟩ := hx.len
  have HX := Lib.hid hx
  have HT := Lib.hid ht
  clear hx ht hm
  go_enter Tryd.func3, Tryd.ntmps3
  go_wp2_with fail
  refine (shown3_any w HT.out).mono ?_
  rintro e w1 ⟨rfl, hb1⟩
  have HB1 := Lib.hid hb1
  have HX1 := Lib.hid (HX.out.below hb1)
  clear hb1 HX HT
  go_wp2_with fail
  refine (few_any HX1.out).mono ?_
  rintro e w2 ⟨c, rfl, rfl, hc⟩
  cases c with
  | false =>
    clear hc
    go_wp2
    go_ret
    exact ⟨rfl, HB1.out⟩
  | true =>
    obtain ⟨hl, hr⟩ := hc rfl
    have HL : Hid (D.length ≤ 40 ∧ ∀ r ∈ D, r.vs.length ≤ 20) := ⟨hl, hr⟩
    clear hc hl hr
    go_wp2_with fail
    refine (sort_any HX1.out (by have := HL.out.1; omega) (fun r hr => by have := HL.out.2 r hr; omega)).mono ?_
    rintro e w3 ⟨x3, D3, rfl, hb3, hO3, he3⟩
    have HB3 : Hid (Below w.heap.size w w3) := HB1.out.trans (hb3.mono HB1.out.size)
    have HX3 := Lib.hid (HX1.out.below hb3)
    have HG3 := Lib.hid hO3.grid
    have HE3 := Lib.hid he3
    clear hb3 hO3 he3 HX1 HB1
    go_wp2_with fail
    refine (refSort_any HX3.out (by have := HL.out.1; omega)).mono ?_
    rintro e w4 ⟨x4, D4, rfl, hb4, hO4, he4, -⟩
    have HB4 : Hid (Below w.heap.size w w4) := HB3.out.trans (hb4.mono HB3.out.size)
    have hS := Lib.hid (rows_same (HG3.out.below hb4) hO4.grid (HE3.out.trans he4.symm))
    clear hb4 hO4 he4 HX3 HB3 HG3 HE3
    go_wp2_with fail
    refine (hS.out).mono ?_
    rintro e w5 ⟨rfl, hb5⟩
    have HB5 : Hid (Below w.heap.size w w5) := HB4.out.trans (hb5.mono HB4.out.size)
    clear hb5
    go_wp2
    go_ret
    exact ⟨rfl, HB5.out⟩
end Go.Proofs.YtfjkfblejfiglaaDoor
