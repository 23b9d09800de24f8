/-
  The walk of SymtabDense: numbers are 0, 1, and so on, as values come: the law returns true; of old memory nothing turns.
-/
import Derived.Test.YtffibgladjmeaaaSNums
namespace Go.Proofs.Ytffibgladjmeaaa
set_option linter.unusedSimpArgs false
set_option linter.unusedVariables false
set_option linter.unusedSectionVars false
open Go.RowKit Go.Maps
variable [DecidableEq V]

set_option maxHeartbeats 6400000 in
set_option maxRecDepth 100000 in
theorem dense_walk {x : Value} {vs : List V} {w : World} (hx : Vals w x vs) :
    Calls Try.prog 5 #[x] w fun e w' => e = .returned (.bool true) ∧ Below w.heap.size w w' := by
  obtain ⟨ao, cap, rfl, hm⟩ := hx.len
  unfold maxLen at hm
  have HX := Lib.hid hx
  clear hx
  go_enter Try.func5, Try.ntmps5
  go_wp2_with fail
  refine (shown2_any _).mono ?_
  rintro e w1 ⟨rfl, hb1⟩
  have HB1 := Lib.hid hb1
  clear hb1
  go_wp2_with fail
  refine (new_at _).mono ?_
  rintro e w2 ⟨tb, F, rfl, hb2, hT2⟩
  have HB2 : Hid (Below w.heap.size w w2) := HB1.out.trans (hb2.mono HB1.out.size)
  have HT2 := Lib.hid hT2
  have hB : Hid (w.heap.size ≤ w1.heap.size) := HB1.out.size
  clear hb2 hT2 HB1
  go_wp2_with fail
  go_loopw [5, 6] (fun top i wr => ∃ (k : Nat) (L : List V) (F : Nat → Prop), k ≤ vs.length ∧ k ≤ 200 ∧ L.length ≤ k ∧ i = .int .i64 k ∧ top = .int .i64 (L.length : Nat) ∧ Hid (Tbl wr w1.heap.size F tb L) ∧ Hid (Below w.heap.size w wr)) (fun _ i _ => vs.length - (intOf i).toNat)
  case atStart => exact ⟨0, [], F, Nat.zero_le _, by omega, by simp, rfl, rfl, HT2, HB2⟩
  case round =>
    obtain ⟨k, L, F1, hk, hk2, hLk, rfl, rfl, HT, HB⟩ := hrel
    by_cases hlt : k < vs.length ∧ k < 200
    · obtain ⟨h1, h2⟩ := hlt
      obtain ⟨b, off, rfl, c0, c1, c2, hok, hbl⟩ := HX.out.at HB.out k h1
      have h1I : (k : Int) < (vs.length : Int) := by omega
      have h2I : (k : Int) < 200 := by omega
      generalize hv : vs[k] = v at *
      clear hv
      by_cases hmL : v.bare ∈ L
      · have e1 : decide (v.bare ∈ L) = true := by simp [hmL]
        have HA := Lib.hid (addV_in hmL)
        have hix : ((L.idxOf v.bare : Nat) : Int) < (L.length : Int) := by have := (addV_in hmL).2; omega
        go_wp2_with fail
        refine (find_any HT.out hok).mono ?_
        rintro e w3 ⟨rfl, hb3⟩
        have HT3 := Lib.hid (HT.out.below hb3)
        have HB3 : Hid (Below w.heap.size w w3) := HB.out.trans (hb3.mono HB.out.size)
        have hbl' : b < wr.heap.size := Nat.lt_of_lt_of_le hbl HB.out.size
        obtain ⟨hc3, -⟩ := bcell hb3
        clear hb3 hmL
        rw [e1]
        generalize at0 L v.bare = q
        clear e1
        go_wp2_with fail
        refine (put_at HT3.out hok (by omega)).mono ?_
        rintro e w4 ⟨rfl, ht4, F4, hT4, -⟩
        rw [HA.out.1] at hT4
        have HB4 : Hid (Below w.heap.size w w4) := HB3.out.trans ((HT3.out.stay ht4).mono hB.out)
        have HT4 := Lib.hid hT4
        clear ht4 hT4 c0 c1 c2 hc3
        generalize L.idxOf v.bare = ix at *
        go_wp2
        go_roundw
        case rel => exact ⟨k + 1, L, F4, by omega, by omega, by omega, by go_num, rfl, HT4, HB4⟩
        case measure => simp [intOf]; omega
      · have e1 : decide (v.bare ∈ L) = false := by simp [hmL]
        have HA := Lib.hid (addV_out hmL)
        go_wp2_with fail
        refine (find_any HT.out hok).mono ?_
        rintro e w3 ⟨rfl, hb3⟩
        have HT3 := Lib.hid (HT.out.below hb3)
        have HB3 : Hid (Below w.heap.size w w3) := HB.out.trans (hb3.mono HB.out.size)
        have hbl' : b < wr.heap.size := Nat.lt_of_lt_of_le hbl HB.out.size
        obtain ⟨hc3, -⟩ := bcell hb3
        clear hb3 hmL
        rw [e1]
        generalize at0 L v.bare = q
        clear e1
        go_wp2_with fail
        refine (put_at HT3.out hok (by omega)).mono ?_
        rintro e w4 ⟨rfl, ht4, F4, hT4, -⟩
        rw [HA.out.1] at hT4
        rw [HA.out.2]
        have HB4 : Hid (Below w.heap.size w w4) := HB3.out.trans ((HT3.out.stay ht4).mono hB.out)
        have HT4 := Lib.hid hT4
        clear ht4 hT4 c0 c1 c2 hc3
        go_wp2
        go_roundw
        case rel => exact ⟨k + 1, L ++ [v.bare], F4, by omega, by omega, by simp; omega, by go_num, by simp, HT4, HB4⟩
        case measure => simp [intOf]; omega
    · have hL2 : L.length ≤ 200 := by omega
      have hout : ¬ (k : Int) < (vs.length : Int) ∨ ((k : Int) < (vs.length : Int) ∧ ¬ (k : Int) < 200) := by omega
      clear hlt hLk hk hk2
      rcases hout with ho | ⟨ho, ho2⟩
      all_goals
        go_wp2_with fail
        go_loopw [10] (fun n wr => ∃ (j : Int), n = .int .i64 j ∧ -1 ≤ j ∧ j ≤ (L.length : Int) + 1 ∧ Hid (Tbl wr w1.heap.size F1 tb L) ∧ Hid (Below w.heap.size w wr)) (fun n _ => ((L.length : Int) + 2 - intOf n).toNat)
        case atStart => exact ⟨-1, rfl, by omega, by omega, HT, HB⟩
        case round =>
          rename_i wr0 _
          obtain ⟨j, rfl, hj1, hj2, HTj, HBj⟩ := hrel
          by_cases hjt : j ≤ (L.length : Int)
          · by_cases hin : 0 ≤ j ∧ j < (L.length : Int)
            · obtain ⟨i1, i2⟩ := hin
              obtain ⟨i, rfl⟩ := Int.eq_ofNat_of_zero_le i1
              have i3 : i < L.length := by omega
              go_wp2_with fail
              refine (at_yes HTj.out i i3).mono ?_
              rintro e w5 ⟨rfl, hb5⟩
              have HT5 := Lib.hid ((HTj.out.below hb5).below ((Below.refl _ _).alloc (Nat.le_refl _) (.cells #[.bool L[i].k, .string L[i].s, .int .i64 L[i].n] 24)))
              have HB5 : Hid (Below w.heap.size w (w5.alloc (.cells #[.bool L[i].k, .string L[i].s, .int .i64 L[i].n] 24))) := (HBj.out.trans (hb5.mono HBj.out.size)).alloc (Nat.le_trans HBj.out.size hb5.size) _
              clear hb5
              go_wp2
              go_roundw
              case rel => exact ⟨(i : Int) + 1, rfl, by omega, by omega, HT5, HB5⟩
              case measure => simp [intOf]; omega
            · have hno : j < 0 ∨ (L.length : Int) ≤ j := by omega
              have HN := Lib.hid hno
              have hg : Hid (decide (0 ≤ j) = true → decide (j < (L.length : Int)) = false) := fun h => by simp at h ⊢; omega
              clear hin hno
              go_wp2_with fail
              refine (at_no HTj.out j HN.out).mono ?_
              rintro e w5 ⟨rfl, hb5⟩
              have HT5 := Lib.hid ((HTj.out.below hb5).below ((Below.refl _ _).alloc (Nat.le_refl _) (.cells #[.bool false, .string ⟨#[]⟩, .int .i64 0] 24)))
              have HB5 : Hid (Below w.heap.size w (w5.alloc (.cells #[.bool false, .string ⟨#[]⟩, .int .i64 0] 24))) := (HBj.out.trans (hb5.mono HBj.out.size)).alloc (Nat.le_trans HBj.out.size hb5.size) _
              clear hb5
              by_cases hj0 : 0 ≤ j
              · have hjl : ¬ j < (L.length : Int) := by have := HN.out; omega
                go_wp2
                go_roundw
                case rel => exact ⟨j + 1, rfl, by omega, by omega, HT5, HB5⟩
                case measure => simp [intOf]; omega
              · go_wp2
                go_roundw
                case rel => exact ⟨j + 1, rfl, by omega, by omega, HT5, HB5⟩
                case measure => simp [intOf]; omega
          · go_wp2_with fail
            refine (len_any HTj.out).mono ?_
            rintro e w5 ⟨rfl, rfl⟩
            go_wp2
            go_ret
            exact ⟨rfl, HBj.out⟩
end Go.Proofs.Ytffibgladjmeaaa
