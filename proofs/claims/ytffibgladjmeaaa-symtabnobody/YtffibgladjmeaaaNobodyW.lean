/-
  The walk of SymtabNobody: a table that is none has nothing, a new one hasn't either: the law returns true; of old memory nothing turns.
-/
import Derived.Test.YtffibgladjmeaaaSShown
namespace Go.Proofs.Ytffibgladjmeaaa
set_option linter.unusedSimpArgs false
set_option linter.unusedVariables false
set_option linter.unusedSectionVars false
open Go.RowKit Go.Maps
variable [DecidableEq V]

set_option maxHeartbeats 3200000 in
set_option maxRecDepth 100000 in
theorem nobody_walk {v : V} (hv : v.Ok) (n : Int) (w : World) :
    Calls Try.prog 6 #[.agg #[.bool v.k, .string v.s, .int .i64 v.n], .int .i64 n] w fun e w' => e = .returned (.bool true) ∧ Below w.heap.size w w' := by
  have X0 := Lib.hid (Box.new w v)
  go_enter Try.func6, Try.ntmps6
  go_wp2_with fail
  refine (shown2_any _).mono ?_
  rintro e w1 ⟨rfl, hb⟩
  have X1 := Lib.hid (X0.out.below hb)
  obtain ⟨x0, x1, x2, x3⟩ := X1.out
  have HB1 : Hid (Below w.heap.size w w1) := ((Below.refl _ _).alloc (Nat.le_refl _) _).trans (hb.mono (by simp))
  clear hb X0
  go_wp2_with fail
  refine (find_nil _ _ _ _).mono ?_
  rintro e w2 ⟨rfl, hb⟩
  have X2 := Lib.hid (X1.out.below hb)
  have HB2 : Hid (Below w.heap.size w w2) := HB1.out.trans (hb.mono (by omega))
  clear hb HB1 X1 x0 x1 x2 x3
  obtain ⟨x0, x1, x2, x3⟩ := X2.out
  go_wp2_with fail
  refine (at_nil _ _).mono ?_
  rintro e w3 ⟨rfl, hb⟩
  have X3 := Lib.hid (X2.out.below hb)
  have HB3 : Hid (Below w.heap.size w w3) := HB2.out.trans (hb.mono (by omega))
  clear hb HB2 X2 x0 x1 x2 x3
  obtain ⟨x0, x1, x2, x3⟩ := X3.out
  go_wp2_with fail
  refine (new_at _).mono ?_
  rintro e w4 ⟨tb, F, rfl, hb, hT⟩
  have X4 := Lib.hid ((X3.out.alloc _).below hb)
  have HB4 : Hid (Below w.heap.size w w4) := (HB3.out.alloc (by omega) _).trans (hb.mono (by simp; omega))
  have HT4 := Lib.hid hT
  clear hb HB3 X3 x0 x1 x2 x3 hT
  obtain ⟨x0, x1, x2, x3⟩ := X4.out
  go_wp2_with fail
  refine (find_any HT4.out hv).mono ?_
  rintro e w5 ⟨rfl, hb⟩
  have X5 := Lib.hid (X4.out.below hb)
  have HB5 : Hid (Below w.heap.size w w5) := HB4.out.trans (hb.mono (by omega))
  have HT5 := Lib.hid (HT4.out.below hb)
  have e1 : decide (v.bare ∈ ([] : List V)) = false := by simp
  clear hb HB4 X4 x0 x1 x2 x3 HT4
  obtain ⟨x0, x1, x2, x3⟩ := X5.out
  go_wp2_with fail
  refine (at_no HT5.out n (by simp; omega)).mono ?_
  rintro e w6 ⟨rfl, hb⟩
  have X6 := Lib.hid ((X5.out.below hb).alloc (.cells #[.bool false, .string ⟨#[]⟩, .int .i64 0] 24))
  have HB6 : Hid (Below w.heap.size w w6) := HB5.out.trans (hb.mono (by omega))
  have HT6 := Lib.hid ((HT5.out.below hb).below ((Below.refl _ _).alloc (Nat.le_refl _) (.cells #[.bool false, .string ⟨#[]⟩, .int .i64 0] 24)))
  have hz6 : w.heap.size < w6.heap.size := by have := hb.size; omega
  clear hb HB5 X5 x0 x1 x2 x3 HT5
  obtain ⟨x0, x1, x2, x3⟩ := X6.out
  go_wp2_with fail
  refine (put_nil _ _ _ _).mono ?_
  rintro e w7 ⟨rfl, hb⟩
  have HB7 : Hid (Below w.heap.size w w7) := (HB6.out.alloc (by omega) _).trans (hb.mono (by simp; omega))
  have HT7 := Lib.hid (HT6.out.below hb)
  clear hb HB6 X6 x0 x1 x2 x3 HT6
  go_wp2_with fail
  refine (len_nil _).mono ?_
  rintro e w8 ⟨rfl, rfl⟩
  go_wp2_with fail
  refine (len_any HT7.out).mono ?_
  rintro e w8 ⟨rfl, rfl⟩
  go_wp2
  go_ret
  exact ⟨rfl, HB7.out⟩
end Go.Proofs.Ytffibgladjmeaaa
