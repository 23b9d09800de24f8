/-
  The walk of TupleOrder: of any three rows there is one order; two are alike just if they have one key: the law returns true; of old memory nothing turns.
-/
import Derived.Test.YtdjappfmjnjibaaDoorTShown
import Derived.Test.YtdjappfmjnjibaaDoorTOrdP
namespace Go.Proofs.YtdjappfmjnjibaaDoor
set_option linter.unusedSimpArgs false
set_option linter.unusedVariables false
set_option linter.unusedSectionVars false
set_option maxRecDepth 100000
open Go.RowKit
variable [DecidableEq V]

set_option maxHeartbeats 3200000 in
theorem order_walk {x y z : Value} {a b c : List V} {w : World} (hx : Vals w x a) (hy : Vals w y b) (hz : Vals w z c) (ka : bulkV a ≤ 1048576) (kb : bulkV b ≤ 1048576) (ht : Tab w) :
    Calls Tryd.prog 5 #[x, y, z] w fun e w' => e = .returned (.bool true) ∧ Below w.heap.size w w' := by
  have HK : Hid ((keyL a).length + 100 ≤ 140737488355328 ∧ (keyL b).length + 100 ≤ 140737488355328) := by
    have h1 := key_len a hx.ok
    have h2 := key_len b hy.ok
    exact ⟨by omega, by omega⟩
  have HX := Lib.hid hx
  have HY := Lib.hid hy
  have HZ := Lib.hid hz
  have HT := Lib.hid ht
  have S1 := Lib.hid (rcmp_swap a b)
  have S2 := Lib.hid (rcmp_self a)
  have S3 : Hid (rcmp a b = 0 ↔ keyL a = keyL b) := by rw [Hid, rcmp_bare, key_one]
  have F : Hid ((-1 ≤ rcmp a b ∧ rcmp a b ≤ 1) ∧ (-1 ≤ rcmp b c ∧ rcmp b c ≤ 1) ∧ (-1 ≤ rcmp a c ∧ rcmp a c ≤ 1) ∧ (rcmp a b ≤ 0 → rcmp b c ≤ 0 → rcmp a c ≤ 0) ∧ (rcmp a b < 0 → rcmp b c < 0 → rcmp a c < 0)) :=
    ⟨rcmp_bd _ _, rcmp_bd _ _, rcmp_bd _ _, rcmp_le_trans, rcmp_lt_trans⟩
  clear hx hy hz ht ka kb
  go_enter Tryd.func5, Tryd.ntmps5
  go_wp2_with fail
  refine (shown3_any _ HT.out).mono ?_
  rintro e w1 ⟨rfl, hb1⟩
  have HB1 := Lib.hid hb1
  clear hb1
  go_wp2_with fail
  refine (tcmp_any (HX.out.below HB1.out) (HY.out.below HB1.out)).mono ?_
  rintro e w2 ⟨rfl, hb2⟩
  have HB2 : Hid (Below w.heap.size w w2) := HB1.out.trans (hb2.mono HB1.out.size)
  clear hb2 HB1
  go_wp2_with fail
  refine (tcmp_any (HY.out.below HB2.out) (HZ.out.below HB2.out)).mono ?_
  rintro e w3 ⟨rfl, hb3⟩
  have HB3 : Hid (Below w.heap.size w w3) := HB2.out.trans (hb3.mono HB2.out.size)
  clear hb3 HB2
  go_wp2_with fail
  refine (tcmp_any (HX.out.below HB3.out) (HZ.out.below HB3.out)).mono ?_
  rintro e w4 ⟨rfl, hb4⟩
  have HB4 : Hid (Below w.heap.size w w4) := HB3.out.trans (hb4.mono HB3.out.size)
  clear hb4 HB3
  have C1 : Hid (∀ W, Below w.heap.size w W → Calls Tryd.prog 15 #[y, x] W fun e w' => e = .returned (.int .i64 (-rcmp a b)) ∧ Below W.heap.size W w') := fun W hb => by
    have := tcmp_any (HY.out.below hb) (HX.out.below hb)
    rwa [S1.out] at this
  have C2 : Hid (∀ W, Below w.heap.size w W → Calls Tryd.prog 15 #[x, x] W fun e w' => e = .returned (.int .i64 0) ∧ Below W.heap.size W w') := fun W hb => by
    have := tcmp_any (HX.out.below hb) (HX.out.below hb)
    rwa [S2.out] at this
  have C3 : Hid (∀ W, Below w.heap.size w W → Calls Tryd.prog 17 #[x] W fun e w' => e = .returned (.string ⟨(keyL a).toArray⟩) ∧ Below W.heap.size W w') := fun W hb => key_any (HX.out.below hb) HK.out.1 (HT.out.on hb)
  have C4 : Hid (∀ W, Below w.heap.size w W → Calls Tryd.prog 17 #[y] W fun e w' => e = .returned (.string ⟨(keyL b).toArray⟩) ∧ Below W.heap.size W w') := fun W hb => key_any (HY.out.below hb) HK.out.2 (HT.out.on hb)
  clear HX HY HZ HT HK S1 S2
  generalize keyL a = la at *
  generalize keyL b = lb at *
  generalize rcmp a b = p at *
  generalize rcmp b c = q at *
  generalize rcmp a c = r at *
  have G : (p = 1) ∨ (p = 0 ∧ q = 1) ∨ (p = 0 ∧ q = 0 ∧ r = 0) ∨ (p = 0 ∧ q = 0 ∧ r = -1) ∨ (p = 0 ∧ q = -1 ∧ r = 0) ∨ (p = 0 ∧ q = -1 ∧ r = -1) ∨ (p = -1 ∧ q = 1) ∨ (p = -1 ∧ q = 0 ∧ r = 0) ∨ (p = -1 ∧ q = 0 ∧ r = -1) ∨ (p = -1 ∧ q = -1 ∧ r = -1) := by
    have f := F.out; omega
  clear F
  rcases G with rfl | ⟨rfl, rfl⟩ | ⟨rfl, rfl, rfl⟩ | ⟨rfl, rfl, rfl⟩ | ⟨rfl, rfl, rfl⟩ | ⟨rfl, rfl, rfl⟩ | ⟨rfl, rfl⟩ | ⟨rfl, rfl, rfl⟩ | ⟨rfl, rfl, rfl⟩ | ⟨rfl, rfl, rfl⟩
  all_goals
    first
      | (have hne : (la == lb) = false := beq_eq_false_iff_ne.2 (fun e => by have := S3.out.2 e; omega); clear S3)
      | (obtain rfl := S3.out.1 rfl; clear S3)
    go_wp2_with fail
    refine (C1.out _ HB4.out).mono ?_
    rintro e w5 ⟨rfl, hb5⟩
    have HB5 : Hid (Below w.heap.size w w5) := HB4.out.trans (hb5.mono HB4.out.size)
    clear hb5 HB4
    go_wp2_with fail
    refine (C3.out _ HB5.out).mono ?_
    rintro e w6 ⟨rfl, hb6⟩
    have HB6 : Hid (Below w.heap.size w w6) := HB5.out.trans (hb6.mono HB5.out.size)
    clear hb6 HB5
    go_wp2_with fail
    refine (C4.out _ HB6.out).mono ?_
    rintro e w7 ⟨rfl, hb7⟩
    have HB7 : Hid (Below w.heap.size w w7) := HB6.out.trans (hb7.mono HB6.out.size)
    clear hb7 HB6
    go_wp2_with fail
    refine (C2.out _ HB7.out).mono ?_
    rintro e w8 ⟨rfl, hb8⟩
    have HB8 : Hid (Below w.heap.size w w8) := HB7.out.trans (hb8.mono HB7.out.size)
    clear hb8 HB7
    go_wp2
    go_ret
    exact ⟨rfl, HB8.out⟩
end Go.Proofs.YtdjappfmjnjibaaDoor
