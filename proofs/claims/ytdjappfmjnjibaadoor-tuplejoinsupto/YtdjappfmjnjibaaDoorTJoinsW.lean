/-
  The walk of TupleJoins: a row behind a row has both keys, one behind the other; the order of two rows that begin alike is that of what is behind: the law returns true; of old memory nothing turns.
-/
import Derived.Test.YtdjappfmjnjibaaDoorTShown
import Derived.Test.YtdjappfmjnjibaaDoorTOrdP
import Derived.Test.YtdjappfmjnjibaaDoorTApp
namespace Go.Proofs.YtdjappfmjnjibaaDoor
set_option linter.unusedSimpArgs false
set_option linter.unusedVariables false
set_option linter.unusedSectionVars false
set_option maxRecDepth 100000
open Go.RowKit
variable [DecidableEq V]

theorem str_join (a b : List UInt8) : (⟨(a ++ b).toArray⟩ : ByteArray) = ⟨a.toArray⟩ ++ ⟨b.toArray⟩ := by
  apply bytes_ext
  rw [Go.Joins.data_append]
theorem str_size (a : List UInt8) : (⟨a.toArray⟩ : ByteArray).size = a.length := by show a.toArray.size = _; simp

set_option maxHeartbeats 3200000 in
theorem joins_walk {x y z : Value} {a b c : List V} {w : World} (hx : Vals w x a) (hy : Vals w y b) (hz : Vals w z c) (nx : ∀ n c, x = .slice none n c → c = 0) (ny : ∀ n c, y = .slice none n c → c = 0) (nz : ∀ n c, z = .slice none n c → c = 0)
    (ka : bulkV a ≤ 1048576) (kb : bulkV b ≤ 1048576) (la : a.length ≤ 1048576) (lb : b.length ≤ 1048576) (lc : c.length ≤ 1048576) (ht : Tab w) :
    Calls Tryd.prog 7 #[x, y, z] w fun e w' => e = .returned (.bool true) ∧ Below w.heap.size w w' := by
  obtain ⟨bo, bc, rfl, -⟩ := hy.len
  have h1 := key_len a hx.ok
  have h2 := key_len b hy.ok
  have HX := Lib.hid hx
  have HY := Lib.hid hy
  have HZ := Lib.hid hz
  have HT := Lib.hid ht
  have HJ := Lib.hid (rcmp_join a b c)
  have HK := Lib.hid (key_join a b)
  have HL := Lib.hid (rcmp_less a b)
  have NX := Lib.hid nx
  have NY := Lib.hid ny
  have NZ := Lib.hid nz
  clear hx hy hz ht nx ny nz
  go_enter Tryd.func7, Tryd.ntmps7
  go_wp2_with fail
  refine (shown3_any _ HT.out).mono ?_
  rintro e w1 ⟨rfl, hb1⟩
  have HB1 := Lib.hid hb1
  clear hb1
  have hs1 := HB1.out.size
  go_wp2_with (at_builtin; first
    | (refine wpList_append_vals rfl _ _ rfl w.heap.size _ [] rfl (Own.empty hs1) x a rfl (HX.out.below (HB1.out.alloc hs1 _)) NX.out (by simp; omega) (by simp; omega) ?_; intro v2 w2 hO2 hb2; have HO2 := Lib.hid hO2; have HB2 : Hid (Below w.heap.size w w2) := (HB1.out.alloc hs1 _).trans hb2; clear hO2 hb2)
    | (refine wpList_append_vals rfl _ _ rfl w.heap.size v2 ([] ++ a) rfl HO2.out (.slice bo b.length bc) b rfl (HY.out.below HB2.out) NY.out (by simp; omega) HB2.out.size ?_; intro v3 w3 hO3 hb3; have HO3 := Lib.hid hO3; have HB3 : Hid (Below w.heap.size w w3) := HB2.out.trans hb3; have hs3 := HB3.out.size; clear hO3 hb3 HO2 HB2)
    | (refine wpList_append_vals rfl _ _ rfl w3.heap.size _ [] rfl (Own.empty (Nat.le_refl _)) x a rfl (HX.out.below (HB3.out.alloc hs3 _)) NX.out (by simp; omega) (by simp) ?_; intro v4 w4 hO4 hb4; have HO4 := Lib.hid hO4; have HB4 : Hid (Below w3.heap.size w3 w4) := ((Below.refl _ _).alloc (Nat.le_refl _) _).trans hb4; clear hO4 hb4)
    | (refine wpList_append_vals rfl _ _ rfl w3.heap.size v4 ([] ++ a) rfl HO4.out z c rfl (HZ.out.below (HB3.out.trans (HB4.out.mono hs3))) NZ.out (by simp; omega) HB4.out.size ?_; intro v5 w5 hO5 hb5; have HO5 := Lib.hid hO5; have HB5 : Hid (Below w3.heap.size w3 w5) := HB4.out.trans hb5; clear hO5 hb5 HO4 HB4))
  have HP := Lib.hid (HO3.out.below HB5.out)
  have HB6 : Hid (Below w.heap.size w w5) := HB3.out.trans (HB5.out.mono hs3)
  clear HO3 HB3 HB5
  simp only [List.nil_append] at HP HO5
  have K1 : Hid (∀ W, Below w5.heap.size w5 W → Calls Tryd.prog 17 #[v3] W fun e w' => e = .returned (.string (⟨(keyL a).toArray⟩ ++ ⟨(keyL b).toArray⟩)) ∧ Below W.heap.size W w') := fun W hb => by
    have := key_any (HP.out.below hb).vals (by rw [HK.out, List.length_append]; omega) (HT.out.on (HB6.out.trans (hb.mono HB6.out.size)))
    rwa [HK.out, str_join] at this
  have K2 : Hid (∀ W, Below w5.heap.size w5 W → Calls Tryd.prog 17 #[x] W fun e w' => e = .returned (.string ⟨(keyL a).toArray⟩) ∧ Below W.heap.size W w') := fun W hb => key_any (HX.out.below (HB6.out.trans (hb.mono HB6.out.size))) (by omega) (HT.out.on (HB6.out.trans (hb.mono HB6.out.size)))
  have K3 : Hid (∀ W, Below w5.heap.size w5 W → Calls Tryd.prog 17 #[.slice bo b.length bc] W fun e w' => e = .returned (.string ⟨(keyL b).toArray⟩) ∧ Below W.heap.size W w') := fun W hb => key_any (HY.out.below (HB6.out.trans (hb.mono HB6.out.size))) (by omega) (HT.out.on (HB6.out.trans (hb.mono HB6.out.size)))
  have C1 : Hid (∀ W, Below w5.heap.size w5 W → Calls Tryd.prog 15 #[v3, v5] W fun e w' => e = .returned (.int .i64 (rcmp b c)) ∧ Below W.heap.size W w') := fun W hb => by
    have := tcmp_any (HP.out.below hb).vals (HO5.out.below hb).vals
    rwa [HJ.out] at this
  have C2 : Hid (∀ W, Below w5.heap.size w5 W → Calls Tryd.prog 15 #[.slice bo b.length bc, z] W fun e w' => e = .returned (.int .i64 (rcmp b c)) ∧ Below W.heap.size W w') := fun W hb => tcmp_any (HY.out.below (HB6.out.trans (hb.mono HB6.out.size))) (HZ.out.below (HB6.out.trans (hb.mono HB6.out.size)))
  have C3 : Hid (∀ W, Below w5.heap.size w5 W → Calls Tryd.prog 15 #[x, v3] W fun e w' => e = .returned (.int .i64 (rcmp a (a ++ b))) ∧ Below W.heap.size W w') := fun W hb => tcmp_any (HX.out.below (HB6.out.trans (hb.mono HB6.out.size))) (HP.out.below hb).vals
  have sa := str_size (keyL a)
  have sb := str_size (keyL b)
  rw [← sa] at h1
  rw [← sb] at h2
  clear HX HY HZ HT HJ HK NX NY NZ HP HO5 sa sb HB1 hs1 hs3
  generalize (⟨(keyL a).toArray⟩ : ByteArray) = sa at *
  generalize (⟨(keyL b).toArray⟩ : ByteArray) = sb at *
  have hsa : sa.size ≤ 100000000 := by omega
  have hsb : sb.size ≤ 100000000 := by omega
  clear h1 h2
  go_wp2_with fail
  refine (K1.out _ (Below.refl _ _)).mono ?_
  rintro e w6 ⟨rfl, hb6⟩
  have HC6 := Lib.hid hb6
  clear hb6
  go_wp2_with fail
  refine (K2.out _ HC6.out).mono ?_
  rintro e w7 ⟨rfl, hb7⟩
  have HC7 : Hid (Below w5.heap.size w5 w7) := HC6.out.trans (hb7.mono HC6.out.size)
  clear hb7 HC6
  go_wp2_with fail
  refine (K3.out _ HC7.out).mono ?_
  rintro e w8 ⟨rfl, hb8⟩
  have HC8 : Hid (Below w5.heap.size w5 w8) := HC7.out.trans (hb8.mono HC7.out.size)
  clear hb8 HC7
  go_wp2_with fail
  refine (C1.out _ HC8.out).mono ?_
  rintro e w9 ⟨rfl, hb9⟩
  have HC9 : Hid (Below w5.heap.size w5 w9) := HC8.out.trans (hb9.mono HC8.out.size)
  clear hb9 HC8
  go_wp2_with fail
  refine (C2.out _ HC9.out).mono ?_
  rintro e wa ⟨rfl, hba⟩
  have HCa : Hid (Below w5.heap.size w5 wa) := HC9.out.trans (hba.mono HC9.out.size)
  clear hba HC9
  generalize rcmp b c = r at *
  by_cases h0 : b.length = 0
  · have h0I : ((b.length : Int) == 0) = true := by simp [h0]
    go_wp2
    go_ret
    exact ⟨rfl, HB6.out.trans (HCa.out.mono HB6.out.size)⟩
  · have h0I : ((b.length : Int) == 0) = false := by simp [h0]
    have e3 := HL.out (fun e => h0 (by rw [e]; rfl))
    rw [e3] at C3
    go_wp2_with fail
    refine (C3.out _ HCa.out).mono ?_
    rintro e wb ⟨rfl, hbb⟩
    have HCb : Hid (Below w5.heap.size w5 wb) := HCa.out.trans (hbb.mono HCa.out.size)
    clear hbb HCa
    go_wp2
    go_ret
    exact ⟨rfl, HB6.out.trans (HCb.out.mono HB6.out.size)⟩
end Go.Proofs.YtdjappfmjnjibaaDoor
