/-
  The walk of TupleBack: a row is told from its key as it was; a text that is one has the key that it is: the law returns true; of old memory nothing turns.
-/
import Derived.Test.YtdjappfmjnjibaaDoorTShown
import Derived.Test.YtdjappfmjnjibaaDoorTBack2
namespace Go.Proofs.YtdjappfmjnjibaaDoor
set_option linter.unusedSimpArgs false
set_option linter.unusedVariables false
set_option linter.unusedSectionVars false
set_option maxRecDepth 100000
open Go.RowKit
variable [DecidableEq V]

theorem isKey_bare {a : List V} (h : ∀ v ∈ a, v.Ok) : IsKey (a.map V.bare) (keyL a) := by
  refine ⟨fun u hu => ?_, key_bare a⟩
  obtain ⟨v, hv, rfl⟩ := List.mem_map.1 hu
  exact ⟨(h v hv).bare, V.bare_bare v⟩
theorem rcmp_own (a : List V) : rcmp (a.map V.bare) a = 0 := by
  rw [rcmp_bare, List.map_map]
  exact List.map_congr_left (fun v _ => V.bare_bare v)
theorem str_len (a : List UInt8) : (⟨a.toArray⟩ : ByteArray).size = a.length := by show a.toArray.size = _; simp
theorem str_back (s : ByteArray) : (⟨s.data.toList.toArray⟩ : ByteArray) = s := by simp

set_option maxHeartbeats 3200000 in
theorem back_walk {x : Value} {a : List V} {s : ByteArray} {w : World} (hx : Vals w x a) (ka : bulkV a ≤ 1048576) (hs : s.size ≤ 1048576) (hg : Glob w) :
    Calls Tryd.prog 6 #[x, .string s] w fun e w' => e = .returned (.bool true) ∧ Below w.heap.size w w' := by
  have h1 := key_len a hx.ok
  have HX := Lib.hid hx
  have HG := Lib.hid hg
  clear hx hg
  go_enter Tryd.func6, Tryd.ntmps6
  go_wp2_with fail
  refine (shown3_any _ HG.out.tab).mono ?_
  rintro e w1 ⟨rfl, hb1⟩
  have HB1 := Lib.hid hb1
  clear hb1
  go_wp2_with fail
  refine (key_any (HX.out.below HB1.out) (by omega) (HG.out.on HB1.out).tab).mono ?_
  rintro e w2 ⟨rfl, hb2⟩
  have HB2 : Hid (Below w.heap.size w w2) := HB1.out.trans (hb2.mono HB1.out.size)
  clear hb2 HB1
  go_wp2_with fail
  refine (back_any _ (by rw [str_len]; omega) _ (HG.out.on HB2.out)).mono ?_
  rintro e w3 ⟨hb3, hP⟩
  rw [ba_list] at hP
  have hK := isKey_bare HX.out.ok
  obtain ⟨L, x3, hL, hO3, rfl⟩ := hP.resolve_right (fun h => h.1 ⟨_, hK⟩)
  obtain rfl := hL.one hK
  have HO3 := Lib.hid hO3.vals
  have HB3 : Hid (Below w.heap.size w w3) := HB2.out.trans (hb3.mono HB2.out.size)
  clear hb3 HB2 hP hK hL hO3
  go_wp2_with fail
  refine (back_any _ (by omega) _ (HG.out.on HB3.out)).mono ?_
  rintro e w4 ⟨hb4, hP⟩
  have HO4 := Lib.hid (HO3.out.below hb4)
  have HB4 : Hid (Below w.heap.size w w4) := HB3.out.trans (hb4.mono HB3.out.size)
  clear hb4 HO3 HB3
  have HC : Hid (Calls Tryd.prog 15 #[x3, x] w4 fun e w' => e = .returned (.int .i64 0) ∧ Below w4.heap.size w4 w') := by
    have := tcmp_any HO4.out (HX.out.below HB4.out)
    rwa [rcmp_own] at this
  rcases hP with ⟨L, x4, hL, hO, rfl⟩ | ⟨hL, rfl⟩
  · have HK : Hid (∀ W, Below w4.heap.size w4 W → Calls Tryd.prog 17 #[x4] W fun e w' => e = .returned (.string s) ∧ Below W.heap.size W w') := fun W hb => by
      have hl : (keyL L).length = s.size := by rw [hL.2, ba_size]
      have := key_any (hO.below hb).vals (by omega) (HG.out.on (HB4.out.trans (hb.mono HB4.out.size))).tab
      rwa [hL.2, str_back] at this
    clear hL hO HO4 HX
    go_wp2_with fail
    refine (HC.out).mono ?_
    rintro e w5 ⟨rfl, hb5⟩
    have HB5 := Lib.hid hb5
    clear hb5 HC
    go_wp2_with fail
    refine (HK.out _ HB5.out).mono ?_
    rintro e w6 ⟨rfl, hb6⟩
    have HB6 : Hid (Below w4.heap.size w4 w6) := HB5.out.trans (hb6.mono HB5.out.size)
    clear hb6 HB5 HK
    go_wp2
    go_ret
    exact ⟨rfl, HB4.out.trans (HB6.out.mono HB4.out.size)⟩
  · clear hL HO4 HX
    go_wp2_with fail
    refine (HC.out).mono ?_
    rintro e w5 ⟨rfl, hb5⟩
    have HB5 := Lib.hid hb5
    clear hb5 HC
    go_wp2
    go_ret
    exact ⟨rfl, HB4.out.trans (HB5.out.mono HB4.out.size)⟩
end Go.Proofs.YtdjappfmjnjibaaDoor
