/-
  TokenTexts' walk.
-/
import Derived.Test.YtekhcaanjaoioaaDoorKRefJ
import Derived.Test.YtekhcaanjaoioaaDoorKToks
import Derived.Test.YtekhcaanjaoioaaDoorKShown
namespace Go.Proofs.YtekhcaanjaoioaaDoor
set_option linter.unusedSimpArgs false
set_option linter.unusedVariables false
set_option linter.unusedSectionVars false
set_option maxRecDepth 100000
open Go.RowKit

theorem texts_ok {T : List Tk} {d : Nat} (hk : ∀ t ∈ T, t.s.size ≤ maxLen ∧ InR t.n) (hg : bulkT T ≤ d) (hd : d ≤ 1048576) : (∀ t ∈ T, t.Ok) ∧ (joinL T).length ≤ 4194304 := by
  refine ⟨fun t ht => ⟨?_, (hk t ht).2.1, (hk t ht).2.2⟩, ?_⟩
  · have := bulk_mem ht
    omega
  · have := joinL_bulk (T := T) (fun t ht => (hk t ht).2)
    omega

set_option maxHeartbeats 4000000 in
theorem texts_walk {x : Value} {T : List Tk} {w : World} (hx : Tks w x T) (hok : ∀ t ∈ T, t.Ok) (hj : (joinL T).length ≤ 4194304) (hE : Env w) (hT : Tab w) :
    Calls Tryd.prog 4 #[x] w fun e w' => e = .returned (.bool true) ∧ Below w.heap.size w w' := by
  have HJ := Lib.hid (fun W (hb : Below w.heap.size w W) => join_any (hx.below hb) hok (by omega) (hT.on hb))
  have HR := Lib.hid (fun W (hb : Below w.heap.size w W) => rjoin_any (hx.below hb) hok (by omega))
  obtain ⟨ao, cap, rfl, hcap, hm⟩ := hx.form
  unfold maxLen at hm
  have HE := Lib.hid hE
  have HT := Lib.hid hT
  obtain ⟨y, hy⟩ : ∃ y : ByteArray, y = ⟨(joinL T).toArray⟩ := ⟨_, rfl⟩
  rw [← hy] at HJ HR
  have hyy : (y.toList == y.toList) = true := by simp
  clear hx hok hj hE hT hcap hy
  by_cases h : 2000 < T.length
  · have hI : (2000 : Int) < (T.length : Int) := by omega
    go_enter Tryd.func4, Tryd.ntmps4
    go_wp2_with (go_at_call 5; refine (shown_any _ HE.out HT.out).mono ?_; rintro e w1 ⟨rfl, hb1⟩)
    go_ret
    exact ⟨rfl, hb1⟩
  · have hI : ¬ (2000 : Int) < (T.length : Int) := by omega
    go_enter Tryd.func4, Tryd.ntmps4
    go_wp2_with (first
      | (go_at_call 5; refine (shown_any _ HE.out HT.out).mono ?_; rintro e w1 ⟨rfl, hb1⟩; have HB1 := Lib.hid hb1; clear hb1)
      | (go_at_call 9; refine (HJ.out _ HB1.out).mono ?_; rintro e w2 ⟨rfl, hb2⟩; have HB2 := Lib.hid (HB1.out.trans (hb2.mono HB1.out.size)); clear hb2 HJ)
      | (go_at_call 10; refine (HR.out _ HB2.out).mono ?_; rintro e w3 ⟨rfl, hb3⟩; have HB3 := Lib.hid (HB2.out.trans (hb3.mono HB2.out.size)); clear hb3 HR))
    go_ret
    exact ⟨by first | rfl | simp, HB3.out⟩
end Go.Proofs.YtekhcaanjaoioaaDoor
