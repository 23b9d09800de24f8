/-
  TokenBack's walk.
-/
import Derived.Test.YtngnhoonpgkhdaaDoorKShort
import Derived.Test.YtngnhoonpgkhdaaDoorKSame
import Derived.Test.YtngnhoonpgkhdaaDoorKShown
namespace Go.Proofs.YtngnhoonpgkhdaaDoor
set_option linter.unusedSimpArgs false
set_option linter.unusedVariables false
set_option linter.unusedSectionVars false
set_option maxRecDepth 100000
open Go.RowKit

set_option maxHeartbeats 4000000 in
theorem back_walk (s : ByteArray) (w : World) (hs : s.size ≤ maxLen) (hE : Env w) (hT : Tab w) :
    Calls Tryd.prog 5 #[.string s] w fun e w' => e = .returned (.bool true) ∧ Below w.heap.size w w' := by
  unfold maxLen at hs
  have HE := Lib.hid hE
  have HT := Lib.hid hT
  clear hE hT
  by_cases h8 : 8000 < s.size
  · have h8I : (8000 : Int) < (s.size : Int) := by omega
    go_enter Tryd.func5, Tryd.ntmps5
    go_wp2_with (go_at_call 10; refine (shown_any _ HE.out HT.out).mono ?_; rintro e w1 ⟨rfl, hb1⟩)
    go_ret
    exact ⟨rfl, hb1⟩
  have h8I : ¬ (8000 : Int) < (s.size : Int) := by omega
  have hOK : ∀ t ∈ (scanR s).toks, t.Ok := fun t ht => scanR_ok ht
  have hback := scan_back (s := s) (by omega)
  have herr := scanR_err (s := s)
  have hlen := scanR_len s
  have HSC := Lib.hid (fun W (hW : Env W) => scan_any s W hW)
  obtain ⟨r, hr⟩ : ∃ r, r = scanR s := ⟨_, rfl⟩
  unfold ScanOut at HSC
  rw [← hr] at HSC hback herr hlen hOK
  obtain ⟨bd, pl, T⟩ := r
  simp only at HSC hback herr hlen hOK
  clear hr h8
  by_cases hbd : bd = 0
  · subst hbd
    obtain ⟨hJ, T', hsc, hTl, hal⟩ := hback rfl
    have HJ := Lib.hid (fun x W (hx : Tks W x T) (ht : Tab W) => join_any hx hOK (by omega) ht)
    have HS2 := Lib.hid (fun W (hW : Env W) => scan_any ⟨(joinL T).toArray⟩ W hW)
    unfold ScanOut at HS2
    rw [hsc] at HS2
    have HSM := Lib.hid (fun x y W (hx : Tks W x T) (hy : Tks W y T') => same_any hx hy (by omega) hlen false (fun i h1 h2 => ⟨⟨(hal i h2 h1).1.symm, (hal i h2 h1).2.1.symm, (hal i h2 h1).2.2.1.symm, (hal i h2 h1).2.2.2.symm⟩, fun h => by cases h⟩))
    have HLN : Hid (T.length ≤ 65536) := hlen
    have HLN2 : Hid (T'.length ≤ 65536) := by show _ ≤ _; omega
    clear hback herr hal hOK hsc hJ hTl hlen
    go_enter Tryd.func5, Tryd.ntmps5
    go_wp2_with (first
      | (go_at_call 10; refine (shown_any _ HE.out HT.out).mono ?_; rintro e w1 ⟨rfl, hb1⟩; have HB1 := Lib.hid hb1; clear hb1)
      | (go_at_call 11; refine (HSC.out _ (HE.out.below HB1.out)).mono ?_; rintro e w2 ⟨v, rfl, hb2, ho2⟩; have HB2 : Hid (Below w.heap.size w w2) := HB1.out.trans (hb2.mono HB1.out.size); have HX := Lib.hid (ho2.tks (by have := HLN.out; unfold maxLen; omega)); obtain ⟨ao, cap, rfl, hcap, hmx⟩ := HX.out.form; clear hb2 ho2 hcap hmx HSC)
      | (go_at_call 14; refine (HJ.out _ _ HX.out (HT.out.on HB2.out)).mono ?_; rintro e w3 ⟨rfl, hb3⟩; have HB3 : Hid (Below w.heap.size w w3) := HB2.out.trans (hb3.mono HB2.out.size); have HX3 := Lib.hid (HX.out.below hb3); clear hb3 HJ)
      | (go_at_call 11; refine (HS2.out _ (HE.out.below HB3.out)).mono ?_; rintro e w4 ⟨v, rfl, hb4, ho4⟩; have HB4 : Hid (Below w.heap.size w w4) := HB3.out.trans (hb4.mono HB3.out.size); have HX4 := Lib.hid (HX3.out.below hb4); have HY4 := Lib.hid (ho4.tks (by have := HLN2.out; unfold maxLen; omega)); obtain ⟨ao4, cap4, rfl, hcap4, hmx4⟩ := HY4.out.form; clear hb4 ho4 hcap4 hmx4 HS2)
      | (go_at_call 13; refine (HSM.out _ _ _ HX4.out HY4.out).mono ?_; rintro e w5 ⟨rfl, hb5⟩; have HB5 : Hid (Below w.heap.size w w5) := HB4.out.trans (hb5.mono HB4.out.size); clear hb5))
    go_ret
    exact ⟨rfl, HB5.out⟩
  · have hbdI : ¬ (bd : Int) = 0 := by omega
    have hbdB : ((bd : Int) == 0) = false := by simpa using hbdI
    have hbdN : ((bd : Int) != 0) = true := by simp [bne, hbdB]
    obtain rfl := herr hbd
    clear hback herr hOK hlen
    go_enter Tryd.func5, Tryd.ntmps5
    go_wp2_with (first
      | (go_at_call 10; refine (shown_any _ HE.out HT.out).mono ?_; rintro e w1 ⟨rfl, hb1⟩; have HB1 := Lib.hid hb1; clear hb1)
      | (go_at_call 11; refine (HSC.out _ (HE.out.below HB1.out)).mono ?_; rintro e w2 ⟨v, rfl, hb2, ho2⟩; have HB2 : Hid (Below w.heap.size w w2) := HB1.out.trans (hb2.mono HB1.out.size); have HX := Lib.hid (ho2.tks (by unfold maxLen; simp)); obtain ⟨ao, cap, rfl, hcap, hmx⟩ := HX.out.form; clear hb2 ho2 hcap hmx HSC))
    go_ret
    exact ⟨rfl, HB2.out⟩
end Go.Proofs.YtngnhoonpgkhdaaDoor
