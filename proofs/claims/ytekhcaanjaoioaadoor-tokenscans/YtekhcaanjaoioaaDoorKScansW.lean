/-
  TokenScans' walk.
-/
import Derived.Test.YtekhcaanjaoioaaDoorKRefS
import Derived.Test.YtekhcaanjaoioaaDoorKSame
import Derived.Test.YtekhcaanjaoioaaDoorKShown
namespace Go.Proofs.YtekhcaanjaoioaaDoor
set_option linter.unusedSimpArgs false
set_option linter.unusedVariables false
set_option linter.unusedSectionVars false
set_option maxRecDepth 100000
open Go.RowKit

theorem scanR_lenS (s : ByteArray) : (scanR s).toks.length ≤ 65536 := by
  unfold scanR
  split
  · simp
  · rename_i h
    have aux : ∀ (f p : Nat) (l : List UInt8), (scanF f p l).toks.length ≤ l.length := by
      intro f
      induction f with
      | zero => intro p l; simp [scanF]
      | succ f ih =>
        intro p l
        unfold scanF
        split
        · simp
        · rename_i h1
          split
          · rename_i h2
            have hne : l.drop (skipS false l) ≠ [] := by
              intro e
              have := congrArg List.length e
              simp at this
              omega
            have hl := oneL_len hne h2
            have hl2 := hl.2
            simp at hl2
            have hi := ih (p + skipS false l + (oneL (l.drop (skipS false l))).len) (l.drop (skipS false l + (oneL (l.drop (skipS false l))).len))
            unfold Res.cons
            split
            · simp at hi ⊢; omega
            · refine Nat.le_trans hi ?_; simp
          · simp
    have := aux (s.data.toList.length + 1) 0 s.data.toList
    refine Nat.le_trans this ?_
    simp
    omega

set_option maxHeartbeats 8000000 in
theorem scans_walk (s : ByteArray) (w : World) (hE : Env w) (hT : Tab w) :
    Calls Tryd.prog 3 #[.string s] w fun e w' => e = .returned (.bool true) ∧ Below w.heap.size w w' := by
  have HE := Lib.hid hE
  have HT := Lib.hid hT
  have HA := Lib.hid (fun W (hW : Env W) => scan_any s W hW)
  have HB := Lib.hid (fun W => rscan_any s W)
  have hlen := scanR_lenS s
  unfold ScanOut at HA HB
  obtain ⟨r, hr⟩ : ∃ r, r = scanR s := ⟨_, rfl⟩
  rw [← hr] at HA HB hlen
  obtain ⟨bd, pl, T⟩ := r
  simp only at HA HB hlen
  have HLEN := Lib.hid hlen
  have HSM := Lib.hid (fun x y W (hx : Tks W x T) (hy : Tks W y T) => same_any hx hy rfl hlen true (fun i h1 h2 => ⟨⟨rfl, rfl, rfl, rfl⟩, fun _ => rfl⟩))
  clear hE hT hr hlen
  go_enter Tryd.func3, Tryd.ntmps3
  go_wp2_with (first
    | (go_at_call 5; refine (shown_any _ HE.out HT.out).mono ?_; rintro e w1 ⟨rfl, hb1⟩; have HB1 := Lib.hid hb1; clear hb1)
    | (go_at_call 6; refine (HA.out _ (HE.out.below HB1.out)).mono ?_; rintro e w2 ⟨vw2, rfl, hb, ho⟩; have HB2 : Hid (Below w.heap.size w w2) := HB1.out.trans (hb.mono HB1.out.size); have HO2 := Lib.hid (ho.tks (by have := HLEN.out; unfold maxLen; omega)); clear hb ho HA)
    | (go_at_call 7; refine (HB.out _).mono ?_; rintro e w3 ⟨vw3, rfl, hb, ho⟩; have HB3 : Hid (Below w.heap.size w w3) := HB2.out.trans (hb.mono HB2.out.size); have HO3 := Lib.hid (HO2.out.below hb); have HP3 := Lib.hid (ho.tks (by have := HLEN.out; unfold maxLen; omega)); clear hb ho HB)
    | (go_at_call 8; refine (HSM.out _ _ _ HO3.out HP3.out).mono ?_; rintro e w4 ⟨rfl, hb4⟩; have HB4 : Hid (Below w.heap.size w w4) := HB3.out.trans (hb4.mono HB3.out.size); clear hb4 HSM))
  go_ret
  exact ⟨by first | rfl | simp, HB4.out⟩
end Go.Proofs.YtekhcaanjaoioaaDoor
