/-
  Contract of the document's Same, where the two lists are the same.
-/
import Derived.Test.YtekhcaanjaoioaaDoorKBackP
namespace Go.Proofs.YtekhcaanjaoioaaDoor
set_option linter.unusedSimpArgs false
set_option linter.unusedVariables false
set_option linter.unusedSectionVars false
set_option maxRecDepth 100000
open Go.RowKit

theorem self_beq (s : ByteArray) : (s.toList == s.toList) = true := by simp

set_option maxHeartbeats 8000000 in
theorem same_any {x y : Value} {A B : List Tk} {w : World} (hx : Tks w x A) (hy : Tks w y B) (hl : A.length = B.length) (hl2 : A.length ≤ 65536) (pl : Bool) (hA : ∀ (i : Nat) (h : i < A.length) (h' : i < B.length), Alike A[i] B[i] ∧ (pl = true → A[i].pl = B[i].pl)) :
    Calls Tryd.prog 8 #[x, y, .bool pl] w fun e w' => e = .returned (.bool true) ∧ Below w.heap.size w w' := by
  obtain ⟨ao, cap, rfl, hcap, hm⟩ := hx.form
  obtain ⟨ao2, cap2, rfl, hcap2, hm2⟩ := hy.form
  have HX := Lib.hid hx
  have HY := Lib.hid hy
  have HA := Lib.hid hA
  have HL := Lib.hid hl
  rw [← hl] at hcap2 hm2 ⊢
  unfold maxLen at hm hm2
  clear hx hy hA hl
  go_enter Tryd.func8, Tryd.ntmps8
  go_wp2_with fail
  go_loopw [7] (fun i wr => ∃ k : Nat, k ≤ A.length ∧ i = .int .i64 k ∧ Hid (Below w.heap.size w wr)) (fun i _ => A.length - (intOf i).toNat)
  case atStart => exact ⟨0, Nat.zero_le _, rfl, Below.refl _ _⟩
  case round =>
    obtain ⟨k, hk, rfl, HB⟩ := hrel
    by_cases hlt : k < A.length
    · have hltI : (k : Int) < (A.length : Int) := by omega
      have hkb : (k : Int) ≤ 65536 := by omega
      obtain ⟨ao', cap', e', -, -, hcells⟩ := HX.out.below HB.out
      cases e'
      obtain ⟨b, off, rfl, hbl, c0, c1, c2, c3, c4⟩ := hcells k hlt
      have hlt2 : k < B.length := by have := HL.out; omega
      obtain ⟨ao'', cap'', e'', -, -, hcells2⟩ := HY.out.below HB.out
      rw [← HL.out] at e''
      cases e''
      obtain ⟨b2, off2, rfl, hbl2, d0, d1, d2, d3, d4⟩ := hcells2 k hlt2
      obtain ⟨⟨e1, e2, e3, e4⟩, e5⟩ := HA.out k hlt hlt2
      obtain ⟨ta, hta⟩ : ∃ t, t = A[k] := ⟨_, rfl⟩
      obtain ⟨tb, htb⟩ : ∃ t, t = B[k] := ⟨_, rfl⟩
      rw [← hta] at c0 c1 c2 c3 c4 e1 e2 e3 e4 e5
      rw [← htb] at d0 d1 d2 d3 d4 e1 e2 e3 e4 e5
      clear hcells hcells2 hta htb
      obtain ⟨kd, st, nn, qq, pp⟩ := ta
      obtain ⟨kd', st', nn', qq', pp'⟩ := tb
      simp only at c0 c1 c2 c3 c4 d0 d1 d2 d3 d4 e1 e2 e3 e4 e5
      have hkb1 : (kd == kd') = true := by simp [e1]
      have hkn1 : (kd != kd') = false := by simp [e1]
      have hsb : (st.toList == st'.toList) = true := by simp [e2]
      have hsn : (st.toList != st'.toList) = false := by simp [e2]
      have hnb1 : (nn == nn') = true := by simp [e3]
      have hnn1 : (nn != nn') = false := by simp [e3]
      have hqb1 : (qq == qq') = true := by simp [e4]
      have hqn1 : (qq != qq') = false := by simp [e4]
      clear e1 e2 e3 e4
      cases pl
      · clear e5
        go_wp2_with fail
        try simp only [List.append]
        go_quiet (fail)
        go_wp2
        go_roundw
        case rel => exact ⟨k + 1, by omega, by go_num, HB.out.trans ((below_drewN wr nq).mono HB.out.size)⟩
        case measure => simp [intOf]; omega
      · have hpb1 : (pp == pp') = true := by simp [e5 rfl]
        have hpn1 : (pp != pp') = false := by simp [e5 rfl]
        clear e5
        go_wp2_with fail
        try simp only [List.append]
        go_quiet (fail)
        go_wp2
        go_roundw
        case rel => exact ⟨k + 1, by omega, by go_num, HB.out.trans ((below_drewN wr nq).mono HB.out.size)⟩
        case measure => simp [intOf]; omega
    · have hltI : ¬ (k : Int) < (A.length : Int) := by omega
      go_wp2
      go_ret
      exact ⟨rfl, HB.out⟩
end Go.Proofs.YtekhcaanjaoioaaDoor
