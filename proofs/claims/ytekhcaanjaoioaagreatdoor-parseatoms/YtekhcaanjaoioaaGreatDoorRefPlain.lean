/-
  Contract of the document's Plain (lambrequinref01): the same as the program's.
-/
import Derived.Test.YtekhcaanjaoioaaGreatDoorPlain
import Derived.Lib.Hide
namespace Go.Proofs.YtekhcaanjaoioaaGreatDoor
set_option linter.unusedSimpArgs false
set_option linter.unusedVariables false
set_option linter.unusedSectionVars false
set_option maxRecDepth 100000
open Go.RowKit

set_option maxRecDepth 100000 in
set_option maxHeartbeats 2000000 in
theorem refPlain_any (s : ByteArray) (w : World) (hs : s.size ≤ maxLen) :
    Calls Tryz.prog 45 #[.string s] w fun e w' => e = .returned (.bool (plainL s.data.toList)) ∧ w' = w := by
  unfold maxLen at hs
  by_cases h0 : s.size = 0
  · have e := plain_empty h0
    obtain rfl : s = ByteArray.empty := by simpa using h0
    rw [e]; clear e
    go_enter Tryz.func45, Tryz.ntmps45
    go_wp2
    go_ret
    exact ⟨rfl, rfl⟩
  · by_cases hn : s.data.toList = [110, 111, 116]
    · obtain ⟨⟨d⟩⟩ := s
      simp only at hn
      subst hn
      go_enter Tryz.func45, Tryz.ntmps45
      go_wp2
      go_ret
      exact ⟨rfl, rfl⟩
    · have hN : (s.toList == [110, 111, 116]) = false := by
        rw [toList_data, beq_eq_false_iff_ne]
        exact hn
      have h0' : 0 < s.size := by omega
      have h0I : ((s.size : Int) == 0) = false := beq_eq_false_iff_ne.2 (by omega)
      have HN : Hid (¬ s.data.toList = [110, 111, 116]) := hn
      clear hn h0
      go_enter Tryz.func45, Tryz.ntmps45
      go_wp2
      go_loop [3] (fun i => ∃ pos : Nat, pos ≤ s.size ∧ i = .int .i64 pos ∧ Hid ((0 < pos → smallB ((s[0]'h0').toNat : Int) = true) ∧ ∀ k (hk : k < s.size), k < pos → nameB ((s[k]'hk).toNat : Int) = true)) (fun i => s.size - (intOf i).toNat)
      case atStart => exact ⟨0, Nat.zero_le _, rfl, ⟨fun h => absurd h (Nat.lt_irrefl _), fun _ _ h => absurd h (Nat.not_lt_zero _)⟩⟩
      case round =>
        obtain ⟨pos, hps, rfl, HA⟩ := hrel
        by_cases hp : pos < s.size
        · have hpI : (pos : Int) < (s.size : Int) := by omega
          obtain ⟨c, hc⟩ : ∃ c : Int, ((s[pos]'hp).toNat : Int) = c := ⟨_, rfl⟩
          have hc0 : 0 ≤ c := by omega
          have F : ((c ≤ 47 ∨ (58 ≤ c ∧ c ≤ 64) ∨ (91 ≤ c ∧ c ≤ 94) ∨ (96 ≤ c ∧ c ≤ 96) ∨ 123 ≤ c) ∧ nameB c = false) ∨ (((65 ≤ c ∧ c ≤ 90) ∨ (48 ≤ c ∧ c ≤ 57) ∨ (95 ≤ c ∧ c ≤ 95)) ∧ nameB c = true ∧ smallB c = false) ∨ ((97 ≤ c ∧ c ≤ 122) ∧ nameB c = true ∧ smallB c = true) := by
            have hn : nameB c = true ↔ (97 ≤ c ∧ c ≤ 122) ∨ (65 ≤ c ∧ c ≤ 90) ∨ (48 ≤ c ∧ c ≤ 57) ∨ c = 95 := by
              simp only [nameB, smallB, Bool.or_eq_true, Bool.and_eq_true, decide_eq_true_eq, beq_iff_eq]; omega
            have hm : smallB c = true ↔ (97 ≤ c ∧ c ≤ 122) := by simp only [smallB, Bool.and_eq_true, decide_eq_true_eq]
            rw [← Bool.not_eq_true, ← Bool.not_eq_true, hn, hm]
            omega
          have hz : (((pos : Int) == 0) = true ∧ pos = 0) ∨ (((pos : Int) == 0) = false ∧ ¬ pos = 0) := by
            by_cases h : pos = 0
            · exact .inl ⟨by simp [h], h⟩
            · exact .inr ⟨by simp [h], h⟩
          rcases F with ⟨F, hname⟩ | ⟨F, hname, hsm⟩ | ⟨⟨f1, f2⟩, hname, hsm⟩
          · have E : Hid (plainL s.data.toList = false) := plain_bad hp (by rw [hc]; exact hname)
            have hz' : ((pos : Int) == 0) = true ∨ ((pos : Int) == 0) = false := hz.imp And.left And.left
            clear hname HA HN hz
            rcases F with f | f | f | f | f <;> rcases hz' with hz2 | hz2
            all_goals
              first | (have e1 : decide (97 ≤ c) = true := decide_eq_true (by omega)) | (have e1 : decide (97 ≤ c) = false := decide_eq_false (by omega))
              first | (have e2 : decide (c ≤ 122) = true := decide_eq_true (by omega)) | (have e2 : decide (c ≤ 122) = false := decide_eq_false (by omega))
              first | (have e3 : decide (65 ≤ c) = true := decide_eq_true (by omega)) | (have e3 : decide (65 ≤ c) = false := decide_eq_false (by omega))
              first | (have e4 : decide (c ≤ 90) = true := decide_eq_true (by omega)) | (have e4 : decide (c ≤ 90) = false := decide_eq_false (by omega))
              first | (have e5 : decide (48 ≤ c) = true := decide_eq_true (by omega)) | (have e5 : decide (48 ≤ c) = false := decide_eq_false (by omega))
              first | (have e6 : decide (c ≤ 57) = true := decide_eq_true (by omega)) | (have e6 : decide (c ≤ 57) = false := decide_eq_false (by omega))
              first | (have e7 : (c == 95) = true := beq_iff_eq.2 (by omega)) | (have e7 : (c == 95) = false := beq_eq_false_iff_ne.2 (by omega))
              clear f
              go_wp2
              go_ret
              exact ⟨ret_bool E.out.symm, rfl⟩
          · rcases hz with ⟨hz2, rfl⟩ | ⟨hz2, hz3⟩
            · have E : Hid (plainL s.data.toList = false) := plain_first h0' (by rw [hc]; exact hsm)
              clear hname hsm HA HN
              rcases F with f | f | f
              all_goals
                first | (have e1 : decide (97 ≤ c) = true := decide_eq_true (by omega)) | (have e1 : decide (97 ≤ c) = false := decide_eq_false (by omega))
                first | (have e2 : decide (c ≤ 122) = true := decide_eq_true (by omega)) | (have e2 : decide (c ≤ 122) = false := decide_eq_false (by omega))
                first | (have e3 : decide (65 ≤ c) = true := decide_eq_true (by omega)) | (have e3 : decide (65 ≤ c) = false := decide_eq_false (by omega))
                first | (have e4 : decide (c ≤ 90) = true := decide_eq_true (by omega)) | (have e4 : decide (c ≤ 90) = false := decide_eq_false (by omega))
                first | (have e5 : decide (48 ≤ c) = true := decide_eq_true (by omega)) | (have e5 : decide (48 ≤ c) = false := decide_eq_false (by omega))
                first | (have e6 : decide (c ≤ 57) = true := decide_eq_true (by omega)) | (have e6 : decide (c ≤ 57) = false := decide_eq_false (by omega))
                first | (have e7 : (c == 95) = true := beq_iff_eq.2 (by omega)) | (have e7 : (c == 95) = false := beq_eq_false_iff_ne.2 (by omega))
                clear f
                go_wp2
                go_ret
                exact ⟨ret_bool E.out.symm, rfl⟩
            · have HQ : Hid ((0 < pos + 1 → smallB ((s[0]'h0').toNat : Int) = true) ∧ ∀ k (hk : k < s.size), k < pos + 1 → nameB ((s[k]'hk).toNat : Int) = true) := by
                refine ⟨fun _ => HA.out.1 (by omega), fun k hk h => ?_⟩
                by_cases hkp : k = pos
                · subst hkp; rw [hc]; exact hname
                · exact HA.out.2 k hk (by omega)
              clear hname hsm HA HN hz3
              rcases F with f | f | f
              all_goals
                first | (have e1 : decide (97 ≤ c) = true := decide_eq_true (by omega)) | (have e1 : decide (97 ≤ c) = false := decide_eq_false (by omega))
                first | (have e2 : decide (c ≤ 122) = true := decide_eq_true (by omega)) | (have e2 : decide (c ≤ 122) = false := decide_eq_false (by omega))
                first | (have e3 : decide (65 ≤ c) = true := decide_eq_true (by omega)) | (have e3 : decide (65 ≤ c) = false := decide_eq_false (by omega))
                first | (have e4 : decide (c ≤ 90) = true := decide_eq_true (by omega)) | (have e4 : decide (c ≤ 90) = false := decide_eq_false (by omega))
                first | (have e5 : decide (48 ≤ c) = true := decide_eq_true (by omega)) | (have e5 : decide (48 ≤ c) = false := decide_eq_false (by omega))
                first | (have e6 : decide (c ≤ 57) = true := decide_eq_true (by omega)) | (have e6 : decide (c ≤ 57) = false := decide_eq_false (by omega))
                first | (have e7 : (c == 95) = true := beq_iff_eq.2 (by omega)) | (have e7 : (c == 95) = false := beq_eq_false_iff_ne.2 (by omega))
                clear f
                go_wp2
                go_round
                case rel => exact ⟨pos + 1, by omega, by go_num, HQ⟩
                case measure => simp [intOf]; omega
          · have HQ : Hid ((0 < pos + 1 → smallB ((s[0]'h0').toNat : Int) = true) ∧ ∀ k (hk : k < s.size), k < pos + 1 → nameB ((s[k]'hk).toNat : Int) = true) := by
              refine ⟨fun _ => ?_, fun k hk h => ?_⟩
              · rcases hz with ⟨-, rfl⟩ | ⟨-, hz3⟩
                · rw [hc]; exact hsm
                · exact HA.out.1 (by omega)
              · by_cases hkp : k = pos
                · subst hkp; rw [hc]; exact hname
                · exact HA.out.2 k hk (by omega)
            clear hname hsm HA HN hz
            first | (have e1 : decide (97 ≤ c) = true := decide_eq_true (by omega)) | (have e1 : decide (97 ≤ c) = false := decide_eq_false (by omega))
            first | (have e2 : decide (c ≤ 122) = true := decide_eq_true (by omega)) | (have e2 : decide (c ≤ 122) = false := decide_eq_false (by omega))
            first | (have e3 : decide (65 ≤ c) = true := decide_eq_true (by omega)) | (have e3 : decide (65 ≤ c) = false := decide_eq_false (by omega))
            first | (have e4 : decide (c ≤ 90) = true := decide_eq_true (by omega)) | (have e4 : decide (c ≤ 90) = false := decide_eq_false (by omega))
            first | (have e5 : decide (48 ≤ c) = true := decide_eq_true (by omega)) | (have e5 : decide (48 ≤ c) = false := decide_eq_false (by omega))
            first | (have e6 : decide (c ≤ 57) = true := decide_eq_true (by omega)) | (have e6 : decide (c ≤ 57) = false := decide_eq_false (by omega))
            first | (have e7 : (c == 95) = true := beq_iff_eq.2 (by omega)) | (have e7 : (c == 95) = false := beq_eq_false_iff_ne.2 (by omega))
            clear f1 f2
            go_wp2
            go_round
            case rel => exact ⟨pos + 1, by omega, by go_num, HQ⟩
            case measure => simp [intOf]; omega
        · have hpI : ¬ (pos : Int) < (s.size : Int) := by omega
          have E : Hid (plainL s.data.toList = true) := plain_yes h0' HN.out (HA.out.1 (by omega)) (fun k hk => HA.out.2 k hk (by omega))
          clear HA
          go_wp2
          go_ret
          exact ⟨ret_bool E.out.symm, rfl⟩
end Go.Proofs.YtekhcaanjaoioaaGreatDoor
