/-
  Contracts of the document's questions on a byte (lambrequinref05: blank, small, big, figure, word), and of its Skip.
-/
import Derived.Test.YtekhcaanjaoioaaGreatDoorKQuo2
import Derived.Test.YtekhcaanjaoioaaGreatDoorKScanP
namespace Go.Proofs.YtekhcaanjaoioaaGreatDoor
set_option linter.unusedSimpArgs false
set_option linter.unusedVariables false
set_option linter.unusedSectionVars false
set_option maxRecDepth 100000
open Go.RowKit

theorem byte_ne {c : UInt8} {k : Nat} (hk : k < 256) (h : ¬ (c.toNat : Int) = (k : Int)) : (c == UInt8.ofNat k) = false := by
  rw [beq_eq_false_iff_ne]
  rintro rfl
  apply h
  rw [UInt8.toNat_ofNat']
  omega
theorem byte_eq {c : UInt8} {k : Nat} (hk : k < 256) (h : (c.toNat : Int) = (k : Int)) : c = UInt8.ofNat k := by
  apply UInt8.toNat_inj.1
  rw [UInt8.toNat_ofNat']
  omega
set_option maxHeartbeats 1000000 in
theorem rsmall_any (c : UInt8) (w : World) : Calls Tryz.prog 39 #[.int .u8 (c.toNat : Int)] w fun e w' => e = .returned (.bool (smallQ c)) ∧ w' = w := by
  have hs : smallQ c = (decide ((97 : Int) ≤ (c.toNat : Int)) && decide ((c.toNat : Int) ≤ 122)) := by
    unfold smallQ
    congr 1 <;> (apply decide_eq_decide.2; omega)
  rw [hs]
  by_cases h1 : (97 : Int) ≤ (c.toNat : Int)
  · by_cases h2 : (c.toNat : Int) ≤ 122
    all_goals
      go_enter Tryz.func39, Tryz.ntmps39
      go_wp2
      go_ret
      exact ⟨by simp [h1, h2], rfl⟩
  · go_enter Tryz.func39, Tryz.ntmps39
    go_wp2
    go_ret
    exact ⟨by simp; omega, rfl⟩
set_option maxHeartbeats 1000000 in
theorem rbig_any (c : UInt8) (w : World) : Calls Tryz.prog 40 #[.int .u8 (c.toNat : Int)] w fun e w' => e = .returned (.bool (greatQ c)) ∧ w' = w := by
  have hs : greatQ c = (decide ((65 : Int) ≤ (c.toNat : Int)) && decide ((c.toNat : Int) ≤ 90)) := by
    unfold greatQ
    congr 1 <;> (apply decide_eq_decide.2; omega)
  rw [hs]
  by_cases h1 : (65 : Int) ≤ (c.toNat : Int)
  · by_cases h2 : (c.toNat : Int) ≤ 90
    all_goals
      go_enter Tryz.func40, Tryz.ntmps40
      go_wp2
      go_ret
      exact ⟨by simp [h1, h2], rfl⟩
  · go_enter Tryz.func40, Tryz.ntmps40
    go_wp2
    go_ret
    exact ⟨by simp; omega, rfl⟩
set_option maxHeartbeats 1000000 in
theorem rfigure_any (c : UInt8) (w : World) : Calls Tryz.prog 42 #[.int .u8 (c.toNat : Int)] w fun e w' => e = .returned (.bool (figureQ c)) ∧ w' = w := by
  have hs : figureQ c = (decide ((48 : Int) ≤ (c.toNat : Int)) && decide ((c.toNat : Int) ≤ 57)) := by
    unfold figureQ
    congr 1 <;> (apply decide_eq_decide.2; omega)
  rw [hs]
  by_cases h1 : (48 : Int) ≤ (c.toNat : Int)
  · by_cases h2 : (c.toNat : Int) ≤ 57
    all_goals
      go_enter Tryz.func42, Tryz.ntmps42
      go_wp2
      go_ret
      exact ⟨by simp [h1, h2], rfl⟩
  · go_enter Tryz.func42, Tryz.ntmps42
    go_wp2
    go_ret
    exact ⟨by simp; omega, rfl⟩
set_option maxHeartbeats 1000000 in
theorem rblank_any (c : UInt8) (w : World) : Calls Tryz.prog 38 #[.int .u8 (c.toNat : Int)] w fun e w' => e = .returned (.bool (blankQ c)) ∧ w' = w := by
  by_cases h1 : (c.toNat : Int) = 9
  · have hc := byte_eq (k := 9) (by decide) h1
    have hB : ((c.toNat : Int) == 9) = true := by simpa using h1
    have hq : blankQ c = true := by rw [hc]; rfl
    rw [hq]
    go_enter Tryz.func38, Tryz.ntmps38
    go_wp2
    go_ret
    exact ⟨rfl, rfl⟩
  have e1 : ((c.toNat : Int) == 9) = false := by simpa using h1
  by_cases h2 : (c.toNat : Int) = 10
  · have hc := byte_eq (k := 10) (by decide) h2
    have hB : ((c.toNat : Int) == 10) = true := by simpa using h2
    have hq : blankQ c = true := by rw [hc]; rfl
    rw [hq]
    go_enter Tryz.func38, Tryz.ntmps38
    go_wp2
    go_ret
    exact ⟨rfl, rfl⟩
  have e2 : ((c.toNat : Int) == 10) = false := by simpa using h2
  by_cases h3 : (c.toNat : Int) = 13
  · have hc := byte_eq (k := 13) (by decide) h3
    have hB : ((c.toNat : Int) == 13) = true := by simpa using h3
    have hq : blankQ c = true := by rw [hc]; rfl
    rw [hq]
    go_enter Tryz.func38, Tryz.ntmps38
    go_wp2
    go_ret
    exact ⟨rfl, rfl⟩
  have e3 : ((c.toNat : Int) == 13) = false := by simpa using h3
  by_cases h4 : (c.toNat : Int) = 32
  · have hc := byte_eq (k := 32) (by decide) h4
    have hB : ((c.toNat : Int) == 32) = true := by simpa using h4
    have hq : blankQ c = true := by rw [hc]; rfl
    rw [hq]
    go_enter Tryz.func38, Tryz.ntmps38
    go_wp2
    go_ret
    exact ⟨rfl, rfl⟩
  have e4 : ((c.toNat : Int) == 32) = false := by simpa using h4
  have hq : blankQ c = false := by
    simp only [blankQ, Bool.or_eq_false_iff]
    exact ⟨⟨⟨by first | exact byte_ne (k := 9) (by decide) h1 | exact byte_ne (k := 10) (by decide) h2 | exact byte_ne (k := 13) (by decide) h3 | exact byte_ne (k := 32) (by decide) h4, by first | exact byte_ne (k := 9) (by decide) h1 | exact byte_ne (k := 10) (by decide) h2 | exact byte_ne (k := 13) (by decide) h3 | exact byte_ne (k := 32) (by decide) h4⟩, by first | exact byte_ne (k := 9) (by decide) h1 | exact byte_ne (k := 10) (by decide) h2 | exact byte_ne (k := 13) (by decide) h3 | exact byte_ne (k := 32) (by decide) h4⟩, by first | exact byte_ne (k := 9) (by decide) h1 | exact byte_ne (k := 10) (by decide) h2 | exact byte_ne (k := 13) (by decide) h3 | exact byte_ne (k := 32) (by decide) h4⟩
  rw [hq]
  go_enter Tryz.func38, Tryz.ntmps38
  go_wp2
  go_ret
  exact ⟨rfl, rfl⟩
set_option maxHeartbeats 2000000 in
theorem rword_any (c : UInt8) (w : World) : Calls Tryz.prog 41 #[.int .u8 (c.toNat : Int)] w fun e w' => e = .returned (.bool (innerQ c)) ∧ w' = w := by
  have HS := Lib.hid (rsmall_any c w)
  have HG := Lib.hid (rbig_any c w)
  have HF := Lib.hid (rfigure_any c w)
  have h95 : (c == 95) = ((c.toNat : Int) == 95) := by
    rw [Bool.eq_iff_iff]
    simp only [beq_iff_eq]
    constructor
    · intro h; subst h; rfl
    · intro h; exact byte_eq (k := 95) (by decide) h
  have hq : innerQ c = (smallQ c || greatQ c || figureQ c || ((c.toNat : Int) == 95)) := by rw [← h95]; rfl
  rw [hq]
  cases h1 : smallQ c
  · cases h2 : greatQ c
    · cases h3 : figureQ c
      all_goals
        rw [h1] at HS
        rw [h2] at HG
        rw [h3] at HF
        go_enter Tryz.func41, Tryz.ntmps41
        go_wp2_with (first
          | (go_at_call 39; refine (HS.out).mono ?_; rintro e w1 ⟨rfl, rfl⟩; clear HS)
          | (go_at_call 40; refine (HG.out).mono ?_; rintro e w1 ⟨rfl, rfl⟩; clear HG)
          | (go_at_call 42; refine (HF.out).mono ?_; rintro e w1 ⟨rfl, rfl⟩; clear HF))
        go_ret
        exact ⟨by simp, rfl⟩
    · rw [h1] at HS
      rw [h2] at HG
      go_enter Tryz.func41, Tryz.ntmps41
      go_wp2_with (first
        | (go_at_call 39; refine (HS.out).mono ?_; rintro e w1 ⟨rfl, rfl⟩; clear HS)
        | (go_at_call 40; refine (HG.out).mono ?_; rintro e w1 ⟨rfl, rfl⟩; clear HG))
      go_ret
      exact ⟨by simp, rfl⟩
  · rw [h1] at HS
    go_enter Tryz.func41, Tryz.ntmps41
    go_wp2_with (go_at_call 39; refine (HS.out).mono ?_; rintro e w1 ⟨rfl, rfl⟩)
    go_ret
    exact ⟨by simp, rfl⟩
end Go.Proofs.YtekhcaanjaoioaaGreatDoor
