/-
  Contract of slices.rotateCmpFunc over rows: two neighbouring stretches change places.
-/
import Derived.Test.YtkkpcphmojegmaaTSwap
namespace Go.Proofs.Ytkkpcphmojegmaa
set_option linter.unusedSimpArgs false
set_option linter.unusedVariables false
set_option linter.unusedSectionVars false
set_option maxRecDepth 100000
open Go.RowKit
variable [DecidableEq V]

set_option maxHeartbeats 800000 in
theorem rotate_any {w : World} {g cap N a m b : Nat} {A X Y C : List R} (f : Value) (h : Mat w g cap (A ++ X ++ Y ++ C)) (ha : A.length = a) (hm : a + X.length = m) (hb : m + Y.length = b) (hN : N = b + C.length) (hx : 0 < X.length) (hy : 0 < Y.length) (hcap : N ≤ 1000000) :
    Calls Try.prog 62 #[.slice (some ⟨g, 0, none⟩) N cap, .int .i64 (a : Int), .int .i64 (m : Int), .int .i64 (b : Int), f] w
      fun e w' => e = .returned (.tuple #[]) ∧ Only g w w' ∧ Mat w' g cap (A ++ Y ++ X ++ C) := by
  have HM := Lib.hid h
  obtain ⟨xl, hxl⟩ : ∃ q, q = X.length := ⟨_, rfl⟩
  obtain ⟨yl, hyl⟩ : ∃ q, q = Y.length := ⟨_, rfl⟩
  have z1 : IntKind.i64.wrap ((m : Int) - (a : Int)) = (xl : Int) := by rw [IntKind.wrap_i64]; omega
  have z1' : (m : Int) - (a : Int) = (xl : Int) := by omega
  have z2 : IntKind.i64.wrap ((b : Int) - (m : Int)) = (yl : Int) := by rw [IntKind.wrap_i64]; omega
  have z2' : (b : Int) - (m : Int) = (yl : Int) := by omega
  have HL : Hid (A.length + xl = m ∧ N = m + yl + C.length ∧ 0 < xl ∧ 0 < yl ∧ X.length = xl ∧ Y.length = yl) := ⟨by omega, by omega, by omega, by omega, hxl.symm, hyl.symm⟩
  have x9 : (xl : Int) ≤ 1000000 := by omega
  have y9 : (yl : Int) ≤ 1000000 := by omega
  have m9 : (m : Int) ≤ 1000000 := by omega
  have HCap := Lib.hid hcap
  clear ha hm hb hN hx hy hxl hyl hcap
  obtain ⟨T, hT⟩ : ∃ T, T = A ++ Y ++ X ++ C := ⟨_, rfl⟩
  have HT := Lib.hid hT
  rw [← hT]
  clear h hT
  go_enter Try.func62, Try.ntmps62
  go_wp2_with fail
  go_loopw [10, 11] (fun iv jv wr => ∃ (i j : Nat) (D P Q E : List R), iv = .int .i64 i ∧ jv = .int .i64 j ∧ Hid (D.length + i = m ∧ N = m + j + E.length ∧ 0 < i ∧ 0 < j ∧ P.length = i ∧ Q.length = j) ∧ Hid (D ++ Q ++ P ++ E = T) ∧ Hid (Mat wr g cap (D ++ P ++ Q ++ E)) ∧ Hid (Only g w wr)) (fun iv jv _ => (intOf iv).toNat + (intOf jv).toNat)
  case atStart => exact ⟨xl, yl, A, X, Y, C, rfl, rfl, HL, HT.out.symm, HM, Only.refl _ _⟩
  case round =>
    clear HM HT z1 z1' z2 z2' HL
    obtain ⟨i, j, D, P, Q, E, rfl, rfl, HL, HT, HM, HO⟩ := hrel
    obtain ⟨hD, hE, hi, hj, hP, hQ⟩ := HL.out
    have hcap := HCap.out
    obtain ⟨dl, hdl⟩ : ∃ q, q = D.length := ⟨_, rfl⟩
    have s1 : IntKind.i64.wrap ((m : Int) - (i : Int)) = (dl : Int) := by rw [IntKind.wrap_i64]; omega
    have s1' : (m : Int) - (i : Int) = (dl : Int) := by omega
    have i9 : (i : Int) ≤ 1000000 := by omega
    have j9 : (j : Int) ≤ 1000000 := by omega
    have d9 : (dl : Int) ≤ 1000000 := by omega
    by_cases hij : i = j
    · subst hij
      have hS := Lib.hid (swapRange_any f (A := D) (X := P) (B := []) (Y := Q) (C := E) (a := dl) (b := m) (n := i) (N := N) (by simpa using HM.out) hdl.symm (by simp; omega) hP hQ hE hcap)
      clear hD hE hi hj hP hQ hdl hcap
      go_wp2_with fail
      refine (hS.out).mono ?_
      rintro e w2 ⟨rfl, ho, hm2⟩
      have HO2 := Lib.hid (HO.out.trans ho)
      have HM2 : Hid (Mat w2 g cap T) := by show Mat w2 g cap T; rw [← HT.out]; simpa using hm2
      clear ho hm2 HM HT hS
      go_wp2
      refine bodyPost_end (results_none rfl _ _ _) rfl ?_
      exact ⟨rfl, HO2.out, HM2.out⟩
    · have hne : ((i : Int) == (j : Int)) = false := by rw [beq_eq_false_iff_ne]; omega
      by_cases hgt : i > j
      · have hgI : (i : Int) > (j : Int) := by omega
        have e1 : P = P.take j ++ P.drop j := (List.take_append_drop j P).symm
        have hS := Lib.hid (swapRange_any f (A := D) (X := P.take j) (B := P.drop j) (Y := Q) (C := E) (a := dl) (b := m) (n := j) (N := N) (by have := HM.out; rw [e1] at this; simpa using this) hdl.symm (by simp; omega) (by simp; omega) hQ hE hcap)
        have HT2 : Hid ((D ++ Q) ++ P.take j ++ P.drop j ++ E = T) := by rw [Hid, ← HT.out]; simp
        have s2 : IntKind.i64.wrap ((i : Int) - (j : Int)) = ((i - j : Nat) : Int) := by rw [IntKind.wrap_i64]; omega
        have s2' : (i : Int) - (j : Int) = ((i - j : Nat) : Int) := by omega
        obtain ⟨d, hd⟩ : ∃ q, q = i - j := ⟨_, rfl⟩
        rw [← hd] at s2 s2'
        have e9 : (d : Int) ≤ 1000000 := by omega
        have HL2 : Hid ((D ++ Q).length + d = m ∧ N = m + j + E.length ∧ 0 < d ∧ 0 < j ∧ (P.drop j).length = d ∧ (P.take j).length = j) := ⟨by simp; omega, hE, by omega, hj, by simp; omega, by simp; omega⟩
        have hds : Hid (d < i) := by show d < i; omega
        clear e1 HT hD hE hi hj hP hQ hdl hcap hd hij
        go_wp2_with fail
        refine (hS.out).mono ?_
        rintro e w2 ⟨rfl, ho, hm2⟩
        have HO2 := Lib.hid (HO.out.trans ho)
        have HM2 := Lib.hid hm2
        clear ho hm2 HM hS HO
        go_wp2
        go_roundw
        case rel => exact ⟨d, j, D ++ Q, P.drop j, P.take j, E, by first | rfl | go_num, rfl, HL2, HT2, HM2, HO2⟩
        case measure => have := hds.out; simp [intOf]; omega
      · have hgI : ¬ (i : Int) > (j : Int) := by omega
        have e1 : Q = Q.take (j - i) ++ Q.drop (j - i) := (List.take_append_drop (j - i) Q).symm
        obtain ⟨b2, hb2⟩ : ∃ q, q = m + j - i := ⟨_, rfl⟩
        have l1 : (Q.take (j - i)).length = j - i := by simp; omega
        have l2 : (Q.drop (j - i)).length = i := by simp; omega
        have hS := Lib.hid (swapRange_any f (A := D) (X := P) (B := Q.take (j - i)) (Y := Q.drop (j - i)) (C := E) (a := dl) (b := b2) (n := i) (N := N) (by have := HM.out; rw [e1] at this; simpa using this) hdl.symm (by rw [l1]; omega) hP l2 (by omega) hcap)
        have HT2 : Hid (D ++ Q.take (j - i) ++ Q.drop (j - i) ++ (P ++ E) = T) := by
          rw [Hid, ← HT.out]
          have : D ++ Q ++ P ++ E = D ++ (Q.take (j - i) ++ Q.drop (j - i)) ++ P ++ E := by rw [← e1]
          rw [this]; simp
        have s2 : IntKind.i64.wrap ((j : Int) - (i : Int)) = ((j - i : Nat) : Int) := by rw [IntKind.wrap_i64]; omega
        have s2' : (j : Int) - (i : Int) = ((j - i : Nat) : Int) := by omega
        obtain ⟨d, hd⟩ : ∃ q, q = j - i := ⟨_, rfl⟩
        rw [← hd] at s2 s2'
        have e9 : (d : Int) ≤ 1000000 := by omega
        have HL2 : Hid (D.length + i = m ∧ N = m + d + (P ++ E).length ∧ 0 < i ∧ 0 < d ∧ (Q.drop (j - i)).length = i ∧ (Q.take (j - i)).length = d) := ⟨hD, by simp; omega, hi, by omega, l2, by omega⟩
        have hds : Hid (d < j) := by show d < j; omega
        have s3 : IntKind.i64.wrap ((m : Int) + (j : Int)) = (m : Int) + (j : Int) := by rw [IntKind.wrap_i64]; omega
        have s4 : IntKind.i64.wrap ((m : Int) + (j : Int) - (i : Int)) = (b2 : Int) := by rw [IntKind.wrap_i64]; omega
        have s4' : (m : Int) + (j : Int) - (i : Int) = (b2 : Int) := by omega
        have f9 : (b2 : Int) ≤ 1000000 := by omega
        clear e1 HT hD hE hi hj hP hQ hdl hcap hd hij hb2 l1 l2
        go_wp2_with fail
        refine (hS.out).mono ?_
        rintro e w2 ⟨rfl, ho, hm2⟩
        have HO2 := Lib.hid (HO.out.trans ho)
        have HM2 : Hid (Mat w2 g cap (D ++ Q.drop (j - i) ++ Q.take (j - i) ++ (P ++ E))) := by rw [Hid]; simpa using hm2
        clear ho hm2 HM hS HO
        go_wp2
        go_roundw
        case rel => exact ⟨i, d, D, Q.drop (j - i), Q.take (j - i), P ++ E, rfl, by first | rfl | go_num, HL2, HT2, HM2, HO2⟩
        case measure => have := hds.out; simp [intOf]; omega
end Go.Proofs.Ytkkpcphmojegmaa
