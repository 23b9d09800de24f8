/-
  ParseMost's walk.
-/
import Derived.Test.YtfpamkijkaeafaaDoorGMostW
namespace Go.Proofs.YtfpamkijkaeafaaDoor
set_option linter.unusedSimpArgs false
set_option linter.unusedVariables false
set_option linter.unusedSectionVars false
set_option maxRecDepth 100000
open Go.RowKit Go.Maps

def repB (l : List UInt8) (i : Nat) : ByteArray := ⟨(rep l (i - 1)).toArray⟩
theorem repB_next (l : List UInt8) (i : Nat) (h : 1 ≤ i) : repB l i ++ ⟨#[44, 97]⟩ = repB l (i + 1) := by
  unfold repB
  rw [rep_add, show i + 1 - 1 = i - 1 + 1 by omega]
theorem repB_size (l : List UInt8) (i : Nat) (hl : l.length ≤ 4) (h : i ≤ 13) : ((repB l i).size : Int) ≤ 40 := by
  unfold repB
  simp [ByteArray.size, rep_len]
  omega
theorem repB_one (l : List UInt8) (c : UInt8) (n : Nat) : repB l (n + 1) ++ ⟨#[c]⟩ = repS l n c := by
  unfold repB
  rw [rep_end]; simp

set_option maxHeartbeats 16000000 in
theorem most_few (n m : Int) (w : World) (K J : Nat) (hK : n % 9 = (K : Int)) (hK9 : K < 9) (hJ : m % 12 = (J : Int)) (hJ12 : J < 12) (hJ8 : J < 8) (ln : 0 ≤ n) (un : n ≤ 255) (lm : 0 ≤ m) (um : m ≤ 255) (hE : PEnv w) :
    Calls Tryd.prog 4 #[.int .u8 n, .int .u8 m] w fun e w' => e = .returned (.bool true) ∧ Below w.heap.size w w' := by
  have HE := Lib.hid hE
  have HPA : Hid (∀ W, PEnv W → Calls Tryd.prog 8 #[.string (repB [112, 40, 97] (K + 1) ++ ⟨#[41]⟩)] W fun e w' => ParseAOut W (atomR (repS [112, 40, 97] K 41)) e w') := fun W hW => by
    rw [repB_one]
    exact parseA_any _ W hW (by unfold repS maxLen; simp [ByteArray.size, rep_len]; omega)
  have HPP : Hid (∀ W, PEnv W → Calls Tryd.prog 7 #[.string (repB [112, 58, 45, 97] (J + 1) ++ ⟨#[46]⟩)] W fun e w' => ParseOut W (parseR (repS [112, 58, 45, 97] J 46)) e w') := fun W hW => by
    rw [repB_one]
    exact parse_any _ W hW (by unfold repS maxLen; simp [ByteArray.size, rep_len]; omega)
  have HR1 := Lib.hid (repB_next [112, 40, 97])
  have HR2 := Lib.hid (repB_next [112, 58, 45, 97])
  have hj1 : (1 : Int) + (J : Int) ≤ 8 := by omega
  have hmp := most_prog J hJ12
  rw [if_pos hJ8] at hmp
  obtain ⟨hpb, hpp, hpr⟩ := hmp
  obtain ⟨rp, hrp⟩ : ∃ r, r = parseR (repS [112, 58, 45, 97] J 46) := ⟨_, rfl⟩
  rw [← hrp] at hpb hpp hpr
  rw [← hrp] at HPP
  obtain ⟨bp, pp, gp⟩ := rp
  simp only [ParseOut] at HPP hpb hpp hpr
  subst hpb hpp
  have HPR := Lib.hid hpr
  clear hrp hJ8 hE hpr
  have hma := most_atom K hK9
  obtain ⟨ra, hra⟩ : ∃ r, r = atomR (repS [112, 40, 97] K 41) := ⟨_, rfl⟩
  rw [← hra] at hma HPA
  clear hra
  obtain ⟨ba, pa, ga⟩ := ra
  simp only [ParseAOut] at HPA hma
  have hk : ((1 : Int) + (K : Int) ≤ 6 ∧ ba = 0 ∧ pa = 0) ∨ (¬ (1 : Int) + (K : Int) ≤ 6 ∧ ba = 4 ∧ pa = 14) := by
    by_cases h : K < 6
    · rw [if_pos h] at hma; exact .inl ⟨by omega, hma⟩
    · rw [if_neg h] at hma; exact .inr ⟨by omega, hma⟩
  clear hma
  rcases hk with ⟨hk1, rfl, rfl⟩ | ⟨hk1, rfl, rfl⟩
  all_goals
    go_enter Tryd.func4, Tryd.ntmps4
    go_wp2_with (go_at_call 6; refine (shown_any _ HE.out).mono ?_; rintro e w1 ⟨rfl, hb1⟩; have HB1 := Lib.hid hb1; clear hb1)
    go_loopw [7, 8] (fun sv iv wr => ∃ k : Nat, 1 ≤ k ∧ k ≤ K + 1 ∧ sv = .string (repB [112, 40, 97] k) ∧ iv = .int .i64 (k : Int) ∧ Hid (Below w.heap.size w wr)) (fun _ iv _ => K + 1 - (intOf iv).toNat)
    case atStart => exact ⟨1, Nat.le_refl _, by omega, rfl, rfl, HB1.out⟩
    case round =>
      obtain ⟨k, hk0, hkk, rfl, rfl, HB⟩ := hrel
      by_cases hlt : k < K + 1
      · have hltI : (k : Int) < 1 + (K : Int) := by omega
        have hkb : (k : Int) ≤ 13 := by omega
        have HCAT := Lib.hid (HR1.out k hk0)
        have hxs := repB_size [112, 40, 97] k (by decide) (by omega)
        obtain ⟨x, hx⟩ : ∃ x, x = repB [112, 40, 97] k := ⟨_, rfl⟩
        rw [← hx] at hxs HCAT ⊢
        clear hx
        go_wp2
        go_roundw
        case rel => exact ⟨k + 1, by omega, by omega, by rw [← HCAT.out], by go_num, HB.out⟩
        case measure => simp [intOf]; omega
      · have hltI : ¬ (k : Int) < 1 + (K : Int) := by omega
        obtain rfl : k = K + 1 := by omega
        have hxs := repB_size [112, 40, 97] (K + 1) (by decide) (by omega)
        obtain ⟨x, hx⟩ : ∃ x, x = repB [112, 40, 97] (K + 1) := ⟨_, rfl⟩
        rw [← hx] at hxs HPA ⊢
        have hki : ((K + 1 : Nat) : Int) = 1 + (K : Int) := by omega
        rw [hki]
        clear hx hltI hki hlt hk0 hkk
        go_wp2_with (go_at_call 8; refine (HPA.out _ (HE.out.below HB.out)).mono ?_; rintro e w3 ⟨x3, rfl, hb3, hd3⟩; obtain ⟨ao3, cap3, hx3, -⟩ := hd3.cells; subst hx3; have HB3 := Lib.hid (HB.out.trans (hb3.mono HB.out.size)); have HB3' := Lib.hid (HB3.out.alloc HB3.out.size (.cells #[.string ga.p, .slice ao3 ga.args.length cap3] 33)); clear hb3 hd3 HPA)
        go_loopw [13, 14] (fun sv iv wr => ∃ k : Nat, 1 ≤ k ∧ k ≤ J + 1 ∧ sv = .string (repB [112, 58, 45, 97] k) ∧ iv = .int .i64 (k : Int) ∧ Hid (Below w.heap.size w wr)) (fun _ iv _ => J + 1 - (intOf iv).toNat)
        case atStart => exact ⟨1, Nat.le_refl _, by omega, rfl, rfl, HB3'.out⟩
        case round =>
          obtain ⟨j, hj0, hjj, rfl, rfl, HB4⟩ := hrel
          by_cases hlt2 : j < J + 1
          · have hltJ : (j : Int) < 1 + (J : Int) := by omega
            have hjb : (j : Int) ≤ 13 := by omega
            have HCAT := Lib.hid (HR2.out j hj0)
            have hys := repB_size [112, 58, 45, 97] j (by decide) (by omega)
            obtain ⟨y, hy⟩ : ∃ y, y = repB [112, 58, 45, 97] j := ⟨_, rfl⟩
            rw [← hy] at hys HCAT ⊢
            clear hy
            go_wp2
            go_roundw
            case rel => exact ⟨j + 1, by omega, by omega, by rw [← HCAT.out], by go_num, HB4.out⟩
            case measure => simp [intOf]; omega
          · have hltJ : ¬ (j : Int) < 1 + (J : Int) := by omega
            obtain rfl : j = J + 1 := by omega
            have hys := repB_size [112, 58, 45, 97] (J + 1) (by decide) (by omega)
            obtain ⟨y, hy⟩ : ∃ y, y = repB [112, 58, 45, 97] (J + 1) := ⟨_, rfl⟩
            rw [← hy] at hys HPP ⊢
            have hji : ((J + 1 : Nat) : Int) = 1 + (J : Int) := by omega
            rw [hji]
            clear hy hltJ hji hlt2 hj0 hjj
            have hjj2 : ((J : Int) + 1 == 1 + (J : Int)) = true := by simp; omega
            go_wp2_with (go_at_call 7; refine (HPP.out _ (HE.out.below HB4.out)).mono ?_; rintro e w5 ⟨x5, y5, rfl, hb5, hd5, hu5⟩; obtain ⟨xo, xc, hx, -⟩ := hd5.cells; subst hx; obtain ⟨g1, c1, xx, c2, hy, k1, d0⟩ := one_rule_mem (hu5.below keepRu (al_below w5 (.cells #[.slice xo gp.decls.length xc, y5] 26))) HPR.out; subst hy; have HB5 := Lib.hid (HB4.out.trans (hb5.mono HB4.out.size)); clear hb5 hd5 hu5 HPP)
            go_ret
            exact ⟨by first | rfl | (simp; omega), HB5.out.alloc HB5.out.size _⟩

set_option maxHeartbeats 16000000 in
theorem most_many (n m : Int) (w : World) (K J : Nat) (hK : n % 9 = (K : Int)) (hK9 : K < 9) (hJ : m % 12 = (J : Int)) (hJ12 : J < 12) (hJ8 : ¬ J < 8) (ln : 0 ≤ n) (un : n ≤ 255) (lm : 0 ≤ m) (um : m ≤ 255) (hE : PEnv w) :
    Calls Tryd.prog 4 #[.int .u8 n, .int .u8 m] w fun e w' => e = .returned (.bool true) ∧ Below w.heap.size w w' := by
  have HE := Lib.hid hE
  have HPA : Hid (∀ W, PEnv W → Calls Tryd.prog 8 #[.string (repB [112, 40, 97] (K + 1) ++ ⟨#[41]⟩)] W fun e w' => ParseAOut W (atomR (repS [112, 40, 97] K 41)) e w') := fun W hW => by
    rw [repB_one]
    exact parseA_any _ W hW (by unfold repS maxLen; simp [ByteArray.size, rep_len]; omega)
  have HPP : Hid (∀ W, PEnv W → Calls Tryd.prog 7 #[.string (repB [112, 58, 45, 97] (J + 1) ++ ⟨#[46]⟩)] W fun e w' => ParseOut W (parseR (repS [112, 58, 45, 97] J 46)) e w') := fun W hW => by
    rw [repB_one]
    exact parse_any _ W hW (by unfold repS maxLen; simp [ByteArray.size, rep_len]; omega)
  have HR1 := Lib.hid (repB_next [112, 40, 97])
  have HR2 := Lib.hid (repB_next [112, 58, 45, 97])
  have hj1 : ¬ (1 : Int) + (J : Int) ≤ 8 := by omega
  have hmp := most_prog J hJ12
  rw [if_neg hJ8] at hmp
  obtain ⟨hpb, hpp⟩ := hmp
  obtain ⟨rp, hrp⟩ : ∃ r, r = parseR (repS [112, 58, 45, 97] J 46) := ⟨_, rfl⟩
  rw [← hrp] at hpb hpp
  rw [← hrp] at HPP
  obtain ⟨bp, pp, gp⟩ := rp
  simp only [ParseOut] at HPP hpb hpp
  subst hpb hpp
  clear hrp hJ8 hE
  have hma := most_atom K hK9
  obtain ⟨ra, hra⟩ : ∃ r, r = atomR (repS [112, 40, 97] K 41) := ⟨_, rfl⟩
  rw [← hra] at hma HPA
  clear hra
  obtain ⟨ba, pa, ga⟩ := ra
  simp only [ParseAOut] at HPA hma
  have hk : ((1 : Int) + (K : Int) ≤ 6 ∧ ba = 0 ∧ pa = 0) ∨ (¬ (1 : Int) + (K : Int) ≤ 6 ∧ ba = 4 ∧ pa = 14) := by
    by_cases h : K < 6
    · rw [if_pos h] at hma; exact .inl ⟨by omega, hma⟩
    · rw [if_neg h] at hma; exact .inr ⟨by omega, hma⟩
  clear hma
  rcases hk with ⟨hk1, rfl, rfl⟩ | ⟨hk1, rfl, rfl⟩
  all_goals
    go_enter Tryd.func4, Tryd.ntmps4
    go_wp2_with (go_at_call 6; refine (shown_any _ HE.out).mono ?_; rintro e w1 ⟨rfl, hb1⟩; have HB1 := Lib.hid hb1; clear hb1)
    go_loopw [7, 8] (fun sv iv wr => ∃ k : Nat, 1 ≤ k ∧ k ≤ K + 1 ∧ sv = .string (repB [112, 40, 97] k) ∧ iv = .int .i64 (k : Int) ∧ Hid (Below w.heap.size w wr)) (fun _ iv _ => K + 1 - (intOf iv).toNat)
    case atStart => exact ⟨1, Nat.le_refl _, by omega, rfl, rfl, HB1.out⟩
    case round =>
      obtain ⟨k, hk0, hkk, rfl, rfl, HB⟩ := hrel
      by_cases hlt : k < K + 1
      · have hltI : (k : Int) < 1 + (K : Int) := by omega
        have hkb : (k : Int) ≤ 13 := by omega
        have HCAT := Lib.hid (HR1.out k hk0)
        have hxs := repB_size [112, 40, 97] k (by decide) (by omega)
        obtain ⟨x, hx⟩ : ∃ x, x = repB [112, 40, 97] k := ⟨_, rfl⟩
        rw [← hx] at hxs HCAT ⊢
        clear hx
        go_wp2
        go_roundw
        case rel => exact ⟨k + 1, by omega, by omega, by rw [← HCAT.out], by go_num, HB.out⟩
        case measure => simp [intOf]; omega
      · have hltI : ¬ (k : Int) < 1 + (K : Int) := by omega
        obtain rfl : k = K + 1 := by omega
        have hxs := repB_size [112, 40, 97] (K + 1) (by decide) (by omega)
        obtain ⟨x, hx⟩ : ∃ x, x = repB [112, 40, 97] (K + 1) := ⟨_, rfl⟩
        rw [← hx] at hxs HPA ⊢
        have hki : ((K + 1 : Nat) : Int) = 1 + (K : Int) := by omega
        rw [hki]
        clear hx hltI hki hlt hk0 hkk
        go_wp2_with (go_at_call 8; refine (HPA.out _ (HE.out.below HB.out)).mono ?_; rintro e w3 ⟨x3, rfl, hb3, hd3⟩; obtain ⟨ao3, cap3, hx3, -⟩ := hd3.cells; subst hx3; have HB3 := Lib.hid (HB.out.trans (hb3.mono HB.out.size)); have HB3' := Lib.hid (HB3.out.alloc HB3.out.size (.cells #[.string ga.p, .slice ao3 ga.args.length cap3] 33)); clear hb3 hd3 HPA)
        go_loopw [13, 14] (fun sv iv wr => ∃ k : Nat, 1 ≤ k ∧ k ≤ J + 1 ∧ sv = .string (repB [112, 58, 45, 97] k) ∧ iv = .int .i64 (k : Int) ∧ Hid (Below w.heap.size w wr)) (fun _ iv _ => J + 1 - (intOf iv).toNat)
        case atStart => exact ⟨1, Nat.le_refl _, by omega, rfl, rfl, HB3'.out⟩
        case round =>
          obtain ⟨j, hj0, hjj, rfl, rfl, HB4⟩ := hrel
          by_cases hlt2 : j < J + 1
          · have hltJ : (j : Int) < 1 + (J : Int) := by omega
            have hjb : (j : Int) ≤ 13 := by omega
            have HCAT := Lib.hid (HR2.out j hj0)
            have hys := repB_size [112, 58, 45, 97] j (by decide) (by omega)
            obtain ⟨y, hy⟩ : ∃ y, y = repB [112, 58, 45, 97] j := ⟨_, rfl⟩
            rw [← hy] at hys HCAT ⊢
            clear hy
            go_wp2
            go_roundw
            case rel => exact ⟨j + 1, by omega, by omega, by rw [← HCAT.out], by go_num, HB4.out⟩
            case measure => simp [intOf]; omega
          · have hltJ : ¬ (j : Int) < 1 + (J : Int) := by omega
            obtain rfl : j = J + 1 := by omega
            have hys := repB_size [112, 58, 45, 97] (J + 1) (by decide) (by omega)
            obtain ⟨y, hy⟩ : ∃ y, y = repB [112, 58, 45, 97] (J + 1) := ⟨_, rfl⟩
            rw [← hy] at hys HPP ⊢
            have hji : ((J + 1 : Nat) : Int) = 1 + (J : Int) := by omega
            rw [hji]
            clear hy hltJ hji hlt2 hj0 hjj
            
            go_wp2_with (go_at_call 7; refine (HPP.out _ (HE.out.below HB4.out)).mono ?_; rintro e w5 ⟨x5, y5, rfl, hb5, hd5, hu5⟩; obtain ⟨xo, xc, hx, -⟩ := hd5.cells; subst hx; obtain ⟨yo, yc, hy, -⟩ := hu5.cells; subst hy; have HB5 := Lib.hid (HB4.out.trans (hb5.mono HB4.out.size)); clear hb5 hd5 hu5 HPP)
            go_ret
            exact ⟨by first | rfl | (simp; omega), HB5.out.alloc HB5.out.size _⟩

theorem most_walk (n m : Int) (w : World) (ln : 0 ≤ n) (un : n ≤ 255) (lm : 0 ≤ m) (um : m ≤ 255) (hE : PEnv w) :
    Calls Tryd.prog 4 #[.int .u8 n, .int .u8 m] w fun e w' => e = .returned (.bool true) ∧ Below w.heap.size w w' := by
  obtain ⟨K, hK, hK9, -⟩ := rem_u8 n 9 ln un (by decide) (by decide)
  obtain ⟨J, hJ, hJ12, -⟩ := rem_u8 m 12 lm um (by decide) (by decide)
  by_cases h : J < 8
  · exact most_few n m w K J hK (by omega) hJ (by omega) h ln un lm um hE
  · exact most_many n m w K J hK (by omega) hJ (by omega) h ln un lm um hE
end Go.Proofs.YtfpamkijkaeafaaDoor
