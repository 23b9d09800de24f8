/-
  RefPlain, KRefFig, KRefTxt in one text (a claim may hold 60 files): the document's Plain, Figures, Text.
-/
import Derived.Test.YtbbmihojfcofdaaGreatDoorPlain
import Derived.Lib.Hide
import Derived.Test.YtbbmihojfcofdaaGreatDoorKText
import Derived.Lib.SmallJoins
import Derived.Deep.RegionWith
import Derived.Deep.DeepFit
import Derived.Deep.RegionHeld3
import Derived.Deep.DrawnRows
import Derived.Test.YtbbmihojfcofdaaGreatDoorQuoted
namespace Go.Proofs.YtbbmihojfcofdaaGreatDoor
set_option linter.unusedSimpArgs false
set_option linter.unusedVariables false
set_option linter.unusedSectionVars false
set_option maxRecDepth 100000
open Go.RowKit

set_option maxRecDepth 100000 in
set_option maxHeartbeats 2000000 in
theorem refPlain_any (s : ByteArray) (w : World) (hs : s.size ≤ maxLen) :
    Calls Tryz.prog 39 #[.string s] w fun e w' => e = .returned (.bool (plainL s.data.toList)) ∧ w' = w := by
  unfold maxLen at hs
  by_cases h0 : s.size = 0
  · have e := plain_empty h0
    obtain rfl : s = ByteArray.empty := by simpa using h0
    rw [e]; clear e
    go_enter Tryz.func39, Tryz.ntmps39
    go_wp2
    go_ret
    exact ⟨rfl, rfl⟩
  · by_cases hn : s.data.toList = [110, 111, 116]
    · obtain ⟨⟨d⟩⟩ := s
      simp only at hn
      subst hn
      go_enter Tryz.func39, Tryz.ntmps39
      go_wp2
      go_ret
      exact ⟨rfl, rfl⟩
    · have hN : (s.toList == [110, 111, 116]) = false := by
        rw [toList_data, beq_eq_false_iff_ne]
        exact hn
      have h0' : 0 < s.size := by omega
      have h0I : ((s.size : Int) == 0) = false := beq_eq_false_iff_ne.2 (by omega)
      have HN : Hid (¬ s.data.toList = [110, 111, 116]) := hn
      clear hn h0
      go_enter Tryz.func39, Tryz.ntmps39
      go_wp2
      go_loop [3] (fun i => ∃ pos : Nat, pos ≤ s.size ∧ i = .int .i64 pos ∧ Hid ((0 < pos → smallB ((s[0]'h0').toNat : Int) = true) ∧ ∀ k (hk : k < s.size), k < pos → nameB ((s[k]'hk).toNat : Int) = true)) (fun i => s.size - (intOf i).toNat)
      case atStart => exact ⟨0, Nat.zero_le _, rfl, ⟨fun h => absurd h (Nat.lt_irrefl _), fun _ _ h => absurd h (Nat.not_lt_zero _)⟩⟩
      case round =>
        obtain ⟨pos, hps, rfl, HA⟩ := hrel
        by_cases hp : pos < s.size
        · have hpI : (pos : Int) < (s.size : Int) := by omega
          obtain ⟨c, hc⟩ : ∃ c : Int, ((s[pos]'hp).toNat : Int) = c := ⟨_, rfl⟩
          have hc0 : 0 ≤ c := by omega
          have F : ((c ≤ 47 ∨ (58 ≤ c ∧ c ≤ 64) ∨ (91 ≤ c ∧ c ≤ 94) ∨ (96 ≤ c ∧ c ≤ 96) ∨ 123 ≤ c) ∧ nameB c = false) ∨ (((65 ≤ c ∧ c ≤ 90) ∨ (48 ≤ c ∧ c ≤ 57) ∨ (95 ≤ c ∧ c ≤ 95)) ∧ nameB c = true ∧ smallB c = false) ∨ ((97 ≤ c ∧ c ≤ 122) ∧ nameB c = true ∧ smallB c = true) := by
            have hn : nameB c = true ↔ (97 ≤ c ∧ c ≤ 122) ∨ (65 ≤ c ∧ c ≤ 90) ∨ (48 ≤ c ∧ c ≤ 57) ∨ c = 95 := by
              simp only [nameB, smallB, Bool.or_eq_true, Bool.and_eq_true, decide_eq_true_eq, beq_iff_eq]; omega
            have hm : smallB c = true ↔ (97 ≤ c ∧ c ≤ 122) := by simp only [smallB, Bool.and_eq_true, decide_eq_true_eq]
            rw [← Bool.not_eq_true, ← Bool.not_eq_true, hn, hm]
            omega
          have hz : (((pos : Int) == 0) = true ∧ pos = 0) ∨ (((pos : Int) == 0) = false ∧ ¬ pos = 0) := by
            by_cases h : pos = 0
            · exact .inl ⟨by simp [h], h⟩
            · exact .inr ⟨by simp [h], h⟩
          rcases F with ⟨F, hname⟩ | ⟨F, hname, hsm⟩ | ⟨⟨f1, f2⟩, hname, hsm⟩
          · have E : Hid (plainL s.data.toList = false) := plain_bad hp (by rw [hc]; exact hname)
            have hz' : ((pos : Int) == 0) = true ∨ ((pos : Int) == 0) = false := hz.imp And.left And.left
            clear hname HA HN hz
            rcases F with f | f | f | f | f <;> rcases hz' with hz2 | hz2
            all_goals
              first | (have e1 : decide (97 ≤ c) = true := decide_eq_true (by omega)) | (have e1 : decide (97 ≤ c) = false := decide_eq_false (by omega))
              first | (have e2 : decide (c ≤ 122) = true := decide_eq_true (by omega)) | (have e2 : decide (c ≤ 122) = false := decide_eq_false (by omega))
              first | (have e3 : decide (65 ≤ c) = true := decide_eq_true (by omega)) | (have e3 : decide (65 ≤ c) = false := decide_eq_false (by omega))
              first | (have e4 : decide (c ≤ 90) = true := decide_eq_true (by omega)) | (have e4 : decide (c ≤ 90) = false := decide_eq_false (by omega))
              first | (have e5 : decide (48 ≤ c) = true := decide_eq_true (by omega)) | (have e5 : decide (48 ≤ c) = false := decide_eq_false (by omega))
              first | (have e6 : decide (c ≤ 57) = true := decide_eq_true (by omega)) | (have e6 : decide (c ≤ 57) = false := decide_eq_false (by omega))
              first | (have e7 : (c == 95) = true := beq_iff_eq.2 (by omega)) | (have e7 : (c == 95) = false := beq_eq_false_iff_ne.2 (by omega))
              clear f
              go_wp2
              go_ret
              exact ⟨ret_bool E.out.symm, rfl⟩
          · rcases hz with ⟨hz2, rfl⟩ | ⟨hz2, hz3⟩
            · have E : Hid (plainL s.data.toList = false) := plain_first h0' (by rw [hc]; exact hsm)
              clear hname hsm HA HN
              rcases F with f | f | f
              all_goals
                first | (have e1 : decide (97 ≤ c) = true := decide_eq_true (by omega)) | (have e1 : decide (97 ≤ c) = false := decide_eq_false (by omega))
                first | (have e2 : decide (c ≤ 122) = true := decide_eq_true (by omega)) | (have e2 : decide (c ≤ 122) = false := decide_eq_false (by omega))
                first | (have e3 : decide (65 ≤ c) = true := decide_eq_true (by omega)) | (have e3 : decide (65 ≤ c) = false := decide_eq_false (by omega))
                first | (have e4 : decide (c ≤ 90) = true := decide_eq_true (by omega)) | (have e4 : decide (c ≤ 90) = false := decide_eq_false (by omega))
                first | (have e5 : decide (48 ≤ c) = true := decide_eq_true (by omega)) | (have e5 : decide (48 ≤ c) = false := decide_eq_false (by omega))
                first | (have e6 : decide (c ≤ 57) = true := decide_eq_true (by omega)) | (have e6 : decide (c ≤ 57) = false := decide_eq_false (by omega))
                first | (have e7 : (c == 95) = true := beq_iff_eq.2 (by omega)) | (have e7 : (c == 95) = false := beq_eq_false_iff_ne.2 (by omega))
                clear f
                go_wp2
                go_ret
                exact ⟨ret_bool E.out.symm, rfl⟩
            · have HQ : Hid ((0 < pos + 1 → smallB ((s[0]'h0').toNat : Int) = true) ∧ ∀ k (hk : k < s.size), k < pos + 1 → nameB ((s[k]'hk).toNat : Int) = true) := by
                refine ⟨fun _ => HA.out.1 (by omega), fun k hk h => ?_⟩
                by_cases hkp : k = pos
                · subst hkp; rw [hc]; exact hname
                · exact HA.out.2 k hk (by omega)
              clear hname hsm HA HN hz3
              rcases F with f | f | f
              all_goals
                first | (have e1 : decide (97 ≤ c) = true := decide_eq_true (by omega)) | (have e1 : decide (97 ≤ c) = false := decide_eq_false (by omega))
                first | (have e2 : decide (c ≤ 122) = true := decide_eq_true (by omega)) | (have e2 : decide (c ≤ 122) = false := decide_eq_false (by omega))
                first | (have e3 : decide (65 ≤ c) = true := decide_eq_true (by omega)) | (have e3 : decide (65 ≤ c) = false := decide_eq_false (by omega))
                first | (have e4 : decide (c ≤ 90) = true := decide_eq_true (by omega)) | (have e4 : decide (c ≤ 90) = false := decide_eq_false (by omega))
                first | (have e5 : decide (48 ≤ c) = true := decide_eq_true (by omega)) | (have e5 : decide (48 ≤ c) = false := decide_eq_false (by omega))
                first | (have e6 : decide (c ≤ 57) = true := decide_eq_true (by omega)) | (have e6 : decide (c ≤ 57) = false := decide_eq_false (by omega))
                first | (have e7 : (c == 95) = true := beq_iff_eq.2 (by omega)) | (have e7 : (c == 95) = false := beq_eq_false_iff_ne.2 (by omega))
                clear f
                go_wp2
                go_round
                case rel => exact ⟨pos + 1, by omega, by go_num, HQ⟩
                case measure => simp [intOf]; omega
          · have HQ : Hid ((0 < pos + 1 → smallB ((s[0]'h0').toNat : Int) = true) ∧ ∀ k (hk : k < s.size), k < pos + 1 → nameB ((s[k]'hk).toNat : Int) = true) := by
              refine ⟨fun _ => ?_, fun k hk h => ?_⟩
              · rcases hz with ⟨-, rfl⟩ | ⟨-, hz3⟩
                · rw [hc]; exact hsm
                · exact HA.out.1 (by omega)
              · by_cases hkp : k = pos
                · subst hkp; rw [hc]; exact hname
                · exact HA.out.2 k hk (by omega)
            clear hname hsm HA HN hz
            first | (have e1 : decide (97 ≤ c) = true := decide_eq_true (by omega)) | (have e1 : decide (97 ≤ c) = false := decide_eq_false (by omega))
            first | (have e2 : decide (c ≤ 122) = true := decide_eq_true (by omega)) | (have e2 : decide (c ≤ 122) = false := decide_eq_false (by omega))
            first | (have e3 : decide (65 ≤ c) = true := decide_eq_true (by omega)) | (have e3 : decide (65 ≤ c) = false := decide_eq_false (by omega))
            first | (have e4 : decide (c ≤ 90) = true := decide_eq_true (by omega)) | (have e4 : decide (c ≤ 90) = false := decide_eq_false (by omega))
            first | (have e5 : decide (48 ≤ c) = true := decide_eq_true (by omega)) | (have e5 : decide (48 ≤ c) = false := decide_eq_false (by omega))
            first | (have e6 : decide (c ≤ 57) = true := decide_eq_true (by omega)) | (have e6 : decide (c ≤ 57) = false := decide_eq_false (by omega))
            first | (have e7 : (c == 95) = true := beq_iff_eq.2 (by omega)) | (have e7 : (c == 95) = false := beq_eq_false_iff_ne.2 (by omega))
            clear f1 f2
            go_wp2
            go_round
            case rel => exact ⟨pos + 1, by omega, by go_num, HQ⟩
            case measure => simp [intOf]; omega
        · have hpI : ¬ (pos : Int) < (s.size : Int) := by omega
          have E : Hid (plainL s.data.toList = true) := plain_yes h0' HN.out (HA.out.1 (by omega)) (fun k hk => HA.out.2 k hk (by omega))
          clear HA
          go_wp2
          go_ret
          exact ⟨ret_bool E.out.symm, rfl⟩
end Go.Proofs.YtbbmihojfcofdaaGreatDoor

namespace Go.Proofs.YtbbmihojfcofdaaGreatDoor
set_option linter.unusedSimpArgs false
set_option linter.unusedVariables false
set_option linter.unusedSectionVars false
set_option maxRecDepth 100000
open Go.RowKit
attribute [local go_sem ↓] Go.wp_at_zero Go.wp_at_succ

theorem conv_at (v : Int) (h0 : 0 ≤ v) (h1 : v < 256) (W : World) (g : Nat) (hc : W.cell? ⟨g, 0, none⟩ = some (.int .u8 v)) :
    (convert 87 9 (.slice (some ⟨g, 0, none⟩) 1 1)).run Tryz.prog W = .ok (.string ⟨#[UInt8.ofNat v.toNat]⟩) W := by
  have e : ((UInt8.ofNat v.toNat).toNat : Int) = v := by rw [UInt8.toNat_ofNat']; omega
  have := run_convert_bytes_back (P := Tryz.prog) W 87 9 5 ⟨g, 0, none⟩ 1 [UInt8.ofNat v.toNat] Tryz.underlying87 Tryz.underlying5 Tryz.underlying9 (fun j hj => by
    have : j = 0 := by simpa using hj
    subst this
    simp only [List.getElem_cons_zero, e]
    exact hc)
  exact this

theorem neg_div (k : Nat) : (-(k : Int)).tdiv 10 = -((k / 10 : Nat) : Int) := by
  rw [Int.neg_tdiv]; rfl
theorem neg_mod (k : Nat) : (-(k : Int)).tmod 10 = -((k % 10 : Nat) : Int) := by
  rw [Int.neg_tmod]; rfl
theorem dec_step {k : Nat} (h : 10 ≤ k) : Lib.decDigits k = Lib.decDigits (k / 10) ++ [UInt8.ofNat (48 + k % 10)] := by
  rw [Lib.decDigits, dif_neg (by omega)]

/-- One figure. -/
def fig1 (d : Int) : UInt8 := UInt8.ofNat (48 + d).toNat
theorem itoa_1 (k : Nat) (h : k < 10) : Lib.itoa (k : Int) = [fig1 k] := by
  rw [Lib.itoa, if_neg (by omega), Int.toNat_natCast, Lib.decDigits_one h]; rfl
theorem itoa_m1 (k : Nat) (h0 : 0 < k) (h : k < 10) : Lib.itoa (-(k : Int)) = [45, fig1 k] := by
  rw [Lib.itoa, if_pos (by omega), Int.natAbs_neg, Int.natAbs_natCast, Lib.decDigits_one h]; rfl
theorem itoa_s (k : Nat) (h : 10 ≤ k) : Lib.itoa (k : Int) = Lib.itoa ((k / 10 : Nat) : Int) ++ [fig1 ((k % 10 : Nat) : Int)] := by
  rw [Lib.itoa, if_neg (by omega), Int.toNat_natCast, dec_step h, Lib.itoa, if_neg (by omega), Int.toNat_natCast]; rfl
theorem itoa_ms (k : Nat) (h : 10 ≤ k) : Lib.itoa (-(k : Int)) = Lib.itoa (-((k / 10 : Nat) : Int)) ++ [fig1 ((k % 10 : Nat) : Int)] := by
  rw [Lib.itoa, if_pos (by omega), Int.natAbs_neg, Int.natAbs_natCast, dec_step h, Lib.itoa, if_pos (by omega), Int.natAbs_neg, Int.natAbs_natCast]; rfl

theorem ret_ba {a b : ByteArray} (h : a.data.toList = b.data.toList) : Ending.returned (.string a) = .returned (.string b) := by rw [Go.WideShapes.bytes_inj h]

set_option maxRecDepth 100000 in
set_option maxHeartbeats 2000000 in
theorem figures_a (k : Nat) (w : World) (h0 : 0 < k) (h1 : k < 10) :
    Calls Tryz.prog 34 #[.int .i64 (-(k : Int))] w fun e w' => e = .returned (.string ⟨(Lib.itoa (-(k : Int))).toArray⟩) ∧ Below w.heap.size w w' := by
  have E := Lib.hid (itoa_m1 k h0 h1)
  have hm := neg_mod k
  obtain ⟨d, hd⟩ : ∃ d : Int, d = ((k % 10 : Nat) : Int) := ⟨_, rfl⟩
  have hd0 : 0 ≤ d := by omega
  have hd9 : d ≤ 9 := by omega
  have hdk : Hid (d = k) := by show d = k; omega
  rw [← hd] at hm
  obtain ⟨n, hn⟩ : ∃ n : Int, n = -(k : Int) := ⟨_, rfl⟩
  have hn0 : n < 0 := by omega
  have hn10 : -10 < n := by omega
  rw [← hn] at hm E ⊢
  have hcv := conv_at (48 + d) (by omega) (by omega)
  clear hn hd h0 h1
  go_enter Tryz.func34, Tryz.ntmps34
  go_wp2
  go_ret
  refine ⟨ret_ba ?_, (Below.refl _ _).alloc (Nat.le_refl _) _⟩
  rw [Go.Joins.data_append, E.out, ← hdk.out]; rfl

set_option maxRecDepth 100000 in
set_option maxHeartbeats 2000000 in
theorem figures_p (k : Nat) (w : World) (h1 : k < 10) :
    Calls Tryz.prog 34 #[.int .i64 (k : Int)] w fun e w' => e = .returned (.string ⟨(Lib.itoa (k : Int)).toArray⟩) ∧ Below w.heap.size w w' := by
  have E := Lib.hid (itoa_1 k h1)
  obtain ⟨n, hn⟩ : ∃ n : Int, n = (k : Int) := ⟨_, rfl⟩
  have hn0 : 0 ≤ n := by omega
  have hn10 : n < 10 := by omega
  rw [← hn] at E ⊢
  have hcv := conv_at (48 + n) (by omega) (by omega)
  clear hn h1
  go_enter Tryz.func34, Tryz.ntmps34
  go_wp2
  go_ret
  refine ⟨ret_ba ?_, (Below.refl _ _).alloc (Nat.le_refl _) _⟩
  rw [E.out]; rfl

set_option maxRecDepth 100000 in
set_option maxHeartbeats 2000000 in
theorem figures_b (k : Nat) (w : World) (h0 : 10 ≤ k) (h1 : k ≤ 9223372036854775808)
    (IH : ∀ w1, Calls Tryz.prog 34 #[.int .i64 (-((k / 10 : Nat) : Int))] w1 fun e w' => e = .returned (.string ⟨(Lib.itoa (-((k / 10 : Nat) : Int))).toArray⟩) ∧ Below w1.heap.size w1 w') :
    Calls Tryz.prog 34 #[.int .i64 (-(k : Int))] w fun e w' => e = .returned (.string ⟨(Lib.itoa (-(k : Int))).toArray⟩) ∧ Below w.heap.size w w' := by
  have E := itoa_ms k h0
  have hl := Lib.itoa_length_le (-((k / 10 : Nat) : Int)) (by omega) (by omega)
  have hm := neg_mod k
  have hq := neg_div k
  obtain ⟨q, hqq⟩ : ∃ q : Int, q = -((k / 10 : Nat) : Int) := ⟨_, rfl⟩
  obtain ⟨d, hd⟩ : ∃ d : Int, d = ((k % 10 : Nat) : Int) := ⟨_, rfl⟩
  have hq0 : q < 0 := by omega
  have hq1 : -922337203685477581 ≤ q := by omega
  have hd0 : 0 ≤ d := by omega
  have hd9 : d ≤ 9 := by omega
  rw [← hd] at hm E
  rw [← hqq] at hq E IH hl
  obtain ⟨n, hn⟩ : ∃ n : Int, n = -(k : Int) := ⟨_, rfl⟩
  have hn0 : n < 0 := by omega
  have hn10 : ¬ -10 < n := by omega
  rw [← hn] at hm hq E ⊢
  obtain ⟨t, ht⟩ : ∃ t : ByteArray, t = ⟨(Lib.itoa q).toArray⟩ := ⟨_, rfl⟩
  have hts : t.size ≤ 21 := by rw [ht]; show (Lib.itoa q).toArray.size ≤ 21; simpa using hl
  rw [← ht] at IH
  have HE : Hid (Lib.itoa n = t.data.toList ++ [fig1 d]) := by rw [ht]; exact E
  have HI := Lib.hid IH
  have hcv := conv_at (48 + d) (by omega) (by omega)
  clear hn hd h0 h1 hqq E IH ht hl
  go_enter Tryz.func34, Tryz.ntmps34
  go_wp2_with (go_at_call 34; refine (HI.out _).mono ?_; rintro e w' ⟨rfl, hb⟩)
  go_ret
  refine ⟨ret_ba ?_, ((Below.refl _ _).alloc (Nat.le_refl _) _).trans (hb.mono (by simp))⟩
  rw [Go.Joins.data_append, HE.out]; rfl

set_option maxRecDepth 100000 in
set_option maxHeartbeats 2000000 in
theorem figures_c (k : Nat) (w : World) (h0 : 10 ≤ k) (h1 : k ≤ 9223372036854775807)
    (IH : ∀ w1, Calls Tryz.prog 34 #[.int .i64 ((k / 10 : Nat) : Int)] w1 fun e w' => e = .returned (.string ⟨(Lib.itoa ((k / 10 : Nat) : Int)).toArray⟩) ∧ Below w1.heap.size w1 w') :
    Calls Tryz.prog 34 #[.int .i64 (k : Int)] w fun e w' => e = .returned (.string ⟨(Lib.itoa (k : Int)).toArray⟩) ∧ Below w.heap.size w w' := by
  have E := itoa_s k h0
  have hl := Lib.itoa_length_le ((k / 10 : Nat) : Int) (by omega) (by omega)
  obtain ⟨q, hqq⟩ : ∃ q : Int, q = ((k / 10 : Nat) : Int) := ⟨_, rfl⟩
  obtain ⟨d, hd⟩ : ∃ d : Int, d = ((k % 10 : Nat) : Int) := ⟨_, rfl⟩
  have hq0 : 0 ≤ q := by omega
  have hq1 : q ≤ 922337203685477581 := by omega
  have hd0 : 0 ≤ d := by omega
  have hd9 : d ≤ 9 := by omega
  rw [← hd] at E
  rw [← hqq] at E IH hl
  obtain ⟨n, hn⟩ : ∃ n : Int, n = (k : Int) := ⟨_, rfl⟩
  have hn0 : ¬ n < 0 := by omega
  have hn1 : 0 ≤ n := by omega
  have hn10 : ¬ n < 10 := by omega
  have hm : n % 10 = d := by omega
  have hq : n / 10 = q := by omega
  have hm2 : n.tmod 10 = d := by rw [hn, hd]; rfl
  have hq2 : n.tdiv 10 = q := by rw [hn, hqq]; rfl
  rw [← hn] at E ⊢
  obtain ⟨t, ht⟩ : ∃ t : ByteArray, t = ⟨(Lib.itoa q).toArray⟩ := ⟨_, rfl⟩
  have hts : t.size ≤ 21 := by rw [ht]; show (Lib.itoa q).toArray.size ≤ 21; simpa using hl
  rw [← ht] at IH
  have HE : Hid (Lib.itoa n = t.data.toList ++ [fig1 d]) := by rw [ht]; exact E
  have HI := Lib.hid IH
  have hcv := conv_at (48 + d) (by omega) (by omega)
  have hwq : IntKind.i64.wrap q = q := by rw [IntKind.wrap_i64]; omega
  have hwd : IntKind.i64.wrap (48 + d) = 48 + d := by rw [IntKind.wrap_i64]; omega
  have hw8 : IntKind.u8.wrap (48 + d) = 48 + d := by rw [IntKind.wrap_u8]; omega
  clear hn hd h0 h1 hqq E IH ht hl
  go_enter Tryz.func34, Tryz.ntmps34
  go_wp2
  go_region_with (go_at_call 34; refine (HI.out _).mono ?_; rintro e w' ⟨rfl, hb⟩; obtain ⟨hc, hf⟩ := bcell hb)
  all_goals
    go_wp2
    go_ret
    refine ⟨ret_ba ?_, ?_⟩
    · rw [Go.Joins.data_append, HE.out]; rfl
    · first
        | exact Below.alloc (Below.trans (Below.drew (Below.refl _ _)) hb) hb.size _
        | exact Below.trans (Below.alloc (Below.drew (Below.refl _ _)) (Nat.le_refl _) _) (hb.mono (by simp))

theorem figures_any (n : Int) (h0 : -9223372036854775808 ≤ n) (h1 : n ≤ 9223372036854775807) (w : World) :
    Calls Tryz.prog 34 #[.int .i64 n] w fun e w' => e = .returned (.string ⟨(Lib.itoa n).toArray⟩) ∧ Below w.heap.size w w' := by
  have key : ∀ m : Nat, (m ≤ 9223372036854775808 → ∀ w, Calls Tryz.prog 34 #[.int .i64 (-(m : Int))] w fun e w' => e = .returned (.string ⟨(Lib.itoa (-(m : Int))).toArray⟩) ∧ Below w.heap.size w w') ∧
      (m ≤ 9223372036854775807 → ∀ w, Calls Tryz.prog 34 #[.int .i64 (m : Int)] w fun e w' => e = .returned (.string ⟨(Lib.itoa (m : Int)).toArray⟩) ∧ Below w.heap.size w w') := by
    intro m
    induction m using Nat.strongRecOn with
    | _ m ih =>
      refine ⟨fun hm w => ?_, fun hm w => ?_⟩
      · by_cases h10 : m < 10
        · by_cases hz : m = 0
          · subst hz; exact figures_p 0 w (by decide)
          · exact figures_a m w (by omega) h10
        · exact figures_b m w (by omega) hm ((ih (m / 10) (by omega)).1 (by omega))
      · by_cases h10 : m < 10
        · exact figures_p m w h10
        · exact figures_c m w (by omega) hm ((ih (m / 10) (by omega)).2 (by omega))
  by_cases hn : n < 0
  · obtain ⟨m, hm⟩ : ∃ m : Nat, n = -(m : Int) := ⟨n.natAbs, by omega⟩
    subst hm
    exact (key m).1 (by omega) w
  · obtain ⟨m, hm⟩ : ∃ m : Nat, n = (m : Int) := ⟨n.toNat, by omega⟩
    subst hm
    exact (key m).2 (by omega) w
end Go.Proofs.YtbbmihojfcofdaaGreatDoor

namespace Go.Proofs.YtbbmihojfcofdaaGreatDoor
set_option linter.unusedSimpArgs false
set_option linter.unusedVariables false
set_option linter.unusedSectionVars false
set_option maxRecDepth 100000
open Go.RowKit

set_option maxRecDepth 100000 in
set_option maxHeartbeats 400000 in
theorem refText_int (s : ByteArray) (n : Int) (h0 : -9223372036854775808 ≤ n) (h1 : n ≤ 9223372036854775807) (w : World) :
    Calls Tryz.prog 43 #[.agg #[.bool false, .string s, .int .i64 n]] w fun e w' => e = .returned (.string ⟨(Lib.itoa n).toArray⟩) ∧ Below w.heap.size w w' := by
  have HF : Hid (∀ w1, Calls Tryz.prog 34 #[.int .i64 n] w1 fun e w' => e = .returned (.string ⟨(Lib.itoa n).toArray⟩) ∧ Below w1.heap.size w1 w') := fun w1 => figures_any n h0 h1 w1
  clear h0 h1
  go_enter Tryz.func43, Tryz.ntmps43
  go_wp2_with (go_at_call 34; refine (HF.out _).mono ?_; rintro e w1 ⟨rfl, hb⟩)
  go_ret
  exact ⟨rfl, ((Below.refl _ _).alloc (Nat.le_refl _) _).trans (hb.mono (by simp))⟩

set_option maxRecDepth 100000 in
set_option maxHeartbeats 2000000 in
theorem refText_quo (s : ByteArray) (n : Int) (w : World) (hs : 2 * s.size + 2 ≤ 140737488355328) (hsp : shortPlain s.data.toList = false) :
    Calls Tryz.prog 43 #[.agg #[.bool true, .string s, .int .i64 n]] w fun e w' => e = .returned (.string ⟨(quoteL s.data.toList).toArray⟩) ∧ Below w.heap.size w w' := by
  have hm : s.size ≤ maxLen := by unfold maxLen; omega
  have hlen : s.data.toList.length = s.size := by simp
  obtain ⟨i0, hi, hz0, hz1, hz2⟩ := info_parts infoByte
  obtain ⟨p, hp⟩ : ∃ p, plainL s.data.toList = p := ⟨_, rfl⟩
  have HP : Hid (∀ w1, Calls Tryz.prog 39 #[.string s] w1 fun e w' => e = .returned (.bool p) ∧ w' = w1) := fun w1 => by rw [← hp]; exact refPlain_any s w1 hm
  have hcond : p = false ∨ (p = true ∧ ¬ (s.size : Int) ≤ 32) := by
    cases p with
    | false => exact .inl rfl
    | true =>
      refine .inr ⟨rfl, fun h => ?_⟩
      have : shortPlain s.data.toList = true := by simp [shortPlain, hp]; omega
      rw [hsp] at this; cases this
  have hbox : (w.alloc (.cells #[.bool true, .string s, .int .i64 n] 33)).cell? ⟨w.heap.size, 1, none⟩ = some (.string s) := by
    rw [World.cell?_alloc_at _ _ _ _ rfl]; rfl
  have hB0 : Below w.heap.size w (w.alloc (.cells #[.bool true, .string s, .int .i64 n] 33)) := (Below.refl _ _).alloc (Nat.le_refl _) _
  have HB0 := Lib.hid hB0
  clear hp hsp hm hlen hB0
  rcases hcond with rfl | ⟨rfl, h32⟩
  all_goals
    go_enter Tryz.func43, Tryz.ntmps43
    go_wp2_with (go_at_call 39; refine (HP.out _).mono ?_; rintro e w' ⟨rfl, rfl⟩)
    go_loopw [3, 4] (fun v i wr => ∃ k : Nat, k ≤ s.size ∧ i = .int .i64 k ∧ wr.ownsRow (w.heap.size + 1) 5 1 v (quoTo s k).length (Lib.byteCells (quoTo s k)) ∧ Below (w.heap.size + 1) (w.alloc (.cells #[.bool true, .string s, .int .i64 n] 33)) wr) (fun _ i _ => s.size - (intOf i).toNat)
    case atStart => exact ⟨0, Nat.zero_le _, rfl, by have h := World.ownsRow_lit (base := w.heap.size + 1) (e := 5) (size := 1) (w.alloc (.cells #[.bool true, .string s, .int .i64 n] 33)) #[.int .u8 39] 1 (by simp) (by unfold maxLen; omega) rfl; rw [World.size_alloc] at h; exact h, (Below.refl _ _).alloc (by simp) _⟩
    case round =>
      obtain ⟨k, hk, rfl, hown, hbw⟩ := hrel
      have hq := quoTo_len s k
      have hsz := hbw.size
      simp only [World.size_alloc] at hsz
      have hcell : wr.cell? ⟨w.heap.size, 1, none⟩ = some (.string s) := by rw [hbw.cell (p := ⟨w.heap.size, 1, none⟩) (by simp)]; exact hbox
      by_cases hlt : k < s.size
      · have hltI : (k : Int) < (s.size : Int) := by omega
        by_cases h10 : (s[k].toNat : Int) = 10
        · have HQ : Hid (quoTo s (k + 1) = quoTo s k ++ [92, 110]) := quoTo_10 hlt h10
          have hb : ((s[k].toNat : Int) == 10) = true := by simp [h10]
          clear h10
          go_wp2_with (at_builtin; refine wpList_append_own _ rfl _ _ 87 rfl (w.heap.size + 1) 5 i0 (.int .u8 0) 1 1 Tryz.underlying87 hi hz0 hz1 hz2 rfl (by decide) _ _ _ rfl (hown.alloc _) ⟨wr.heap.size, 0, none⟩ 2 2 (Lib.byteCells [92, 110]) rfl rfl (cells_new2 _ _ _ _) (bytes_oneCell _) (by unfold maxLen; omega) (by omega) (by simp; omega) ?_; intro v' w1 hown' hgrow hnil; have R := rel_append (by simp) hown hbw hown' hgrow; rw [← HQ.out] at R; clear hown' hgrow hnil)
          go_roundw
          case rel => exact ⟨k + 1, by omega, by go_num, R.1, R.2⟩
          case measure => simp [intOf]; omega
        · have hb : ((s[k].toNat : Int) == 10) = false := by simp [h10]
          by_cases h92 : (s[k].toNat : Int) = 92
          · have HQ : Hid (quoTo s (k + 1) = quoTo s k ++ [92, s[k]]) := quoTo_92 hlt h92
            have hb2 : ((s[k].toNat : Int) == 92) = true := by simp [h92]
            clear h10 h92
            go_wp2_with (at_builtin; refine wpList_append_own _ rfl _ _ 87 rfl (w.heap.size + 1) 5 i0 (.int .u8 0) 1 1 Tryz.underlying87 hi hz0 hz1 hz2 rfl (by decide) _ _ _ rfl (hown.alloc _) ⟨wr.heap.size, 0, none⟩ 1 1 (Lib.byteCells [92]) rfl rfl (cells_new1 _ _ _) (bytes_oneCell _) (by unfold maxLen; omega) (by omega) (by simp; omega) ?_; intro v1 w1 hown1 hgrow1 hnil1; refine Hid.out ?_)
            refine Lib.hid ?_
            have R1 := rel_append (by simp) hown hbw hown1 hgrow1
            obtain ⟨hownB, hbwB⟩ := R1
            have hszB := hbwB.size
            simp only [World.size_alloc] at hszB
            have hqB : (quoTo s k ++ [92]).length ≤ 2 * k + 2 := by simp; omega
            have hcB : w1.cell? ⟨w.heap.size, 1, none⟩ = some (.string s) := by rw [hbwB.cell (p := ⟨w.heap.size, 1, none⟩) (by simp)]; exact hbox
            clear hown1 hgrow1 hnil1 hown hbw hcell
            go_wp2_with (at_builtin; refine wpList_append_own _ rfl _ _ 87 rfl (w.heap.size + 1) 5 i0 (.int .u8 0) 1 1 Tryz.underlying87 hi hz0 hz1 hz2 rfl (by decide) _ _ _ rfl (hownB.alloc _) ⟨w1.heap.size, 0, none⟩ 1 1 (Lib.byteCells [s[k]]) rfl rfl (cells_new1 _ _ _) (bytes_oneCell _) (by unfold maxLen; omega) (by omega) (by simp; omega) ?_; intro v' w2 hown' hgrow hnil; have R := rel_append (by simp) hownB hbwB hown' hgrow; rw [List.append_assoc, List.singleton_append, ← HQ.out] at R; clear hown' hgrow hnil)
            go_roundw
            case rel => exact ⟨k + 1, by omega, by go_num, R.1, R.2⟩
            case measure => simp [intOf]; omega
          · have hb2 : ((s[k].toNat : Int) == 92) = false := by simp [h92]
            by_cases h39 : (s[k].toNat : Int) = 39
            · have HQ : Hid (quoTo s (k + 1) = quoTo s k ++ [92, s[k]]) := quoTo_39 hlt h39
              have hb3 : ((s[k].toNat : Int) == 39) = true := by simp [h39]
              clear h10 h92 h39
              go_wp2_with (at_builtin; refine wpList_append_own _ rfl _ _ 87 rfl (w.heap.size + 1) 5 i0 (.int .u8 0) 1 1 Tryz.underlying87 hi hz0 hz1 hz2 rfl (by decide) _ _ _ rfl (hown.alloc _) ⟨wr.heap.size, 0, none⟩ 1 1 (Lib.byteCells [92]) rfl rfl (cells_new1 _ _ _) (bytes_oneCell _) (by unfold maxLen; omega) (by omega) (by simp; omega) ?_; intro v1 w1 hown1 hgrow1 hnil1; refine Hid.out ?_)
              refine Lib.hid ?_
              have R1 := rel_append (by simp) hown hbw hown1 hgrow1
              obtain ⟨hownB, hbwB⟩ := R1
              have hszB := hbwB.size
              simp only [World.size_alloc] at hszB
              have hqB : (quoTo s k ++ [92]).length ≤ 2 * k + 2 := by simp; omega
              have hcB : w1.cell? ⟨w.heap.size, 1, none⟩ = some (.string s) := by rw [hbwB.cell (p := ⟨w.heap.size, 1, none⟩) (by simp)]; exact hbox
              clear hown1 hgrow1 hnil1 hown hbw hcell
              go_wp2_with (at_builtin; refine wpList_append_own _ rfl _ _ 87 rfl (w.heap.size + 1) 5 i0 (.int .u8 0) 1 1 Tryz.underlying87 hi hz0 hz1 hz2 rfl (by decide) _ _ _ rfl (hownB.alloc _) ⟨w1.heap.size, 0, none⟩ 1 1 (Lib.byteCells [s[k]]) rfl rfl (cells_new1 _ _ _) (bytes_oneCell _) (by unfold maxLen; omega) (by omega) (by simp; omega) ?_; intro v' w2 hown' hgrow hnil; have R := rel_append (by simp) hownB hbwB hown' hgrow; rw [List.append_assoc, List.singleton_append, ← HQ.out] at R; clear hown' hgrow hnil)
              go_roundw
              case rel => exact ⟨k + 1, by omega, by go_num, R.1, R.2⟩
              case measure => simp [intOf]; omega
            · have HQ : Hid (quoTo s (k + 1) = quoTo s k ++ [s[k]]) := quoTo_other hlt h10 h92 h39
              have hb3 : ((s[k].toNat : Int) == 39) = false := by simp [h39]
              clear h10 h92 h39
              go_wp2_with (at_builtin; refine wpList_append_own _ rfl _ _ 87 rfl (w.heap.size + 1) 5 i0 (.int .u8 0) 1 1 Tryz.underlying87 hi hz0 hz1 hz2 rfl (by decide) _ _ _ rfl (hown.alloc _) ⟨wr.heap.size, 0, none⟩ 1 1 (Lib.byteCells [s[k]]) rfl rfl (cells_new1 _ _ _) (bytes_oneCell _) (by unfold maxLen; omega) (by omega) (by simp; omega) ?_; intro v' w1 hown' hgrow hnil; have R := rel_append (by simp) hown hbw hown' hgrow; rw [← HQ.out] at R; clear hown' hgrow hnil)
              go_roundw
              case rel => exact ⟨k + 1, by omega, by go_num, R.1, R.2⟩
              case measure => simp [intOf]; omega
      · obtain rfl : k = s.size := by omega
        have HE : Hid (quoTo s s.size ++ [39] = quoteL s.data.toList) := by
          show 39 :: escL (s.data.toList.take s.size) ++ [39] = _
          rw [List.take_of_length_le (by simp)]; rfl
        go_wp2_with (at_builtin; refine wpList_append_own _ rfl _ _ 87 rfl (w.heap.size + 1) 5 i0 (.int .u8 0) 1 1 Tryz.underlying87 hi hz0 hz1 hz2 rfl (by decide) _ _ _ rfl (hown.alloc _) ⟨wr.heap.size, 0, none⟩ 1 1 (Lib.byteCells [39]) rfl rfl (cells_new1 _ _ _) (bytes_oneCell _) (by unfold maxLen; omega) (by omega) (by simp; omega) ?_; intro v' w1 hown' hgrow hnil; refine Hid.out ?_)
        refine Lib.hid ?_
        have R := rel_append (by simp) hown hbw hown' hgrow
        rw [HE.out] at R
        clear hown' hgrow hnil
        have hpos : 0 < (quoteL s.data.toList).length := by simp [quoteL]
        obtain ⟨l, hl⟩ : ∃ l, l = quoteL s.data.toList := ⟨_, rfl⟩
        rw [← hl] at R hpos
        have HL := Lib.hid hl
        clear hl HE
        obtain ⟨hown3, hb3⟩ := R
        rcases hown3.2 with ⟨-, h0⟩ | ⟨g, cap, cur, rfl, -, -, -, -, -, -⟩
        · omega
        · have hcv := run_convert_bytes_back (P := Tryz.prog) w1 87 9 5 ⟨g, 0, none⟩ cap l Tryz.underlying87 Tryz.underlying5 Tryz.underlying9 (fun j hj => hown3.cells (g := g) rfl j _ (by simp [Lib.byteCells, hj]))
          go_wp2
          go_ret
          have hl := HL.out
          subst hl
          exact ⟨rfl, HB0.out.trans (hb3.mono (by omega))⟩

set_option maxRecDepth 100000 in
set_option maxHeartbeats 400000 in
theorem refText_pl (s : ByteArray) (n : Int) (w : World) (hp : plainL s.data.toList = true) (h32 : s.size ≤ 32) :
    Calls Tryz.prog 43 #[.agg #[.bool true, .string s, .int .i64 n]] w fun e w' => e = .returned (.string s) ∧ Below w.heap.size w w' := by
  have hm : s.size ≤ maxLen := by unfold maxLen; omega
  have HP : Hid (∀ w1, Calls Tryz.prog 39 #[.string s] w1 fun e w' => e = .returned (.bool true) ∧ w' = w1) := fun w1 => by rw [← hp]; exact refPlain_any s w1 hm
  have h32I : (s.size : Int) ≤ 32 := by omega
  clear hp h32
  go_enter Tryz.func43, Tryz.ntmps43
  go_wp2_with (go_at_call 39; refine (HP.out _).mono ?_; rintro e w' ⟨rfl, rfl⟩)
  go_ret
  exact ⟨rfl, (Below.refl _ _).alloc (Nat.le_refl _) _⟩

theorem refText_any (k : Bool) (s : ByteArray) (n : Int) (h0 : -9223372036854775808 ≤ n) (h1 : n ≤ 9223372036854775807) (w : World) (hs : 2 * s.size + 2 ≤ 140737488355328) :
    Calls Tryz.prog 43 #[.agg #[.bool k, .string s, .int .i64 n]] w fun e w' => e = .returned (.string ⟨(textL k s.data.toList n).toArray⟩) ∧ Below w.heap.size w w' := by
  cases k
  · exact refText_int s n h0 h1 w
  · cases hsp : shortPlain s.data.toList with
    | false =>
      have e : textL true s.data.toList n = quoteL s.data.toList := by simp [textL, hsp]
      rw [e]; exact refText_quo s n w hs hsp
    | true =>
      have e : textL true s.data.toList n = s.data.toList := by simp [textL, hsp]
      rw [e]
      simp only [shortPlain, Bool.and_eq_true, decide_eq_true_eq] at hsp
      exact refText_pl s n w hsp.2 (by have := hsp.1; simpa using this)
end Go.Proofs.YtbbmihojfcofdaaGreatDoor
