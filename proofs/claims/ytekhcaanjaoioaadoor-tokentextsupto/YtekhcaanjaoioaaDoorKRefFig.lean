/-
  Contract of the document's Figures (lambrequinref01): a number's figures, as strconv.FormatInt tells them.
-/
import Derived.Test.YtekhcaanjaoioaaDoorKText
import Derived.Lib.Hide
import Derived.Lib.SmallJoins
import Derived.Deep.RegionWith
import Derived.Deep.DeepFit
import Derived.Deep.RegionHeld3
import Derived.Deep.DrawnRows
namespace Go.Proofs.YtekhcaanjaoioaaDoor
set_option linter.unusedSimpArgs false
set_option linter.unusedVariables false
set_option linter.unusedSectionVars false
set_option maxRecDepth 100000
open Go.RowKit
attribute [local go_sem ↓] Go.wp_at_zero Go.wp_at_succ

theorem conv_at (v : Int) (h0 : 0 ≤ v) (h1 : v < 256) (W : World) (g : Nat) (hc : W.cell? ⟨g, 0, none⟩ = some (.int .u8 v)) :
    (convert 48 9 (.slice (some ⟨g, 0, none⟩) 1 1)).run Tryd.prog W = .ok (.string ⟨#[UInt8.ofNat v.toNat]⟩) W := by
  have e : ((UInt8.ofNat v.toNat).toNat : Int) = v := by rw [UInt8.toNat_ofNat']; omega
  have := run_convert_bytes_back (P := Tryd.prog) W 48 9 5 ⟨g, 0, none⟩ 1 [UInt8.ofNat v.toNat] Tryd.underlying48 Tryd.underlying5 Tryd.underlying9 (fun j hj => by
    have : j = 0 := by simpa using hj
    subst this
    simp only [List.getElem_cons_zero, e]
    exact hc)
  exact this

theorem neg_div (k : Nat) : (-(k : Int)).tdiv 10 = -((k / 10 : Nat) : Int) := by
  rw [Int.neg_tdiv]; rfl
theorem neg_mod (k : Nat) : (-(k : Int)).tmod 10 = -((k % 10 : Nat) : Int) := by
  rw [Int.neg_tmod]; rfl
theorem dec_step {k : Nat} (h : 10 ≤ k) : Lib.decDigits k = Lib.decDigits (k / 10) ++ [UInt8.ofNat (48 + k % 10)] := by
  rw [Lib.decDigits, dif_neg (by omega)]

/-- One figure. -/
def fig1 (d : Int) : UInt8 := UInt8.ofNat (48 + d).toNat
theorem itoa_1 (k : Nat) (h : k < 10) : Lib.itoa (k : Int) = [fig1 k] := by
  rw [Lib.itoa, if_neg (by omega), Int.toNat_natCast, Lib.decDigits_one h]; rfl
theorem itoa_m1 (k : Nat) (h0 : 0 < k) (h : k < 10) : Lib.itoa (-(k : Int)) = [45, fig1 k] := by
  rw [Lib.itoa, if_pos (by omega), Int.natAbs_neg, Int.natAbs_natCast, Lib.decDigits_one h]; rfl
theorem itoa_s (k : Nat) (h : 10 ≤ k) : Lib.itoa (k : Int) = Lib.itoa ((k / 10 : Nat) : Int) ++ [fig1 ((k % 10 : Nat) : Int)] := by
  rw [Lib.itoa, if_neg (by omega), Int.toNat_natCast, dec_step h, Lib.itoa, if_neg (by omega), Int.toNat_natCast]; rfl
theorem itoa_ms (k : Nat) (h : 10 ≤ k) : Lib.itoa (-(k : Int)) = Lib.itoa (-((k / 10 : Nat) : Int)) ++ [fig1 ((k % 10 : Nat) : Int)] := by
  rw [Lib.itoa, if_pos (by omega), Int.natAbs_neg, Int.natAbs_natCast, dec_step h, Lib.itoa, if_pos (by omega), Int.natAbs_neg, Int.natAbs_natCast]; rfl

theorem ret_ba {a b : ByteArray} (h : a.data.toList = b.data.toList) : Ending.returned (.string a) = .returned (.string b) := by rw [Go.WideShapes.bytes_inj h]

set_option maxRecDepth 100000 in
set_option maxHeartbeats 2000000 in
theorem figures_a (k : Nat) (w : World) (h0 : 0 < k) (h1 : k < 10) :
    Calls Tryd.prog 22 #[.int .i64 (-(k : Int))] w fun e w' => e = .returned (.string ⟨(Lib.itoa (-(k : Int))).toArray⟩) ∧ Below w.heap.size w w' := by
  have E := Lib.hid (itoa_m1 k h0 h1)
  have hm := neg_mod k
  obtain ⟨d, hd⟩ : ∃ d : Int, d = ((k % 10 : Nat) : Int) := ⟨_, rfl⟩
  have hd0 : 0 ≤ d := by omega
  have hd9 : d ≤ 9 := by omega
  have hdk : Hid (d = k) := by show d = k; omega
  rw [← hd] at hm
  obtain ⟨n, hn⟩ : ∃ n : Int, n = -(k : Int) := ⟨_, rfl⟩
  have hn0 : n < 0 := by omega
  have hn10 : -10 < n := by omega
  rw [← hn] at hm E ⊢
  have hcv := conv_at (48 + d) (by omega) (by omega)
  clear hn hd h0 h1
  go_enter Tryd.func22, Tryd.ntmps22
  go_wp2
  go_ret
  refine ⟨ret_ba ?_, (Below.refl _ _).alloc (Nat.le_refl _) _⟩
  rw [Go.Joins.data_append, E.out, ← hdk.out]; rfl

set_option maxRecDepth 100000 in
set_option maxHeartbeats 2000000 in
theorem figures_p (k : Nat) (w : World) (h1 : k < 10) :
    Calls Tryd.prog 22 #[.int .i64 (k : Int)] w fun e w' => e = .returned (.string ⟨(Lib.itoa (k : Int)).toArray⟩) ∧ Below w.heap.size w w' := by
  have E := Lib.hid (itoa_1 k h1)
  obtain ⟨n, hn⟩ : ∃ n : Int, n = (k : Int) := ⟨_, rfl⟩
  have hn0 : 0 ≤ n := by omega
  have hn10 : n < 10 := by omega
  rw [← hn] at E ⊢
  have hcv := conv_at (48 + n) (by omega) (by omega)
  clear hn h1
  go_enter Tryd.func22, Tryd.ntmps22
  go_wp2
  go_ret
  refine ⟨ret_ba ?_, (Below.refl _ _).alloc (Nat.le_refl _) _⟩
  rw [E.out]; rfl

set_option maxRecDepth 100000 in
set_option maxHeartbeats 2000000 in
theorem figures_b (k : Nat) (w : World) (h0 : 10 ≤ k) (h1 : k ≤ 9223372036854775808)
    (IH : ∀ w1, Calls Tryd.prog 22 #[.int .i64 (-((k / 10 : Nat) : Int))] w1 fun e w' => e = .returned (.string ⟨(Lib.itoa (-((k / 10 : Nat) : Int))).toArray⟩) ∧ Below w1.heap.size w1 w') :
    Calls Tryd.prog 22 #[.int .i64 (-(k : Int))] w fun e w' => e = .returned (.string ⟨(Lib.itoa (-(k : Int))).toArray⟩) ∧ Below w.heap.size w w' := by
  have E := itoa_ms k h0
  have hl := Lib.itoa_length_le (-((k / 10 : Nat) : Int)) (by omega) (by omega)
  have hm := neg_mod k
  have hq := neg_div k
  obtain ⟨q, hqq⟩ : ∃ q : Int, q = -((k / 10 : Nat) : Int) := ⟨_, rfl⟩
  obtain ⟨d, hd⟩ : ∃ d : Int, d = ((k % 10 : Nat) : Int) := ⟨_, rfl⟩
  have hq0 : q < 0 := by omega
  have hq1 : -922337203685477581 ≤ q := by omega
  have hd0 : 0 ≤ d := by omega
  have hd9 : d ≤ 9 := by omega
  rw [← hd] at hm E
  rw [← hqq] at hq E IH hl
  obtain ⟨n, hn⟩ : ∃ n : Int, n = -(k : Int) := ⟨_, rfl⟩
  have hn0 : n < 0 := by omega
  have hn10 : ¬ -10 < n := by omega
  rw [← hn] at hm hq E ⊢
  obtain ⟨t, ht⟩ : ∃ t : ByteArray, t = ⟨(Lib.itoa q).toArray⟩ := ⟨_, rfl⟩
  have hts : t.size ≤ 21 := by rw [ht]; show (Lib.itoa q).toArray.size ≤ 21; simpa using hl
  rw [← ht] at IH
  have HE : Hid (Lib.itoa n = t.data.toList ++ [fig1 d]) := by rw [ht]; exact E
  have HI := Lib.hid IH
  have hcv := conv_at (48 + d) (by omega) (by omega)
  clear hn hd h0 h1 hqq E IH ht hl
  go_enter Tryd.func22, Tryd.ntmps22
  go_wp2_with (go_at_call 22; refine (HI.out _).mono ?_; rintro e w' ⟨rfl, hb⟩)
  go_ret
  refine ⟨ret_ba ?_, ((Below.refl _ _).alloc (Nat.le_refl _) _).trans (hb.mono (by simp))⟩
  rw [Go.Joins.data_append, HE.out]; rfl

set_option maxRecDepth 100000 in
set_option maxHeartbeats 2000000 in
theorem figures_c (k : Nat) (w : World) (h0 : 10 ≤ k) (h1 : k ≤ 9223372036854775807)
    (IH : ∀ w1, Calls Tryd.prog 22 #[.int .i64 ((k / 10 : Nat) : Int)] w1 fun e w' => e = .returned (.string ⟨(Lib.itoa ((k / 10 : Nat) : Int)).toArray⟩) ∧ Below w1.heap.size w1 w') :
    Calls Tryd.prog 22 #[.int .i64 (k : Int)] w fun e w' => e = .returned (.string ⟨(Lib.itoa (k : Int)).toArray⟩) ∧ Below w.heap.size w w' := by
  have E := itoa_s k h0
  have hl := Lib.itoa_length_le ((k / 10 : Nat) : Int) (by omega) (by omega)
  obtain ⟨q, hqq⟩ : ∃ q : Int, q = ((k / 10 : Nat) : Int) := ⟨_, rfl⟩
  obtain ⟨d, hd⟩ : ∃ d : Int, d = ((k % 10 : Nat) : Int) := ⟨_, rfl⟩
  have hq0 : 0 ≤ q := by omega
  have hq1 : q ≤ 922337203685477581 := by omega
  have hd0 : 0 ≤ d := by omega
  have hd9 : d ≤ 9 := by omega
  rw [← hd] at E
  rw [← hqq] at E IH hl
  obtain ⟨n, hn⟩ : ∃ n : Int, n = (k : Int) := ⟨_, rfl⟩
  have hn0 : ¬ n < 0 := by omega
  have hn1 : 0 ≤ n := by omega
  have hn10 : ¬ n < 10 := by omega
  have hm : n % 10 = d := by omega
  have hq : n / 10 = q := by omega
  have hm2 : n.tmod 10 = d := by rw [hn, hd]; rfl
  have hq2 : n.tdiv 10 = q := by rw [hn, hqq]; rfl
  rw [← hn] at E ⊢
  obtain ⟨t, ht⟩ : ∃ t : ByteArray, t = ⟨(Lib.itoa q).toArray⟩ := ⟨_, rfl⟩
  have hts : t.size ≤ 21 := by rw [ht]; show (Lib.itoa q).toArray.size ≤ 21; simpa using hl
  rw [← ht] at IH
  have HE : Hid (Lib.itoa n = t.data.toList ++ [fig1 d]) := by rw [ht]; exact E
  have HI := Lib.hid IH
  have hcv := conv_at (48 + d) (by omega) (by omega)
  have hwq : IntKind.i64.wrap q = q := by rw [IntKind.wrap_i64]; omega
  have hwd : IntKind.i64.wrap (48 + d) = 48 + d := by rw [IntKind.wrap_i64]; omega
  have hw8 : IntKind.u8.wrap (48 + d) = 48 + d := by rw [IntKind.wrap_u8]; omega
  clear hn hd h0 h1 hqq E IH ht hl
  go_enter Tryd.func22, Tryd.ntmps22
  go_wp2
  go_region_with (go_at_call 22; refine (HI.out _).mono ?_; rintro e w' ⟨rfl, hb⟩; obtain ⟨hc, hf⟩ := bcell hb)
  all_goals
    go_wp2
    go_ret
    refine ⟨ret_ba ?_, ?_⟩
    · rw [Go.Joins.data_append, HE.out]; rfl
    · first
        | exact Below.alloc (Below.trans (Below.drew (Below.refl _ _)) hb) hb.size _
        | exact Below.trans (Below.alloc (Below.drew (Below.refl _ _)) (Nat.le_refl _) _) (hb.mono (by simp))

theorem figures_any (n : Int) (h0 : -9223372036854775808 ≤ n) (h1 : n ≤ 9223372036854775807) (w : World) :
    Calls Tryd.prog 22 #[.int .i64 n] w fun e w' => e = .returned (.string ⟨(Lib.itoa n).toArray⟩) ∧ Below w.heap.size w w' := by
  have key : ∀ m : Nat, (m ≤ 9223372036854775808 → ∀ w, Calls Tryd.prog 22 #[.int .i64 (-(m : Int))] w fun e w' => e = .returned (.string ⟨(Lib.itoa (-(m : Int))).toArray⟩) ∧ Below w.heap.size w w') ∧
      (m ≤ 9223372036854775807 → ∀ w, Calls Tryd.prog 22 #[.int .i64 (m : Int)] w fun e w' => e = .returned (.string ⟨(Lib.itoa (m : Int)).toArray⟩) ∧ Below w.heap.size w w') := by
    intro m
    induction m using Nat.strongRecOn with
    | _ m ih =>
      refine ⟨fun hm w => ?_, fun hm w => ?_⟩
      · by_cases h10 : m < 10
        · by_cases hz : m = 0
          · subst hz; exact figures_p 0 w (by decide)
          · exact figures_a m w (by omega) h10
        · exact figures_b m w (by omega) hm ((ih (m / 10) (by omega)).1 (by omega))
      · by_cases h10 : m < 10
        · exact figures_p m w h10
        · exact figures_c m w (by omega) hm ((ih (m / 10) (by omega)).2 (by omega))
  by_cases hn : n < 0
  · obtain ⟨m, hm⟩ : ∃ m : Nat, n = -(m : Int) := ⟨n.natAbs, by omega⟩
    subst hm
    exact (key m).1 (by omega) w
  · obtain ⟨m, hm⟩ : ∃ m : Nat, n = (m : Int) := ⟨n.toNat, by omega⟩
    subst hm
    exact (key m).2 (by omega) w
end Go.Proofs.YtekhcaanjaoioaaDoor
