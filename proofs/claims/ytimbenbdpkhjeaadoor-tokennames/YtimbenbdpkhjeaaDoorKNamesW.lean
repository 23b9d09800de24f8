/-
  TokenNames' walk.
-/
import Derived.Test.YtimbenbdpkhjeaaDoorKBackP
import Derived.Test.YtimbenbdpkhjeaaDoorKShown
import Derived.Lib.ItoaLen
namespace Go.Proofs.YtimbenbdpkhjeaaDoor
set_option linter.unusedSimpArgs false
set_option linter.unusedVariables false
set_option linter.unusedSectionVars false
set_option maxRecDepth 100000
open Go.RowKit

theorem big_scan : scanR ⟨#[57, 50, 50, 51, 51, 55, 50, 48, 51, 54, 56, 53, 52, 55, 55, 53, 56, 48, 56]⟩ = ⟨3, 0, []⟩ := by kernel_rfl
theorem low_scan : scanR ⟨#[45, 57, 50, 50, 51, 51, 55, 50, 48, 51, 54, 56, 53, 52, 55, 55, 53, 56, 48, 57]⟩ = ⟨3, 0, []⟩ := by kernel_rfl

theorem two_tks (W : World) (a b : Tk) : Tks (W.alloc (.cells #[.int .i64 a.kind, .string a.s, .int .i64 a.n, .bool a.q, .int .i64 a.pl, .int .i64 b.kind, .string b.s, .int .i64 b.n, .bool b.q, .int .i64 b.pl] 35)) (.slice (some ⟨W.heap.size, 0, none⟩) 2 2) [a, b] := by
  refine ⟨some ⟨W.heap.size, 0, none⟩, 2, rfl, by simp, (by show 2 ≤ maxLen; decide), fun i hi => ?_⟩
  have h0 := (MapKept.heap_alloc W (.cells #[.int .i64 a.kind, .string a.s, .int .i64 a.n, .bool a.q, .int .i64 a.pl, .int .i64 b.kind, .string b.s, .int .i64 b.n, .bool b.q, .int .i64 b.pl] 35)).1
  match i, hi with
  | 0, _ => exact ⟨_, 0, rfl, (Array.getElem?_eq_some_iff.1 h0).1, by rw [cell_of_row _ _ _ _ _ _ h0]; rfl, by rw [cell_of_row _ _ _ _ _ _ h0]; rfl, by rw [cell_of_row _ _ _ _ _ _ h0]; rfl, by rw [cell_of_row _ _ _ _ _ _ h0]; rfl, by rw [cell_of_row _ _ _ _ _ _ h0]; rfl⟩
  | 1, _ => exact ⟨_, 0, rfl, (Array.getElem?_eq_some_iff.1 h0).1, by rw [cell_of_row _ _ _ _ _ _ h0]; rfl, by rw [cell_of_row _ _ _ _ _ _ h0]; rfl, by rw [cell_of_row _ _ _ _ _ _ h0]; rfl, by rw [cell_of_row _ _ _ _ _ _ h0]; rfl, by rw [cell_of_row _ _ _ _ _ _ h0]; rfl⟩
theorem two_at {W : World} {c : Nat} (hc : c = W.heap.size) (a b : Tk) : Tks (W.alloc (.cells #[.int .i64 a.kind, .string a.s, .int .i64 a.n, .bool a.q, .int .i64 a.pl, .int .i64 b.kind, .string b.s, .int .i64 b.n, .bool b.q, .int .i64 b.pl] 35)) (.slice (some ⟨c, 0, none⟩) 2 2) [a, b] := by
  subst hc; exact two_tks W a b
/-- What was joined of a name in marks and a number is scanned as these two. -/
theorem names_scan (s : ByteArray) (n : Int) (hs : s.size ≤ 8000) (hn : InR n) : ∃ a b, scanR ⟨(joinL [⟨1, s, 0, true, 0⟩, ⟨3, ⟨#[]⟩, n, false, 0⟩]).toArray⟩ = ⟨0, 0, [a, b]⟩ ∧ a.s = s ∧ a.q = true ∧ b.n = n := by
  obtain ⟨T', h1, h2, h3⟩ := scan_join [⟨1, s, 0, true, 0⟩, ⟨3, ⟨#[]⟩, n, false, 0⟩] (by
    intro t ht
    simp at ht
    rcases ht with rfl | rfl
    · exact good_quote s 0
    · exact good_num _ _ _ hn rfl rfl) 0
  match T', h2 with
  | [a, b], _ =>
    have ha := h3 0 (by simp) (by simp)
    have hb := h3 1 (by simp) (by simp)
    refine ⟨a, b, ?_, ha.2.1, ha.2.2.2, hb.2.2.1⟩
    have hl := (escL_len s.data.toList).2
    have hi := Lib.itoa_length_le n hn.1 hn.2
    have hz : (joinL [⟨1, s, 0, true, 0⟩, ⟨3, ⟨#[]⟩, n, false, 0⟩]).length ≤ 65536 := by
      have hd := data_len s
      simp [joinL, textT, quoteL] at hl ⊢
      omega
    unfold scanR
    rw [if_neg (by simp only [ByteArray.size]; simp; simpa using hz)]
    exact h1
theorem names_mem {w : World} {B : Nat} {v : Value} {a b : Tk} (h : TkOwn w B v [a, b]) : ∃ g cap, v = .slice (some ⟨g, 0, none⟩) 2 cap ∧ g < w.heap.size ∧ w.cell? ⟨g, 1, none⟩ = some (.string a.s) ∧ w.cell? ⟨g, 3, none⟩ = some (.bool a.q) ∧ w.cell? ⟨g, 7, none⟩ = some (.int .i64 b.n) := by
  have ht := h.tks (by show 2 ≤ maxLen; decide)
  obtain ⟨ao, cap, rfl, h1, h2, h3⟩ := ht
  obtain ⟨g, cap', e⟩ := Joins.ownsRow_form h (by simp)
  cases e
  obtain ⟨b', off', e, hl, -, d1, -, d2, -⟩ := h3 0 (by simp)
  cases e
  obtain ⟨b', off', e, -, -, -, d3, -⟩ := h3 1 (by simp)
  cases e
  exact ⟨_, _, rfl, hl, d1, d2, d3⟩

set_option maxHeartbeats 4000000 in
theorem names_walk (s : ByteArray) (n : Int) (w : World) (hs : s.size ≤ maxLen) (ln : -9223372036854775808 ≤ n) (un : n ≤ 9223372036854775807) (hE : Env w) (hT : Tab w) :
    Calls Tryd.prog 8 #[.string s, .int .i64 n] w fun e w' => e = .returned (.bool true) ∧ Below w.heap.size w w' := by
  unfold maxLen at hs
  have HE := Lib.hid hE
  have HT := Lib.hid hT
  clear hE hT
  by_cases h8 : 8000 < s.size
  · have h8I : (8000 : Int) < (s.size : Int) := by omega
    go_enter Tryd.func8, Tryd.ntmps8
    go_wp2_with (go_at_call 10; refine (shown_any _ HE.out HT.out).mono ?_; rintro e w1 ⟨rfl, hb1⟩)
    go_ret
    exact ⟨rfl, hb1⟩
  have h8I : ¬ (8000 : Int) < (s.size : Int) := by omega
  have HOK : Hid (∀ t ∈ [(⟨1, s, 0, true, 0⟩ : Tk), ⟨3, ⟨#[]⟩, n, false, 0⟩], t.Ok) := by
    intro t ht
    simp at ht
    rcases ht with rfl | rfl
    · exact ⟨by (show 2 * s.size + 2 ≤ _; omega), by (show (-9223372036854775808 : Int) ≤ 0; decide), by (show (0 : Int) ≤ 9223372036854775807; decide)⟩
    · exact ⟨by (show 2 * 0 + 2 ≤ 140737488355328; decide), ln, un⟩
  have HJL : Hid ((joinL [(⟨1, s, 0, true, 0⟩ : Tk), ⟨3, ⟨#[]⟩, n, false, 0⟩]).length ≤ 140737488355328) := by
    have hl := (escL_len s.data.toList).2
    have hi := Lib.itoa_length_le n ln un
    have hd := data_len s
    show _ ≤ _
    simp [joinL, textT, quoteL] at hl ⊢
    omega
  obtain ⟨a, b, hsc, has, haq, hbn⟩ := names_scan s n (by omega) ⟨ln, un⟩
  obtain ⟨x, hx⟩ : ∃ x, x = (⟨(joinL [(⟨1, s, 0, true, 0⟩ : Tk), ⟨3, ⟨#[]⟩, n, false, 0⟩]).toArray⟩ : ByteArray) := ⟨_, rfl⟩
  have HJ : Hid (∀ W xv, Env W → Tab W → Tks W xv [(⟨1, s, 0, true, 0⟩ : Tk), ⟨3, ⟨#[]⟩, n, false, 0⟩] → Calls Tryd.prog 14 #[xv] W fun e w' => e = .returned (.string x) ∧ Below W.heap.size W w') := fun W xv _ ht hk => by rw [hx]; exact join_any hk HOK.out HJL.out ht
  rw [← hx] at hsc
  have HSC := Lib.hid (fun W (hW : Env W) => scan_any x W hW)
  have HS1 := Lib.hid (fun W (hW : Env W) => scan_any ⟨#[57, 50, 50, 51, 51, 55, 50, 48, 51, 54, 56, 53, 52, 55, 55, 53, 56, 48, 56]⟩ W hW)
  have HS2 := Lib.hid (fun W (hW : Env W) => scan_any ⟨#[45, 57, 50, 50, 51, 51, 55, 50, 48, 51, 54, 56, 53, 52, 55, 55, 53, 56, 48, 57]⟩ W hW)
  unfold ScanOut at HSC HS1 HS2
  rw [hsc] at HSC
  rw [big_scan] at HS1
  rw [low_scan] at HS2
  simp only at HSC HS1 HS2
  clear hx hsc HOK HJL h8 hs ln un
  go_enter Tryd.func8, Tryd.ntmps8
  go_wp2_with fail
  refine (shown_any _ HE.out HT.out).mono ?_
  rintro e w1 ⟨rfl, hb1⟩
  have HB1 := Lib.hid hb1
  clear hb1
  go_wp2_with fail
  have hk : Tks ((w1.alloc (.cells #[.int .i64 1, .string s, .int .i64 0, .bool true, .int .i64 0] 35)).alloc (.cells #[.int .i64 1, .string s, .int .i64 0, .bool true, .int .i64 0, .int .i64 3, .string ⟨#[]⟩, .int .i64 n, .bool false, .int .i64 0] 35)) (.slice (some ⟨w1.heap.size + 1, 0, none⟩) 2 2) [⟨1, s, 0, true, 0⟩, ⟨3, ⟨#[]⟩, n, false, 0⟩] := two_at (by simp) ⟨1, s, 0, true, 0⟩ ⟨3, ⟨#[]⟩, n, false, 0⟩
  have hbw : Below w1.heap.size w1 ((w1.alloc (.cells #[.int .i64 1, .string s, .int .i64 0, .bool true, .int .i64 0] 35)).alloc (.cells #[.int .i64 1, .string s, .int .i64 0, .bool true, .int .i64 0, .int .i64 3, .string ⟨#[]⟩, .int .i64 n, .bool false, .int .i64 0] 35)) := (al_below _ _).trans ((al_below _ _).mono (by simp))
  obtain ⟨wa, hwa⟩ : ∃ wa, wa = (w1.alloc (.cells #[.int .i64 1, .string s, .int .i64 0, .bool true, .int .i64 0] 35)).alloc (.cells #[.int .i64 1, .string s, .int .i64 0, .bool true, .int .i64 0, .int .i64 3, .string ⟨#[]⟩, .int .i64 n, .bool false, .int .i64 0] 35) := ⟨_, rfl⟩
  rw [← hwa] at hk hbw
  rw [← hwa]
  clear hwa
  have HBA : Hid (Below w.heap.size w wa) := HB1.out.trans (hbw.mono HB1.out.size)
  refine (HJ.out wa _ (HE.out.below HBA.out) (HT.out.on HBA.out) hk).mono ?_
  rintro e w2 ⟨rfl, hb2⟩
  have HB2 : Hid (Below w.heap.size w w2) := HBA.out.trans (hb2.mono HBA.out.size)
  clear hb2 hk hbw HBA
  go_wp2_with fail
  refine (HSC.out _ (HE.out.below HB2.out)).mono ?_
  rintro e w3 ⟨v, rfl, hb3, ho3⟩
  obtain ⟨g, cap, rfl, hgl, c1, c3, c7⟩ := names_mem ho3
  rw [has] at c1
  rw [haq] at c3
  rw [hbn] at c7
  have HB3 : Hid (Below w.heap.size w w3) := HB2.out.trans (hb3.mono HB2.out.size)
  have HC : Hid (g < w3.heap.size ∧ w3.cell? ⟨g, 1, none⟩ = some (.string s) ∧ w3.cell? ⟨g, 3, none⟩ = some (.bool true) ∧ w3.cell? ⟨g, 7, none⟩ = some (.int .i64 n)) := ⟨hgl, c1, c3, c7⟩
  clear hb3 ho3 hgl c1 c3 c7 has haq hbn
  go_wp2_with fail
  refine (HS1.out _ (HE.out.below HB3.out)).mono ?_
  rintro e w4 ⟨v4, rfl, hb4, -⟩
  have HB4 : Hid (Below w.heap.size w w4) := HB3.out.trans (hb4.mono HB3.out.size)
  have HC4 : Hid (Below w3.heap.size w3 w4) := hb4
  clear hb4
  go_wp2_with fail
  refine (HS2.out _ (HE.out.below HB4.out)).mono ?_
  rintro e w5 ⟨v5, rfl, hb5, -⟩
  have HB5 : Hid (Below w.heap.size w w5) := HB4.out.trans (hb5.mono HB4.out.size)
  have hc5 : Below w3.heap.size w3 w5 := HC4.out.trans (hb5.mono HC4.out.size)
  obtain ⟨hgl, c1, c3, c7⟩ := HC.out
  have d1 := (hc5.cell (p := ⟨g, 1, none⟩) hgl).trans c1
  have d3 := (hc5.cell (p := ⟨g, 3, none⟩) hgl).trans c3
  have d7 := (hc5.cell (p := ⟨g, 7, none⟩) hgl).trans c7
  have hsb : (s.toList == s.toList) = true := by simp
  clear c1 c3 c7 hc5 hb5 HC
  go_wp2
  go_ret
  exact ⟨rfl, HB5.out⟩
end Go.Proofs.YtimbenbdpkhjeaaDoor
