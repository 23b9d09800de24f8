/-
  TokenKinds' walk.
-/
import Derived.Test.YtimbenbdpkhjeaaDoorKFacts
import Derived.Test.YtimbenbdpkhjeaaDoorKShown
namespace Go.Proofs.YtimbenbdpkhjeaaDoor
set_option linter.unusedSimpArgs false
set_option linter.unusedVariables false
set_option linter.unusedSectionVars false
set_option maxRecDepth 100000
open Go.RowKit

theorem small_le {c : UInt8} (h : smallQ c = true) : (97 : Int) ≤ (c.toNat : Int) ∧ (c.toNat : Int) ≤ 122 := by simp [smallQ] at h; omega
theorem great_le {c : UInt8} (h : greatQ c = true) : (65 : Int) ≤ (c.toNat : Int) ∧ (c.toNat : Int) ≤ 90 := by simp [greatQ] at h; omega
theorem notEmpty {s : ByteArray} (h : 0 < s.size) : s.toList.isEmpty = false := by
  rw [toList_data]
  cases hl : s.data.toList with
  | nil =>
    have h2 : s.data.toList.length = s.size := data_len s
    rw [hl] at h2
    exact absurd h2 (by simp; omega)
  | cons c r => rfl

set_option maxHeartbeats 4000000 in
theorem kinds_walk (s : ByteArray) (w : World) (hs : s.size ≤ maxLen) (hE : Env w) (hT : Tab w) :
    Calls Tryd.prog 9 #[.string s] w fun e w' => e = .returned (.bool true) ∧ Below w.heap.size w w' := by
  unfold maxLen at hs
  have HE := Lib.hid hE
  have HT := Lib.hid hT
  clear hE hT
  by_cases h8 : 8000 < s.size
  · have h8I : (8000 : Int) < (s.size : Int) := by omega
    go_enter Tryd.func9, Tryd.ntmps9
    go_wp2_with (go_at_call 10; refine (shown_any _ HE.out HT.out).mono ?_; rintro e w1 ⟨rfl, hb1⟩)
    go_ret
    exact ⟨rfl, hb1⟩
  have h8I : ¬ (8000 : Int) < (s.size : Int) := by omega
  obtain ⟨r, hr⟩ : ∃ r, r = scanR s := ⟨_, rfl⟩
  have HSC := Lib.hid (fun W (hW : Env W) => scan_any s W hW)
  have HK : Hid (∀ t ∈ r.toks, KindOk t) := by rw [hr]; exact fun t ht => scan_kind ht
  have HLN : Hid (r.toks.length ≤ 65536) := by rw [hr]; exact scanR_len s
  unfold ScanOut at HSC
  rw [← hr] at HSC
  obtain ⟨bd, pl, T⟩ := r
  simp only at HSC HK HLN
  clear hr h8
  by_cases hbd : bd = 0
  · subst hbd
    go_enter Tryd.func9, Tryd.ntmps9
    go_wp2_with (first
      | (go_at_call 10; refine (shown_any _ HE.out HT.out).mono ?_; rintro e w1 ⟨rfl, hb1⟩)
      | (go_at_call 11; refine (HSC.out _ (HE.out.below hb1)).mono ?_; rintro e w2 ⟨v, rfl, hb2, ho2⟩; have HB2 : Hid (Below w.heap.size w w2) := hb1.trans (hb2.mono hb1.size); have HX := Lib.hid (ho2.tks (by (have := HLN.out; unfold maxLen; omega))); obtain ⟨ao, cap, rfl, hcap, hmx⟩ := HX.out.form; clear hb1 hb2 ho2))
    unfold maxLen at hmx
    go_loopw [7] (fun i wr => ∃ k : Nat, k ≤ T.length ∧ i = .int .i64 k ∧ Hid (Below w2.heap.size w2 wr)) (fun i _ => T.length - (intOf i).toNat)
    case atStart => exact ⟨0, Nat.zero_le _, rfl, Below.refl _ _⟩
    case round =>
      obtain ⟨k, hk, rfl, HB⟩ := hrel
      have h65 := HLN.out
      by_cases hlt : k < T.length
      · have hltI : (k : Int) < (T.length : Int) := by omega
        obtain ⟨ao', cap', e', -, -, hcells⟩ := HX.out.below HB.out
        cases e'
        obtain ⟨b, off, rfl, hbl, c0, c1, c2, c3, c4⟩ := hcells k hlt
        have hK := HK.out T[k] (List.getElem_mem hlt)
        obtain ⟨tk, htk⟩ : ∃ tk, tk = T[k] := ⟨_, rfl⟩
        rw [← htk] at hK c0 c1 c2 c3 c4
        obtain ⟨kd, st, nn, qq, pp⟩ := tk
        simp only [KindOk] at hK c0 c1 c2 c3 c4
        clear hcells htk
        have hal := al_below wr (.cells #[.int .i64 kd, .string st, .int .i64 nn, .bool qq, .int .i64 pp] 35)
        have HB' : Hid (Below w2.heap.size w2 (wr.alloc (.cells #[.int .i64 kd, .string st, .int .i64 nn, .bool qq, .int .i64 pp] 35))) := HB.out.trans (hal.mono HB.out.size)
        clear hal
        rcases hK with ⟨rfl, rfl, rfl⟩ | ⟨rfl, rfl, rfl, h32, hz, hsm⟩ | ⟨rfl, rfl, rfl, h32, hz, hsm⟩ | ⟨rfl, rfl, rfl⟩ | ⟨rfl, rfl, rfl, h12⟩
        · go_wp2
          go_roundw
          case rel => exact ⟨k + 1, by omega, by go_num, HB'⟩
          case measure => simp [intOf]; omega
        · obtain ⟨l1, l2⟩ := small_le hsm
          have hE0 := notEmpty hz
          have h32I : (st.size : Int) ≤ 32 := by omega
          have hzI : (0 : Int) < (st.size : Int) := by omega
          clear hsm
          go_wp2
          go_roundw
          case rel => exact ⟨k + 1, by omega, by go_num, HB'⟩
          case measure => simp [intOf]; omega
        · obtain ⟨l1, l2⟩ := great_le hsm
          have hE0 := notEmpty hz
          have h32I : (st.size : Int) ≤ 32 := by omega
          have hzI : (0 : Int) < (st.size : Int) := by omega
          clear hsm
          go_wp2
          go_roundw
          case rel => exact ⟨k + 1, by omega, by go_num, HB'⟩
          case measure => simp [intOf]; omega
        · go_wp2
          go_roundw
          case rel => exact ⟨k + 1, by omega, by go_num, HB'⟩
          case measure => simp [intOf]; omega
        · rcases h12 with h12 | h12
          all_goals
            go_wp2
            go_roundw
            case rel => exact ⟨k + 1, by omega, by go_num, HB'⟩
            case measure => simp [intOf]; omega
      · have hltI : ¬ (k : Int) < (T.length : Int) := by omega
        go_wp2
        go_ret
        exact ⟨rfl, HB2.out.trans (HB.out.mono HB2.out.size)⟩
  · have hbdI : ¬ (bd : Int) = 0 := by omega
    have hbdB : ((bd : Int) == 0) = false := by simpa using hbdI
    go_enter Tryd.func9, Tryd.ntmps9
    go_wp2_with (first
      | (go_at_call 10; refine (shown_any _ HE.out HT.out).mono ?_; rintro e w1 ⟨rfl, hb1⟩)
      | (go_at_call 11; refine (HSC.out _ (HE.out.below hb1)).mono ?_; rintro e w2 ⟨v, rfl, hb2, ho2⟩; have HB2 : Hid (Below w.heap.size w w2) := hb1.trans (hb2.mono hb1.size); clear hb1 hb2 ho2))
    go_ret
    exact ⟨rfl, HB2.out⟩
end Go.Proofs.YtimbenbdpkhjeaaDoor
