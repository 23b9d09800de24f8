/-
  The walk of RelationTurns: what is new is matched by nothing; behind one turn it is delta, and matched; behind two it isn't delta, and still matched; what comes between is delta alone: the law returns true; of old memory nothing turns.
-/
import Derived.Test.YtfjkfblejfiglaaRLaw1
namespace Go.Proofs.Ytfjkfblejfiglaa
set_option linter.unusedSimpArgs false
set_option linter.unusedVariables false
set_option linter.unusedSectionVars false
set_option maxRecDepth 100000
open Go.RowKit Go.Maps
variable [DecidableEq V]

set_option maxHeartbeats 3200000 in
theorem turns_walk {x y : Value} {ps ms : List (V × V)} {w : World} (hx : Pairs w x ps) (hy : Pairs w y ms) :
    Calls Try.prog 5 #[x, y] w fun e w' => e = .returned (.bool true) ∧ Below w.heap.size w w' := by
  obtain ⟨ao, cap, rfl, -⟩ := hx.len
  obtain ⟨bo, bcap, hye, hmy⟩ := hy.len
  unfold maxLen at hmy
  subst hye
  have HX := Lib.hid hx
  have HY := Lib.hid hy
  clear hx hy
  go_enter Try.func5, Try.ntmps5
  go_wp2_with fail
  refine (shown4_any w).mono ?_
  rintro e w1 ⟨rfl, hb1⟩
  have HB1 := Lib.hid hb1
  have hFL := Lib.hid (filled_any (HX.out.below hb1))
  have hs1 := hb1.size
  clear hb1 HX
  go_wp2_with fail
  refine (hFL.out).mono ?_
  rintro e w2 ⟨F, c, rfl, hc, hb2, hR2⟩
  have HB2 : Hid (Below w.heap.size w w2) := HB1.out.trans (hb2.mono HB1.out.size)
  obtain ⟨M, hM⟩ : ∃ M, fillM [] (ps.take 40) = M := ⟨_, rfl⟩
  rw [hM] at hR2
  obtain ⟨N, hN⟩ : ∃ N, M.length = N := ⟨_, rfl⟩
  have hN4 : N ≤ 40 := by have := hR2.nums; omega
  obtain ⟨rb, hrb⟩ : ∃ rb, w1.heap.size = rb := ⟨_, rfl⟩
  have HR2 : Hid (Rln w2 rb F rb 2 c M 0 0) := by show Rln _ _ _ _ _ _ _ _ _; rw [← hrb]; exact hR2
  have HN := Lib.hid hN
  have HRB : Hid (w.heap.size ≤ rb) := by show _ ≤ _; omega
  have hMA := Lib.hid (match_n HR2.out (by omega) false (n := 0) rfl)
  rw [hrb]
  clear hR2 hb2 hFL hM hN hrb HB1 hs1
  go_wp2_with fail
  refine (hMA.out).mono ?_
  rintro e w3 ⟨xo, xc, rfl, hb3⟩
  have HB3 : Hid (Below w.heap.size w w3) := HB2.out.trans (hb3.mono HB2.out.size)
  have HR3 := Lib.hid (HR2.out.below hb3)
  obtain ⟨z, hz⟩ : ∃ z, decide (0 < N) = z := ⟨_, rfl⟩
  have hz2 : decide ((N : Int) > 0) = z := by rw [← hz]; simp
  have hz3 : decide ((0 : Int) < (N : Int)) = z := by rw [← hz]; simp
  have hTU := Lib.hid (turn_z HR3.out (by omega) (show decide (0 < M.length) = z by rw [HN.out]; exact hz) HN.out)
  clear hb3 hMA HR2 HB2
  go_wp2_with fail
  refine (hTU.out).mono ?_
  rintro e w4 ⟨rfl, ht4, hR4⟩
  have HB4 := Lib.hid (HR3.out.step ht4 HB3.out HRB.out)
  have HR4 := Lib.hid hR4
  have hMA := Lib.hid (match_n HR4.out (by omega) true (n := N) (by simp))
  clear ht4 hR4 hTU HR3 HB3
  go_wp2_with fail
  refine (hMA.out).mono ?_
  rintro e w5 ⟨xo5, xc5, rfl, hb5⟩
  have HB5 : Hid (Below w.heap.size w w5) := HB4.out.trans (hb5.mono HB4.out.size)
  have HR5 := Lib.hid (HR4.out.below hb5)
  have hLE := Lib.hid (len_n HR5.out HN.out)
  clear hb5 hMA HR4 HB4
  go_wp2_with fail
  refine (hLE.out).mono ?_
  rintro e w6 ⟨rfl, rfl⟩
  have hDE := Lib.hid (delta_n HR5.out (by omega) (n := N) (by simp))
  clear hLE
  go_wp2_with fail
  refine (hDE.out).mono ?_
  rintro e w7 ⟨xo7, xc7, rfl, hb7⟩
  have HB7 : Hid (Below w.heap.size w w7) := HB5.out.trans (hb7.mono HB5.out.size)
  have HR7 := Lib.hid (HR5.out.below hb7)
  clear hb7 hDE HR5 HB5
  go_wp2_with fail
  go_loopw [13, 14] (fun m i wr => ∃ (k mo : Nat) (F : Nat → Prop), k ≤ ms.length ∧ k ≤ 40 ∧ mo ≤ k ∧ i = .int .i64 (k : Int) ∧ m = .int .i64 (mo : Int) ∧ Hid ((fillM M (ms.take k)).length = N + mo) ∧ Hid (Rln wr rb F rb 2 (c + k) (fillM M (ms.take k)) 0 N) ∧ Hid (Below w.heap.size w wr)) (fun _ i _ => 50 - (intOf i).toNat)
  case atStart => exact ⟨0, 0, F, Nat.zero_le _, by omega, Nat.le_refl _, rfl, rfl, HN, HR7, HB7⟩
  case round =>
    clear HR7 HB7
    obtain ⟨k, mo, G, hk, hk4, hmo, rfl, rfl, HL, HR, HB⟩ := hrel
    by_cases hgo : k < ms.length ∧ k < 40
    · obtain ⟨hlt, h4⟩ := hgo
      have h1I : (k : Int) < (ms.length : Int) := by omega
      have h4I : (k : Int) < 40 := by omega
      obtain ⟨b, off, rfl, hbl, hu, hv, c0, c1, c2, c3, c4, c5⟩ := (HY.out.below HB.out).at k hlt
      have HNX : Hid (fillM M (ms.take (k + 1)) = addRow (fillM M (ms.take k)) (prow ms[k])) := by
        show fillM _ _ = _
        rw [List.take_succ_eq_append_getElem hlt, fillM_snoc]
      have hA := Lib.hid (fun W q => add_pair (W := W) (q := q) HR.out HB.out HRB.out (by omega) hu hv)
      have HLN : Hid ((fillM M (ms.take (k + 1))).length = N + mo + (if prow ms[k] ∈ fillM M (ms.take k) then 0 else 1)) := by
        show _ = _
        rw [HNX.out, addRow_len, HL.out]
      rw [← HNX.out] at hA
      have hd : decide (prow ms[k] ∉ fillM M (ms.take k)) = !decide (prow ms[k] ∈ fillM M (ms.take k)) := by simp
      rw [hd] at hA
      by_cases hin : prow ms[k] ∈ fillM M (ms.take k)
      · have hdi : (!decide (prow ms[k] ∈ fillM M (ms.take k))) = false := by simp [hin]
        rw [hdi] at hA
        have HL2 : Hid ((fillM M (ms.take (k + 1))).length = N + mo) := by have := HLN.out; rw [if_pos hin] at this; exact this
        clear HLN hin hdi hd
        generalize hpe : ms[k] = p at *
        clear hpe HNX HR HL
        obtain ⟨u, v⟩ := p
        simp only at *
        have HUV : Hid (u.Ok ∧ v.Ok) := ⟨hu, hv⟩
        clear hu hv
        go_wp2_with fail
        go_region_with (go_at_call 12; refine (hA.out _ wr.heap.size (Nat.le_refl _) (by first | exact vals_new2 wr HUV.out.1 HUV.out.2 | exact (vals_new2 wr HUV.out.1 HUV.out.2).below ((Below.refl _ _).drew) | exact vals_new2 wr.drew HUV.out.1 HUV.out.2) (by first | exact ((Below.refl _ _).alloc (Nat.le_refl _) _) | exact ((Below.refl _ _).alloc (Nat.le_refl _) _).drew | exact ((Below.refl _ _).drew).alloc (by simp) _)).mono ?_; rintro e w' ⟨F', rfl, hbN, hRN⟩; have HRN := Lib.hid hRN; have HBN := Lib.hid hbN; clear hRN hbN)
        all_goals
          go_wp2
          go_roundw
          case rel => exact ⟨k + 1, mo, F', by omega, by omega, by omega, by go_num, rfl, HL2, HRN, HBN⟩
          case measure => simp [intOf]; omega
      · have hdi : (!decide (prow ms[k] ∈ fillM M (ms.take k))) = true := by simp [hin]
        rw [hdi] at hA
        have HL2 : Hid ((fillM M (ms.take (k + 1))).length = N + (mo + 1)) := by have := HLN.out; rw [if_neg hin] at this; exact this
        clear HLN hin hdi hd
        generalize hpe : ms[k] = p at *
        clear hpe HNX HR HL
        obtain ⟨u, v⟩ := p
        simp only at *
        have HUV : Hid (u.Ok ∧ v.Ok) := ⟨hu, hv⟩
        clear hu hv
        go_wp2_with fail
        go_region_with (go_at_call 12; refine (hA.out _ wr.heap.size (Nat.le_refl _) (by first | exact vals_new2 wr HUV.out.1 HUV.out.2 | exact (vals_new2 wr HUV.out.1 HUV.out.2).below ((Below.refl _ _).drew) | exact vals_new2 wr.drew HUV.out.1 HUV.out.2) (by first | exact ((Below.refl _ _).alloc (Nat.le_refl _) _) | exact ((Below.refl _ _).alloc (Nat.le_refl _) _).drew | exact ((Below.refl _ _).drew).alloc (by simp) _)).mono ?_; rintro e w' ⟨F', rfl, hbN, hRN⟩; have HRN := Lib.hid hRN; have HBN := Lib.hid hbN; clear hRN hbN)
        all_goals
          go_wp2
          go_roundw
          case rel => exact ⟨k + 1, mo + 1, F', by omega, by omega, by omega, by go_num, by go_num, HL2, HRN, HBN⟩
          case measure => simp [intOf]; omega
    · obtain ⟨M1, hM1⟩ : ∃ M1, fillM M (ms.take k) = M1 := ⟨_, rfl⟩
      rw [hM1] at HL HR
      obtain ⟨NM, hNM⟩ : ∃ NM, N + mo = NM := ⟨_, rfl⟩
      have hNMI : (N : Int) + (mo : Int) = (NM : Int) := by omega
      have hNM9 : (NM : Int) ≤ 80 := by omega
      have HNM := Lib.hid hNM
      have HL : Hid (M1.length = NM) := by show _ = _; rw [← hNM]; exact HL.out
      obtain ⟨z2, hzz⟩ : ∃ z2, decide (0 < mo) = z2 := ⟨_, rfl⟩
      have hy2 : decide ((mo : Int) > 0) = z2 := by rw [← hzz]; simp
      have hy3 : decide ((0 : Int) < (mo : Int)) = z2 := by rw [← hzz]; simp
      have hTU := Lib.hid (turn_z HR.out (by omega) (show decide (N < M1.length) = z2 by rw [HL.out, ← hzz, ← hNM]; simp) HL.out)
      have hstop : ¬ (k : Int) < (ms.length : Int) ∨ (k : Int) < (ms.length : Int) ∧ ¬ (k : Int) < 40 := by omega
      clear hM1 hgo hNM
      rcases hstop with h0 | ⟨h0, h4⟩
      all_goals
        go_wp2_with fail
        refine (hTU.out).mono ?_
        rintro e w8 ⟨rfl, ht8, hR8⟩
        have HB8 := Lib.hid (HR.out.step ht8 HB.out HRB.out)
        have HR8 := Lib.hid hR8
        have hDE := Lib.hid (delta_n HR8.out (by omega) (n := mo) (by have := HNM.out; omega))
        clear ht8 hR8 hTU
        go_wp2_with fail
        refine (hDE.out).mono ?_
        rintro e w9 ⟨xo9, xc9, rfl, hb9⟩
        have HB9 : Hid (Below w.heap.size w w9) := HB8.out.trans (hb9.mono HB8.out.size)
        have HR9 := Lib.hid (HR8.out.below hb9)
        have hMA := Lib.hid (match_n HR9.out (by omega) true (n := mo) (by have := HNM.out; simp; omega))
        clear hb9 hDE HR8 HB8
        go_wp2_with fail
        refine (hMA.out).mono ?_
        rintro e w10 ⟨xo10, xc10, rfl, hb10⟩
        have HB10 : Hid (Below w.heap.size w w10) := HB9.out.trans (hb10.mono HB9.out.size)
        have HR10 := Lib.hid (HR9.out.below hb10)
        have hMB := Lib.hid (match_n HR10.out (by omega) false (n := NM) (by simp))
        clear hb10 hMA HR9 HB9
        go_wp2_with fail
        refine (hMB.out).mono ?_
        rintro e w11 ⟨xo11, xc11, rfl, hb11⟩
        have HB11 : Hid (Below w.heap.size w w11) := HB10.out.trans (hb11.mono HB10.out.size)
        have HR11 := Lib.hid (HR10.out.below hb11)
        have hTV := Lib.hid (turn_z HR11.out (by omega) (z := false) (by rw [HL.out]; simp) HL.out)
        clear hb11 hMB HR10 HB10
        go_wp2_with fail
        refine (hTV.out).mono ?_
        rintro e w12 ⟨rfl, ht12, -⟩
        have HB12 := Lib.hid (HR11.out.step ht12 HB11.out HRB.out)
        clear ht12 hTV
        go_wp2
        go_ret
        exact ⟨by first | rfl | simp, HB12.out⟩
end Go.Proofs.Ytfjkfblejfiglaa
