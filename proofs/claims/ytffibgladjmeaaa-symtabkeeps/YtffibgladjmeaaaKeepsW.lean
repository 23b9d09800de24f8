/-
  The walk of SymtabKeeps: numbers told stay as they are, whatever is put behind: the law returns true; of old memory nothing turns.
-/
import Derived.Test.YtffibgladjmeaaaSNums
namespace Go.Proofs.Ytffibgladjmeaaa
set_option linter.unusedSimpArgs false
set_option linter.unusedVariables false
set_option linter.unusedSectionVars false
open Go.RowKit Go.Maps
variable [DecidableEq V]

set_option maxHeartbeats 6400000 in
set_option maxRecDepth 100000 in
theorem keeps_walk {x y : Value} {vs us : List V} {v : V} {w : World} (hx : Vals w x vs) (hy : Vals w y us) (hv : v.Ok) :
    Calls Try.prog 7 #[x, y, .agg #[.bool v.k, .string v.s, .int .i64 v.n]] w fun e w' => e = .returned (.bool true) ∧ Below w.heap.size w w' := by
  obtain ⟨ao, cap, rfl, hm⟩ := hx.len
  obtain ⟨ao', cap', rfl, hm'⟩ := hy.len
  unfold maxLen at hm hm'
  have HX := Lib.hid hx
  have HY := Lib.hid hy
  have HV := Lib.hid hv
  have X0 := Lib.hid (Box.new w v)
  obtain ⟨i0, hi, hz0, hz1, hz2⟩ := info_parts infoInt
  clear hx hy hv
  go_enter Try.func7, Try.ntmps7
  go_wp2_with fail
  refine (shown2_any _).mono ?_
  rintro e w1 ⟨rfl, hb1⟩
  have X1 := Lib.hid (X0.out.below hb1)
  have HB1 : Hid (Below w.heap.size w w1) := ((Below.refl _ _).alloc (Nat.le_refl _) _).trans (hb1.mono (by simp))
  clear hb1 X0
  go_wp2_with fail
  refine (new_at _).mono ?_
  rintro e w2 ⟨tb, F, rfl, hb2, hT2⟩
  have X2 := Lib.hid (X1.out.below hb2)
  have HB2 : Hid (Below w.heap.size w w2) := HB1.out.trans (hb2.mono HB1.out.size)
  have HT2 := Lib.hid hT2
  have hB : Hid (w.heap.size < w1.heap.size) := X1.out.2.2.2
  clear hb2 hT2 HB1 X1
  go_wp2_with fail
  go_loopw [9, 10] (fun nv i wr => ∃ (k : Nat) (L : List V) (F : Nat → Prop) (zs : List Int) (ao2 : Option Addr) (cap2 : Nat), k ≤ vs.length ∧ k ≤ 100 ∧ L.length ≤ k ∧ i = .int .i64 k ∧ nv = .slice ao2 k cap2 ∧ zs.length = k ∧ Hid (Nums wr w1.heap.size F (.slice ao2 k cap2) zs) ∧ Hid (Told L (vs.take k) zs) ∧ Hid (Tbl wr w1.heap.size F tb L) ∧ Hid (Box wr w.heap.size v) ∧ Hid (Below w.heap.size w wr)) (fun _ i _ => vs.length - (intOf i).toNat)
  case atStart => exact ⟨0, [], F, [], none, 0, Nat.zero_le _, by omega, by simp, rfl, rfl, rfl, nums_nil _ _ _, told_nil _, HT2, X2, HB2⟩
  case round =>
    obtain ⟨k, L, F1, zs, ao2, cap2, hk, hk2, hLk, rfl, rfl, hzk, HN, HD, HT, HX1, HB⟩ := hrel
    by_cases hlt : k < vs.length ∧ k < 100
    · obtain ⟨h1, h2⟩ := hlt
      obtain ⟨b, off, rfl, c0, c1, c2, hok, hbl⟩ := HX.out.at HB.out k h1
      have h1I : (k : Int) < (vs.length : Int) := by omega
      have h2I : (k : Int) < 100 := by omega
      have HD1 := Lib.hid (HD.out.snoc vs[k])
      rw [← take_snocV vs k h1] at HD1
      generalize hvk : vs[k] = u at *
      clear hvk
      go_wp2_with fail
      refine (put_at HT.out hok (by omega)).mono ?_
      rintro e w4 ⟨rfl, ht4, F4, hT4, hF4⟩
      have HB4 : Hid (Below w.heap.size w w4) := HB.out.trans ((HT.out.stay ht4).mono (Nat.le_of_lt hB.out))
      have HX4 := Lib.hid (HX1.out.turns ht4 (fun h => by have := HT.out.base _ h; have := hB.out; omega))
      have HN4 := Lib.hid (HN.out.put ht4 hF4)
      have hs4 := HT.out.le
      have HT4 := Lib.hid hT4
      have hs4' : w1.heap.size ≤ w4.heap.size := by have := ht4.size; omega
      clear ht4 hT4 c0 c1 c2 hF4
      generalize hix : L.idxOf u.bare = ix at *
      clear hix
      go_wp2_with (at_builtin; refine wpList_append_own_at _ rfl _ _ 38 rfl w1.heap.size 3 i0 (.int .i64 0) 1 8 Try.underlying38 hi hz0 hz1 hz2 rfl (by decide) _ zs.length (zs.map (Value.int .i64)) rfl (HN4.out.1.alloc _) ⟨w4.heap.size, 0, none⟩ 1 1 [.int .i64 ix] rfl rfl (cell_one_new _ _ _) (ints_oneCell .i64 [(ix : Int)]) (by unfold maxLen; omega) (by omega) (by simp; omega) ?_; intro v' w5 hown' hgrow hnil hloc)
      obtain ⟨n1, n2, n3⟩ := HN4.out.app HT4.out hown' hgrow hloc hs4' (Nat.le_refl _)
      obtain ⟨ao3, cap3, e3, -⟩ := n1.form
      have hl3 : (zs ++ [(ix : Int)]).length = k + 1 := by simp [hzk]
      rw [hl3] at e3
      rw [e3] at n1 ⊢
      have hla := addV_len L u.bare
      exact ⟨⟨k + 1, addV L u.bare, F4, zs ++ [(ix : Int)], ao3, cap3, by omega, by omega, by omega, by go_num, rfl, hl3, n1, HD1, n2, HX4.out.belowB n3 hB.out, HB4.out.trans (n3.mono (Nat.le_of_lt hB.out))⟩, by simp [intOf]; omega⟩
    · have hL2 : L.length ≤ 100 := by omega
      have hout : ¬ (k : Int) < (vs.length : Int) ∨ ((k : Int) < (vs.length : Int) ∧ ¬ (k : Int) < 100) := by omega
      have hk100 : k ≤ 100 := hk2
      have hkI : (k : Int) ≤ (vs.length : Int) := by omega
      clear hlt hLk hk2
      rcases hout with ho | ⟨ho, ho2⟩
      all_goals
        go_wp2_with fail
        go_loopw [11] (fun i wr => ∃ (m : Nat) (L : List V) (F : Nat → Prop), m ≤ us.length ∧ m ≤ 100 ∧ L.length ≤ 100 + m ∧ i = .int .i64 m ∧ Hid (Nums wr w1.heap.size F (.slice ao2 k cap2) zs) ∧ Hid (Told L (vs.take k) zs) ∧ Hid (Tbl wr w1.heap.size F tb L) ∧ Hid (Box wr w.heap.size v) ∧ Hid (Below w.heap.size w wr)) (fun i _ => us.length - (intOf i).toNat)
        case atStart => exact ⟨0, L, F1, Nat.zero_le _, by omega, by omega, rfl, HN, HD, HT, HX1, HB⟩
        case round =>
          clear HN HD HT HX1 HB hL2
          obtain ⟨m, L2, F2, hmu, hm100, hL2, rfl, HN, HD, HT, HX1, HB⟩ := hrel
          by_cases hlt : m < us.length ∧ m < 100
          · obtain ⟨h1, h2⟩ := hlt
            obtain ⟨b, off, rfl, c0, c1, c2, hok, hbl⟩ := HY.out.at HB.out m h1
            have h1I : (m : Int) < (us.length : Int) := by omega
            have h2I : (m : Int) < 100 := by omega
            generalize hvk : us[m] = u at *
            clear hvk
            go_wp2_with fail
            refine (put_at HT.out hok (by omega)).mono ?_
            rintro e w4 ⟨rfl, ht4, F4, hT4, hF4⟩
            have HB4 : Hid (Below w.heap.size w w4) := HB.out.trans ((HT.out.stay ht4).mono (Nat.le_of_lt hB.out))
            have HX4 := Lib.hid (HX1.out.turns ht4 (fun h => by have := HT.out.base _ h; have := hB.out; omega))
            have HN4 := Lib.hid (HN.out.put ht4 hF4)
            have HT4 := Lib.hid hT4
            have HD4 := Lib.hid (HD.out.put u.bare)
            have hla := addV_len L2 u.bare
            clear ht4 hT4 c0 c1 c2 hF4
            go_wp2
            go_roundw
            case rel => exact ⟨m + 1, addV L2 u.bare, F4, by omega, by omega, by omega, by go_num, HN4, HD4, HT4, HX4, HB4⟩
            case measure => simp [intOf]; omega
          · have hL3 : L2.length ≤ 200 := by omega
            have hout : ¬ (m : Int) < (us.length : Int) ∨ ((m : Int) < (us.length : Int) ∧ ¬ (m : Int) < 100) := by omega
            clear hlt hL2
            rcases hout with ho3 | ⟨ho3, ho4⟩
            all_goals
              go_wp2_with fail
              go_loopw [12] (fun i wr => ∃ (j : Nat), j ≤ k ∧ i = .int .i64 j ∧ Hid (Nums wr w1.heap.size F2 (.slice ao2 k cap2) zs) ∧ Hid (Tbl wr w1.heap.size F2 tb L2) ∧ Hid (Box wr w.heap.size v) ∧ Hid (Below w.heap.size w wr)) (fun i _ => k - (intOf i).toNat)
              case atStart => exact ⟨0, Nat.zero_le _, rfl, HN, HT, HX1, HB⟩
              case round =>
                clear HN HT HX1 HB
                obtain ⟨j, hjk, rfl, HN, HT, HX1, HB⟩ := hrel
                by_cases hj : j < k
                · have hjv : j < vs.length := by omega
                  obtain ⟨b, off, rfl, c0, c1, c2, hok, hbl⟩ := HX.out.at HB.out j hjv
                  obtain ⟨t1, hz, t2⟩ := HD.out.at j hj hjv
                  have hjI : (j : Int) < (k : Int) := by omega
                  have hjI2 : (j : Int) < (vs.length : Int) := by omega
                  have e1 : decide (vs[j].bare ∈ L2) = true := by simp [t1]
                  have e2 := at0_in t1
                  generalize hvk : vs[j] = u at *
                  clear hvk
                  go_wp2_with fail
                  refine (find_any HT.out hok).mono ?_
                  rintro e w5 ⟨rfl, hb5⟩
                  rw [e1, e2]
                  have HN5 := Lib.hid (HN.out.below hb5)
                  obtain ⟨g, hg1, hg2, hg3, hg4⟩ := HN5.out.at j hz
                  subst hg1
                  rw [t2] at hg2
                  have HT5 := Lib.hid (HT.out.below hb5)
                  have HX5 := Lib.hid (HX1.out.below hb5)
                  have HB5 : Hid (Below w.heap.size w w5) := HB.out.trans (hb5.mono HB.out.size)
                  clear hb5 e1 e2 t1 t2 c0 c1 c2 hg4
                  generalize L2.idxOf u.bare = ix at *
                  go_wp2
                  go_roundw
                  case rel => exact ⟨j + 1, by omega, by go_num, HN5, HT5, HX5, HB5⟩
                  case measure => simp [intOf]; omega
                · obtain ⟨x0, x1, x2, x3⟩ := HX1.out
                  have hLI : (L2.length : Int) ≤ 200 := by omega
                  by_cases hmv : v.bare ∈ L2
                  · have e1 : decide (v.bare ∈ L2) = true := by simp [hmv]
                    have HA := Lib.hid (addV_in hmv)
                    have HE := Lib.hid (at0_in hmv)
                    have E1 := Lib.hid e1
                    clear hmv e1
                    go_wp2_with fail
                    refine (find_any HT.out HV.out).mono ?_
                    rintro e w5 ⟨rfl, hb5⟩
                    rw [E1.out]
                    have HT5 := Lib.hid (HT.out.below hb5)
                    have HX5 := Lib.hid (HX1.out.below hb5)
                    have HB5 : Hid (Below w.heap.size w w5) := HB.out.trans (hb5.mono HB.out.size)
                    clear hb5 x0 x1 x2 x3
                    obtain ⟨x0, x1, x2, x3⟩ := HX5.out
                    go_wp2_with fail
                    refine (len_any HT5.out).mono ?_
                    rintro e w6 ⟨rfl, rfl⟩
                    go_wp2_with fail
                    refine (put_at HT5.out HV.out (by omega)).mono ?_
                    rintro e w7 ⟨rfl, ht7, F7, hT7, -⟩
                    rw [HA.out.1] at hT7
                    have HB7 : Hid (Below w.heap.size w w7) := HB5.out.trans ((HT5.out.stay ht7).mono (Nat.le_of_lt hB.out))
                    have HX7 := Lib.hid (HX5.out.turns ht7 (fun h => by have := HT5.out.base _ h; have := hB.out; omega))
                    have HT7 := Lib.hid hT7
                    clear ht7 hT7 x0 x1 x2 x3
                    obtain ⟨x0, x1, x2, x3⟩ := HX7.out
                    go_wp2_with fail
                    refine (find_any HT7.out HV.out).mono ?_
                    rintro e w8 ⟨rfl, hb8⟩
                    rw [E1.out, HE.out]
                    have HT8 := Lib.hid (HT7.out.below hb8)
                    have HB8 : Hid (Below w.heap.size w w8) := HB7.out.trans (hb8.mono HB7.out.size)
                    clear hb8 x0 x1 x2 x3
                    generalize L2.idxOf v.bare = ix at *
                    go_wp2_with (go_at_call 12; refine (len_any HT8.out).mono ?_; rintro e w9 ⟨rfl, rfl⟩)
                    go_ret
                    exact ⟨rfl, HB8.out⟩
                  · have e1 : decide (v.bare ∈ L2) = false := by simp [hmv]
                    have HA := Lib.hid (addV_out hmv)
                    have HE := Lib.hid (at0_in (idx_addV_self L2 v.bare).2)
                    have HF : Hid ((addV L2 v.bare).idxOf v.bare = L2.length) := (idx_addV_self L2 v.bare).1.trans (addV_out hmv).2
                    have HL : Hid ((addV L2 v.bare).length = L2.length + 1) := (by rw [(addV_out hmv).1]; simp : (addV L2 v.bare).length = L2.length + 1)
                    have E1 := Lib.hid e1
                    have E2 : Hid (decide (v.bare ∈ addV L2 v.bare) = true) := decide_eq_true (idx_addV_self L2 v.bare).2
                    clear hmv e1
                    go_wp2_with fail
                    refine (find_any HT.out HV.out).mono ?_
                    rintro e w5 ⟨rfl, hb5⟩
                    rw [E1.out]
                    have HT5 := Lib.hid (HT.out.below hb5)
                    have HX5 := Lib.hid (HX1.out.below hb5)
                    have HB5 : Hid (Below w.heap.size w w5) := HB.out.trans (hb5.mono HB.out.size)
                    clear hb5 x0 x1 x2 x3
                    obtain ⟨x0, x1, x2, x3⟩ := HX5.out
                    go_wp2_with fail
                    refine (len_any HT5.out).mono ?_
                    rintro e w6 ⟨rfl, rfl⟩
                    go_wp2_with fail
                    refine (put_at HT5.out HV.out (by omega)).mono ?_
                    rintro e w7 ⟨rfl, ht7, F7, hT7, -⟩
                    rw [HA.out.2]
                    have HB7 : Hid (Below w.heap.size w w7) := HB5.out.trans ((HT5.out.stay ht7).mono (Nat.le_of_lt hB.out))
                    have HX7 := Lib.hid (HX5.out.turns ht7 (fun h => by have := HT5.out.base _ h; have := hB.out; omega))
                    have HT7 := Lib.hid hT7
                    clear ht7 hT7 x0 x1 x2 x3
                    obtain ⟨x0, x1, x2, x3⟩ := HX7.out
                    go_wp2_with fail
                    refine (find_any HT7.out HV.out).mono ?_
                    rintro e w8 ⟨rfl, hb8⟩
                    rw [E2.out, HE.out, HF.out]
                    have HT8 := Lib.hid (HT7.out.below hb8)
                    have HB8 : Hid (Below w.heap.size w w8) := HB7.out.trans (hb8.mono HB7.out.size)
                    clear hb8 x0 x1 x2 x3
                    go_wp2_with (go_at_call 12; refine (len_any HT8.out).mono ?_; rintro e w9 ⟨rfl, rfl⟩; rw [HL.out])
                    go_ret
                    exact ⟨rfl, HB8.out⟩
end Go.Proofs.Ytffibgladjmeaaa
