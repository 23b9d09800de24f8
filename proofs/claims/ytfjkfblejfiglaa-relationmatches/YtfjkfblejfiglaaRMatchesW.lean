/-
  The walk of RelationMatches: what is matched has the values at their places; each row is matched by its own values; of values that are nowhere nothing is: the law returns true; of old memory nothing turns.
-/
import Derived.Test.YtfjkfblejfiglaaRMat1
namespace Go.Proofs.Ytfjkfblejfiglaa
set_option linter.unusedSimpArgs false
set_option linter.unusedVariables false
set_option linter.unusedSectionVars false
set_option maxRecDepth 100000
open Go.RowKit Go.Maps
variable [DecidableEq V]

set_option maxHeartbeats 3200000 in
theorem matches_walk {x : Value} {ps : List (V × V)} {v : V} {o : Bool} {w : World} (hx : Pairs w x ps) (hv : v.Ok) :
    Calls Try.prog 6 #[x, .agg #[.bool v.k, .string v.s, .int .i64 v.n], .bool o] w fun e w' => e = .returned (.bool true) ∧ Below w.heap.size w w' := by
  obtain ⟨ao, cap, rfl, hm⟩ := hx.len
  unfold maxLen at hm
  have HX := Lib.hid hx
  have HOK := Lib.hid hv
  clear hx hv hm
  go_enter Try.func6, Try.ntmps6
  go_wp2_with fail
  obtain ⟨w0, hw0⟩ : ∃ w0, w0 = w.alloc (.cells #[.bool v.k, .string v.s, .int .i64 v.n] 55) := ⟨_, rfl⟩
  have HB0 : Hid (Below w.heap.size w w0) := by show Below _ _ _; rw [hw0]; exact (Below.refl _ _).alloc (Nat.le_refl _) _
  have HA0 : Hid (Box w0 w.heap.size v) := by show Box _ _ _; rw [hw0]; exact Box.new w v
  rw [← hw0]
  clear hw0
  obtain ⟨qa, hqa⟩ : ∃ q, w.heap.size = q := ⟨_, rfl⟩
  rw [hqa] at HA0
  refine (shown4_any w0).mono ?_
  rintro e w1 ⟨rfl, hb1⟩
  have HB1 : Hid (Below w.heap.size w w1) := HB0.out.trans (hb1.mono HB0.out.size)
  have HA1 := Lib.hid (HA0.out.below hb1)
  have hFL := Lib.hid (filled_any (HX.out.below HB1.out))
  have hs1 := HB1.out.size
  clear hb1 HX HB0 HA0
  rw [hqa]
  go_wp2_with fail
  refine (hFL.out).mono ?_
  rintro e w2 ⟨F, c, rfl, hc, hb2, hR2⟩
  have HB2 : Hid (Below w.heap.size w w2) := HB1.out.trans (hb2.mono HB1.out.size)
  have HA2 := Lib.hid (HA1.out.below hb2)
  have HLT : Hid (qa < w1.heap.size) := HA1.out.2.2.2
  obtain ⟨rb, hrb⟩ : ∃ rb, w1.heap.size = rb := ⟨_, rfl⟩
  rw [hrb] at hR2 HLT hs1 ⊢
  have HRB : Hid (w.heap.size ≤ rb) := hs1
  obtain ⟨M, hM⟩ : ∃ M, fillM [] (ps.take 40) = M := ⟨_, rfl⟩
  rw [hM] at hR2
  obtain ⟨N, hN⟩ : ∃ N, M.length = N := ⟨_, rfl⟩
  have hN4 : N ≤ 40 := by have := hR2.nums; omega
  have HR2 := Lib.hid hR2
  have HN := Lib.hid hN
  have hTU := Lib.hid (turn_z HR2.out (by omega) (z := decide (0 < M.length)) rfl hN)
  clear hb2 hR2 hFL HA1 HB1 hqa hrb hs1 hM hN
  generalize decide (0 < M.length) = z0 at *
  go_wp2_with fail
  refine (hTU.out).mono ?_
  rintro e w3 ⟨rfl, ht3, hR3⟩
  have HB3 := Lib.hid (HR2.out.step ht3 HB2.out HRB.out)
  have hlow := HR2.out.low
  have hb3 : Below rb w2 w3 := ht3.below (by omega) (fun k hk => (hlow.1 k hk).1)
  have HA3 := Lib.hid (HA2.out.at' hb3 HLT.out)
  have HR3 := Lib.hid hR3
  clear ht3 hR3 hTU HR2 HB2 HA2 hb3 hlow
  cases o with
  | true =>
    have hMA := Lib.hid (match_one HR3.out HN.out (by omega) HOK.out 1 (by decide) (z := 1) rfl)
    obtain ⟨a0, a1, a2, a3⟩ := HA3.out
    go_wp2_with fail
    refine (hMA.out).mono ?_
    rintro e w4 ⟨xo, xc, Dx, rfl, hb4, hG4, hE4⟩
    have HB4 : Hid (Below w.heap.size w w4) := HB3.out.trans (hb4.mono HB3.out.size)
    have HA4 := Lib.hid (HA3.out.below hb4)
    have HR4 := Lib.hid (HR3.out.below hb4)
    have HGX : Hid (Grid w4 (.slice xo Dx.length xc) Dx ∧ Dx.map R.vs = (srt M).filter (pvB 1 v)) := ⟨hG4, hE4⟩
    have hAL := Lib.hid (all_told HR4.out (by omega))
    clear a0 a1 a2 a3 hb4 hG4 hE4 hMA HB3 HA3 HR3
    go_wp2_with fail
    refine (hAL.out).mono ?_
    rintro e w5 ⟨yo, yc, D, he5, hb5, hO5, hE5⟩
    rw [HN.out] at he5 hO5
    subst he5
    have HB5 : Hid (Below w.heap.size w w5) := HB4.out.trans (hb5.mono HB4.out.size)
    have HA5 := Lib.hid (HA4.out.below hb5)
    have HR5 := Lib.hid (HR4.out.below hb5)
    have HX5 := Lib.hid (HGX.out.1.below hb5)
    have HG5 := Lib.hid hO5.grid
    have hDl : D.length = N := by have := congrArg List.length hE5; rw [srt_len HR4.out.unlike, HN.out] at this; simpa using this
    have HDE : Hid (D.map R.vs = srt M) := hE5
    have HXE : Hid (Dx.map R.vs = (D.map R.vs).filter (pvB 1 v)) := by show _ = _; rw [hE5]; exact HGX.out.2
    have hDx : Dx.length ≤ N := by have := congrArg List.length HXE.out; rw [List.length_map] at this; rw [this]; refine Nat.le_trans (List.length_filter_le _ _) ?_; simp [hDl]
    have HDL := Lib.hid hDl
    have HMEM : Hid (∀ i (hi : i < D.length), D[i].vs ∈ M) := fun i hi => by
      have h1 : D[i].vs ∈ D.map R.vs := List.mem_map_of_mem (List.getElem_mem hi)
      rw [hE5] at h1
      exact first_mem ((srt_mem _ _).1 h1)
    obtain ⟨X, hX⟩ : ∃ X, Dx.length = X := ⟨_, rfl⟩
    rw [hX] at HX5 hDx ⊢
    have HXL := Lib.hid hX
    clear hb5 hO5 hE5 hAL HB4 HA4 HR4 HGX hDl hX
    go_wp2_with fail
    go_loopw [12, 14] (fun nv iv wr => ∃ (i n : Nat), i ≤ N ∧ n ≤ i ∧ iv = .int .i64 (i : Int) ∧ nv = .int .i64 (n : Int) ∧ Hid (n = cnt (pvB 1 v) (D.map R.vs) i) ∧ Hid (Below w5.heap.size w5 wr)) (fun _ iv _ => 50 - (intOf iv).toNat)
    case atStart => exact ⟨0, 0, Nat.zero_le _, Nat.le_refl _, rfl, rfl, (show 0 = cnt (pvB 1 v) (D.map R.vs) 0 by simp [cnt]), Below.refl _ _⟩
    case round =>
      obtain ⟨i, n, hi, hni, rfl, rfl, HC, HB⟩ := hrel
      have hwr := HB.out.size
      by_cases hlt : i < N
      · have h1I : (i : Int) < (N : Int) := by omega
        have hiD : i < D.length := by rw [HDL.out]; exact hlt
        obtain ⟨ga, oa, rfl, c0, hbl, v1, -⟩ := HG5.out.at HB.out i hiD
        have hmem := HMEM.out i hiD
        have hr2 := HR5.out.rows _ hmem
        obtain ⟨ho, hcap, hhv, -⟩ := v1.len
        rw [hr2.1] at hhv
        rw [hhv] at c0 v1
        have HRr := Lib.hid (HR5.out.below HB.out)
        have HAr := Lib.hid (HA5.out.below HB.out)
        have HBw : Hid (Below w.heap.size w wr) := HB5.out.trans (HB.out.mono HB5.out.size)
        have hgl : ga < wr.heap.size := by omega
        obtain ⟨r0, hr0⟩ : ∃ r0, D[i].vs = r0 := ⟨_, rfl⟩
        rw [hr0] at hmem hr2 v1
        have HV := Lib.hid v1
        have HR0 : Hid (r0 ∈ M ∧ r0.length = 2 ∧ ∀ u ∈ r0, u.bare = u) := ⟨hmem, hr2.1, hr2.2⟩
        have HAi : Hid (i < (D.map R.vs).length ∧ (D.map R.vs)[i]? = some r0) := ⟨by simpa using hiD, by simp [hiD, hr0]⟩
        have hMO := Lib.hid (match_own HRr.out HN.out (by omega) v1 hmem)
        clear v1 hmem hr2 hhv hr0 hbl hiD
        go_wp2_with fail
        refine (hMO.out).mono ?_
        rintro e w6 ⟨g, og, gc, hvo, rfl, hb6, d0, hg6, vo⟩
        have hs6 := hb6.size
        have e0 : w6.cell? ⟨ga, oa + i, none⟩ = some (.slice ho 2 hcap) := (hb6.cell (p := ⟨ga, oa + i, none⟩) hgl).trans c0
        have hg6a : ga < w6.heap.size := by omega
        have hS := Lib.hid (fun W (hb : Below w6.heap.size w6 W) => row_same (vo.below hb) ((HV.out.below hb6).below hb))
        have hH := Lib.hid (fun W (hb : Below w6.heap.size w6 W) => has_yes ((HRr.out.below hb6).below hb) (by omega) ((HV.out.below hb6).below hb) HR0.out.1)
        have HB6 : Hid (Below wr.heap.size wr w6) := hb6
        obtain ⟨vo1, vo2, hvo', -⟩ := vo.len
        rw [HR0.out.2.1] at hvo'
        subst hvo'
        clear vo hb6 hMO c0
        go_wp2_with fail
        go_region_held3 (fun w' => w'.cell? ⟨ga, oa + i, none⟩ = some (.slice ho 2 hcap) ∧ w'.cell? ⟨g, og, none⟩ = some (.slice vo1 2 vo2) ∧ ga < w'.heap.size ∧ g < w'.heap.size ∧ Below w6.heap.size w6 w')
          (first | assumption | exact pair_keep (by assumption) hbN | exact ⟨e0, d0, hg6a, hg6, (Below.refl _ _).drew⟩)
          (first
            | (go_at_call 28; refine (hS.out _ (by go_split_ands; assumption)).mono ?_; rintro e w' ⟨rfl, hbN⟩)
            | (go_at_call 19; refine (hH.out _ (by go_split_ands; assumption)).mono ?_; rintro e w' ⟨rfl, hbN⟩))
        go_split_ands
        rename_i y0 y1 y2 y3 y4
        obtain ⟨w7, hw7⟩ : ∃ w7, w7 = w' := ⟨_, rfl⟩
        rw [← hw7] at y0 y1 y2 y3 y4 ⊢
        clear hw7
        have HB7 : Hid (Below wr.heap.size wr w7) := HB6.out.trans (y4.mono HB6.out.size)
        have hw7 := HB7.out.size
        have h1r : 1 < r0.length := by rw [HR0.out.2.1]; decide
        obtain ⟨b, off, hho, u0, u1, u2, huok, hbu⟩ := (HV.out.below HB7.out).at (Below.refl _ _) 1 h1r
        subst hho
        have hzz := pv_cmp (v := v) HR0.out.2.2 h1r
        have hC : Hid (∀ W q1 q2, Vals W (.slice (some ⟨q1, 0, none⟩) 1 1) [r0[1]] → Vals W (.slice (some ⟨q2, 0, none⟩) 1 1) [v] → Calls Try.prog 29 #[.slice (some ⟨q1, 0, none⟩) 1 1, .slice (some ⟨q2, 0, none⟩) 1 1] W fun e w' => e = .returned (.int .i64 (rcmp [r0[1]] [v])) ∧ Below W.heap.size W w') := fun W q1 q2 h1 h2 => refRow_cmp h1 h2
        have HST : Hid (cnt (pvB 1 v) (D.map R.vs) (i + 1) = n + (if pvB 1 v r0 = true then 1 else 0)) := by
          show _ = _
          have hA := HAi.out
          have e1 : (D.map R.vs)[i]'hA.1 = r0 := by have := hA.2; rw [List.getElem?_eq_getElem hA.1] at this; injection this
          rw [cnt_step hA.1, e1, HC.out]
        have HAT : Hid (pvB 1 v r0 = true → ∃ h : n < Dx.length, Dx[n].vs = r0) := fun hp => by
          have hA := HAi.out
          have e1 : (D.map R.vs)[i]'hA.1 = r0 := by have := hA.2; rw [List.getElem?_eq_getElem hA.1] at this; injection this
          obtain ⟨h1, h2⟩ := cnt_at (p := pvB 1 v) hA.1 (by rw [e1]; exact hp)
          have hl : (Dx.map R.vs).length = ((D.map R.vs).filter (pvB 1 v)).length := congrArg List.length HXE.out
          have hn : n < Dx.length := by rw [HC.out]; rw [← hl] at h1; simpa using h1
          refine ⟨hn, ?_⟩
          have h3 : (Dx.map R.vs)[n]'(by simpa using hn) = ((D.map R.vs).filter (pvB 1 v))[n]'(by rw [HC.out]; exact h1) := List.getElem_of_eq HXE.out _
          rw [List.getElem_map] at h3
          rw [h3]
          have h4 : ((D.map R.vs).filter (pvB 1 v))[n]'(by rw [HC.out]; exact h1) = ((D.map R.vs).filter (pvB 1 v))[cnt (pvB 1 v) (D.map R.vs) i] := by congr 1
          rw [h4, h2, e1]
        obtain ⟨a0, a1, a2, a3⟩ := HAr.out.below HB7.out
        generalize rcmp [r0[1]] [v] = z at *
        generalize r0[1] = u at *
        generalize hpe : pvB 1 v r0 = pz at *
        have t0 : w7.cell? ⟨b, off + 3, none⟩ = some (.bool u.k) := by simpa using u0
        have t1 : w7.cell? ⟨b, off + 3 + 1, none⟩ = some (.string u.s) := by simpa using u1
        have t2 : w7.cell? ⟨b, off + 3 + 2, none⟩ = some (.int .i64 u.n) := by simpa using u2
        have HUK := Lib.hid huok
        clear y1 y3 y4 u0 u1 u2 huok hS hH d0 hg6 e0 hg6a hs6 HB6 HC hpe HAi
        go_wp2_with fail
        go_region_held3 (fun w' => w'.cell? ⟨ga, oa + i, none⟩ = some (.slice (some ⟨b, off, none⟩) 2 hcap) ∧ ga < w'.heap.size ∧ w'.cell? ⟨b, off + 3, none⟩ = some (.bool u.k) ∧ w'.cell? ⟨b, off + 3 + 1, none⟩ = some (.string u.s) ∧ w'.cell? ⟨b, off + 3 + 2, none⟩ = some (.int .i64 u.n) ∧ b < w'.heap.size ∧ w'.cell? ⟨qa, 0, none⟩ = some (.bool v.k) ∧ w'.cell? ⟨qa, 1, none⟩ = some (.string v.s) ∧ w'.cell? ⟨qa, 2, none⟩ = some (.int .i64 v.n) ∧ qa < w'.heap.size ∧ Below w7.heap.size w7 w')
          (first | assumption | exact seven_keep (by assumption) hbN | exact seven_keep (by assumption) ((Below.refl _ _).alloc (Nat.le_refl _) _) | exact ⟨y0, y2, t0, t1, t2, hbu, a0, a1, a2, a3, (Below.refl _ _).drew⟩)
          (first
            | (go_at_call 29; refine (hC.out _ _ _ (by first | exact ((vals_new1 w7 HUK.out).below ((Below.refl _ _).alloc (Nat.le_refl _) _)).below ((Below.refl _ _).drew) | exact (vals_second1 w7 _ HUK.out).below ((Below.refl _ _).drew)) (by first | exact ((vals_new1 w7 HOK.out).below ((Below.refl _ _).alloc (Nat.le_refl _) _)).below ((Below.refl _ _).drew) | exact (vals_second1 w7 _ HOK.out).below ((Below.refl _ _).drew))).mono ?_; rintro e w' ⟨rfl, hbN⟩))
        all_goals
          go_split_ands
          rename_i y0 y1 y2 y3 y4 y5 y6 y7 y8 y9 y10
          obtain ⟨w8, hw8⟩ : ∃ w8, w8 = w' := ⟨_, rfl⟩
          rw [← hw8] at y0 y1 y2 y3 y4 y5 y6 y7 y8 y9 y10 ⊢
          clear hw8
          have HB8 : Hid (Below wr.heap.size wr w8) := HB7.out.trans (y10.mono HB7.out.size)
          have HB58 : Hid (Below w5.heap.size w5 w8) := HB.out.trans (HB8.out.mono hwr)
          have hw8 := HB8.out.size
          cases pz with
          | false =>
            have HC2 : Hid (n = cnt (pvB 1 v) (D.map R.vs) (i + 1)) := by show _ = _; rw [HST.out]; simp
            clear y0 y1 y2 y3 y4 y5 y6 y7 y8 y9 y10 HST HAT
            go_wp2
            go_roundw
            case rel => exact ⟨i + 1, n, by omega, by omega, by go_num, rfl, HC2, HB58⟩
            case measure => simp [intOf]; omega
          | true =>
            have HC2 : Hid (n + 1 = cnt (pvB 1 v) (D.map R.vs) (i + 1)) := by show _ = _; rw [HST.out]; simp
            obtain ⟨hn, hvs⟩ := HAT.out rfl
            obtain ⟨gx, ox, rfl, cx, hbx, vx, -⟩ := HX5.out.at HB58.out n hn
            rw [hvs] at vx
            rw [HXL.out] at hn
            have hnI : (n : Int) < (X : Int) := by omega
            have hg1 : decide ((n : Int) ≥ (X : Int)) = false := decide_eq_false (by omega)
            have hg2 : decide ((X : Int) ≤ (n : Int)) = false := decide_eq_false (by omega)
            have hg3 : decide (X ≤ n) = false := decide_eq_false (by omega)
            have hg4 : ¬ X ≤ n := by omega
            have hgx : gx < w8.heap.size := by have := HB58.out.size; omega
            have hS2 := Lib.hid (fun W (hb : Below w8.heap.size w8 W) => row_same (vx.below hb) ((HV.out.below HB8.out).below hb))
            generalize (Dx[n]'(by rw [HXL.out]; exact hn)).hv = hx at *
            clear vx hvs y2 y3 y4 y5 y6 y7 y8 y9 y10 HST HAT hbx
            go_wp2_with fail
            go_region_held3 (fun w' => w'.cell? ⟨gx, ox + n, none⟩ = some hx ∧ w'.cell? ⟨ga, oa + i, none⟩ = some (.slice (some ⟨b, off, none⟩) 2 hcap) ∧ gx < w'.heap.size ∧ ga < w'.heap.size ∧ Below w8.heap.size w8 w')
              (first | assumption | exact pair_keep (by assumption) hbN | exact ⟨cx, y0, hgx, y1, (Below.refl _ _).drew⟩)
              (first
                | (go_at_call 28; refine (hS2.out _ (by go_split_ands; assumption)).mono ?_; rintro e w' ⟨rfl, hbN⟩))
            go_split_ands
            rename_i z0 z1 z2 z3 z4
            have HB9 : Hid (Below w5.heap.size w5 _) := HB58.out.trans (z4.mono HB58.out.size)
            clear z0 z1 z2 z3 z4
            go_wp2
            go_roundw
            case rel => exact ⟨i + 1, n + 1, by omega, by omega, by go_num, by go_num, HC2, HB9⟩
            case measure => simp [intOf]; omega
      · obtain rfl : i = N := by omega
        have h1I : ¬ (i : Int) < (i : Int) := by omega
        have hnX : n = X := by
          rw [HC.out]
          have h1 : (Dx.map R.vs).length = ((D.map R.vs).filter (pvB 1 v)).length := congrArg List.length HXE.out
          have h2 := cnt_all (pvB 1 v) (D.map R.vs)
          rw [List.length_map, HDL.out] at h2
          rw [h2, ← h1, List.length_map, HXL.out]
        subst hnX
        have HRr := Lib.hid (HR5.out.below HB.out)
        have HAr := Lib.hid (HA5.out.below HB.out)
        have HBw : Hid (Below w.heap.size w wr) := HB5.out.trans (HB.out.mono HB5.out.size)
        have hMT := Lib.hid (match_two HRr.out (by omega) HOK.out)
        obtain ⟨a0, a1, a2, a3⟩ := HAr.out
        clear HC HXE HDE HMEM HX5 HG5 HR5 HA5 HB5 HB HXL HDL
        go_wp2_with fail
        refine (hMT.out).mono ?_
        rintro e w6 ⟨rfl, hb6⟩
        have HB6 : Hid (Below w.heap.size w w6) := HBw.out.trans (hb6.mono HBw.out.size)
        have hMZ := Lib.hid (match_zero (HRr.out.below hb6) (by omega))
        clear a0 a1 a2 a3 hb6 hMT HRr HAr HBw
        go_wp2_with fail
        refine (hMZ.out).mono ?_
        rintro e w7 ⟨rfl, hb7⟩
        have HB7 : Hid (Below w.heap.size w w7) := HB6.out.trans (hb7.mono HB6.out.size)
        clear hb7 hMZ HB6
        go_wp2
        go_ret
        exact ⟨by first | rfl | simp, HB7.out⟩
  | false =>
    have hMA := Lib.hid (match_one HR3.out HN.out (by omega) HOK.out 0 (by decide) (z := 0) rfl)
    obtain ⟨a0, a1, a2, a3⟩ := HA3.out
    go_wp2_with fail
    refine (hMA.out).mono ?_
    rintro e w4 ⟨xo, xc, Dx, rfl, hb4, hG4, hE4⟩
    have HB4 : Hid (Below w.heap.size w w4) := HB3.out.trans (hb4.mono HB3.out.size)
    have HA4 := Lib.hid (HA3.out.below hb4)
    have HR4 := Lib.hid (HR3.out.below hb4)
    have HGX : Hid (Grid w4 (.slice xo Dx.length xc) Dx ∧ Dx.map R.vs = (srt M).filter (pvB 0 v)) := ⟨hG4, hE4⟩
    have hAL := Lib.hid (all_told HR4.out (by omega))
    clear a0 a1 a2 a3 hb4 hG4 hE4 hMA HB3 HA3 HR3
    go_wp2_with fail
    refine (hAL.out).mono ?_
    rintro e w5 ⟨yo, yc, D, he5, hb5, hO5, hE5⟩
    rw [HN.out] at he5 hO5
    subst he5
    have HB5 : Hid (Below w.heap.size w w5) := HB4.out.trans (hb5.mono HB4.out.size)
    have HA5 := Lib.hid (HA4.out.below hb5)
    have HR5 := Lib.hid (HR4.out.below hb5)
    have HX5 := Lib.hid (HGX.out.1.below hb5)
    have HG5 := Lib.hid hO5.grid
    have hDl : D.length = N := by have := congrArg List.length hE5; rw [srt_len HR4.out.unlike, HN.out] at this; simpa using this
    have HDE : Hid (D.map R.vs = srt M) := hE5
    have HXE : Hid (Dx.map R.vs = (D.map R.vs).filter (pvB 0 v)) := by show _ = _; rw [hE5]; exact HGX.out.2
    have hDx : Dx.length ≤ N := by have := congrArg List.length HXE.out; rw [List.length_map] at this; rw [this]; refine Nat.le_trans (List.length_filter_le _ _) ?_; simp [hDl]
    have HDL := Lib.hid hDl
    have HMEM : Hid (∀ i (hi : i < D.length), D[i].vs ∈ M) := fun i hi => by
      have h1 : D[i].vs ∈ D.map R.vs := List.mem_map_of_mem (List.getElem_mem hi)
      rw [hE5] at h1
      exact first_mem ((srt_mem _ _).1 h1)
    obtain ⟨X, hX⟩ : ∃ X, Dx.length = X := ⟨_, rfl⟩
    rw [hX] at HX5 hDx ⊢
    have HXL := Lib.hid hX
    clear hb5 hO5 hE5 hAL HB4 HA4 HR4 HGX hDl hX
    go_wp2_with fail
    go_loopw [12, 14] (fun nv iv wr => ∃ (i n : Nat), i ≤ N ∧ n ≤ i ∧ iv = .int .i64 (i : Int) ∧ nv = .int .i64 (n : Int) ∧ Hid (n = cnt (pvB 0 v) (D.map R.vs) i) ∧ Hid (Below w5.heap.size w5 wr)) (fun _ iv _ => 50 - (intOf iv).toNat)
    case atStart => exact ⟨0, 0, Nat.zero_le _, Nat.le_refl _, rfl, rfl, (show 0 = cnt (pvB 0 v) (D.map R.vs) 0 by simp [cnt]), Below.refl _ _⟩
    case round =>
      obtain ⟨i, n, hi, hni, rfl, rfl, HC, HB⟩ := hrel
      have hwr := HB.out.size
      by_cases hlt : i < N
      · have h1I : (i : Int) < (N : Int) := by omega
        have hiD : i < D.length := by rw [HDL.out]; exact hlt
        obtain ⟨ga, oa, rfl, c0, hbl, v1, -⟩ := HG5.out.at HB.out i hiD
        have hmem := HMEM.out i hiD
        have hr2 := HR5.out.rows _ hmem
        obtain ⟨ho, hcap, hhv, -⟩ := v1.len
        rw [hr2.1] at hhv
        rw [hhv] at c0 v1
        have HRr := Lib.hid (HR5.out.below HB.out)
        have HAr := Lib.hid (HA5.out.below HB.out)
        have HBw : Hid (Below w.heap.size w wr) := HB5.out.trans (HB.out.mono HB5.out.size)
        have hgl : ga < wr.heap.size := by omega
        obtain ⟨r0, hr0⟩ : ∃ r0, D[i].vs = r0 := ⟨_, rfl⟩
        rw [hr0] at hmem hr2 v1
        have HV := Lib.hid v1
        have HR0 : Hid (r0 ∈ M ∧ r0.length = 2 ∧ ∀ u ∈ r0, u.bare = u) := ⟨hmem, hr2.1, hr2.2⟩
        have HAi : Hid (i < (D.map R.vs).length ∧ (D.map R.vs)[i]? = some r0) := ⟨by simpa using hiD, by simp [hiD, hr0]⟩
        have hMO := Lib.hid (match_own HRr.out HN.out (by omega) v1 hmem)
        clear v1 hmem hr2 hhv hr0 hbl hiD
        go_wp2_with fail
        refine (hMO.out).mono ?_
        rintro e w6 ⟨g, og, gc, hvo, rfl, hb6, d0, hg6, vo⟩
        have hs6 := hb6.size
        have e0 : w6.cell? ⟨ga, oa + i, none⟩ = some (.slice ho 2 hcap) := (hb6.cell (p := ⟨ga, oa + i, none⟩) hgl).trans c0
        have hg6a : ga < w6.heap.size := by omega
        have hS := Lib.hid (fun W (hb : Below w6.heap.size w6 W) => row_same (vo.below hb) ((HV.out.below hb6).below hb))
        have hH := Lib.hid (fun W (hb : Below w6.heap.size w6 W) => has_yes ((HRr.out.below hb6).below hb) (by omega) ((HV.out.below hb6).below hb) HR0.out.1)
        have HB6 : Hid (Below wr.heap.size wr w6) := hb6
        obtain ⟨vo1, vo2, hvo', -⟩ := vo.len
        rw [HR0.out.2.1] at hvo'
        subst hvo'
        clear vo hb6 hMO c0
        go_wp2_with fail
        go_region_held3 (fun w' => w'.cell? ⟨ga, oa + i, none⟩ = some (.slice ho 2 hcap) ∧ w'.cell? ⟨g, og, none⟩ = some (.slice vo1 2 vo2) ∧ ga < w'.heap.size ∧ g < w'.heap.size ∧ Below w6.heap.size w6 w')
          (first | assumption | exact pair_keep (by assumption) hbN | exact ⟨e0, d0, hg6a, hg6, (Below.refl _ _).drew⟩)
          (first
            | (go_at_call 28; refine (hS.out _ (by go_split_ands; assumption)).mono ?_; rintro e w' ⟨rfl, hbN⟩)
            | (go_at_call 19; refine (hH.out _ (by go_split_ands; assumption)).mono ?_; rintro e w' ⟨rfl, hbN⟩))
        go_split_ands
        rename_i y0 y1 y2 y3 y4
        obtain ⟨w7, hw7⟩ : ∃ w7, w7 = w' := ⟨_, rfl⟩
        rw [← hw7] at y0 y1 y2 y3 y4 ⊢
        clear hw7
        have HB7 : Hid (Below wr.heap.size wr w7) := HB6.out.trans (y4.mono HB6.out.size)
        have hw7 := HB7.out.size
        have h0r : 0 < r0.length := by rw [HR0.out.2.1]; decide
        obtain ⟨b, off, hho, u0, u1, u2, huok, hbu⟩ := (HV.out.below HB7.out).at (Below.refl _ _) 0 h0r
        subst hho
        have hzz := pv_cmp (v := v) HR0.out.2.2 h0r
        have hC : Hid (∀ W q1 q2, Vals W (.slice (some ⟨q1, 0, none⟩) 1 1) [r0[0]] → Vals W (.slice (some ⟨q2, 0, none⟩) 1 1) [v] → Calls Try.prog 29 #[.slice (some ⟨q1, 0, none⟩) 1 1, .slice (some ⟨q2, 0, none⟩) 1 1] W fun e w' => e = .returned (.int .i64 (rcmp [r0[0]] [v])) ∧ Below W.heap.size W w') := fun W q1 q2 h1 h2 => refRow_cmp h1 h2
        have HST : Hid (cnt (pvB 0 v) (D.map R.vs) (i + 1) = n + (if pvB 0 v r0 = true then 1 else 0)) := by
          show _ = _
          have hA := HAi.out
          have e1 : (D.map R.vs)[i]'hA.1 = r0 := by have := hA.2; rw [List.getElem?_eq_getElem hA.1] at this; injection this
          rw [cnt_step hA.1, e1, HC.out]
        have HAT : Hid (pvB 0 v r0 = true → ∃ h : n < Dx.length, Dx[n].vs = r0) := fun hp => by
          have hA := HAi.out
          have e1 : (D.map R.vs)[i]'hA.1 = r0 := by have := hA.2; rw [List.getElem?_eq_getElem hA.1] at this; injection this
          obtain ⟨h1, h2⟩ := cnt_at (p := pvB 0 v) hA.1 (by rw [e1]; exact hp)
          have hl : (Dx.map R.vs).length = ((D.map R.vs).filter (pvB 0 v)).length := congrArg List.length HXE.out
          have hn : n < Dx.length := by rw [HC.out]; rw [← hl] at h1; simpa using h1
          refine ⟨hn, ?_⟩
          have h3 : (Dx.map R.vs)[n]'(by simpa using hn) = ((D.map R.vs).filter (pvB 0 v))[n]'(by rw [HC.out]; exact h1) := List.getElem_of_eq HXE.out _
          rw [List.getElem_map] at h3
          rw [h3]
          have h4 : ((D.map R.vs).filter (pvB 0 v))[n]'(by rw [HC.out]; exact h1) = ((D.map R.vs).filter (pvB 0 v))[cnt (pvB 0 v) (D.map R.vs) i] := by congr 1
          rw [h4, h2, e1]
        obtain ⟨a0, a1, a2, a3⟩ := HAr.out.below HB7.out
        generalize rcmp [r0[0]] [v] = z at *
        generalize r0[0] = u at *
        generalize hpe : pvB 0 v r0 = pz at *
        have t0 : w7.cell? ⟨b, off, none⟩ = some (.bool u.k) := by simpa using u0
        have t1 : w7.cell? ⟨b, off + 1, none⟩ = some (.string u.s) := by simpa using u1
        have t2 : w7.cell? ⟨b, off + 2, none⟩ = some (.int .i64 u.n) := by simpa using u2
        have HUK := Lib.hid huok
        clear y1 y3 y4 u0 u1 u2 huok hS hH d0 hg6 e0 hg6a hs6 HB6 HC hpe HAi
        go_wp2_with fail
        go_region_held3 (fun w' => w'.cell? ⟨ga, oa + i, none⟩ = some (.slice (some ⟨b, off, none⟩) 2 hcap) ∧ ga < w'.heap.size ∧ w'.cell? ⟨b, off, none⟩ = some (.bool u.k) ∧ w'.cell? ⟨b, off + 1, none⟩ = some (.string u.s) ∧ w'.cell? ⟨b, off + 2, none⟩ = some (.int .i64 u.n) ∧ b < w'.heap.size ∧ w'.cell? ⟨qa, 0, none⟩ = some (.bool v.k) ∧ w'.cell? ⟨qa, 1, none⟩ = some (.string v.s) ∧ w'.cell? ⟨qa, 2, none⟩ = some (.int .i64 v.n) ∧ qa < w'.heap.size ∧ Below w7.heap.size w7 w')
          (first | assumption | exact seven_keep (by assumption) hbN | exact seven_keep (by assumption) ((Below.refl _ _).alloc (Nat.le_refl _) _) | exact ⟨y0, y2, t0, t1, t2, hbu, a0, a1, a2, a3, (Below.refl _ _).drew⟩)
          (first
            | (go_at_call 29; refine (hC.out _ _ _ (by first | exact ((vals_new1 w7 HUK.out).below ((Below.refl _ _).alloc (Nat.le_refl _) _)).below ((Below.refl _ _).drew) | exact (vals_second1 w7 _ HUK.out).below ((Below.refl _ _).drew)) (by first | exact ((vals_new1 w7 HOK.out).below ((Below.refl _ _).alloc (Nat.le_refl _) _)).below ((Below.refl _ _).drew) | exact (vals_second1 w7 _ HOK.out).below ((Below.refl _ _).drew))).mono ?_; rintro e w' ⟨rfl, hbN⟩))
        all_goals
          go_split_ands
          rename_i y0 y1 y2 y3 y4 y5 y6 y7 y8 y9 y10
          obtain ⟨w8, hw8⟩ : ∃ w8, w8 = w' := ⟨_, rfl⟩
          rw [← hw8] at y0 y1 y2 y3 y4 y5 y6 y7 y8 y9 y10 ⊢
          clear hw8
          have HB8 : Hid (Below wr.heap.size wr w8) := HB7.out.trans (y10.mono HB7.out.size)
          have HB58 : Hid (Below w5.heap.size w5 w8) := HB.out.trans (HB8.out.mono hwr)
          have hw8 := HB8.out.size
          cases pz with
          | false =>
            have HC2 : Hid (n = cnt (pvB 0 v) (D.map R.vs) (i + 1)) := by show _ = _; rw [HST.out]; simp
            clear y0 y1 y2 y3 y4 y5 y6 y7 y8 y9 y10 HST HAT
            go_wp2
            go_roundw
            case rel => exact ⟨i + 1, n, by omega, by omega, by go_num, rfl, HC2, HB58⟩
            case measure => simp [intOf]; omega
          | true =>
            have HC2 : Hid (n + 1 = cnt (pvB 0 v) (D.map R.vs) (i + 1)) := by show _ = _; rw [HST.out]; simp
            obtain ⟨hn, hvs⟩ := HAT.out rfl
            obtain ⟨gx, ox, rfl, cx, hbx, vx, -⟩ := HX5.out.at HB58.out n hn
            rw [hvs] at vx
            rw [HXL.out] at hn
            have hnI : (n : Int) < (X : Int) := by omega
            have hg1 : decide ((n : Int) ≥ (X : Int)) = false := decide_eq_false (by omega)
            have hg2 : decide ((X : Int) ≤ (n : Int)) = false := decide_eq_false (by omega)
            have hg3 : decide (X ≤ n) = false := decide_eq_false (by omega)
            have hg4 : ¬ X ≤ n := by omega
            have hgx : gx < w8.heap.size := by have := HB58.out.size; omega
            have hS2 := Lib.hid (fun W (hb : Below w8.heap.size w8 W) => row_same (vx.below hb) ((HV.out.below HB8.out).below hb))
            generalize (Dx[n]'(by rw [HXL.out]; exact hn)).hv = hx at *
            clear vx hvs y2 y3 y4 y5 y6 y7 y8 y9 y10 HST HAT hbx
            go_wp2_with fail
            go_region_held3 (fun w' => w'.cell? ⟨gx, ox + n, none⟩ = some hx ∧ w'.cell? ⟨ga, oa + i, none⟩ = some (.slice (some ⟨b, off, none⟩) 2 hcap) ∧ gx < w'.heap.size ∧ ga < w'.heap.size ∧ Below w8.heap.size w8 w')
              (first | assumption | exact pair_keep (by assumption) hbN | exact ⟨cx, y0, hgx, y1, (Below.refl _ _).drew⟩)
              (first
                | (go_at_call 28; refine (hS2.out _ (by go_split_ands; assumption)).mono ?_; rintro e w' ⟨rfl, hbN⟩))
            go_split_ands
            rename_i z0 z1 z2 z3 z4
            have HB9 : Hid (Below w5.heap.size w5 _) := HB58.out.trans (z4.mono HB58.out.size)
            clear z0 z1 z2 z3 z4
            go_wp2
            go_roundw
            case rel => exact ⟨i + 1, n + 1, by omega, by omega, by go_num, by go_num, HC2, HB9⟩
            case measure => simp [intOf]; omega
      · obtain rfl : i = N := by omega
        have h1I : ¬ (i : Int) < (i : Int) := by omega
        have hnX : n = X := by
          rw [HC.out]
          have h1 : (Dx.map R.vs).length = ((D.map R.vs).filter (pvB 0 v)).length := congrArg List.length HXE.out
          have h2 := cnt_all (pvB 0 v) (D.map R.vs)
          rw [List.length_map, HDL.out] at h2
          rw [h2, ← h1, List.length_map, HXL.out]
        subst hnX
        have HRr := Lib.hid (HR5.out.below HB.out)
        have HAr := Lib.hid (HA5.out.below HB.out)
        have HBw : Hid (Below w.heap.size w wr) := HB5.out.trans (HB.out.mono HB5.out.size)
        have hMT := Lib.hid (match_two HRr.out (by omega) HOK.out)
        obtain ⟨a0, a1, a2, a3⟩ := HAr.out
        clear HC HXE HDE HMEM HX5 HG5 HR5 HA5 HB5 HB HXL HDL
        go_wp2_with fail
        refine (hMT.out).mono ?_
        rintro e w6 ⟨rfl, hb6⟩
        have HB6 : Hid (Below w.heap.size w w6) := HBw.out.trans (hb6.mono HBw.out.size)
        have hMZ := Lib.hid (match_zero (HRr.out.below hb6) (by omega))
        clear a0 a1 a2 a3 hb6 hMT HRr HAr HBw
        go_wp2_with fail
        refine (hMZ.out).mono ?_
        rintro e w7 ⟨rfl, hb7⟩
        have HB7 : Hid (Below w.heap.size w w7) := HB6.out.trans (hb7.mono HB6.out.size)
        clear hb7 hMZ HB6
        go_wp2
        go_ret
        exact ⟨by first | rfl | simp, HB7.out⟩
end Go.Proofs.Ytfjkfblejfiglaa
