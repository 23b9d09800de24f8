/-
  The walk of RelationPlays: the answers of all deeds, and all rows, are the document's: the law returns true; of old memory nothing turns.
-/
import Derived.Test.YtkkpcphmojegmaaRPlay1
import Derived.Test.YtkkpcphmojegmaaRLaw0
import Derived.Test.YtkkpcphmojegmaaRRef5
namespace Go.Proofs.Ytkkpcphmojegmaa
set_option linter.unusedSimpArgs false
set_option linter.unusedVariables false
set_option linter.unusedSectionVars false
set_option maxRecDepth 100000
open Go.RowKit Go.Maps
variable [DecidableEq V]

set_option maxHeartbeats 16000000 in
theorem plays_walk {x : Value} {ds : List Dd} {w : World} {n : Int} (hx : Deeds w x ds) (ln : 0 ≤ n) (un : n ≤ 255) :
    Calls Try.prog 3 #[.int .u8 n, x] w fun e w' => e = .returned (.bool true) ∧ Below w.heap.size w w' := by
  obtain ⟨ao, cap, rfl, -⟩ := hx.len
  obtain ⟨ar, har, h6⟩ : ∃ ar : Nat, n % 7 = (ar : Int) ∧ ar ≤ 6 := ⟨(n % 7).toNat, by omega, by omega⟩
  have har2 : Int.tmod n 7 = (ar : Int) := by rw [Int.tmod_eq_emod_of_nonneg ln]; exact har
  have h6I : (ar : Int) ≤ 6 := by omega
  have HX := Lib.hid hx
  have HAR := Lib.hid h6
  clear hx h6
  go_enter Try.func3, Try.ntmps3
  go_wp2_with fail
  refine (shown4_any w).mono ?_
  rintro e w1 ⟨rfl, hb1⟩
  have HB1 := Lib.hid hb1
  have HX1 := Lib.hid (HX.out.below hb1)
  clear hb1 HX
  go_wp2_with fail
  refine (fewD_any HX1.out).mono ?_
  rintro e w2 ⟨x', es, rfl, hb2, hD2, hS2⟩
  obtain ⟨xo, xc, rfl, -⟩ := hD2.len
  have HB2 : Hid (Below w.heap.size w w2) := HB1.out.trans (hb2.mono HB1.out.size)
  have HX2 := Lib.hid hD2
  have HSM : Hid (∀ d ∈ es, d.In w2 ∧ d.vs.length ≤ 8 ∧ d.cols.length ≤ 8) := fun d hd => ⟨(hS2.2 d hd).1.below hb2, (hS2.2 d hd).2⟩
  have h80 := hS2.1
  have h80I : (es.length : Int) ≤ 80 := by omega
  clear hb2 hD2 hS2 HX1 HB1
  have hN := Lib.hid (new_rel w2 ar HAR.out)
  go_wp2_with fail
  refine (hN.out).mono ?_
  rintro e w3 ⟨rfl, hb3, hR3⟩
  have hS := Sd.start hb3 hR3
  obtain ⟨rb, hrb⟩ : ∃ rb, rb = w2.heap.size := ⟨_, rfl⟩
  obtain ⟨qb, hqb⟩ : ∃ qb, qb = w3.heap.size := ⟨_, rfl⟩
  obtain ⟨W4, hW4⟩ : ∃ W4, W4 = w3.alloc (.cells #[.int .i64 (ar : Int), .slice none 0 0, .slice none 0 0, .slice none 0 0] 29) := ⟨_, rfl⟩
  rw [← hW4, ← hqb] at hS
  have HS0 := Lib.hid hS
  clear hb3 hR3 hN hS
  go_wp2_with fail
  rw [← hW4, ← hqb, ← hrb]
  rw [← hrb] at HS0
  clear hW4 hqb hrb
  go_loopw [10] (fun i wr => ∃ (k : Nat) (F : Nat → Prop) (M : List (List V)) (s1 s2 : Nat) (xn xd xf : Value) (N D U : List (List V)), k ≤ es.length ∧ i = .int .i64 (k : Int) ∧ Hid (Sd w2 wr qb rb ar k F M s1 s2 xn xd xf N D U xn xd xf) ∧ Hid (Both M s1 s2 N D U)) (fun i _ => es.length - (intOf i).toNat)
  case atStart => exact ⟨0, _, [], 0, 0, _, _, _, [], [], [], Nat.zero_le _, rfl, HS0, Both.start⟩
  case round =>
    obtain ⟨k, F, M, s1, s2, xn, xd, xf, N, D, U, hk, rfl, HS, HBO⟩ := hrel
    clear HS0
    obtain ⟨no, nc, rfl, -⟩ := HS.out.ref.n.gr.form
    obtain ⟨eo, ec, rfl, -⟩ := HS.out.ref.d.gr.form
    obtain ⟨fo, fc, rfl, -⟩ := HS.out.ref.f.gr.form
    by_cases hlt : k < es.length
    · have h1I : (k : Int) < (es.length : Int) := by omega
      obtain ⟨b, off, rfl, hbl, -, c0, c1, c2, c3⟩ := (HX2.out.below HS.out.below).at k hlt
      obtain ⟨hin, hv8, hc8⟩ := HSM.out _ (List.getElem_mem hlt)
      obtain ⟨d, hd⟩ : ∃ d, d = es[k] := ⟨_, rfl⟩
      rw [← hd] at c0 c1 c2 c3 hin hv8 hc8
      clear hd
      obtain ⟨kd, tv, vs, cv, cols, od⟩ := d
      simp only at c0 c1 c2 c3 hv8 hc8
      obtain ⟨hV, hI, -, -⟩ := hin
      simp only at hV hI
      obtain ⟨ta, tc, rfl, -⟩ := hV.len
      obtain ⟨ca, cc, rfl, -⟩ := hI.len
      have HV := Lib.hid hV
      have HI := Lib.hid hI
      have HNM : Hid (k < 80 ∧ vs.length ≤ 8 ∧ cols.length ≤ 8 ∧ N.length + D.length + U.length ≤ 80) := ⟨by omega, hv8, hc8, by have := HS.out.small HBO.out; omega⟩
      obtain ⟨bb, hbb⟩ : ∃ bb, bb = wr.heap.size := ⟨_, rfl⟩
      obtain ⟨W1, hW1⟩ : ∃ W1, W1 = wr.alloc (.cells #[.int .i64 kd, .slice ta vs.length tc, .slice ca cols.length cc, .bool od] 33) := ⟨_, rfl⟩
      have HS1 : Hid (Sd w2 W1 qb rb ar k F M s1 s2 (.slice no N.length nc) (.slice eo D.length ec) (.slice fo U.length fc) N D U (.slice no N.length nc) (.slice eo D.length ec) (.slice fo U.length fc)) := by
        show Sd _ _ _ _ _ _ _ _ _ _ _ _ _ _ _ _ _ _ _
        rw [hW1]; exact HS.out.keep ((Below.refl _ _).alloc (Nat.le_refl _) _)
      have HX1 : Hid (BoxD W1 bb kd (.slice ta vs.length tc) (.slice ca cols.length cc) od) := by
        show BoxD _ _ _ _ _ _
        rw [hW1, hbb]; exact (MapKept.heap_alloc wr _).1
      have HFB : Hid (¬ F bb ∧ bb ≠ qb) := ⟨fun g => by have := (HS.out.rel.low.1 _ g).2; omega, fun e => by have := HS.out.qlt; omega⟩
      clear hV hI hv8 hc8 HS
      by_cases hk0 : kd = 0
      · subst hk0
        have HA := Lib.hid (add_both HS1.out.rel (HV.out.below HS1.out.below) (HS1.out.apart HV.out) (by have := HNM.out.1; omega))
        go_wp2_with fail
        rw [← hW1, ← hbb]
        clear hW1 hbb c0 c1 c2 c3
        refine (HA.out).mono ?_
        rintro e W2 ⟨F', bo, z, M', rfl, ht, hF', hR', hcase⟩
        have HS2 := Lib.hid (HS1.out.turned ht hF' hR')
        have HX2b := Lib.hid (HX1.out.turns ht HFB.out.1)
        have HC := Lib.hid hcase
        have HBR := Lib.hid HS1.out.rel.bare
        have HRA := Lib.hid (refAdd_any (ar := ar) HS2.out.ref HS2.out.glt (HV.out.below HS2.out.below) (by have := HNM.out; omega) (by have := HNM.out; omega))
        obtain ⟨g0, g1, g2, g3, gl⟩ := HX2b.out.cells
        obtain ⟨q0, q1, q2, q3, ql, -⟩ := HS2.out.blk.cells
        clear ht hF' hR' hcase HS1 HX1 HA
        go_wp2_with fail
        refine (HRA.out).mono ?_
        rintro e W3 ⟨x', b', z', N', rfl, hb3, hg3, hcase2⟩
        obtain ⟨rfl, rfl, hBO⟩ := add_agree HBO.out HBR.out HC.out hcase2
        obtain ⟨po, pc, rfl, -⟩ := hg3.gr.form
        have HS3 := Lib.hid (HS2.out.told hb3 ⟨hg3, HS2.out.ref.d.below hb3, HS2.out.ref.f.below hb3⟩)
        have HX3 := Lib.hid (HX2b.out.below hb3)
        have HBO5 := Lib.hid hBO
        clear g0 g1 g2 g3 gl q0 q1 q2 q3 ql hb3 hg3 hcase2 hBO HS2 HX2b HC HBR HRA HBO
        obtain ⟨q0, q1, q2, q3, ql, l0, l1, l2, l3⟩ := HS3.out.blk.cells
        obtain ⟨W5, hW5⟩ : ∃ W5, W5 = ((((W3.setCell ⟨qb, 0, none⟩ (.int .i64 (ar : Int))).setCell ⟨qb, 1, none⟩ (.slice po N'.length pc)).setCell ⟨qb, 2, none⟩ (.slice eo D.length ec)).setCell ⟨qb, 3, none⟩ (.slice fo U.length fc)).alloc (.cells #[.int .i64 (ar : Int), .slice po N'.length pc, .slice eo D.length ec, .slice fo U.length fc] 29) := ⟨_, rfl⟩
        have HS5 : Hid (Sd w2 W5 qb rb ar (k + 1) F' M' s1 s2 (.slice po N'.length pc) (.slice eo D.length ec) (.slice fo U.length fc) N' D U (.slice po N'.length pc) (.slice eo D.length ec) (.slice fo U.length fc)) := by
          show Sd _ _ _ _ _ _ _ _ _ _ _ _ _ _ _ _ _ _ _
          rw [hW5]; exact HS3.out.put.keep ((Below.refl _ _).alloc (Nat.le_refl _) _)
        have HX5 : Hid (BoxD W5 bb 0 (.slice ta vs.length tc) (.slice ca cols.length cc) od) := by
          show BoxD _ _ _ _ _ _
          rw [hW5]; exact (HX3.out.four HFB.out.2).below ((Below.refl _ _).alloc (Nat.le_refl _) _)
        have hbo : (b' != b') = false := by simp
        have hzz : (z' != z') = false := by simp
        clear HS3 HX3
        go_wp2_with fail
        rw [← hW5]
        clear hW5 q0 q1 q2 q3 ql l0 l1 l2 l3 hbo hzz
        obtain ⟨m, hm⟩ : ∃ m, (M').length = m := ⟨_, rfl⟩
        have hm80 : (m : Int) ≤ 80 := by have := HS5.out.rel.nums.1; have := HNM.out.1; omega
        obtain ⟨bh, hbh⟩ : ∃ bh, decide (vs.map V.bare ∈ M') = bh := ⟨_, rfl⟩
        have HQ1 : Hid (∀ W, Below W5.heap.size W5 W → Calls Try.prog 15 #[.pointer (some ⟨rb, 0, none⟩), .slice ta vs.length tc] W fun e w' => e = .returned (.bool bh) ∧ Below W5.heap.size W5 w') := fun W hW => by
          rw [← hbh]
          have hk := HS5.out.keep hW
          exact (has_rln hk.rel (HV.out.below hk.below) (by have := HNM.out.1; omega)).mono fun e w' ⟨h, hb⟩ => ⟨h, hW.trans (hb.mono hW.size)⟩
        have HQ2 : Hid (∀ W, Below W5.heap.size W5 W → Calls Try.prog 16 #[.agg #[.int .i64 (ar : Int), .slice po N'.length pc, .slice eo D.length ec, .slice fo U.length fc], .slice ta vs.length tc] W fun e w' => e = .returned (.bool bh) ∧ Below W5.heap.size W5 w') := fun W hW => by
          rw [← hbh, ← HBO5.out.has HS5.out.rel.bare vs]
          have hk := HS5.out.keep hW
          exact (refHas_any hk.ref.rel (HV.out.below hk.below)).mono fun e w' ⟨h, hb⟩ => ⟨h, hW.trans (hb.mono hW.size)⟩
        have HQ3 : Hid (∀ W, Below W5.heap.size W5 W → Calls Try.prog 17 #[.pointer (some ⟨rb, 0, none⟩)] W fun e w' => e = .returned (.int .i64 (m : Int)) ∧ Below W5.heap.size W5 w') := fun W hW => by
          have hk := HS5.out.keep hW
          exact (len_n hk.rel hm).mono fun e w' ⟨h, hb⟩ => ⟨h, by rw [hb]; exact hW⟩
        have HQ4 : Hid (∀ W, Below W5.heap.size W5 W → Calls Try.prog 18 #[.agg #[.int .i64 (ar : Int), .slice po N'.length pc, .slice eo D.length ec, .slice fo U.length fc]] W fun e w' => ∃ ao9 cp9, e = .returned (.slice ao9 m cp9) ∧ Below W5.heap.size W5 w') := fun W hW => by
          have hk := HS5.out.keep hW
          refine (refRows_any (ar := (ar : Int)) hk.ref.rel (by have := hk.small HBO5.out; have := HNM.out.1; omega)).mono ?_
          rintro e w' ⟨x9, rfl, hb, hg⟩
          obtain ⟨a9, c9, rfl, -⟩ := hg.form
          refine ⟨a9, c9, ?_, hW.trans (hb.mono hW.size)⟩
          rw [← HBO5.out.len, hm]
        have hbn : (bh != bh) = false := by simp
        have hmn : ((m : Int) != (m : Int)) = false := by simp
        have HK : Hid (∀ W, Below W5.heap.size W5 W → W.cell? ⟨bb, 1, none⟩ = some (.slice ta vs.length tc) ∧ bb < W.heap.size ∧ W.cell? ⟨qb, 0, none⟩ = some (.int .i64 (ar : Int)) ∧ W.cell? ⟨qb, 1, none⟩ = some (.slice po N'.length pc) ∧ W.cell? ⟨qb, 2, none⟩ = some (.slice eo D.length ec) ∧ W.cell? ⟨qb, 3, none⟩ = some (.slice fo U.length fc) ∧ qb < W.heap.size ∧ Below W5.heap.size W5 W) := fun W hW => by
          obtain ⟨q0, q1, q2, q3, ql, -⟩ := (HS5.out.keep hW).blk.cells
          obtain ⟨x0, x1, x2, x3, xl⟩ := (HX5.out.below hW).cells
          exact ⟨x1, xl, q0, q1, q2, q3, ql, hW⟩
        obtain ⟨q0, q1, q2, q3, ql, -⟩ := HS5.out.blk.cells
        obtain ⟨x0, x1, x2, x3, xl⟩ := HX5.out.cells
        clear hm hbh x0 x2 x3
        go_region_held3 (fun W => W.cell? ⟨bb, 1, none⟩ = some (.slice ta vs.length tc) ∧ bb < W.heap.size ∧ W.cell? ⟨qb, 0, none⟩ = some (.int .i64 (ar : Int)) ∧ W.cell? ⟨qb, 1, none⟩ = some (.slice po N'.length pc) ∧ W.cell? ⟨qb, 2, none⟩ = some (.slice eo D.length ec) ∧ W.cell? ⟨qb, 3, none⟩ = some (.slice fo U.length fc) ∧ qb < W.heap.size ∧ Below W5.heap.size W5 W)
          (first | assumption | exact HK.out _ hbN | exact HK.out _ (Below.refl _ _).drew)
          (first
            | (go_at_call 15; refine (HQ1.out _ (by go_split_ands; assumption)).mono ?_; rintro e w' ⟨rfl, hbN⟩)
            | (go_at_call 16; refine (HQ2.out _ (by go_split_ands; assumption)).mono ?_; rintro e w' ⟨rfl, hbN⟩)
            | (go_at_call 17; refine (HQ3.out _ (by go_split_ands; assumption)).mono ?_; rintro e w' ⟨rfl, hbN⟩)
            | (go_at_call 18; refine (HQ4.out _ (by go_split_ands; assumption)).mono ?_; rintro e w' ⟨ao9, cp9, rfl, hbN⟩))
        clear q0 q1 q2 q3 ql x1 xl HQ1 HQ2 HQ3 HQ4 HK
        go_split_ands
        rename_i y0 y1 y2 y3 y4 y5 y6 y7
        have HS9 := Lib.hid (HS5.out.keep y7)
        clear y0 y1 y2 y3 y4 y5 y6 y7
        go_wp2
        go_roundw
        case rel => exact ⟨k + 1, _, _, _, _, _, _, _, _, _, _, by omega, by go_num, HS9, HBO5⟩
        case measure => simp [intOf]; omega
      by_cases hk1 : kd = 1
      · subst hk1
        obtain ⟨tb, htb⟩ : ∃ tb, decide (0 < N.length) = tb := ⟨_, rfl⟩
        have HA := Lib.hid (turn_rel HS1.out.rel (by have := HNM.out.1; omega))
        rw [HBO.out.news, htb] at HA
        go_wp2_with fail
        rw [← hW1, ← hbb]
        clear hW1 hbb c0 c1 c2 c3
        refine (HA.out).mono ?_
        rintro e W2 ⟨rfl, ht, hR'⟩
        have HS2 := Lib.hid (HS1.out.turned ht (fun k hk => .inl hk) hR').more
        have HX2b := Lib.hid (HX1.out.turns ht HFB.out.1)
        have HRA := Lib.hid (refTurn_any HS2.out.ref HS2.out.glt (ar := (ar : Int)) (by have := HNM.out; omega))
        rw [htb] at HRA
        clear htb
        obtain ⟨q0, q1, q2, q3, ql, -⟩ := HS2.out.blk.cells
        clear ht hR' HS1 HX1 HA
        go_wp2_with fail
        refine (HRA.out).mono ?_
        rintro e W3 ⟨x', rfl, hb3, hg3⟩
        obtain ⟨po, pc, hpe, -⟩ := hg3.gr.form
        obtain ⟨ul, hul⟩ : ∃ ul, (U ++ D).length = ul := ⟨_, rfl⟩
        rw [hul] at hpe
        subst hpe
        clear hul
        have HS3 := Lib.hid (HS2.out.told hb3 ⟨GrA.nil _ _, HS2.out.ref.n.below hb3, hg3⟩)
        have HX3 := Lib.hid (HX2b.out.below hb3)
        have HBO5 := Lib.hid HBO.out.turn
        clear q0 q1 q2 q3 ql hb3 hg3 HS2 HX2b HRA HBO
        obtain ⟨q0, q1, q2, q3, ql, l0, l1, l2, l3⟩ := HS3.out.blk.cells
        obtain ⟨W5, hW5⟩ : ∃ W5, W5 = ((((W3.setCell ⟨qb, 0, none⟩ (.int .i64 (ar : Int))).setCell ⟨qb, 1, none⟩ (.slice none 0 0)).setCell ⟨qb, 2, none⟩ (.slice no N.length nc)).setCell ⟨qb, 3, none⟩ (.slice po ul pc)).alloc (.cells #[.int .i64 (ar : Int), .slice none 0 0, .slice no N.length nc, .slice po ul pc] 29) := ⟨_, rfl⟩
        have HS5 : Hid (Sd w2 W5 qb rb ar (k + 1) F M s2 M.length (.slice none 0 0) (.slice no N.length nc) (.slice po ul pc) [] N (U ++ D) (.slice none 0 0) (.slice no N.length nc) (.slice po ul pc)) := by
          show Sd _ _ _ _ _ _ _ _ _ _ _ _ _ _ _ _ _ _ _
          rw [hW5]; exact HS3.out.put.keep ((Below.refl _ _).alloc (Nat.le_refl _) _)
        have HX5 : Hid (BoxD W5 bb 1 (.slice ta vs.length tc) (.slice ca cols.length cc) od) := by
          show BoxD _ _ _ _ _ _
          rw [hW5]; exact (HX3.out.four HFB.out.2).below ((Below.refl _ _).alloc (Nat.le_refl _) _)
        have htt : (tb != tb) = false := by simp
        clear HS3 HX3
        go_wp2_with fail
        rw [← hW5]
        clear hW5 q0 q1 q2 q3 ql l0 l1 l2 l3 htt
        obtain ⟨m, hm⟩ : ∃ m, (M).length = m := ⟨_, rfl⟩
        have hm80 : (m : Int) ≤ 80 := by have := HS5.out.rel.nums.1; have := HNM.out.1; omega
        obtain ⟨bh, hbh⟩ : ∃ bh, decide (vs.map V.bare ∈ M) = bh := ⟨_, rfl⟩
        have HQ1 : Hid (∀ W, Below W5.heap.size W5 W → Calls Try.prog 15 #[.pointer (some ⟨rb, 0, none⟩), .slice ta vs.length tc] W fun e w' => e = .returned (.bool bh) ∧ Below W5.heap.size W5 w') := fun W hW => by
          rw [← hbh]
          have hk := HS5.out.keep hW
          exact (has_rln hk.rel (HV.out.below hk.below) (by have := HNM.out.1; omega)).mono fun e w' ⟨h, hb⟩ => ⟨h, hW.trans (hb.mono hW.size)⟩
        have HQ2 : Hid (∀ W, Below W5.heap.size W5 W → Calls Try.prog 16 #[.agg #[.int .i64 (ar : Int), .slice none 0 0, .slice no N.length nc, .slice po ul pc], .slice ta vs.length tc] W fun e w' => e = .returned (.bool bh) ∧ Below W5.heap.size W5 w') := fun W hW => by
          rw [← hbh, ← HBO5.out.has HS5.out.rel.bare vs]
          have hk := HS5.out.keep hW
          exact (refHas_any hk.ref.rel (HV.out.below hk.below)).mono fun e w' ⟨h, hb⟩ => ⟨h, hW.trans (hb.mono hW.size)⟩
        have HQ3 : Hid (∀ W, Below W5.heap.size W5 W → Calls Try.prog 17 #[.pointer (some ⟨rb, 0, none⟩)] W fun e w' => e = .returned (.int .i64 (m : Int)) ∧ Below W5.heap.size W5 w') := fun W hW => by
          have hk := HS5.out.keep hW
          exact (len_n hk.rel hm).mono fun e w' ⟨h, hb⟩ => ⟨h, by rw [hb]; exact hW⟩
        have HQ4 : Hid (∀ W, Below W5.heap.size W5 W → Calls Try.prog 18 #[.agg #[.int .i64 (ar : Int), .slice none 0 0, .slice no N.length nc, .slice po ul pc]] W fun e w' => ∃ ao9 cp9, e = .returned (.slice ao9 m cp9) ∧ Below W5.heap.size W5 w') := fun W hW => by
          have hk := HS5.out.keep hW
          refine (refRows_any (ar := (ar : Int)) hk.ref.rel (by have := hk.small HBO5.out; have := HNM.out.1; omega)).mono ?_
          rintro e w' ⟨x9, rfl, hb, hg⟩
          obtain ⟨a9, c9, rfl, -⟩ := hg.form
          refine ⟨a9, c9, ?_, hW.trans (hb.mono hW.size)⟩
          rw [← HBO5.out.len, hm]
        have hbn : (bh != bh) = false := by simp
        have hmn : ((m : Int) != (m : Int)) = false := by simp
        have HK : Hid (∀ W, Below W5.heap.size W5 W → W.cell? ⟨bb, 1, none⟩ = some (.slice ta vs.length tc) ∧ bb < W.heap.size ∧ W.cell? ⟨qb, 0, none⟩ = some (.int .i64 (ar : Int)) ∧ W.cell? ⟨qb, 1, none⟩ = some (.slice none 0 0) ∧ W.cell? ⟨qb, 2, none⟩ = some (.slice no N.length nc) ∧ W.cell? ⟨qb, 3, none⟩ = some (.slice po ul pc) ∧ qb < W.heap.size ∧ Below W5.heap.size W5 W) := fun W hW => by
          obtain ⟨q0, q1, q2, q3, ql, -⟩ := (HS5.out.keep hW).blk.cells
          obtain ⟨x0, x1, x2, x3, xl⟩ := (HX5.out.below hW).cells
          exact ⟨x1, xl, q0, q1, q2, q3, ql, hW⟩
        obtain ⟨q0, q1, q2, q3, ql, -⟩ := HS5.out.blk.cells
        obtain ⟨x0, x1, x2, x3, xl⟩ := HX5.out.cells
        clear hm hbh x0 x2 x3
        go_region_held3 (fun W => W.cell? ⟨bb, 1, none⟩ = some (.slice ta vs.length tc) ∧ bb < W.heap.size ∧ W.cell? ⟨qb, 0, none⟩ = some (.int .i64 (ar : Int)) ∧ W.cell? ⟨qb, 1, none⟩ = some (.slice none 0 0) ∧ W.cell? ⟨qb, 2, none⟩ = some (.slice no N.length nc) ∧ W.cell? ⟨qb, 3, none⟩ = some (.slice po ul pc) ∧ qb < W.heap.size ∧ Below W5.heap.size W5 W)
          (first | assumption | exact HK.out _ hbN | exact HK.out _ (Below.refl _ _).drew)
          (first
            | (go_at_call 15; refine (HQ1.out _ (by go_split_ands; assumption)).mono ?_; rintro e w' ⟨rfl, hbN⟩)
            | (go_at_call 16; refine (HQ2.out _ (by go_split_ands; assumption)).mono ?_; rintro e w' ⟨rfl, hbN⟩)
            | (go_at_call 17; refine (HQ3.out _ (by go_split_ands; assumption)).mono ?_; rintro e w' ⟨rfl, hbN⟩)
            | (go_at_call 18; refine (HQ4.out _ (by go_split_ands; assumption)).mono ?_; rintro e w' ⟨ao9, cp9, rfl, hbN⟩))
        clear q0 q1 q2 q3 ql x1 xl HQ1 HQ2 HQ3 HQ4 HK
        go_split_ands
        rename_i y0 y1 y2 y3 y4 y5 y6 y7
        have HS9 := Lib.hid (HS5.out.keep y7)
        clear y0 y1 y2 y3 y4 y5 y6 y7
        go_wp2
        go_roundw
        case rel => exact ⟨k + 1, _, _, _, _, _, _, _, _, _, _, by omega, by go_num, HS9, HBO5⟩
        case measure => simp [intOf]; omega
      · have hk0b : (kd == 0) = false := by simp [hk0]
        have hk1b : (kd == 1) = false := by simp [hk1]
        have HA := Lib.hid (Calls.mono (match_rln HS1.out.rel (HI.out.below HS1.out.below) (HV.out.below HS1.out.below) (by have := HNM.out.1; omega) (by have := HNM.out; omega) od) (fun _ _ h => h.mb))
        go_wp2_with fail
        rw [← hW1, ← hbb]
        clear hW1 hbb c0 c1 c2 c3
        refine (HA.out).mono ?_
        rintro e W2 ⟨m1, n1, mc1, z, E1, rfl, hb2, hg1, hc1⟩
        have HS2 := Lib.hid (HS1.out.keep hb2).more
        have HX2b := Lib.hid (HX1.out.below hb2)
        have HC := Lib.hid hc1
        have HG1 := Lib.hid hg1
        have HRA := Lib.hid (Calls.mono (refMatch_any (only := od) HS2.out.ref.rel (HS2.out.rows HBO.out) (HI.out.below HS2.out.below) (HV.out.below HS2.out.below) HAR.out (by have := HNM.out; omega)) (fun _ _ h => h.mb))
        have HSRT := Lib.hid (HBO.out.matched HS1.out.rel.unlike cols vs od)
        obtain ⟨g0, g1, g2, g3, gl⟩ := HX2b.out.cells
        obtain ⟨q0, q1, q2, q3, ql, -⟩ := HS2.out.blk.cells
        clear hb2 hg1 hc1 HS1 HX1 HA
        go_wp2_with fail
        refine (HRA.out).mono ?_
        rintro e W3 ⟨m2, n2, mc2, z', E2, rfl, hb3, hg2, hc2⟩
        obtain ⟨rfl, hsame⟩ := mb_agree HSRT.out HC.out hc2
        have HS3 := Lib.hid (HS2.out.keep hb3)
        have HX3 := Lib.hid (HX2b.out.below hb3)
        have HRS := Lib.hid (rows_same (HG1.out.below hb3) hg2 hsame)
        have hzz : (z' != z') = false := by simp
        clear g0 g1 g2 g3 gl q0 q1 q2 q3 ql hb3 hg2 hc2 hsame HS2 HX2b HC HG1 HRA HSRT
        go_wp2_with fail
        refine (HRS.out).mono ?_
        rintro e W5 ⟨rfl, hb5⟩
        have HS5 := Lib.hid (HS3.out.keep hb5)
        have HX5 := Lib.hid (HX3.out.below hb5)
        have HBO5 := HBO
        clear hb5 HS3 HX3 HRS HBO
        go_wp2_with fail
        clear hzz
        obtain ⟨m, hm⟩ : ∃ m, (M).length = m := ⟨_, rfl⟩
        have hm80 : (m : Int) ≤ 80 := by have := HS5.out.rel.nums.1; have := HNM.out.1; omega
        obtain ⟨bh, hbh⟩ : ∃ bh, decide (vs.map V.bare ∈ M) = bh := ⟨_, rfl⟩
        have HQ1 : Hid (∀ W, Below W5.heap.size W5 W → Calls Try.prog 15 #[.pointer (some ⟨rb, 0, none⟩), .slice ta vs.length tc] W fun e w' => e = .returned (.bool bh) ∧ Below W5.heap.size W5 w') := fun W hW => by
          rw [← hbh]
          have hk := HS5.out.keep hW
          exact (has_rln hk.rel (HV.out.below hk.below) (by have := HNM.out.1; omega)).mono fun e w' ⟨h, hb⟩ => ⟨h, hW.trans (hb.mono hW.size)⟩
        have HQ2 : Hid (∀ W, Below W5.heap.size W5 W → Calls Try.prog 16 #[.agg #[.int .i64 (ar : Int), .slice no N.length nc, .slice eo D.length ec, .slice fo U.length fc], .slice ta vs.length tc] W fun e w' => e = .returned (.bool bh) ∧ Below W5.heap.size W5 w') := fun W hW => by
          rw [← hbh, ← HBO5.out.has HS5.out.rel.bare vs]
          have hk := HS5.out.keep hW
          exact (refHas_any hk.ref.rel (HV.out.below hk.below)).mono fun e w' ⟨h, hb⟩ => ⟨h, hW.trans (hb.mono hW.size)⟩
        have HQ3 : Hid (∀ W, Below W5.heap.size W5 W → Calls Try.prog 17 #[.pointer (some ⟨rb, 0, none⟩)] W fun e w' => e = .returned (.int .i64 (m : Int)) ∧ Below W5.heap.size W5 w') := fun W hW => by
          have hk := HS5.out.keep hW
          exact (len_n hk.rel hm).mono fun e w' ⟨h, hb⟩ => ⟨h, by rw [hb]; exact hW⟩
        have HQ4 : Hid (∀ W, Below W5.heap.size W5 W → Calls Try.prog 18 #[.agg #[.int .i64 (ar : Int), .slice no N.length nc, .slice eo D.length ec, .slice fo U.length fc]] W fun e w' => ∃ ao9 cp9, e = .returned (.slice ao9 m cp9) ∧ Below W5.heap.size W5 w') := fun W hW => by
          have hk := HS5.out.keep hW
          refine (refRows_any (ar := (ar : Int)) hk.ref.rel (by have := hk.small HBO5.out; have := HNM.out.1; omega)).mono ?_
          rintro e w' ⟨x9, rfl, hb, hg⟩
          obtain ⟨a9, c9, rfl, -⟩ := hg.form
          refine ⟨a9, c9, ?_, hW.trans (hb.mono hW.size)⟩
          rw [← HBO5.out.len, hm]
        have hbn : (bh != bh) = false := by simp
        have hmn : ((m : Int) != (m : Int)) = false := by simp
        have HK : Hid (∀ W, Below W5.heap.size W5 W → W.cell? ⟨bb, 1, none⟩ = some (.slice ta vs.length tc) ∧ bb < W.heap.size ∧ W.cell? ⟨qb, 0, none⟩ = some (.int .i64 (ar : Int)) ∧ W.cell? ⟨qb, 1, none⟩ = some (.slice no N.length nc) ∧ W.cell? ⟨qb, 2, none⟩ = some (.slice eo D.length ec) ∧ W.cell? ⟨qb, 3, none⟩ = some (.slice fo U.length fc) ∧ qb < W.heap.size ∧ Below W5.heap.size W5 W) := fun W hW => by
          obtain ⟨q0, q1, q2, q3, ql, -⟩ := (HS5.out.keep hW).blk.cells
          obtain ⟨x0, x1, x2, x3, xl⟩ := (HX5.out.below hW).cells
          exact ⟨x1, xl, q0, q1, q2, q3, ql, hW⟩
        obtain ⟨q0, q1, q2, q3, ql, -⟩ := HS5.out.blk.cells
        obtain ⟨x0, x1, x2, x3, xl⟩ := HX5.out.cells
        clear hm hbh x0 x2 x3
        go_region_held3 (fun W => W.cell? ⟨bb, 1, none⟩ = some (.slice ta vs.length tc) ∧ bb < W.heap.size ∧ W.cell? ⟨qb, 0, none⟩ = some (.int .i64 (ar : Int)) ∧ W.cell? ⟨qb, 1, none⟩ = some (.slice no N.length nc) ∧ W.cell? ⟨qb, 2, none⟩ = some (.slice eo D.length ec) ∧ W.cell? ⟨qb, 3, none⟩ = some (.slice fo U.length fc) ∧ qb < W.heap.size ∧ Below W5.heap.size W5 W)
          (first | assumption | exact HK.out _ hbN | exact HK.out _ (Below.refl _ _).drew)
          (first
            | (go_at_call 15; refine (HQ1.out _ (by go_split_ands; assumption)).mono ?_; rintro e w' ⟨rfl, hbN⟩)
            | (go_at_call 16; refine (HQ2.out _ (by go_split_ands; assumption)).mono ?_; rintro e w' ⟨rfl, hbN⟩)
            | (go_at_call 17; refine (HQ3.out _ (by go_split_ands; assumption)).mono ?_; rintro e w' ⟨rfl, hbN⟩)
            | (go_at_call 18; refine (HQ4.out _ (by go_split_ands; assumption)).mono ?_; rintro e w' ⟨ao9, cp9, rfl, hbN⟩))
        clear q0 q1 q2 q3 ql x1 xl HQ1 HQ2 HQ3 HQ4 HK
        go_split_ands
        rename_i y0 y1 y2 y3 y4 y5 y6 y7
        have HS9 := Lib.hid (HS5.out.keep y7)
        clear y0 y1 y2 y3 y4 y5 y6 y7
        go_wp2
        go_roundw
        case rel => exact ⟨k + 1, _, _, _, _, _, _, _, _, _, _, by omega, by go_num, HS9, HBO5⟩
        case measure => simp [intOf]; omega
    · have h1I : ¬ (k : Int) < (es.length : Int) := by omega
      have HNM : Hid (k ≤ 80 ∧ N.length + D.length + U.length ≤ 80) := ⟨by omega, by have := HS.out.small HBO.out; omega⟩
      have HBw : Hid (Below w.heap.size w wr) := HB2.out.trans (HS.out.below.mono HB2.out.size)
      have HQ1 : Hid (∀ W, Below wr.heap.size wr W → Calls Try.prog 19 #[.pointer (some ⟨rb, 0, none⟩)] W fun e w' => ∃ va Ea, e = .returned va ∧ Grid w' va Ea ∧ Ea.map R.vs = srt M ∧ Below W.heap.size W w' ∧ Below wr.heap.size wr w') := fun W hW =>
        (all_rln (HS.out.keep hW).rel (by have := HNM.out.1; omega)).mono fun e w' ⟨x2, D2, h, hb, hO, hE⟩ => ⟨x2, D2, h, hO.grid, hE, hb, hW.trans (hb.mono hW.size)⟩
      have HQ2 : Hid (∀ W, Below wr.heap.size wr W → Calls Try.prog 20 #[.agg #[.int .i64 (ar : Int), .slice no N.length nc, .slice eo D.length ec, .slice fo U.length fc]] W fun e w' => ∃ va Ea, e = .returned va ∧ Grid w' va Ea ∧ Ea.map R.vs = srt M ∧ Below W.heap.size W w' ∧ Below wr.heap.size wr w') := fun W hW =>
        (refAll_any (ar := (ar : Int)) (HS.out.keep hW).ref.rel (by have := HNM.out.2; omega)).mono fun e w' ⟨x2, D2, h, hb, hO, hE⟩ => ⟨x2, D2, h, hO.grid, by rw [hE, HBO.out.all], hb, hW.trans (hb.mono hW.size)⟩
      have HQ3 : Hid (∀ W, Below wr.heap.size wr W → Calls Try.prog 21 #[.pointer (some ⟨rb, 0, none⟩)] W fun e w' => ∃ va Ea, e = .returned va ∧ Grid w' va Ea ∧ Ea.map R.vs = srt D ∧ Below W.heap.size W w' ∧ Below wr.heap.size wr w') := fun W hW =>
        (delta_rln (HS.out.keep hW).rel (by have := HNM.out.1; omega)).mono fun e w' ⟨x2, D2, h, hb, hO, hE⟩ => ⟨x2, D2, h, hO.grid, by rw [hE, HBO.out.delta], hb, hW.trans (hb.mono hW.size)⟩
      have HQ4 : Hid (∀ W, Below wr.heap.size wr W → Calls Try.prog 22 #[.slice eo D.length ec] W fun e w' => ∃ va Ea, e = .returned va ∧ Grid w' va Ea ∧ Ea.map R.vs = srt D ∧ Below W.heap.size W w' ∧ Below wr.heap.size wr w') := fun W hW =>
        ((HS.out.keep hW).ref.d.gr.sort (by have := HNM.out.2; omega)).mono fun e w' ⟨x2, D2, h, hb, hO, hE⟩ => ⟨x2, D2, h, hO.grid, hE, hb, hW.trans (hb.mono hW.size)⟩
      have HK : Hid (∀ W, Below wr.heap.size wr W → W.cell? ⟨qb, 0, none⟩ = some (.int .i64 (ar : Int)) ∧ W.cell? ⟨qb, 1, none⟩ = some (.slice no N.length nc) ∧ W.cell? ⟨qb, 2, none⟩ = some (.slice eo D.length ec) ∧ W.cell? ⟨qb, 3, none⟩ = some (.slice fo U.length fc) ∧ qb < W.heap.size ∧ Below wr.heap.size wr W) := fun W hW => by
        obtain ⟨q0, q1, q2, q3, ql, -⟩ := (HS.out.keep hW).blk.cells
        exact ⟨q0, q1, q2, q3, ql, hW⟩
      obtain ⟨q0, q1, q2, q3, ql, -⟩ := HS.out.blk.cells
      clear HS HBO HX2 HSM HB2
      go_wp2_with fail
      go_region_held3 (fun W => W.cell? ⟨qb, 0, none⟩ = some (.int .i64 (ar : Int)) ∧ W.cell? ⟨qb, 1, none⟩ = some (.slice no N.length nc) ∧ W.cell? ⟨qb, 2, none⟩ = some (.slice eo D.length ec) ∧ W.cell? ⟨qb, 3, none⟩ = some (.slice fo U.length fc) ∧ qb < W.heap.size ∧ Below wr.heap.size wr W)
          (first | assumption | exact HK.out _ hbN | exact HK.out _ (Below.refl _ _).drew)
          (first
            | (go_at_call 19; (with_reducible refine (HQ1.out _ (by go_split_ands; assumption)).mono ?_); rintro e wa ⟨va, Ea, rfl, ha, he, hbl, hbN⟩; have HGB := Lib.hid (gs_below (gs_below HGB0.out (by repeat (first | exact Below.refl _ _ | refine Below.drew ?_))) hbl); have HGA := Lib.hid (GS.mk ha he); clear ha he hbl HGB0)
            | (go_at_call 19; (with_reducible refine (HQ1.out _ (by go_split_ands; assumption)).mono ?_); rintro e wa ⟨va, Ea, rfl, ha, he, hbl, hbN⟩; have HGA0 := Lib.hid (GS.mk ha he); clear ha he hbl)
            | (go_at_call 20; (with_reducible refine (HQ2.out _ (by go_split_ands; assumption)).mono ?_); rintro e wa ⟨va, Ea, rfl, ha, he, hbl, hbN⟩; have HGA := Lib.hid (gs_below (gs_below HGA0.out (by repeat (first | exact Below.refl _ _ | refine Below.drew ?_))) hbl); have HGB := Lib.hid (GS.mk ha he); clear ha he hbl HGA0)
            | (go_at_call 20; (with_reducible refine (HQ2.out _ (by go_split_ands; assumption)).mono ?_); rintro e wa ⟨va, Ea, rfl, ha, he, hbl, hbN⟩; have HGB0 := Lib.hid (GS.mk ha he); clear ha he hbl)
            | (go_at_call 21; (with_reducible refine (HQ3.out _ (by go_split_ands; assumption)).mono ?_); rintro e wa ⟨va, Ea, rfl, ha, he, hbl, hbN⟩; have HGS := Lib.hid (gs_below (gs_below HGS0.out (by repeat (first | exact Below.refl _ _ | refine Below.drew ?_))) hbl); have HGD := Lib.hid (GS.mk ha he); clear ha he hbl HGS0)
            | (go_at_call 21; (with_reducible refine (HQ3.out _ (by go_split_ands; assumption)).mono ?_); rintro e wa ⟨va, Ea, rfl, ha, he, hbl, hbN⟩; have HGD0 := Lib.hid (GS.mk ha he); clear ha he hbl)
            | (go_at_call 22; (with_reducible refine (HQ4.out _ (by go_split_ands; assumption)).mono ?_); rintro e wa ⟨va, Ea, rfl, ha, he, hbl, hbN⟩; have HGD := Lib.hid (gs_below (gs_below HGD0.out (by repeat (first | exact Below.refl _ _ | refine Below.drew ?_))) hbl); have HGS := Lib.hid (GS.mk ha he); clear ha he hbl HGD0)
            | (go_at_call 22; (with_reducible refine (HQ4.out _ (by go_split_ands; assumption)).mono ?_); rintro e wa ⟨va, Ea, rfl, ha, he, hbl, hbN⟩; have HGS0 := Lib.hid (GS.mk ha he); clear ha he hbl)
            | (go_at_call 14; have hz : Below wr.heap.size wr _ := (by go_split_ands; assumption); first
                | (refine (GS.same (gs_below HGA.out (by repeat (first | exact Below.refl _ _ | refine Below.drew ?_))) (gs_below HGB.out (by repeat (first | exact Below.refl _ _ | refine Below.drew ?_)))).mono ?_; clear HGA HGB)
                | (refine (GS.same (gs_below HGD.out (by repeat (first | exact Below.refl _ _ | refine Below.drew ?_))) (gs_below HGS.out (by repeat (first | exact Below.refl _ _ | refine Below.drew ?_)))).mono ?_; clear HGD HGS)
               rintro e ws ⟨rfl, hbs⟩; have hbN := hz.trans (hbs.mono hz.size); clear hbs hz))
      go_split_ands
      rename_i y0 y1 y2 y3 y4 y5
      have HB9 : Hid (Below w.heap.size w _) := HBw.out.trans (y5.mono HBw.out.size)
      clear y0 y1 y2 y3 y4 y5 q0 q1 q2 q3 ql HQ1 HQ2 HQ3 HQ4 HK
      go_wp2
      go_ret
      exact ⟨rfl, HB9.out⟩
end Go.Proofs.Ytkkpcphmojegmaa
