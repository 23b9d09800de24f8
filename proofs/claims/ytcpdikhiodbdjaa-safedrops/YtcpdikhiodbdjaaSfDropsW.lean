/-
  SafeDrops's walk.
-/
import Derived.Test.YtcpdikhiodbdjaaSfPack
namespace Go.Proofs.Ytcpdikhiodbdjaa
set_option linter.unusedSimpArgs false
set_option linter.unusedVariables false
set_option linter.unusedSectionVars false
set_option maxRecDepth 100000
open Go.RowKit Go.Maps

set_option maxHeartbeats 16000000 in
theorem drops_walk {r : Ru} {x y : Value} {by' : Int} {w : World} (hx : Tms w x r.head.args) (hy : Lts w y r.body) (hO : OkRu r) (lb : 0 ≤ by') (ub : by' ≤ 255) :
    Calls Try.prog 8 #[.agg #[.string r.head.p, x, y], .int .u8 by'] w fun e w' => e = .returned (.bool true) ∧ Below w.heap.size w w' := by
  obtain ⟨xo, xc, rfl, -⟩ := hx.form
  obtain ⟨yo, yc, rfl, hycap, hym⟩ := hy.form
  unfold maxLen at hym
  obtain ⟨W0, hW0⟩ : ∃ W0, W0 = w.alloc (.cells #[.string r.head.p, .slice xo r.head.args.length xc, .slice yo r.body.length yc] 27) := ⟨_, rfl⟩
  have HW : Hid (Below w.heap.size w W0) := by rw [hW0]; exact al_bel _ _
  have HX := Lib.hid (hx.below stayTm HW.out)
  have HY := Lib.hid (hy.below stayLt HW.out)
  have HBR : Hid (W0.heap[w.heap.size]? = some (.cells #[.string r.head.p, .slice xo r.head.args.length xc, .slice yo r.body.length yc] 27 (0, 0))) := by rw [hW0]; exact heap1L _ _
  have HSH := Lib.hid (shown_any W0)
  rw [hW0] at HSH
  have HO := Lib.hid hO
  have HC : Hid (∀ W, Below W0.heap.size W0 W → W.cell? ⟨w.heap.size, 0, none⟩ = some (.string r.head.p) ∧ W.cell? ⟨w.heap.size, 1, none⟩ = some (.slice xo r.head.args.length xc) ∧ W.cell? ⟨w.heap.size, 2, none⟩ = some (.slice yo r.body.length yc) ∧ w.heap.size < W.heap.size) := fun W hW => three_keep HBR.out hW
  clear hx hy hO
  by_cases hf : Few r
  · have HFW : Hid (∀ W, Below W0.heap.size W0 W → Calls Try.prog 10 #[.agg #[.string r.head.p, .slice xo r.head.args.length xc, .slice yo r.body.length yc]] W fun e w' => e = .returned (.bool true) ∧ Below W.heap.size W w') := fun W hW => few_is ⟨fun _ => hf, fun _ => rfl⟩ (HX.out.below stayTm hW) (HY.out.below stayLt hW)
    have HSM := Lib.hid hf.sm
    have hB30 : r.body.length ≤ 30 := hf.body
    clear hf
    by_cases hz : r.body.length = 0
    · have hzb : ((r.body.length : Int) == 0) = true := by simp [hz]
      clear hz
      go_enter Try.func8, Try.ntmps8
      go_wp2_with (first
        | (go_at_call 9; refine HSH.out.mono ?_; clear HSH; rintro e w1 ⟨rfl, hb1⟩; rw [← hW0] at hb1; have HB1 := Lib.hid hb1; clear hb1; obtain ⟨r0, r1, r2, rlt⟩ := HC.out _ HB1.out)
        | (go_at_call 10; refine (HFW.out _ HB1.out).mono ?_; clear HFW; rintro e w2 ⟨rfl, hb2⟩; have HB2 := Lib.hid (below_to HB1.out hb2 (Nat.le_refl _)); clear hb2 r0 r1 r2 rlt; obtain ⟨r0, r1, r2, rlt⟩ := HC.out _ HB2.out))
      go_ret
      exact ⟨rfl, below_to HW.out HB2.out (Nat.le_refl _)⟩
    · have hzb : ((r.body.length : Int) == 0) = false := by simp [hz]
      have hz0 : ¬ (r.body.length : Int) = 0 := by omega
      obtain ⟨kk, hkk, hkl⟩ : ∃ kk : Nat, by' % (r.body.length : Int) = (kk : Int) ∧ kk < r.body.length := by
        have h1 := Int.emod_nonneg by' hz0
        have h2 := Int.emod_lt_of_pos by' (show (0 : Int) < (r.body.length : Int) by omega)
        exact ⟨(by' % (r.body.length : Int)).toNat, by omega, by omega⟩
      have hklI : (kk : Int) ≤ (r.body.length : Int) := by omega
      have hklI2 : (kk : Int) < (r.body.length : Int) := by omega
      obtain ⟨k1, hk1⟩ : ∃ k1 : Nat, k1 = kk + 1 := ⟨_, rfl⟩
      have hk1I : (kk : Int) + 1 = (k1 : Int) := by omega
      have hk1w : IntKind.i64.wrap ((kk : Int) + 1) = (k1 : Int) := by rw [IntKind.wrap_i64]; omega
      have hk1w2 : IntKind.i64.wrap (k1 : Int) = (k1 : Int) := by rw [IntKind.wrap_i64]; omega
      have hk1N : k1 = kk + 1 := hk1
      have HK1 := Lib.hid hk1
      have hk1B : k1 ≤ r.body.length := by omega
      clear hk1
      have HS1 := HY.out.sliced (i := 0) (j := kk) (by omega) (by omega)
      have hrun1 : ∀ W, (Instr.slice 25 (.slice yo r.body.length yc) none (some (.int .i64 (kk : Int))) none).run Try.prog W = .ok (sliced yo 0 kk yc 14) W := fun W => by
        rw [run_slice_h (P := Try.prog) W _ _ _ _ (sizeOf_el elLt W).2 .i64 (kk : Int) (by omega) (by omega), (sizeOf_el elLt W).1]
        simp [Result.andThen]
      obtain ⟨y1, hy1⟩ : ∃ y1, y1 = sliced yo 0 kk yc 14 := ⟨_, rfl⟩
      rw [← hy1] at hrun1 HS1
      have HY1 : Hid (Lts W0 y1 (r.body.take kk)) := by have := HS1.1; rw [List.drop_zero] at this; exact this
      have HS2 := HY.out.sliced (i := k1) (j := r.body.length) (by omega) (by omega)
      have hrun2 : ∀ W, (Instr.slice 25 (.slice yo r.body.length yc) (some (.int .i64 (k1 : Int))) none none).run Try.prog W = .ok (sliced yo k1 r.body.length yc 14) W := fun W => by
        rw [run_slice_l (P := Try.prog) W _ _ _ _ (sizeOf_el elLt W).2 .i64 (k1 : Int) (by omega) (by omega), (sizeOf_el elLt W).1]
        simp [Result.andThen]
      obtain ⟨y2, hy2⟩ : ∃ y2, y2 = sliced yo k1 r.body.length yc 14 := ⟨_, rfl⟩
      rw [← hy2] at hrun2 HS2
      have HY2 : Hid (Lts W0 y2 (r.body.drop k1)) := by have := HS2.1; rw [List.take_length] at this; exact this
      have hl1 : (r.body.take kk).length ≤ 30 := by simp; omega
      have hl2 : (r.body.drop k1).length ≤ 30 := by simp; omega
      obtain ⟨VM, hVM⟩ : ∃ VM, VM = (([] ++ r.body.take kk) ++ r.body.drop k1).length := ⟨_, rfl⟩
      have HVM := Lib.hid hVM
      clear hk1N hy1 hy2 HS1 HS2 hVM
      go_enter Try.func8, Try.ntmps8
      go_wp2_with (first
        | (go_at_call 9; refine HSH.out.mono ?_; clear HSH; rintro e w1 ⟨rfl, hb1⟩; rw [← hW0] at hb1; have HB1 := Lib.hid hb1; clear hb1; obtain ⟨r0, r1, r2, rlt⟩ := HC.out _ HB1.out)
        | (go_at_call 10; refine (HFW.out _ HB1.out).mono ?_; clear HFW; rintro e w2 ⟨rfl, hb2⟩; have HB2 := Lib.hid (below_to HB1.out hb2 (Nat.le_refl _)); clear hb2 r0 r1 r2 rlt; obtain ⟨r0, r1, r2, rlt⟩ := HC.out _ HB2.out))
      have HK : Hid (∀ W, Below w2.heap.size w2 W → W.cell? ⟨w.heap.size, 0, none⟩ = some (.string r.head.p) ∧ W.cell? ⟨w.heap.size, 1, none⟩ = some (.slice xo r.head.args.length xc) ∧ W.cell? ⟨w.heap.size, 2, none⟩ = some (.slice yo r.body.length yc) ∧ w.heap.size < W.heap.size ∧ w2.heap.size ≤ W.heap.size ∧ Below w2.heap.size w2 W ∧ Below W0.heap.size W0 W) := fun W hW =>
        have h0 := below_to HB2.out hW (Nat.le_refl _)
        have h := HC.out W h0
        ⟨h.1, h.2.1, h.2.2.1, h.2.2.2, hW.size, hW, h0⟩
      have HSX : Hid (∀ W, (W.cell? ⟨w.heap.size, 0, none⟩ = some (.string r.head.p) ∧ W.cell? ⟨w.heap.size, 1, none⟩ = some (.slice xo r.head.args.length xc) ∧ W.cell? ⟨w.heap.size, 2, none⟩ = some (.slice yo r.body.length yc) ∧ w.heap.size < W.heap.size ∧ w2.heap.size ≤ W.heap.size ∧ Below w2.heap.size w2 W ∧ Below W0.heap.size W0 W) → Below w2.heap.size w2 W) := fun W h => h.2.2.2.2.2.1
      have HN0 := Lib.hid HB2.out.size
      clear r0 r1 r2 rlt HB1
      go_region_held3 (fun W => W.cell? ⟨w.heap.size, 0, none⟩ = some (.string r.head.p) ∧ W.cell? ⟨w.heap.size, 1, none⟩ = some (.slice xo r.head.args.length xc) ∧ W.cell? ⟨w.heap.size, 2, none⟩ = some (.slice yo r.body.length yc) ∧ w.heap.size < W.heap.size ∧ w2.heap.size ≤ W.heap.size ∧ Below w2.heap.size w2 W ∧ Below W0.heap.size W0 W)
        (first | assumption | (refine HK.out _ ?_; repeat (first | exact Below.refl _ _ | exact HSX.out _ (by assumption) | refine Below.drew ?_ | refine Below.alloc ?_ (by first | exact Nat.le_refl _ | exact (HSX.out _ (by assumption)).size | omega | (simp; omega) | simp) _ | refine Below.setCell ?_ (by first | omega | (simp; omega) | simp) _)))
        (first
          | (refine step_append_all (w0 := W0) rfl (.tmp 37) (.tmp 41) 25 rfl elLt cellRLt w2.heap.size (.slice (some ⟨_, 0, none⟩) 0 0) [] rfl (OwnW.made (by simp) (by first | exact heap1L _ _ | exact heap2L _ _ _ | exact heap1oL _ _ _)) y1 (r.body.take kk) rfl HY1.out (by go_split_ands; assumption) (by unfold maxLen; simp; omega) (by simp; omega) (by first | omega | (simp; omega) | simp) ?_; intro v1 wa ho1 hb1 hz1; have hwa : w2.heap.size ≤ wa.heap.size := Nat.le_trans (by first | omega | (simp; omega) | simp) hb1.size; have hSa := HK.out wa (Below.trans (by go_split_ands; assumption) hb1); have HO1 := Lib.hid ho1; have HZ1 := Lib.hid hz1; clear ho1 hb1 hz1)
          | (refine step_append_all (w0 := W0) rfl (.tmp 42) (.tmp 47) 25 rfl elLt cellRLt w2.heap.size v1 ([] ++ r.body.take kk) rfl (by first | exact HO1.out | exact HO1.out.below (al_bel _ _)) y2 (r.body.drop k1) rfl HY2.out (by go_split_ands; assumption) (by unfold maxLen; simp; omega) (by simp; omega) (by first | omega | (simp; omega)) ?_; intro v2 wb ho2 hb2 hz2; have hSb := HK.out wb (Below.trans (by go_split_ands; assumption) hb2); obtain ⟨vo, vc, hv2⟩ := ho2.form; rw [← HVM.out] at hv2; subst hv2; have HO2 := Lib.hid ho2; have HZ2 := Lib.hid hz2; clear ho2 hb2 hz2;
              (first
                | (have h8 := HZ1.out _ (Obj.cells #[Value.string ⟨#[]⟩, Value.slice none 0 0, Value.slice none 0 0] 27 (0, 0)) (by first | exact heap1oL _ _ _ | exact heap2L _ _ _) (by simp [Value.ownBlock]); have h9 := HZ2.out _ _ h8.1 h8.2; obtain ⟨c0, c1, c2, f0, f1, f2, lt9⟩ := box9r h9.1; have HV9 := Lib.hid h9.2; have HC9 := Lib.hid h9.1; clear h8 h9)
                | (have h9 := HZ2.out wa.heap.size (Obj.cells #[Value.string ⟨#[]⟩, Value.slice none 0 0, Value.slice none 0 0] 27 (0, 0)) (heap1L _ _) (fun e => Nat.lt_irrefl _ (HO1.out.lt _ e).2); obtain ⟨c0, c1, c2, f0, f1, f2, lt9⟩ := box9r h9.1; have HV9 := Lib.hid h9.2; have HC9 := Lib.hid h9.1; clear h9)
                | skip)))
      · have hpk := packR_alloc (w0 := W0) (w := w2) (p := .string r.head.p) (h := .slice xo r.head.args.length xc) (m := VM) (vo := vo) (vc := vc) HO2.out rfl hSb.2.2.2.2.2.2 (HSX.out _ hSb) (by simp; unfold maxLen; omega)
        generalize wb.alloc (Obj.cells #[Value.string r.head.p, Value.slice xo r.head.args.length xc, Value.slice vo VM vc] 27) = X at hpk ⊢
        generalize wb.heap.size = b9 at hpk ⊢
        clear HZ1 HZ2 HO1 HO2 hSa hSb hl1 hl2 hrun1 hrun2 hwa
        have HPB := Lib.hid hpk.box
        have HB9 := Lib.hid (below_to HB2.out hpk.bel (Nat.le_refl _))
        have HXX := Lib.hid (HX.out.below stayTm HB9.out)
        have HYX := Lib.hid (HY.out.below stayLt HB9.out)
        have HLX : Hid (Lts X (.slice vo VM vc) (([] ++ r.body.take kk) ++ r.body.drop k1)) := hpk.lts
        obtain ⟨r0, r1, r2, rlt⟩ := HC.out _ HB9.out
        obtain ⟨z0, z1, z2, zlt⟩ := box3 HPB.out
        clear hpk
        have HSM2 : Hid (SmRu ⟨r.head, (([] ++ r.body.take kk) ++ r.body.drop k1)⟩) := sub_sm HSM.out (by simp; omega) (fun l hl => less_mem (k := kk) l (by rw [← HK1.out]; exact hl))
        have HO9 : Hid (OkRu ⟨r.head, (([] ++ r.body.take kk) ++ r.body.drop k1)⟩) := sub_ok HO.out (fun l hl => less_mem (k := kk) l (by rw [← HK1.out]; exact hl))
        have HC9 : Hid (∀ W, Below X.heap.size X W → (W.cell? ⟨w.heap.size, 0, none⟩ = some (.string r.head.p) ∧ W.cell? ⟨w.heap.size, 1, none⟩ = some (.slice xo r.head.args.length xc) ∧ W.cell? ⟨w.heap.size, 2, none⟩ = some (.slice yo r.body.length yc) ∧ w.heap.size < W.heap.size) ∧ W.cell? ⟨b9, 0, none⟩ = some (.string r.head.p) ∧ W.cell? ⟨b9, 1, none⟩ = some (.slice xo r.head.args.length xc) ∧ W.cell? ⟨b9, 2, none⟩ = some (.slice vo VM vc) ∧ b9 < W.heap.size) := fun W hW => ⟨HC.out W (below_to HB9.out hW (Nat.le_refl _)), three_keep HPB.out hW⟩
        obtain ⟨s1, p1, hv1⟩ := chkV_err (checkR r)
        obtain ⟨s2, p2, hv2⟩ := chkV_err (checkR ⟨r.head, (([] ++ r.body.take kk) ++ r.body.drop k1)⟩)
        obtain ⟨e1, he1⟩ : ∃ e1, e1 = errC (checkR r) := ⟨_, rfl⟩
        obtain ⟨e2, he2⟩ : ∃ e2, e2 = errC (checkR ⟨r.head, (([] ++ r.body.take kk) ++ r.body.drop k1)⟩) := ⟨_, rfl⟩
        rw [← he1] at hv1
        rw [← he2] at hv2
        have HE1 : Hid (e1 = 0 ∨ e1 = 6) := by show _ ∨ _; rw [he1]; cases checkR r <;> simp [errC]
        have HE2 : Hid ((r.body[kk]'hkl).kind ≠ 1 → e1 = 0 → e2 = 0) := fun hk h0 => by
          have h1 : checkR r = none := by rw [h0] at he1; cases hc : checkR r with
            | none => rfl
            | some q => rw [hc] at he1; simp [errC] at he1
          have h2 := less_safe (h := r.head) hkl hk h1
          rw [he2]
          have h3 : checkR ⟨r.head, (([] ++ r.body.take kk) ++ r.body.drop k1)⟩ = none := by rw [HK1.out]; exact h2
          rw [h3]; rfl
        have HIN : Hid (∀ s ∈ bndR ⟨r.head, (([] ++ r.body.take kk) ++ r.body.drop k1)⟩, inN (bndR r) s = true) := by show ∀ s ∈ _, _; rw [HK1.out]; exact less_bnd (h := r.head) hkl
        have HSAME : Hid ((r.body[kk]'hkl).kind ≠ 1 → (bndR ⟨r.head, (([] ++ r.body.take kk) ++ r.body.drop k1)⟩).length = (bndR r).length) := fun hk => by rw [HK1.out, less_same (h := r.head) hkl hk]
        have HQ1 : Hid (∀ W, Below X.heap.size X W → Calls Try.prog 11 #[.agg #[.string r.head.p, .slice xo r.head.args.length xc, .slice yo r.body.length yc]] W fun e w' => e = .returned (.tuple #[.string s1, .int .i64 p1, .int .i64 e1]) ∧ Below X.heap.size X w') := fun W hW => by
          have := (check_any (HXX.out.below stayTm hW) (HYX.out.below stayLt hW) HSM.out HO.out).mono (fun e w' h => (⟨h.1, below_to hW h.2 (Nat.le_refl _)⟩ : _ ∧ Below X.heap.size X w'))
          rw [hv1] at this; exact this
        have HQ2 : Hid (∀ W, Below X.heap.size X W → Calls Try.prog 11 #[.agg #[.string r.head.p, .slice xo r.head.args.length xc, .slice vo VM vc]] W fun e w' => e = .returned (.tuple #[.string s2, .int .i64 p2, .int .i64 e2]) ∧ Below X.heap.size X w') := fun W hW => by
          have := (check_any (r := ⟨r.head, (([] ++ r.body.take kk) ++ r.body.drop k1)⟩) (HXX.out.below stayTm hW) (HLX.out.below stayLt hW) HSM2.out HO9.out).mono (fun e w' h => (⟨h.1, below_to hW h.2 (Nat.le_refl _)⟩ : _ ∧ Below X.heap.size X w'))
          rw [hv2] at this; exact this
        have HBL1 := Lib.hid (bnd_len HSM.out)
        have HBL2 := Lib.hid (bnd_len HSM2.out)
        have HBD1 : Hid (∀ W, Below X.heap.size X W → Calls Try.prog 18 #[.agg #[.string r.head.p, .slice xo r.head.args.length xc, .slice yo r.body.length yc]] W fun e w' => ∃ v, e = .returned v ∧ Nms w' v (bndR r) ∧ Below X.heap.size X w' ∧ Below W.heap.size W w') := fun W hW =>
          (bound_any (HXX.out.below stayTm hW) (HYX.out.below stayLt hW) HSM.out HO.out).mono fun e w' ⟨v, h1, h2, h3⟩ => ⟨v, h1, OwnNm.rd h2 h3 (by have := HBL1.out; unfold maxLen; omega), below_to hW h3 (Nat.le_refl _), h3⟩
        have HBD2 : Hid (∀ W, Below X.heap.size X W → Calls Try.prog 18 #[.agg #[.string r.head.p, .slice xo r.head.args.length xc, .slice vo VM vc]] W fun e w' => ∃ v, e = .returned v ∧ Nms w' v (bndR ⟨r.head, (([] ++ r.body.take kk) ++ r.body.drop k1)⟩) ∧ Below X.heap.size X w' ∧ Below W.heap.size W w') := fun W hW =>
          (bound_any (r := ⟨r.head, (([] ++ r.body.take kk) ++ r.body.drop k1)⟩) (HXX.out.below stayTm hW) (HLX.out.below stayLt hW) HSM2.out HO9.out).mono fun e w' ⟨v, h1, h2, h3⟩ => ⟨v, h1, OwnNm.rd h2 h3 (by have := HBL2.out; unfold maxLen; omega), below_to hW h3 (Nat.le_refl _), h3⟩
        clear hv1 hv2 he1 he2
        obtain ⟨N9, hN9⟩ : ∃ N9, N9 = bndR ⟨r.head, (([] ++ r.body.take kk) ++ r.body.drop k1)⟩ := ⟨_, rfl⟩
        rw [← hN9] at HIN HSAME HBL2 HBD2
        clear hN9
        go_wp2_with (first
          | (go_at_call 11; refine (HQ1.out _ (Below.refl _ _)).mono ?_; clear HQ1; rintro e w3 ⟨rfl, hb3⟩; have HB3 := Lib.hid hb3; clear hb3 r0 r1 r2 rlt z0 z1 z2 zlt; obtain ⟨⟨r0, r1, r2, rlt⟩, z0, z1, z2, zlt⟩ := HC9.out _ HB3.out)
          | (go_at_call 11; refine (HQ2.out _ HB3.out).mono ?_; clear HQ2; rintro e w4 ⟨rfl, hb4⟩; have HB4 := Lib.hid hb4; clear hb4 r0 r1 r2 rlt z0 z1 z2 zlt; obtain ⟨⟨r0, r1, r2, rlt⟩, z0, z1, z2, zlt⟩ := HC9.out _ HB4.out)
          | (go_at_call 18; refine (HBD1.out _ HB4.out).mono ?_; clear HBD1; rintro e w5 ⟨v5, rfl, h5, hb5, hbl5⟩; obtain ⟨o5, n5, c5, rfl, hn5⟩ := h5.formN; have HN5 := Lib.hid hn5; have HV5 := Lib.hid h5; have HB5 := Lib.hid hb5; clear h5 hb5 hbl5 hn5 r0 r1 r2 rlt z0 z1 z2 zlt; obtain ⟨⟨r0, r1, r2, rlt⟩, z0, z1, z2, zlt⟩ := HC9.out _ HB5.out)
          | (go_at_call 18; refine (HBD2.out _ HB5.out).mono ?_; clear HBD2; rintro e w6 ⟨v6, rfl, h6, hb6, hbl6⟩; obtain ⟨o6, n6, c6, rfl, hn6⟩ := h6.formN; have HN6 := Lib.hid hn6; have HV6 := Lib.hid h6; have HV56 : Hid (Nms w6 _ (bndR r)) := RdL.below stayNm HV5.out hbl6; have HB6 := Lib.hid hb6; clear h6 hb6 hbl6 hn6 r0 r1 r2 rlt z0 z1 z2 zlt))
        have hn6I : (n6 : Int) ≤ 10000000 := by have := HN6.out; have := HBL2.out; omega
        go_loopw [16] (fun i wr => ∃ k : Nat, k ≤ n6 ∧ i = .int .i64 (k : Int) ∧ Hid (Below w6.heap.size w6 wr)) (fun i _ => n6 - (intOf i).toNat)
        case atStart => exact ⟨0, Nat.zero_le _, rfl, Below.refl _ _⟩
        case round =>
          obtain ⟨k, hk, rfl, HB⟩ := hrel
          by_cases hlt : k < n6
          · have hltI : (k : Int) < (n6 : Int) := by omega
            have hlN : k < N9.length := by have := HN6.out; omega
            have hHV := HV6.out
            rw [HN6.out] at hHV
            obtain ⟨b, off, rfl, hbl, q0⟩ := Nms.at (RdL.below stayNm hHV HB.out) k hlN
            have HI := Lib.hid (HIN.out _ (List.getElem_mem hlN))
            have hnc : n6 ≤ c6 := by obtain ⟨ao, cap, e, h1, -⟩ := HV6.out; cases e; rw [HN6.out]; exact h1.1
            clear hHV
            obtain ⟨d, hd⟩ : ∃ d, d = N9[k]'hlN := ⟨_, rfl⟩
            rw [← hd] at q0 HI
            clear hd hlN
            go_wp2_with (go_at_call 21; refine (rin_any (RdL.below stayNm HV56.out HB.out) d).mono ?_; rintro e w7 ⟨rfl, hw7⟩; obtain rfl : wr = w7 := hw7.symm; rw [HI.out])
            go_roundw
            case rel => exact ⟨k + 1, by omega, by simp, HB⟩
            case measure => simp [intOf]; omega
          · have hltI : ¬ (k : Int) < (n6 : Int) := by omega
            have hbX := below_to HB6.out HB.out (Nat.le_refl _)
            obtain ⟨⟨r0, r1, r2, rlt⟩, -⟩ := HC9.out _ hbX
            obtain ⟨b, off, cs, rfl, hbl, ⟨xa, rfl, hxa⟩, hcell⟩ := (show Lts wr (.slice yo r.body.length yc) r.body from HYX.out.below stayLt hbX).at kk hkl
            have q0 := hcell 0 _ rfl
            simp only [Nat.add_zero] at q0
            have HBF := Lib.hid (below_to HB9.out hbX (Nat.le_refl _))
            clear hcell hxa hbX
            obtain ⟨kd, hkd⟩ : ∃ kd, kd = (r.body[kk]'hkl).kind := ⟨_, rfl⟩
            rw [← hkd] at q0 HE2 HSAME
            clear hkd
            by_cases hp : kd = 1
            · subst hp
              go_wp2
              go_ret
              exact ⟨rfl, below_to HW.out HBF.out (Nat.le_refl _)⟩
            · have hp1 : (kd == 1) = false := beq_eq_false_iff_ne.2 hp
              obtain rfl : n6 = n5 := by rw [HN6.out, HN5.out]; exact HSAME.out hp
              have HE3 := Lib.hid (HE2.out hp)
              rcases HE1.out with h6 | h6
              · obtain rfl := HE3.out h6
                subst h6
                clear hp
                go_wp2
                go_ret
                exact ⟨rfl, below_to HW.out HBF.out (Nat.le_refl _)⟩
              · subst h6
                clear hp
                go_wp2
                go_ret
                exact ⟨rfl, below_to HW.out HBF.out (Nat.le_refl _)⟩
      · have hpk := packR_set (w0 := W0) (w := w2) (b9 := wa.heap.size) (p := .string r.head.p) (h := .slice xo r.head.args.length xc) (m := VM) (vo := vo) (vc := vc) HO2.out rfl hSb.2.2.2.2.2.2 (HSX.out _ hSb) (by simp; unfold maxLen; omega) HC9.out HV9.out (by first | omega | simp) (by have := HN0.out; omega)
        generalize ((wb.setCell ⟨wa.heap.size, 0, none⟩ (Value.string r.head.p)).setCell ⟨wa.heap.size, 1, none⟩ (Value.slice xo r.head.args.length xc)).setCell ⟨wa.heap.size, 2, none⟩ (Value.slice vo VM vc) = X at hpk ⊢
        generalize wa.heap.size = b9 at hpk ⊢
        clear HZ1 HZ2 HO1 HO2 hSa hSb hl1 hl2 hrun1 hrun2 hwa HC9 HV9 c0 c1 c2 f0 f1 f2 lt9
        have HPB := Lib.hid hpk.box
        have HB9 := Lib.hid (below_to HB2.out hpk.bel (Nat.le_refl _))
        have HXX := Lib.hid (HX.out.below stayTm HB9.out)
        have HYX := Lib.hid (HY.out.below stayLt HB9.out)
        have HLX : Hid (Lts X (.slice vo VM vc) (([] ++ r.body.take kk) ++ r.body.drop k1)) := hpk.lts
        obtain ⟨r0, r1, r2, rlt⟩ := HC.out _ HB9.out
        obtain ⟨z0, z1, z2, zlt⟩ := box3 HPB.out
        clear hpk
        have HSM2 : Hid (SmRu ⟨r.head, (([] ++ r.body.take kk) ++ r.body.drop k1)⟩) := sub_sm HSM.out (by simp; omega) (fun l hl => less_mem (k := kk) l (by rw [← HK1.out]; exact hl))
        have HO9 : Hid (OkRu ⟨r.head, (([] ++ r.body.take kk) ++ r.body.drop k1)⟩) := sub_ok HO.out (fun l hl => less_mem (k := kk) l (by rw [← HK1.out]; exact hl))
        have HC9 : Hid (∀ W, Below X.heap.size X W → (W.cell? ⟨w.heap.size, 0, none⟩ = some (.string r.head.p) ∧ W.cell? ⟨w.heap.size, 1, none⟩ = some (.slice xo r.head.args.length xc) ∧ W.cell? ⟨w.heap.size, 2, none⟩ = some (.slice yo r.body.length yc) ∧ w.heap.size < W.heap.size) ∧ W.cell? ⟨b9, 0, none⟩ = some (.string r.head.p) ∧ W.cell? ⟨b9, 1, none⟩ = some (.slice xo r.head.args.length xc) ∧ W.cell? ⟨b9, 2, none⟩ = some (.slice vo VM vc) ∧ b9 < W.heap.size) := fun W hW => ⟨HC.out W (below_to HB9.out hW (Nat.le_refl _)), three_keep HPB.out hW⟩
        obtain ⟨s1, p1, hv1⟩ := chkV_err (checkR r)
        obtain ⟨s2, p2, hv2⟩ := chkV_err (checkR ⟨r.head, (([] ++ r.body.take kk) ++ r.body.drop k1)⟩)
        obtain ⟨e1, he1⟩ : ∃ e1, e1 = errC (checkR r) := ⟨_, rfl⟩
        obtain ⟨e2, he2⟩ : ∃ e2, e2 = errC (checkR ⟨r.head, (([] ++ r.body.take kk) ++ r.body.drop k1)⟩) := ⟨_, rfl⟩
        rw [← he1] at hv1
        rw [← he2] at hv2
        have HE1 : Hid (e1 = 0 ∨ e1 = 6) := by show _ ∨ _; rw [he1]; cases checkR r <;> simp [errC]
        have HE2 : Hid ((r.body[kk]'hkl).kind ≠ 1 → e1 = 0 → e2 = 0) := fun hk h0 => by
          have h1 : checkR r = none := by rw [h0] at he1; cases hc : checkR r with
            | none => rfl
            | some q => rw [hc] at he1; simp [errC] at he1
          have h2 := less_safe (h := r.head) hkl hk h1
          rw [he2]
          have h3 : checkR ⟨r.head, (([] ++ r.body.take kk) ++ r.body.drop k1)⟩ = none := by rw [HK1.out]; exact h2
          rw [h3]; rfl
        have HIN : Hid (∀ s ∈ bndR ⟨r.head, (([] ++ r.body.take kk) ++ r.body.drop k1)⟩, inN (bndR r) s = true) := by show ∀ s ∈ _, _; rw [HK1.out]; exact less_bnd (h := r.head) hkl
        have HSAME : Hid ((r.body[kk]'hkl).kind ≠ 1 → (bndR ⟨r.head, (([] ++ r.body.take kk) ++ r.body.drop k1)⟩).length = (bndR r).length) := fun hk => by rw [HK1.out, less_same (h := r.head) hkl hk]
        have HQ1 : Hid (∀ W, Below X.heap.size X W → Calls Try.prog 11 #[.agg #[.string r.head.p, .slice xo r.head.args.length xc, .slice yo r.body.length yc]] W fun e w' => e = .returned (.tuple #[.string s1, .int .i64 p1, .int .i64 e1]) ∧ Below X.heap.size X w') := fun W hW => by
          have := (check_any (HXX.out.below stayTm hW) (HYX.out.below stayLt hW) HSM.out HO.out).mono (fun e w' h => (⟨h.1, below_to hW h.2 (Nat.le_refl _)⟩ : _ ∧ Below X.heap.size X w'))
          rw [hv1] at this; exact this
        have HQ2 : Hid (∀ W, Below X.heap.size X W → Calls Try.prog 11 #[.agg #[.string r.head.p, .slice xo r.head.args.length xc, .slice vo VM vc]] W fun e w' => e = .returned (.tuple #[.string s2, .int .i64 p2, .int .i64 e2]) ∧ Below X.heap.size X w') := fun W hW => by
          have := (check_any (r := ⟨r.head, (([] ++ r.body.take kk) ++ r.body.drop k1)⟩) (HXX.out.below stayTm hW) (HLX.out.below stayLt hW) HSM2.out HO9.out).mono (fun e w' h => (⟨h.1, below_to hW h.2 (Nat.le_refl _)⟩ : _ ∧ Below X.heap.size X w'))
          rw [hv2] at this; exact this
        have HBL1 := Lib.hid (bnd_len HSM.out)
        have HBL2 := Lib.hid (bnd_len HSM2.out)
        have HBD1 : Hid (∀ W, Below X.heap.size X W → Calls Try.prog 18 #[.agg #[.string r.head.p, .slice xo r.head.args.length xc, .slice yo r.body.length yc]] W fun e w' => ∃ v, e = .returned v ∧ Nms w' v (bndR r) ∧ Below X.heap.size X w' ∧ Below W.heap.size W w') := fun W hW =>
          (bound_any (HXX.out.below stayTm hW) (HYX.out.below stayLt hW) HSM.out HO.out).mono fun e w' ⟨v, h1, h2, h3⟩ => ⟨v, h1, OwnNm.rd h2 h3 (by have := HBL1.out; unfold maxLen; omega), below_to hW h3 (Nat.le_refl _), h3⟩
        have HBD2 : Hid (∀ W, Below X.heap.size X W → Calls Try.prog 18 #[.agg #[.string r.head.p, .slice xo r.head.args.length xc, .slice vo VM vc]] W fun e w' => ∃ v, e = .returned v ∧ Nms w' v (bndR ⟨r.head, (([] ++ r.body.take kk) ++ r.body.drop k1)⟩) ∧ Below X.heap.size X w' ∧ Below W.heap.size W w') := fun W hW =>
          (bound_any (r := ⟨r.head, (([] ++ r.body.take kk) ++ r.body.drop k1)⟩) (HXX.out.below stayTm hW) (HLX.out.below stayLt hW) HSM2.out HO9.out).mono fun e w' ⟨v, h1, h2, h3⟩ => ⟨v, h1, OwnNm.rd h2 h3 (by have := HBL2.out; unfold maxLen; omega), below_to hW h3 (Nat.le_refl _), h3⟩
        clear hv1 hv2 he1 he2
        obtain ⟨N9, hN9⟩ : ∃ N9, N9 = bndR ⟨r.head, (([] ++ r.body.take kk) ++ r.body.drop k1)⟩ := ⟨_, rfl⟩
        rw [← hN9] at HIN HSAME HBL2 HBD2
        clear hN9
        go_wp2_with (first
          | (go_at_call 11; refine (HQ1.out _ (Below.refl _ _)).mono ?_; clear HQ1; rintro e w3 ⟨rfl, hb3⟩; have HB3 := Lib.hid hb3; clear hb3 r0 r1 r2 rlt z0 z1 z2 zlt; obtain ⟨⟨r0, r1, r2, rlt⟩, z0, z1, z2, zlt⟩ := HC9.out _ HB3.out)
          | (go_at_call 11; refine (HQ2.out _ HB3.out).mono ?_; clear HQ2; rintro e w4 ⟨rfl, hb4⟩; have HB4 := Lib.hid hb4; clear hb4 r0 r1 r2 rlt z0 z1 z2 zlt; obtain ⟨⟨r0, r1, r2, rlt⟩, z0, z1, z2, zlt⟩ := HC9.out _ HB4.out)
          | (go_at_call 18; refine (HBD1.out _ HB4.out).mono ?_; clear HBD1; rintro e w5 ⟨v5, rfl, h5, hb5, hbl5⟩; obtain ⟨o5, n5, c5, rfl, hn5⟩ := h5.formN; have HN5 := Lib.hid hn5; have HV5 := Lib.hid h5; have HB5 := Lib.hid hb5; clear h5 hb5 hbl5 hn5 r0 r1 r2 rlt z0 z1 z2 zlt; obtain ⟨⟨r0, r1, r2, rlt⟩, z0, z1, z2, zlt⟩ := HC9.out _ HB5.out)
          | (go_at_call 18; refine (HBD2.out _ HB5.out).mono ?_; clear HBD2; rintro e w6 ⟨v6, rfl, h6, hb6, hbl6⟩; obtain ⟨o6, n6, c6, rfl, hn6⟩ := h6.formN; have HN6 := Lib.hid hn6; have HV6 := Lib.hid h6; have HV56 : Hid (Nms w6 _ (bndR r)) := RdL.below stayNm HV5.out hbl6; have HB6 := Lib.hid hb6; clear h6 hb6 hbl6 hn6 r0 r1 r2 rlt z0 z1 z2 zlt))
        have hn6I : (n6 : Int) ≤ 10000000 := by have := HN6.out; have := HBL2.out; omega
        go_loopw [16] (fun i wr => ∃ k : Nat, k ≤ n6 ∧ i = .int .i64 (k : Int) ∧ Hid (Below w6.heap.size w6 wr)) (fun i _ => n6 - (intOf i).toNat)
        case atStart => exact ⟨0, Nat.zero_le _, rfl, Below.refl _ _⟩
        case round =>
          obtain ⟨k, hk, rfl, HB⟩ := hrel
          by_cases hlt : k < n6
          · have hltI : (k : Int) < (n6 : Int) := by omega
            have hlN : k < N9.length := by have := HN6.out; omega
            have hHV := HV6.out
            rw [HN6.out] at hHV
            obtain ⟨b, off, rfl, hbl, q0⟩ := Nms.at (RdL.below stayNm hHV HB.out) k hlN
            have HI := Lib.hid (HIN.out _ (List.getElem_mem hlN))
            have hnc : n6 ≤ c6 := by obtain ⟨ao, cap, e, h1, -⟩ := HV6.out; cases e; rw [HN6.out]; exact h1.1
            clear hHV
            obtain ⟨d, hd⟩ : ∃ d, d = N9[k]'hlN := ⟨_, rfl⟩
            rw [← hd] at q0 HI
            clear hd hlN
            go_wp2_with (go_at_call 21; refine (rin_any (RdL.below stayNm HV56.out HB.out) d).mono ?_; rintro e w7 ⟨rfl, hw7⟩; obtain rfl : wr = w7 := hw7.symm; rw [HI.out])
            go_roundw
            case rel => exact ⟨k + 1, by omega, by simp, HB⟩
            case measure => simp [intOf]; omega
          · have hltI : ¬ (k : Int) < (n6 : Int) := by omega
            have hbX := below_to HB6.out HB.out (Nat.le_refl _)
            obtain ⟨⟨r0, r1, r2, rlt⟩, -⟩ := HC9.out _ hbX
            obtain ⟨b, off, cs, rfl, hbl, ⟨xa, rfl, hxa⟩, hcell⟩ := (show Lts wr (.slice yo r.body.length yc) r.body from HYX.out.below stayLt hbX).at kk hkl
            have q0 := hcell 0 _ rfl
            simp only [Nat.add_zero] at q0
            have HBF := Lib.hid (below_to HB9.out hbX (Nat.le_refl _))
            clear hcell hxa hbX
            obtain ⟨kd, hkd⟩ : ∃ kd, kd = (r.body[kk]'hkl).kind := ⟨_, rfl⟩
            rw [← hkd] at q0 HE2 HSAME
            clear hkd
            by_cases hp : kd = 1
            · subst hp
              go_wp2
              go_ret
              exact ⟨rfl, below_to HW.out HBF.out (Nat.le_refl _)⟩
            · have hp1 : (kd == 1) = false := beq_eq_false_iff_ne.2 hp
              obtain rfl : n6 = n5 := by rw [HN6.out, HN5.out]; exact HSAME.out hp
              have HE3 := Lib.hid (HE2.out hp)
              rcases HE1.out with h6 | h6
              · obtain rfl := HE3.out h6
                subst h6
                clear hp
                go_wp2
                go_ret
                exact ⟨rfl, below_to HW.out HBF.out (Nat.le_refl _)⟩
              · subst h6
                clear hp
                go_wp2
                go_ret
                exact ⟨rfl, below_to HW.out HBF.out (Nat.le_refl _)⟩
      · have hpk := packR_set (w0 := W0) (w := w2) (b9 := (w2.heap.size + 1)) (p := .string r.head.p) (h := .slice xo r.head.args.length xc) (m := VM) (vo := vo) (vc := vc) HO2.out rfl hSb.2.2.2.2.2.2 (HSX.out _ hSb) (by simp; unfold maxLen; omega) HC9.out HV9.out (by first | omega | simp) (by have := HN0.out; omega)
        generalize ((wb.setCell ⟨(w2.heap.size + 1), 0, none⟩ (Value.string r.head.p)).setCell ⟨(w2.heap.size + 1), 1, none⟩ (Value.slice xo r.head.args.length xc)).setCell ⟨(w2.heap.size + 1), 2, none⟩ (Value.slice vo VM vc) = X at hpk ⊢
        generalize (w2.heap.size + 1) = b9 at hpk ⊢
        clear HZ1 HZ2 HO1 HO2 hSa hSb hl1 hl2 hrun1 hrun2 hwa HC9 HV9 c0 c1 c2 f0 f1 f2 lt9
        have HPB := Lib.hid hpk.box
        have HB9 := Lib.hid (below_to HB2.out hpk.bel (Nat.le_refl _))
        have HXX := Lib.hid (HX.out.below stayTm HB9.out)
        have HYX := Lib.hid (HY.out.below stayLt HB9.out)
        have HLX : Hid (Lts X (.slice vo VM vc) (([] ++ r.body.take kk) ++ r.body.drop k1)) := hpk.lts
        obtain ⟨r0, r1, r2, rlt⟩ := HC.out _ HB9.out
        obtain ⟨z0, z1, z2, zlt⟩ := box3 HPB.out
        clear hpk
        have HSM2 : Hid (SmRu ⟨r.head, (([] ++ r.body.take kk) ++ r.body.drop k1)⟩) := sub_sm HSM.out (by simp; omega) (fun l hl => less_mem (k := kk) l (by rw [← HK1.out]; exact hl))
        have HO9 : Hid (OkRu ⟨r.head, (([] ++ r.body.take kk) ++ r.body.drop k1)⟩) := sub_ok HO.out (fun l hl => less_mem (k := kk) l (by rw [← HK1.out]; exact hl))
        have HC9 : Hid (∀ W, Below X.heap.size X W → (W.cell? ⟨w.heap.size, 0, none⟩ = some (.string r.head.p) ∧ W.cell? ⟨w.heap.size, 1, none⟩ = some (.slice xo r.head.args.length xc) ∧ W.cell? ⟨w.heap.size, 2, none⟩ = some (.slice yo r.body.length yc) ∧ w.heap.size < W.heap.size) ∧ W.cell? ⟨b9, 0, none⟩ = some (.string r.head.p) ∧ W.cell? ⟨b9, 1, none⟩ = some (.slice xo r.head.args.length xc) ∧ W.cell? ⟨b9, 2, none⟩ = some (.slice vo VM vc) ∧ b9 < W.heap.size) := fun W hW => ⟨HC.out W (below_to HB9.out hW (Nat.le_refl _)), three_keep HPB.out hW⟩
        obtain ⟨s1, p1, hv1⟩ := chkV_err (checkR r)
        obtain ⟨s2, p2, hv2⟩ := chkV_err (checkR ⟨r.head, (([] ++ r.body.take kk) ++ r.body.drop k1)⟩)
        obtain ⟨e1, he1⟩ : ∃ e1, e1 = errC (checkR r) := ⟨_, rfl⟩
        obtain ⟨e2, he2⟩ : ∃ e2, e2 = errC (checkR ⟨r.head, (([] ++ r.body.take kk) ++ r.body.drop k1)⟩) := ⟨_, rfl⟩
        rw [← he1] at hv1
        rw [← he2] at hv2
        have HE1 : Hid (e1 = 0 ∨ e1 = 6) := by show _ ∨ _; rw [he1]; cases checkR r <;> simp [errC]
        have HE2 : Hid ((r.body[kk]'hkl).kind ≠ 1 → e1 = 0 → e2 = 0) := fun hk h0 => by
          have h1 : checkR r = none := by rw [h0] at he1; cases hc : checkR r with
            | none => rfl
            | some q => rw [hc] at he1; simp [errC] at he1
          have h2 := less_safe (h := r.head) hkl hk h1
          rw [he2]
          have h3 : checkR ⟨r.head, (([] ++ r.body.take kk) ++ r.body.drop k1)⟩ = none := by rw [HK1.out]; exact h2
          rw [h3]; rfl
        have HIN : Hid (∀ s ∈ bndR ⟨r.head, (([] ++ r.body.take kk) ++ r.body.drop k1)⟩, inN (bndR r) s = true) := by show ∀ s ∈ _, _; rw [HK1.out]; exact less_bnd (h := r.head) hkl
        have HSAME : Hid ((r.body[kk]'hkl).kind ≠ 1 → (bndR ⟨r.head, (([] ++ r.body.take kk) ++ r.body.drop k1)⟩).length = (bndR r).length) := fun hk => by rw [HK1.out, less_same (h := r.head) hkl hk]
        have HQ1 : Hid (∀ W, Below X.heap.size X W → Calls Try.prog 11 #[.agg #[.string r.head.p, .slice xo r.head.args.length xc, .slice yo r.body.length yc]] W fun e w' => e = .returned (.tuple #[.string s1, .int .i64 p1, .int .i64 e1]) ∧ Below X.heap.size X w') := fun W hW => by
          have := (check_any (HXX.out.below stayTm hW) (HYX.out.below stayLt hW) HSM.out HO.out).mono (fun e w' h => (⟨h.1, below_to hW h.2 (Nat.le_refl _)⟩ : _ ∧ Below X.heap.size X w'))
          rw [hv1] at this; exact this
        have HQ2 : Hid (∀ W, Below X.heap.size X W → Calls Try.prog 11 #[.agg #[.string r.head.p, .slice xo r.head.args.length xc, .slice vo VM vc]] W fun e w' => e = .returned (.tuple #[.string s2, .int .i64 p2, .int .i64 e2]) ∧ Below X.heap.size X w') := fun W hW => by
          have := (check_any (r := ⟨r.head, (([] ++ r.body.take kk) ++ r.body.drop k1)⟩) (HXX.out.below stayTm hW) (HLX.out.below stayLt hW) HSM2.out HO9.out).mono (fun e w' h => (⟨h.1, below_to hW h.2 (Nat.le_refl _)⟩ : _ ∧ Below X.heap.size X w'))
          rw [hv2] at this; exact this
        have HBL1 := Lib.hid (bnd_len HSM.out)
        have HBL2 := Lib.hid (bnd_len HSM2.out)
        have HBD1 : Hid (∀ W, Below X.heap.size X W → Calls Try.prog 18 #[.agg #[.string r.head.p, .slice xo r.head.args.length xc, .slice yo r.body.length yc]] W fun e w' => ∃ v, e = .returned v ∧ Nms w' v (bndR r) ∧ Below X.heap.size X w' ∧ Below W.heap.size W w') := fun W hW =>
          (bound_any (HXX.out.below stayTm hW) (HYX.out.below stayLt hW) HSM.out HO.out).mono fun e w' ⟨v, h1, h2, h3⟩ => ⟨v, h1, OwnNm.rd h2 h3 (by have := HBL1.out; unfold maxLen; omega), below_to hW h3 (Nat.le_refl _), h3⟩
        have HBD2 : Hid (∀ W, Below X.heap.size X W → Calls Try.prog 18 #[.agg #[.string r.head.p, .slice xo r.head.args.length xc, .slice vo VM vc]] W fun e w' => ∃ v, e = .returned v ∧ Nms w' v (bndR ⟨r.head, (([] ++ r.body.take kk) ++ r.body.drop k1)⟩) ∧ Below X.heap.size X w' ∧ Below W.heap.size W w') := fun W hW =>
          (bound_any (r := ⟨r.head, (([] ++ r.body.take kk) ++ r.body.drop k1)⟩) (HXX.out.below stayTm hW) (HLX.out.below stayLt hW) HSM2.out HO9.out).mono fun e w' ⟨v, h1, h2, h3⟩ => ⟨v, h1, OwnNm.rd h2 h3 (by have := HBL2.out; unfold maxLen; omega), below_to hW h3 (Nat.le_refl _), h3⟩
        clear hv1 hv2 he1 he2
        obtain ⟨N9, hN9⟩ : ∃ N9, N9 = bndR ⟨r.head, (([] ++ r.body.take kk) ++ r.body.drop k1)⟩ := ⟨_, rfl⟩
        rw [← hN9] at HIN HSAME HBL2 HBD2
        clear hN9
        go_wp2_with (first
          | (go_at_call 11; refine (HQ1.out _ (Below.refl _ _)).mono ?_; clear HQ1; rintro e w3 ⟨rfl, hb3⟩; have HB3 := Lib.hid hb3; clear hb3 r0 r1 r2 rlt z0 z1 z2 zlt; obtain ⟨⟨r0, r1, r2, rlt⟩, z0, z1, z2, zlt⟩ := HC9.out _ HB3.out)
          | (go_at_call 11; refine (HQ2.out _ HB3.out).mono ?_; clear HQ2; rintro e w4 ⟨rfl, hb4⟩; have HB4 := Lib.hid hb4; clear hb4 r0 r1 r2 rlt z0 z1 z2 zlt; obtain ⟨⟨r0, r1, r2, rlt⟩, z0, z1, z2, zlt⟩ := HC9.out _ HB4.out)
          | (go_at_call 18; refine (HBD1.out _ HB4.out).mono ?_; clear HBD1; rintro e w5 ⟨v5, rfl, h5, hb5, hbl5⟩; obtain ⟨o5, n5, c5, rfl, hn5⟩ := h5.formN; have HN5 := Lib.hid hn5; have HV5 := Lib.hid h5; have HB5 := Lib.hid hb5; clear h5 hb5 hbl5 hn5 r0 r1 r2 rlt z0 z1 z2 zlt; obtain ⟨⟨r0, r1, r2, rlt⟩, z0, z1, z2, zlt⟩ := HC9.out _ HB5.out)
          | (go_at_call 18; refine (HBD2.out _ HB5.out).mono ?_; clear HBD2; rintro e w6 ⟨v6, rfl, h6, hb6, hbl6⟩; obtain ⟨o6, n6, c6, rfl, hn6⟩ := h6.formN; have HN6 := Lib.hid hn6; have HV6 := Lib.hid h6; have HV56 : Hid (Nms w6 _ (bndR r)) := RdL.below stayNm HV5.out hbl6; have HB6 := Lib.hid hb6; clear h6 hb6 hbl6 hn6 r0 r1 r2 rlt z0 z1 z2 zlt))
        have hn6I : (n6 : Int) ≤ 10000000 := by have := HN6.out; have := HBL2.out; omega
        go_loopw [16] (fun i wr => ∃ k : Nat, k ≤ n6 ∧ i = .int .i64 (k : Int) ∧ Hid (Below w6.heap.size w6 wr)) (fun i _ => n6 - (intOf i).toNat)
        case atStart => exact ⟨0, Nat.zero_le _, rfl, Below.refl _ _⟩
        case round =>
          obtain ⟨k, hk, rfl, HB⟩ := hrel
          by_cases hlt : k < n6
          · have hltI : (k : Int) < (n6 : Int) := by omega
            have hlN : k < N9.length := by have := HN6.out; omega
            have hHV := HV6.out
            rw [HN6.out] at hHV
            obtain ⟨b, off, rfl, hbl, q0⟩ := Nms.at (RdL.below stayNm hHV HB.out) k hlN
            have HI := Lib.hid (HIN.out _ (List.getElem_mem hlN))
            have hnc : n6 ≤ c6 := by obtain ⟨ao, cap, e, h1, -⟩ := HV6.out; cases e; rw [HN6.out]; exact h1.1
            clear hHV
            obtain ⟨d, hd⟩ : ∃ d, d = N9[k]'hlN := ⟨_, rfl⟩
            rw [← hd] at q0 HI
            clear hd hlN
            go_wp2_with (go_at_call 21; refine (rin_any (RdL.below stayNm HV56.out HB.out) d).mono ?_; rintro e w7 ⟨rfl, hw7⟩; obtain rfl : wr = w7 := hw7.symm; rw [HI.out])
            go_roundw
            case rel => exact ⟨k + 1, by omega, by simp, HB⟩
            case measure => simp [intOf]; omega
          · have hltI : ¬ (k : Int) < (n6 : Int) := by omega
            have hbX := below_to HB6.out HB.out (Nat.le_refl _)
            obtain ⟨⟨r0, r1, r2, rlt⟩, -⟩ := HC9.out _ hbX
            obtain ⟨b, off, cs, rfl, hbl, ⟨xa, rfl, hxa⟩, hcell⟩ := (show Lts wr (.slice yo r.body.length yc) r.body from HYX.out.below stayLt hbX).at kk hkl
            have q0 := hcell 0 _ rfl
            simp only [Nat.add_zero] at q0
            have HBF := Lib.hid (below_to HB9.out hbX (Nat.le_refl _))
            clear hcell hxa hbX
            obtain ⟨kd, hkd⟩ : ∃ kd, kd = (r.body[kk]'hkl).kind := ⟨_, rfl⟩
            rw [← hkd] at q0 HE2 HSAME
            clear hkd
            by_cases hp : kd = 1
            · subst hp
              go_wp2
              go_ret
              exact ⟨rfl, below_to HW.out HBF.out (Nat.le_refl _)⟩
            · have hp1 : (kd == 1) = false := beq_eq_false_iff_ne.2 hp
              obtain rfl : n6 = n5 := by rw [HN6.out, HN5.out]; exact HSAME.out hp
              have HE3 := Lib.hid (HE2.out hp)
              rcases HE1.out with h6 | h6
              · obtain rfl := HE3.out h6
                subst h6
                clear hp
                go_wp2
                go_ret
                exact ⟨rfl, below_to HW.out HBF.out (Nat.le_refl _)⟩
              · subst h6
                clear hp
                go_wp2
                go_ret
                exact ⟨rfl, below_to HW.out HBF.out (Nat.le_refl _)⟩
      · have hpk := packR_set (w0 := W0) (w := w2) (b9 := w2.heap.size) (p := .string r.head.p) (h := .slice xo r.head.args.length xc) (m := VM) (vo := vo) (vc := vc) HO2.out rfl hSb.2.2.2.2.2.2 (HSX.out _ hSb) (by simp; unfold maxLen; omega) HC9.out HV9.out (by first | omega | simp) (by have := HN0.out; omega)
        generalize ((wb.setCell ⟨w2.heap.size, 0, none⟩ (Value.string r.head.p)).setCell ⟨w2.heap.size, 1, none⟩ (Value.slice xo r.head.args.length xc)).setCell ⟨w2.heap.size, 2, none⟩ (Value.slice vo VM vc) = X at hpk ⊢
        generalize w2.heap.size = b9 at hpk ⊢
        clear HZ1 HZ2 HO1 HO2 hSa hSb hl1 hl2 hrun1 hrun2 hwa HC9 HV9 c0 c1 c2 f0 f1 f2 lt9
        have HPB := Lib.hid hpk.box
        have HB9 := Lib.hid (below_to HB2.out hpk.bel (Nat.le_refl _))
        have HXX := Lib.hid (HX.out.below stayTm HB9.out)
        have HYX := Lib.hid (HY.out.below stayLt HB9.out)
        have HLX : Hid (Lts X (.slice vo VM vc) (([] ++ r.body.take kk) ++ r.body.drop k1)) := hpk.lts
        obtain ⟨r0, r1, r2, rlt⟩ := HC.out _ HB9.out
        obtain ⟨z0, z1, z2, zlt⟩ := box3 HPB.out
        clear hpk
        have HSM2 : Hid (SmRu ⟨r.head, (([] ++ r.body.take kk) ++ r.body.drop k1)⟩) := sub_sm HSM.out (by simp; omega) (fun l hl => less_mem (k := kk) l (by rw [← HK1.out]; exact hl))
        have HO9 : Hid (OkRu ⟨r.head, (([] ++ r.body.take kk) ++ r.body.drop k1)⟩) := sub_ok HO.out (fun l hl => less_mem (k := kk) l (by rw [← HK1.out]; exact hl))
        have HC9 : Hid (∀ W, Below X.heap.size X W → (W.cell? ⟨w.heap.size, 0, none⟩ = some (.string r.head.p) ∧ W.cell? ⟨w.heap.size, 1, none⟩ = some (.slice xo r.head.args.length xc) ∧ W.cell? ⟨w.heap.size, 2, none⟩ = some (.slice yo r.body.length yc) ∧ w.heap.size < W.heap.size) ∧ W.cell? ⟨b9, 0, none⟩ = some (.string r.head.p) ∧ W.cell? ⟨b9, 1, none⟩ = some (.slice xo r.head.args.length xc) ∧ W.cell? ⟨b9, 2, none⟩ = some (.slice vo VM vc) ∧ b9 < W.heap.size) := fun W hW => ⟨HC.out W (below_to HB9.out hW (Nat.le_refl _)), three_keep HPB.out hW⟩
        obtain ⟨s1, p1, hv1⟩ := chkV_err (checkR r)
        obtain ⟨s2, p2, hv2⟩ := chkV_err (checkR ⟨r.head, (([] ++ r.body.take kk) ++ r.body.drop k1)⟩)
        obtain ⟨e1, he1⟩ : ∃ e1, e1 = errC (checkR r) := ⟨_, rfl⟩
        obtain ⟨e2, he2⟩ : ∃ e2, e2 = errC (checkR ⟨r.head, (([] ++ r.body.take kk) ++ r.body.drop k1)⟩) := ⟨_, rfl⟩
        rw [← he1] at hv1
        rw [← he2] at hv2
        have HE1 : Hid (e1 = 0 ∨ e1 = 6) := by show _ ∨ _; rw [he1]; cases checkR r <;> simp [errC]
        have HE2 : Hid ((r.body[kk]'hkl).kind ≠ 1 → e1 = 0 → e2 = 0) := fun hk h0 => by
          have h1 : checkR r = none := by rw [h0] at he1; cases hc : checkR r with
            | none => rfl
            | some q => rw [hc] at he1; simp [errC] at he1
          have h2 := less_safe (h := r.head) hkl hk h1
          rw [he2]
          have h3 : checkR ⟨r.head, (([] ++ r.body.take kk) ++ r.body.drop k1)⟩ = none := by rw [HK1.out]; exact h2
          rw [h3]; rfl
        have HIN : Hid (∀ s ∈ bndR ⟨r.head, (([] ++ r.body.take kk) ++ r.body.drop k1)⟩, inN (bndR r) s = true) := by show ∀ s ∈ _, _; rw [HK1.out]; exact less_bnd (h := r.head) hkl
        have HSAME : Hid ((r.body[kk]'hkl).kind ≠ 1 → (bndR ⟨r.head, (([] ++ r.body.take kk) ++ r.body.drop k1)⟩).length = (bndR r).length) := fun hk => by rw [HK1.out, less_same (h := r.head) hkl hk]
        have HQ1 : Hid (∀ W, Below X.heap.size X W → Calls Try.prog 11 #[.agg #[.string r.head.p, .slice xo r.head.args.length xc, .slice yo r.body.length yc]] W fun e w' => e = .returned (.tuple #[.string s1, .int .i64 p1, .int .i64 e1]) ∧ Below X.heap.size X w') := fun W hW => by
          have := (check_any (HXX.out.below stayTm hW) (HYX.out.below stayLt hW) HSM.out HO.out).mono (fun e w' h => (⟨h.1, below_to hW h.2 (Nat.le_refl _)⟩ : _ ∧ Below X.heap.size X w'))
          rw [hv1] at this; exact this
        have HQ2 : Hid (∀ W, Below X.heap.size X W → Calls Try.prog 11 #[.agg #[.string r.head.p, .slice xo r.head.args.length xc, .slice vo VM vc]] W fun e w' => e = .returned (.tuple #[.string s2, .int .i64 p2, .int .i64 e2]) ∧ Below X.heap.size X w') := fun W hW => by
          have := (check_any (r := ⟨r.head, (([] ++ r.body.take kk) ++ r.body.drop k1)⟩) (HXX.out.below stayTm hW) (HLX.out.below stayLt hW) HSM2.out HO9.out).mono (fun e w' h => (⟨h.1, below_to hW h.2 (Nat.le_refl _)⟩ : _ ∧ Below X.heap.size X w'))
          rw [hv2] at this; exact this
        have HBL1 := Lib.hid (bnd_len HSM.out)
        have HBL2 := Lib.hid (bnd_len HSM2.out)
        have HBD1 : Hid (∀ W, Below X.heap.size X W → Calls Try.prog 18 #[.agg #[.string r.head.p, .slice xo r.head.args.length xc, .slice yo r.body.length yc]] W fun e w' => ∃ v, e = .returned v ∧ Nms w' v (bndR r) ∧ Below X.heap.size X w' ∧ Below W.heap.size W w') := fun W hW =>
          (bound_any (HXX.out.below stayTm hW) (HYX.out.below stayLt hW) HSM.out HO.out).mono fun e w' ⟨v, h1, h2, h3⟩ => ⟨v, h1, OwnNm.rd h2 h3 (by have := HBL1.out; unfold maxLen; omega), below_to hW h3 (Nat.le_refl _), h3⟩
        have HBD2 : Hid (∀ W, Below X.heap.size X W → Calls Try.prog 18 #[.agg #[.string r.head.p, .slice xo r.head.args.length xc, .slice vo VM vc]] W fun e w' => ∃ v, e = .returned v ∧ Nms w' v (bndR ⟨r.head, (([] ++ r.body.take kk) ++ r.body.drop k1)⟩) ∧ Below X.heap.size X w' ∧ Below W.heap.size W w') := fun W hW =>
          (bound_any (r := ⟨r.head, (([] ++ r.body.take kk) ++ r.body.drop k1)⟩) (HXX.out.below stayTm hW) (HLX.out.below stayLt hW) HSM2.out HO9.out).mono fun e w' ⟨v, h1, h2, h3⟩ => ⟨v, h1, OwnNm.rd h2 h3 (by have := HBL2.out; unfold maxLen; omega), below_to hW h3 (Nat.le_refl _), h3⟩
        clear hv1 hv2 he1 he2
        obtain ⟨N9, hN9⟩ : ∃ N9, N9 = bndR ⟨r.head, (([] ++ r.body.take kk) ++ r.body.drop k1)⟩ := ⟨_, rfl⟩
        rw [← hN9] at HIN HSAME HBL2 HBD2
        clear hN9
        go_wp2_with (first
          | (go_at_call 11; refine (HQ1.out _ (Below.refl _ _)).mono ?_; clear HQ1; rintro e w3 ⟨rfl, hb3⟩; have HB3 := Lib.hid hb3; clear hb3 r0 r1 r2 rlt z0 z1 z2 zlt; obtain ⟨⟨r0, r1, r2, rlt⟩, z0, z1, z2, zlt⟩ := HC9.out _ HB3.out)
          | (go_at_call 11; refine (HQ2.out _ HB3.out).mono ?_; clear HQ2; rintro e w4 ⟨rfl, hb4⟩; have HB4 := Lib.hid hb4; clear hb4 r0 r1 r2 rlt z0 z1 z2 zlt; obtain ⟨⟨r0, r1, r2, rlt⟩, z0, z1, z2, zlt⟩ := HC9.out _ HB4.out)
          | (go_at_call 18; refine (HBD1.out _ HB4.out).mono ?_; clear HBD1; rintro e w5 ⟨v5, rfl, h5, hb5, hbl5⟩; obtain ⟨o5, n5, c5, rfl, hn5⟩ := h5.formN; have HN5 := Lib.hid hn5; have HV5 := Lib.hid h5; have HB5 := Lib.hid hb5; clear h5 hb5 hbl5 hn5 r0 r1 r2 rlt z0 z1 z2 zlt; obtain ⟨⟨r0, r1, r2, rlt⟩, z0, z1, z2, zlt⟩ := HC9.out _ HB5.out)
          | (go_at_call 18; refine (HBD2.out _ HB5.out).mono ?_; clear HBD2; rintro e w6 ⟨v6, rfl, h6, hb6, hbl6⟩; obtain ⟨o6, n6, c6, rfl, hn6⟩ := h6.formN; have HN6 := Lib.hid hn6; have HV6 := Lib.hid h6; have HV56 : Hid (Nms w6 _ (bndR r)) := RdL.below stayNm HV5.out hbl6; have HB6 := Lib.hid hb6; clear h6 hb6 hbl6 hn6 r0 r1 r2 rlt z0 z1 z2 zlt))
        have hn6I : (n6 : Int) ≤ 10000000 := by have := HN6.out; have := HBL2.out; omega
        go_loopw [16] (fun i wr => ∃ k : Nat, k ≤ n6 ∧ i = .int .i64 (k : Int) ∧ Hid (Below w6.heap.size w6 wr)) (fun i _ => n6 - (intOf i).toNat)
        case atStart => exact ⟨0, Nat.zero_le _, rfl, Below.refl _ _⟩
        case round =>
          obtain ⟨k, hk, rfl, HB⟩ := hrel
          by_cases hlt : k < n6
          · have hltI : (k : Int) < (n6 : Int) := by omega
            have hlN : k < N9.length := by have := HN6.out; omega
            have hHV := HV6.out
            rw [HN6.out] at hHV
            obtain ⟨b, off, rfl, hbl, q0⟩ := Nms.at (RdL.below stayNm hHV HB.out) k hlN
            have HI := Lib.hid (HIN.out _ (List.getElem_mem hlN))
            have hnc : n6 ≤ c6 := by obtain ⟨ao, cap, e, h1, -⟩ := HV6.out; cases e; rw [HN6.out]; exact h1.1
            clear hHV
            obtain ⟨d, hd⟩ : ∃ d, d = N9[k]'hlN := ⟨_, rfl⟩
            rw [← hd] at q0 HI
            clear hd hlN
            go_wp2_with (go_at_call 21; refine (rin_any (RdL.below stayNm HV56.out HB.out) d).mono ?_; rintro e w7 ⟨rfl, hw7⟩; obtain rfl : wr = w7 := hw7.symm; rw [HI.out])
            go_roundw
            case rel => exact ⟨k + 1, by omega, by simp, HB⟩
            case measure => simp [intOf]; omega
          · have hltI : ¬ (k : Int) < (n6 : Int) := by omega
            have hbX := below_to HB6.out HB.out (Nat.le_refl _)
            obtain ⟨⟨r0, r1, r2, rlt⟩, -⟩ := HC9.out _ hbX
            obtain ⟨b, off, cs, rfl, hbl, ⟨xa, rfl, hxa⟩, hcell⟩ := (show Lts wr (.slice yo r.body.length yc) r.body from HYX.out.below stayLt hbX).at kk hkl
            have q0 := hcell 0 _ rfl
            simp only [Nat.add_zero] at q0
            have HBF := Lib.hid (below_to HB9.out hbX (Nat.le_refl _))
            clear hcell hxa hbX
            obtain ⟨kd, hkd⟩ : ∃ kd, kd = (r.body[kk]'hkl).kind := ⟨_, rfl⟩
            rw [← hkd] at q0 HE2 HSAME
            clear hkd
            by_cases hp : kd = 1
            · subst hp
              go_wp2
              go_ret
              exact ⟨rfl, below_to HW.out HBF.out (Nat.le_refl _)⟩
            · have hp1 : (kd == 1) = false := beq_eq_false_iff_ne.2 hp
              obtain rfl : n6 = n5 := by rw [HN6.out, HN5.out]; exact HSAME.out hp
              have HE3 := Lib.hid (HE2.out hp)
              rcases HE1.out with h6 | h6
              · obtain rfl := HE3.out h6
                subst h6
                clear hp
                go_wp2
                go_ret
                exact ⟨rfl, below_to HW.out HBF.out (Nat.le_refl _)⟩
              · subst h6
                clear hp
                go_wp2
                go_ret
                exact ⟨rfl, below_to HW.out HBF.out (Nat.le_refl _)⟩
  · have HFW : Hid (∀ W, Below W0.heap.size W0 W → Calls Try.prog 10 #[.agg #[.string r.head.p, .slice xo r.head.args.length xc, .slice yo r.body.length yc]] W fun e w' => e = .returned (.bool false) ∧ Below W.heap.size W w') := fun W hW => few_is ⟨fun h => by (cases h), fun h => absurd h hf⟩ (HX.out.below stayTm hW) (HY.out.below stayLt hW)
    clear hf
    go_enter Try.func8, Try.ntmps8
    go_wp2_with (first
      | (go_at_call 9; refine HSH.out.mono ?_; clear HSH; rintro e w1 ⟨rfl, hb1⟩; rw [← hW0] at hb1; have HB1 := Lib.hid hb1; clear hb1; obtain ⟨r0, r1, r2, rlt⟩ := HC.out _ HB1.out)
      | (go_at_call 10; refine (HFW.out _ HB1.out).mono ?_; clear HFW; rintro e w2 ⟨rfl, hb2⟩; have HB2 := Lib.hid (below_to HB1.out hb2 (Nat.le_refl _)); clear hb2 r0 r1 r2 rlt; obtain ⟨r0, r1, r2, rlt⟩ := HC.out _ HB2.out))
    go_ret
    exact ⟨rfl, below_to HW.out HB2.out (Nat.le_refl _)⟩
end Go.Proofs.Ytcpdikhiodbdjaa
