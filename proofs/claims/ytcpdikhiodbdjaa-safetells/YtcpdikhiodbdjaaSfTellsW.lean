/-
  SafeTells's walk.
-/
import Derived.Test.YtcpdikhiodbdjaaSfHead
namespace Go.Proofs.Ytcpdikhiodbdjaa
set_option linter.unusedSimpArgs false
set_option linter.unusedVariables false
set_option linter.unusedSectionVars false
set_option maxRecDepth 100000
open Go.RowKit Go.Maps

set_option maxHeartbeats 16000000 in
theorem tells_walk {r : Ru} {x y : Value} {g : Pr} {gx gy : Value} {w : World} (hx : Tms w x r.head.args) (hy : Lts w y r.body) (hO : OkRu r) (hgx : Des w gx g.decls) (hgy : Rus w gy g.rules) (hG : OkPr g) :
    Calls Try.prog 3 #[.agg #[.string r.head.p, x, y], .agg #[gx, gy]] w fun e w' => e = .returned (.bool true) ∧ Below w.heap.size w w' := by
  obtain ⟨D, R⟩ := g
  simp only at hgx hgy
  obtain ⟨xo, xc, rfl, -⟩ := hx.form
  obtain ⟨yo, yc, rfl, -⟩ := hy.form
  obtain ⟨go, gc, rfl, -⟩ := hgx.form
  obtain ⟨ho, hc, rfl, -, hRm⟩ := hgy.form
  unfold maxLen at hRm
  obtain ⟨W0, hW0⟩ : ∃ W0, W0 = (w.alloc (.cells #[.string r.head.p, .slice xo r.head.args.length xc, .slice yo r.body.length yc] 27)).alloc (.cells #[.slice go D.length gc, .slice ho R.length hc] 31) := ⟨_, rfl⟩
  have HW : Hid (Below w.heap.size w W0) := by rw [hW0]; exact al2 _ _ _
  have HX := Lib.hid (hx.below stayTm HW.out)
  have HY := Lib.hid (hy.below stayLt HW.out)
  have HGX := Lib.hid (hgx.below stayDe HW.out)
  have HGY := Lib.hid (hgy.below stayRu HW.out)
  have HBR : Hid (W0.heap[w.heap.size]? = some (.cells #[.string r.head.p, .slice xo r.head.args.length xc, .slice yo r.body.length yc] 27 (0, 0))) := by rw [hW0]; exact heap1oL _ _ _
  have HBP : Hid (W0.heap[w.heap.size + 1]? = some (.cells #[.slice go D.length gc, .slice ho R.length hc] 31 (0, 0))) := by rw [hW0]; exact heap2L _ _ _
  have HSH := Lib.hid (shown_any W0)
  rw [hW0] at HSH
  have HO := Lib.hid hO
  have HRO := Lib.hid hG.2
  have HC : Hid (∀ W, Below W0.heap.size W0 W → (W.cell? ⟨w.heap.size, 0, none⟩ = some (.string r.head.p) ∧ W.cell? ⟨w.heap.size, 1, none⟩ = some (.slice xo r.head.args.length xc) ∧ W.cell? ⟨w.heap.size, 2, none⟩ = some (.slice yo r.body.length yc) ∧ w.heap.size < W.heap.size) ∧ (W.cell? ⟨w.heap.size + 1, 0, none⟩ = some (.slice go D.length gc) ∧ W.cell? ⟨w.heap.size + 1, 1, none⟩ = some (.slice ho R.length hc) ∧ w.heap.size + 1 < W.heap.size)) := fun W hW => ⟨three_keep HBR.out hW, two_keep2 HBP.out hW⟩
  clear hx hy hgx hgy hO hG
  by_cases hlen : R.length ≤ 50
  · have hlI : ¬ (50 : Int) < (R.length : Int) := by omega
    by_cases hf : Few r
    · have HFW : Hid (∀ W, Below W0.heap.size W0 W → Calls Try.prog 10 #[.agg #[.string r.head.p, .slice xo r.head.args.length xc, .slice yo r.body.length yc]] W fun e w' => e = .returned (.bool true) ∧ Below W.heap.size W w') := fun W hW => few_is ⟨fun _ => hf, fun _ => rfl⟩ (HX.out.below stayTm hW) (HY.out.below stayLt hW)
      have HSM := Lib.hid hf.sm
      clear hf
      go_enter Try.func3, Try.ntmps3
      go_wp2_with (first
        | (go_at_call 9; refine HSH.out.mono ?_; clear HSH; rintro e w1 ⟨rfl, hb1⟩; rw [← hW0] at hb1; have HB1 := Lib.hid hb1; clear hb1; obtain ⟨⟨r0, r1, r2, rlt⟩, p0, p1, plt⟩ := HC.out _ HB1.out)
        | (go_at_call 10; refine (HFW.out _ HB1.out).mono ?_; clear HFW; rintro e w2 ⟨rfl, hb2⟩; have HB2 := Lib.hid (below_to HB1.out hb2 (Nat.le_refl _)); clear hb2 r0 r1 r2 rlt p0 p1 plt; obtain ⟨⟨r0, r1, r2, rlt⟩, p0, p1, plt⟩ := HC.out _ HB2.out))
      clear r0 r1 r2 rlt p0 p1 plt HB1
      go_loopw [6] (fun i wr => ∃ k : Nat, k ≤ R.length ∧ i = .int .i64 (k : Int) ∧ Hid (∀ q ∈ R.take k, SmRu q) ∧ Hid (Below W0.heap.size W0 wr)) (fun i _ => R.length - (intOf i).toNat)
      case atStart => exact ⟨0, Nat.zero_le _, rfl, Lib.hid (fun q hq => by simp at hq), HB2⟩
      case round =>
        obtain ⟨k, hk, rfl, HF, HB⟩ := hrel
        obtain ⟨⟨r0, r1, r2, rlt⟩, p0, p1, plt⟩ := HC.out _ HB.out
        by_cases hlt : k < R.length
        · have hltI : (k : Int) < (R.length : Int) := by omega
          obtain ⟨b, off, cs, rfl, hbl, ⟨xa, ya, rfl, hxa, hya⟩, hcell⟩ := (show Rus wr (.slice ho R.length hc) R from HGY.out.below stayRu HB.out).at k hlt
          have q0 := hcell 0 _ rfl
          have q1 := hcell 1 _ rfl
          have q2 := hcell 2 _ rfl
          simp only [Nat.add_zero] at q0
          have HN : Hid (Few (R[k]'hlt) → ∀ q ∈ R.take (k + 1), SmRu q) := fun h q hq => by
            rw [List.take_succ_eq_append_getElem hlt] at hq
            rcases List.mem_append.1 hq with hq | hq
            · exact HF.out q hq
            · obtain rfl := List.mem_singleton.1 hq; exact h.sm
          clear hcell
          obtain ⟨rr, hrr⟩ : ∃ rr, rr = R[k]'hlt := ⟨_, rfl⟩
          rw [← hrr] at q0 HN hxa hya
          clear hrr
          obtain ⟨xao, xac, rfl, -⟩ := hxa.form
          obtain ⟨yao, yac, rfl, -⟩ := hya.form
          have HXA := Lib.hid hxa
          have HYA := Lib.hid hya
          clear hxa hya
          by_cases hfr : Few rr
          · have HQ : Hid (Calls Try.prog 10 #[.agg #[.string rr.head.p, .slice xao rr.head.args.length xac, .slice yao rr.body.length yac]] wr fun e w' => e = .returned (.bool true) ∧ Below wr.heap.size wr w') := few_is ⟨fun _ => hfr, fun _ => rfl⟩ HXA.out HYA.out
            have HN2 := Lib.hid (HN.out hfr)
            clear HN hfr
            go_wp2_with (go_at_call 10; refine HQ.out.mono ?_; clear HQ; rintro e w3 ⟨rfl, hb3⟩; have HB3 := Lib.hid (below_to HB.out hb3 (Nat.le_refl _)); clear hb3)
            go_roundw
            case rel => exact ⟨k + 1, by omega, by simp, HN2, HB3⟩
            case measure => simp [intOf]; omega
          · have HQ : Hid (Calls Try.prog 10 #[.agg #[.string rr.head.p, .slice xao rr.head.args.length xac, .slice yao rr.body.length yac]] wr fun e w' => e = .returned (.bool false) ∧ Below wr.heap.size wr w') := few_is ⟨fun h => by (cases h), fun h => absurd h hfr⟩ HXA.out HYA.out
            clear HN hfr
            go_wp2_with (go_at_call 10; refine HQ.out.mono ?_; clear HQ; rintro e w3 ⟨rfl, hb3⟩; have HB3 := Lib.hid (below_to HB.out hb3 (Nat.le_refl _)); clear hb3)
            go_ret
            exact ⟨rfl, below_to HW.out (HB3.out) (Nat.le_refl _)⟩
        · have hltI : ¬ (k : Int) < (R.length : Int) := by omega
          have HRS : Hid (∀ q ∈ R, SmRu q) := by have := HF.out; rw [List.take_of_length_le (by omega)] at this; exact this
          obtain ⟨cs, cp, ce, hcv⟩ := chkV_form (checkR r)
          obtain ⟨ak, asx, ap, ae, hav⟩ := allV_form (allG 0 R)
          have HQ1 : Hid (∀ W, Below W0.heap.size W0 W → Calls Try.prog 11 #[.agg #[.string r.head.p, .slice xo r.head.args.length xc, .slice yo r.body.length yc]] W fun e w' => e = .returned (.tuple #[.string cs, .int .i64 cp, .int .i64 ce]) ∧ Below W.heap.size W w') := fun W hW => by
            have := check_any (HX.out.below stayTm hW) (HY.out.below stayLt hW) HSM.out HO.out
            rw [hcv] at this; exact this
          have HQ2 : Hid (∀ W, Below W0.heap.size W0 W → Calls Try.prog 12 #[.agg #[.string r.head.p, .slice xo r.head.args.length xc, .slice yo r.body.length yc]] W fun e w' => e = .returned (.tuple #[.string cs, .int .i64 cp, .int .i64 ce]) ∧ Below W.heap.size W w') := fun W hW => by
            have := rcheck_any (HX.out.below stayTm hW) (HY.out.below stayLt hW) HSM.out
            rw [hcv] at this; exact this
          have HQ3 : Hid (∀ W, Below W0.heap.size W0 W → Calls Try.prog 13 #[.agg #[.slice go D.length gc, .slice ho R.length hc]] W fun e w' => e = .returned (.tuple #[.int .i64 ak, .string asx, .int .i64 ap, .int .i64 ae]) ∧ Below W.heap.size W w') := fun W hW => by
            have := all_any (g := ⟨D, R⟩) (HGX.out.below stayDe hW) (HGY.out.below stayRu hW) HRS.out HRO.out
            simp only at this
            rw [hav] at this; exact this
          have HQ4 : Hid (∀ W, Below W0.heap.size W0 W → Calls Try.prog 14 #[.agg #[.slice go D.length gc, .slice ho R.length hc]] W fun e w' => e = .returned (.tuple #[.int .i64 ak, .string asx, .int .i64 ap, .int .i64 ae]) ∧ Below W.heap.size W w') := fun W hW => by
            have := rall_any (g := ⟨D, R⟩) (HGX.out.below stayDe hW) (HGY.out.below stayRu hW) HRS.out
            simp only at this
            rw [hav] at this; exact this
          clear hcv hav HF
          have hsb : (cs.toList == cs.toList) = true := by simp
          have hsa : (asx.toList == asx.toList) = true := by simp
          go_wp2_with (first
            | (go_at_call 11; refine (HQ1.out _ HB.out).mono ?_; clear HQ1; rintro e w3 ⟨rfl, hb3⟩; have HB3 := Lib.hid (below_to HB.out hb3 (Nat.le_refl _)); clear hb3 r0 r1 r2 rlt p0 p1 plt; obtain ⟨⟨r0, r1, r2, rlt⟩, p0, p1, plt⟩ := HC.out _ HB3.out)
            | (go_at_call 12; refine (HQ2.out _ HB3.out).mono ?_; clear HQ2; rintro e w4 ⟨rfl, hb4⟩; have HB4 := Lib.hid (below_to HB3.out hb4 (Nat.le_refl _)); clear hb4 r0 r1 r2 rlt p0 p1 plt; obtain ⟨⟨r0, r1, r2, rlt⟩, p0, p1, plt⟩ := HC.out _ HB4.out)
            | (go_at_call 13; refine (HQ3.out _ HB4.out).mono ?_; clear HQ3; rintro e w5 ⟨rfl, hb5⟩; have HB5 := Lib.hid (below_to HB4.out hb5 (Nat.le_refl _)); clear hb5 r0 r1 r2 rlt p0 p1 plt; obtain ⟨⟨r0, r1, r2, rlt⟩, p0, p1, plt⟩ := HC.out _ HB5.out)
            | (go_at_call 14; refine (HQ4.out _ HB5.out).mono ?_; clear HQ4; rintro e w6 ⟨rfl, hb6⟩; have HB6 := Lib.hid (below_to HB5.out hb6 (Nat.le_refl _)); clear hb6 r0 r1 r2 rlt p0 p1 plt; obtain ⟨⟨r0, r1, r2, rlt⟩, p0, p1, plt⟩ := HC.out _ HB6.out))
          clear p0 p1 plt
          have HK : Hid (∀ W, Below w6.heap.size w6 W → W.cell? ⟨w.heap.size, 0, none⟩ = some (.string r.head.p) ∧ W.cell? ⟨w.heap.size, 1, none⟩ = some (.slice xo r.head.args.length xc) ∧ W.cell? ⟨w.heap.size, 2, none⟩ = some (.slice yo r.body.length yc) ∧ w.heap.size < W.heap.size ∧ Below w6.heap.size w6 W) := fun W hW =>
            have h := (HC.out W (below_to HB6.out hW (Nat.le_refl _))).1
            ⟨h.1, h.2.1, h.2.2.1, h.2.2.2, hW⟩
          have hhl : r.head.args.length ≤ 5000 := HSM.out.head
          have hbl' := bnd_len HSM.out
          have HV : Hid (∀ W, Below w6.heap.size w6 W → Calls Try.prog 16 #[.agg #[.string r.head.p, .slice xo r.head.args.length xc]] W fun e w' => ∃ v, e = .returned v ∧ Nms w' v (varsA r.head.args) ∧ Below W.heap.size W w' ∧ Below w6.heap.size w6 w') := fun W hW =>
            (vars_any (a := r.head) (HX.out.below stayTm (below_to HB6.out hW (Nat.le_refl _))) (by omega) HO.out.1).mono fun e w' ⟨v, h1, h2, h3⟩ => ⟨v, h1, OwnNm.rd h2 h3 (by have := vars_len r.head.args; unfold maxLen; omega), h3, below_to hW h3 (Nat.le_refl _)⟩
          have HRV : Hid (∀ W, Below w6.heap.size w6 W → Calls Try.prog 17 #[.agg #[.string r.head.p, .slice xo r.head.args.length xc]] W fun e w' => ∃ v, e = .returned v ∧ Nms w' v (varsA r.head.args) ∧ Below W.heap.size W w' ∧ Below w6.heap.size w6 w') := fun W hW =>
            (rvars_any (a := r.head) (HX.out.below stayTm (below_to HB6.out hW (Nat.le_refl _))) (by omega)).mono fun e w' ⟨v, h1, h2, h3⟩ => ⟨v, h1, OwnNm.rd h2 h3 (by have := vars_len r.head.args; unfold maxLen; omega), h3, below_to hW h3 (Nat.le_refl _)⟩
          have HBD : Hid (∀ W, Below w6.heap.size w6 W → Calls Try.prog 18 #[.agg #[.string r.head.p, .slice xo r.head.args.length xc, .slice yo r.body.length yc]] W fun e w' => ∃ v, e = .returned v ∧ Nms w' v (bndR r) ∧ Below W.heap.size W w' ∧ Below w6.heap.size w6 w') := fun W hW =>
            (bound_any (HX.out.below stayTm (below_to HB6.out hW (Nat.le_refl _))) (HY.out.below stayLt (below_to HB6.out hW (Nat.le_refl _))) HSM.out HO.out).mono fun e w' ⟨v, h1, h2, h3⟩ => ⟨v, h1, OwnNm.rd h2 h3 (by unfold maxLen; omega), h3, below_to hW h3 (Nat.le_refl _)⟩
          have HRB : Hid (∀ W, Below w6.heap.size w6 W → Calls Try.prog 19 #[.agg #[.string r.head.p, .slice xo r.head.args.length xc, .slice yo r.body.length yc]] W fun e w' => ∃ v, e = .returned v ∧ Nms w' v (bndR r) ∧ Below W.heap.size W w' ∧ Below w6.heap.size w6 w') := fun W hW =>
            (rbound_any (HX.out.below stayTm (below_to HB6.out hW (Nat.le_refl _))) (HY.out.below stayLt (below_to HB6.out hW (Nat.le_refl _))) HSM.out).mono fun e w' ⟨v, h1, h2, h3⟩ => ⟨v, h1, OwnNm.rd h2 h3 (by unfold maxLen; omega), h3, below_to hW h3 (Nat.le_refl _)⟩
          clear hhl hbl'
          go_region_held3 (fun W => W.cell? ⟨w.heap.size, 0, none⟩ = some (.string r.head.p) ∧ W.cell? ⟨w.heap.size, 1, none⟩ = some (.slice xo r.head.args.length xc) ∧ W.cell? ⟨w.heap.size, 2, none⟩ = some (.slice yo r.body.length yc) ∧ w.heap.size < W.heap.size ∧ Below w6.heap.size w6 W)
            (first | assumption | exact HK.out _ hbN | exact HK.out _ (Below.refl _ _).drew)
            (first
              | (go_at_call 16; refine (HV.out _ (by go_split_ands; assumption)).mono ?_; rintro e wa ⟨va, rfl, ha, hbl, hbN⟩; have HA := Lib.hid (RdL.below stayNm (RdL.below stayNm HA1.out (by repeat (first | exact Below.refl _ _ | refine Below.drew ?_))) hbl); have HA2 := Lib.hid ha; clear ha hbl HA1)
              | (go_at_call 16; refine (HV.out _ (by go_split_ands; assumption)).mono ?_; rintro e wa ⟨va, rfl, ha, hbl, hbN⟩; have HA1 := Lib.hid ha; clear ha hbl)
              | (go_at_call 17; refine (HRV.out _ (by go_split_ands; assumption)).mono ?_; rintro e wa ⟨va, rfl, ha, hbl, hbN⟩; have HA := Lib.hid (RdL.below stayNm (RdL.below stayNm HA1.out (by repeat (first | exact Below.refl _ _ | refine Below.drew ?_))) hbl); have HA2 := Lib.hid ha; clear ha hbl HA1)
              | (go_at_call 17; refine (HRV.out _ (by go_split_ands; assumption)).mono ?_; rintro e wa ⟨va, rfl, ha, hbl, hbN⟩; have HA1 := Lib.hid ha; clear ha hbl)
              | (go_at_call 18; refine (HBD.out _ (by go_split_ands; assumption)).mono ?_; rintro e wa ⟨va, rfl, ha, hbl, hbN⟩; have HE := Lib.hid (RdL.below stayNm (RdL.below stayNm HE1.out (by repeat (first | exact Below.refl _ _ | refine Below.drew ?_))) hbl); have HE2 := Lib.hid ha; clear ha hbl HE1)
              | (go_at_call 18; refine (HBD.out _ (by go_split_ands; assumption)).mono ?_; rintro e wa ⟨va, rfl, ha, hbl, hbN⟩; have HE1 := Lib.hid ha; clear ha hbl)
              | (go_at_call 19; refine (HRB.out _ (by go_split_ands; assumption)).mono ?_; rintro e wa ⟨va, rfl, ha, hbl, hbN⟩; have HE := Lib.hid (RdL.below stayNm (RdL.below stayNm HE1.out (by repeat (first | exact Below.refl _ _ | refine Below.drew ?_))) hbl); have HE2 := Lib.hid ha; clear ha hbl HE1)
              | (go_at_call 19; refine (HRB.out _ (by go_split_ands; assumption)).mono ?_; rintro e wa ⟨va, rfl, ha, hbl, hbN⟩; have HE1 := Lib.hid ha; clear ha hbl)
              | (go_at_call 15; have hz : Below w6.heap.size w6 _ := (by go_split_ands; assumption); first
                  | refine (rsame_any (RdL.below stayNm HE.out (by repeat (first | exact Below.refl _ _ | refine Below.drew ?_))) (RdL.below stayNm HE2.out (by repeat (first | exact Below.refl _ _ | refine Below.drew ?_)))).mono ?_
                  | refine (rsame_any (RdL.below stayNm HE2.out (by repeat (first | exact Below.refl _ _ | refine Below.drew ?_))) (RdL.below stayNm HE.out (by repeat (first | exact Below.refl _ _ | refine Below.drew ?_)))).mono ?_
                  | refine (rsame_any (RdL.below stayNm HA.out (by repeat (first | exact Below.refl _ _ | refine Below.drew ?_))) (RdL.below stayNm HA2.out (by repeat (first | exact Below.refl _ _ | refine Below.drew ?_)))).mono ?_
                  | refine (rsame_any (RdL.below stayNm HA2.out (by repeat (first | exact Below.refl _ _ | refine Below.drew ?_))) (RdL.below stayNm HA.out (by repeat (first | exact Below.refl _ _ | refine Below.drew ?_)))).mono ?_
                 rintro e ws ⟨rfl, hbs⟩; have hbN := below_to hz hbs (Nat.le_refl _); clear hbs hz))
          all_goals
            go_split_ands
            go_wp2
            go_ret
            exact ⟨rfl, below_to HW.out (below_to HB6.out (by assumption) (Nat.le_refl _)) (Nat.le_refl _)⟩
    · have HFW : Hid (∀ W, Below W0.heap.size W0 W → Calls Try.prog 10 #[.agg #[.string r.head.p, .slice xo r.head.args.length xc, .slice yo r.body.length yc]] W fun e w' => e = .returned (.bool false) ∧ Below W.heap.size W w') := fun W hW => few_is ⟨fun h => by (cases h), fun h => absurd h hf⟩ (HX.out.below stayTm hW) (HY.out.below stayLt hW)
      clear hf
      go_enter Try.func3, Try.ntmps3
      go_wp2_with (first
        | (go_at_call 9; refine HSH.out.mono ?_; clear HSH; rintro e w1 ⟨rfl, hb1⟩; rw [← hW0] at hb1; have HB1 := Lib.hid hb1; clear hb1; obtain ⟨⟨r0, r1, r2, rlt⟩, p0, p1, plt⟩ := HC.out _ HB1.out)
        | (go_at_call 10; refine (HFW.out _ HB1.out).mono ?_; clear HFW; rintro e w2 ⟨rfl, hb2⟩; have HB2 := Lib.hid (below_to HB1.out hb2 (Nat.le_refl _)); clear hb2))
      go_ret
      exact ⟨rfl, below_to HW.out HB2.out (Nat.le_refl _)⟩
  · have hlI : (50 : Int) < (R.length : Int) := by omega
    go_enter Try.func3, Try.ntmps3
    go_wp2_with (go_at_call 9; refine HSH.out.mono ?_; clear HSH; rintro e w1 ⟨rfl, hb1⟩; rw [← hW0] at hb1; have HB1 := Lib.hid hb1; clear hb1; obtain ⟨⟨r0, r1, r2, rlt⟩, p0, p1, plt⟩ := HC.out _ HB1.out)
    go_ret
    exact ⟨rfl, below_to HW.out HB1.out (Nat.le_refl _)⟩
end Go.Proofs.Ytcpdikhiodbdjaa
