/-
  PrinterPieces' walk.
-/
import Derived.Test.YtddioikfhabjpaaGreatDoorPF
import Derived.Test.YtddioikfhabjpaaGreatDoorPD
namespace Go.Proofs.YtddioikfhabjpaaGreatDoor
set_option linter.unusedSimpArgs false
set_option linter.unusedVariables false
set_option linter.unusedSectionVars false
set_option maxRecDepth 100000
open Go.RowKit Go.Maps

theorem pieces_keep {w W w' : World} {b0 b1 b2 : Nat} {c0_0 c0_1 c0_2 c0_3 c0_4 c0_5 c0_6 c0_7 c0_8 c0_9 c0_10 c0_11 c0_12 c0_13 c1_0 c1_1 c1_2 c2_0 c2_1 : Value} (h : W.cell? ⟨b0, 0, none⟩ = some c0_0 ∧ W.cell? ⟨b0, 1, none⟩ = some c0_1 ∧ W.cell? ⟨b0, 2, none⟩ = some c0_2 ∧ W.cell? ⟨b0, 3, none⟩ = some c0_3 ∧ W.cell? ⟨b0, 4, none⟩ = some c0_4 ∧ W.cell? ⟨b0, 5, none⟩ = some c0_5 ∧ W.cell? ⟨b0, 6, none⟩ = some c0_6 ∧ W.cell? ⟨b0, 7, none⟩ = some c0_7 ∧ W.cell? ⟨b0, 8, none⟩ = some c0_8 ∧ W.cell? ⟨b0, 9, none⟩ = some c0_9 ∧ W.cell? ⟨b0, 10, none⟩ = some c0_10 ∧ W.cell? ⟨b0, 11, none⟩ = some c0_11 ∧ W.cell? ⟨b0, 12, none⟩ = some c0_12 ∧ W.cell? ⟨b0, 13, none⟩ = some c0_13 ∧ W.cell? ⟨b1, 0, none⟩ = some c1_0 ∧ W.cell? ⟨b1, 1, none⟩ = some c1_1 ∧ W.cell? ⟨b1, 2, none⟩ = some c1_2 ∧ W.cell? ⟨b2, 0, none⟩ = some c2_0 ∧ W.cell? ⟨b2, 1, none⟩ = some c2_1 ∧ b0 < W.heap.size ∧ b1 < W.heap.size ∧ b2 < W.heap.size ∧ Below w.heap.size w W) (hb : Below W.heap.size W w') : w'.cell? ⟨b0, 0, none⟩ = some c0_0 ∧ w'.cell? ⟨b0, 1, none⟩ = some c0_1 ∧ w'.cell? ⟨b0, 2, none⟩ = some c0_2 ∧ w'.cell? ⟨b0, 3, none⟩ = some c0_3 ∧ w'.cell? ⟨b0, 4, none⟩ = some c0_4 ∧ w'.cell? ⟨b0, 5, none⟩ = some c0_5 ∧ w'.cell? ⟨b0, 6, none⟩ = some c0_6 ∧ w'.cell? ⟨b0, 7, none⟩ = some c0_7 ∧ w'.cell? ⟨b0, 8, none⟩ = some c0_8 ∧ w'.cell? ⟨b0, 9, none⟩ = some c0_9 ∧ w'.cell? ⟨b0, 10, none⟩ = some c0_10 ∧ w'.cell? ⟨b0, 11, none⟩ = some c0_11 ∧ w'.cell? ⟨b0, 12, none⟩ = some c0_12 ∧ w'.cell? ⟨b0, 13, none⟩ = some c0_13 ∧ w'.cell? ⟨b1, 0, none⟩ = some c1_0 ∧ w'.cell? ⟨b1, 1, none⟩ = some c1_1 ∧ w'.cell? ⟨b1, 2, none⟩ = some c1_2 ∧ w'.cell? ⟨b2, 0, none⟩ = some c2_0 ∧ w'.cell? ⟨b2, 1, none⟩ = some c2_1 ∧ b0 < w'.heap.size ∧ b1 < w'.heap.size ∧ b2 < w'.heap.size ∧ Below w.heap.size w w' := by
  obtain ⟨h0, h1, h2, h3, h4, h5, h6, h7, h8, h9, h10, h11, h12, h13, h14, h15, h16, h17, h18, l0, l1, l2, hB⟩ := h
  have hs := hb.size
  exact ⟨(hb.cell (p := ⟨b0, 0, none⟩) l0).trans h0, (hb.cell (p := ⟨b0, 1, none⟩) l0).trans h1, (hb.cell (p := ⟨b0, 2, none⟩) l0).trans h2, (hb.cell (p := ⟨b0, 3, none⟩) l0).trans h3, (hb.cell (p := ⟨b0, 4, none⟩) l0).trans h4, (hb.cell (p := ⟨b0, 5, none⟩) l0).trans h5, (hb.cell (p := ⟨b0, 6, none⟩) l0).trans h6, (hb.cell (p := ⟨b0, 7, none⟩) l0).trans h7, (hb.cell (p := ⟨b0, 8, none⟩) l0).trans h8, (hb.cell (p := ⟨b0, 9, none⟩) l0).trans h9, (hb.cell (p := ⟨b0, 10, none⟩) l0).trans h10, (hb.cell (p := ⟨b0, 11, none⟩) l0).trans h11, (hb.cell (p := ⟨b0, 12, none⟩) l0).trans h12, (hb.cell (p := ⟨b0, 13, none⟩) l0).trans h13, (hb.cell (p := ⟨b1, 0, none⟩) l1).trans h14, (hb.cell (p := ⟨b1, 1, none⟩) l1).trans h15, (hb.cell (p := ⟨b1, 2, none⟩) l1).trans h16, (hb.cell (p := ⟨b2, 0, none⟩) l2).trans h17, (hb.cell (p := ⟨b2, 1, none⟩) l2).trans h18, by omega, by omega, by omega, hB.trans (hb.mono hB.size)⟩

set_option maxHeartbeats 64000000 in
theorem pieces_walk (l : Lt) (r : Ru) (f : Am) (x hx' by' fx : Value) (w : World) (hx : Tms w x l.atom.args) (hh : Tms w hx' r.head.args) (hb' : Lts w by' r.body) (hf : Vls w fx f.args) (hIl : InLt l) (hIr : InRu r) (hIf : ∀ t ∈ f.args, InTm t ∧ IsVal t)
    (hsl : szLt l ≤ 1048576) (hsr : szRu r ≤ 1048576) (hsf : f.p.size + (f.args.map (fun t => t.s.size + 4)).sum ≤ 1048576) (hE : PEnv w) (hT : Tab w) :
    Calls Tryz.prog 4 #[.agg (LtC l x).toArray, .agg #[.string r.head.p, hx', by'], .agg #[.string f.p, fx]] w fun e w' => e = .returned (.bool true) ∧ Below w.heap.size w w' := by
  obtain ⟨ao, cap, rfl, -⟩ := hx.form
  obtain ⟨ho, hcap, rfl, -⟩ := hh.form
  obtain ⟨bo, bcap, rfl, -⟩ := hb'.form
  obtain ⟨fo, fcap, rfl, -⟩ := hf.form
  unfold LtC
  have hsla : szAm l.atom ≤ 1000000000000 := by unfold szLt at hsl; omega
  have hsll : szTm l.l ≤ 1000000000000 := by unfold szLt at hsl; omega
  have HSH := Lib.hid (fun W (hb : Below w.heap.size w W) => shownP_any W (hE.below hb) (hT.on hb))
  have HL1 := Lib.hid (fun W (hb : Below w.heap.size w W) => plit_any l _ W (hx.below stayTm hb) hIl (by omega) (hT.on hb))
  have HL2 := Lib.hid (fun W (hb : Below w.heap.size w W) => rlit_any l _ W (hx.below stayTm hb) hIl (by omega))
  have HT1 := Lib.hid (fun W (hb : Below w.heap.size w W) => pterm_any l.l W hIl.2.1 hsll (hT.on hb))
  have HT2 := Lib.hid (fun W (_ : Below w.heap.size w W) => rterm_any l.l W hIl.2.1 hsll)
  have HA1 := Lib.hid (fun W (hb : Below w.heap.size w W) => patom_any l.atom _ W (hx.below stayTm hb) hIl.1 hsla (hT.on hb))
  have HA2 := Lib.hid (fun W (hb : Below w.heap.size w W) => ratom_any l.atom _ W (hx.below stayTm hb) hIl.1 hsla)
  have HR1 := Lib.hid (fun W (hb : Below w.heap.size w W) => prule_any r _ _ W (hh.below stayTm hb) (hb'.below stayLt hb) hIr (by omega) (hT.on hb))
  have HR2 := Lib.hid (fun W (hb : Below w.heap.size w W) => rrule_any r _ _ W (hh.below stayTm hb) (hb'.below stayLt hb) hIr (by omega))
  have HF1 := Lib.hid (fun W (hb : Below w.heap.size w W) => pfact_any f _ W (hf.below stayVal hb) hIf (by omega) (hT.on hb))
  have HF2 := Lib.hid (fun W (hb : Below w.heap.size w W) => rfact_any f _ W (hf.below stayVal hb) hIf (by omega))
  obtain ⟨S1, hS1⟩ : ∃ S : ByteArray, S = ⟨(litTx l).toArray⟩ := ⟨_, rfl⟩
  obtain ⟨S2, hS2⟩ : ∃ S : ByteArray, S = ⟨(termTx l.l).toArray⟩ := ⟨_, rfl⟩
  obtain ⟨S3, hS3⟩ : ∃ S : ByteArray, S = ⟨(atomTx l.atom).toArray⟩ := ⟨_, rfl⟩
  obtain ⟨S4, hS4⟩ : ∃ S : ByteArray, S = ⟨(ruleTx r).toArray⟩ := ⟨_, rfl⟩
  obtain ⟨S5, hS5⟩ : ∃ S : ByteArray, S = ⟨(atomTx f).toArray⟩ := ⟨_, rfl⟩
  rw [← hS1] at HL1 HL2
  rw [← hS2] at HT1 HT2
  rw [← hS3] at HA1 HA2
  rw [← hS4] at HR1 HR2
  rw [← hS5] at HF1 HF2
  have e1 : (S1.toList == S1.toList) = true := by simp
  have e2 : (S2.toList == S2.toList) = true := by simp
  have e3 : (S3.toList == S3.toList) = true := by simp
  have e4 : (S4.toList == S4.toList) = true := by simp
  have e5 : (S5.toList == S5.toList) = true := by simp
  obtain ⟨kd, ⟨p, A⟩, op, ⟨lv, ln, lk, ls, li⟩, ⟨rv, rn, rk, rs, ri⟩⟩ := l
  obtain ⟨⟨hp, H⟩, bd⟩ := r
  obtain ⟨fp, FA⟩ := f
  simp only at HL1 HL2 HT1 HT2 HA1 HA2 HR1 HR2 HF1 HF2 ⊢
  obtain ⟨nA, hnA⟩ : ∃ n, n = A.length := ⟨_, rfl⟩
  obtain ⟨nH, hnH⟩ : ∃ n, n = H.length := ⟨_, rfl⟩
  obtain ⟨nB, hnB⟩ : ∃ n, n = bd.length := ⟨_, rfl⟩
  obtain ⟨nF, hnF⟩ : ∃ n, n = FA.length := ⟨_, rfl⟩
  rw [← hnA] at HL1 HL2 HA1 HA2 ⊢
  rw [← hnH, ← hnB] at HR1 HR2 ⊢
  rw [← hnF] at HF1 HF2 ⊢
  have hbA := al_below w (.cells #[.int .i64 kd, .string p, .slice ao nA cap, .string op, .bool lv, .string ln, .bool lk, .string ls, .int .i64 li, .bool rv, .string rn, .bool rk, .string rs, .int .i64 ri] 37)
  have hbB := (al_below w (.cells #[.int .i64 kd, .string p, .slice ao nA cap, .string op, .bool lv, .string ln, .bool lk, .string ls, .int .i64 li, .bool rv, .string rn, .bool rk, .string rs, .int .i64 ri] 37)).alloc (by simp) (.cells #[.string hp, .slice ho nH hcap, .slice bo nB bcap] 40)
  have hbC := hbB.alloc (by simp; omega) (.cells #[.string fp, .slice fo nF fcap] 43)
  have HBC := Lib.hid hbC
  have HCE : Hid (∀ w', Below (((w.alloc (.cells #[.int .i64 kd, .string p, .slice ao nA cap, .string op, .bool lv, .string ln, .bool lk, .string ls, .int .i64 li, .bool rv, .string rn, .bool rk, .string rs, .int .i64 ri] 37)).alloc (.cells #[.string hp, .slice ho nH hcap, .slice bo nB bcap] 40)).alloc (.cells #[.string fp, .slice fo nF fcap] 43)).heap.size (((w.alloc (.cells #[.int .i64 kd, .string p, .slice ao nA cap, .string op, .bool lv, .string ln, .bool lk, .string ls, .int .i64 li, .bool rv, .string rn, .bool rk, .string rs, .int .i64 ri] 37)).alloc (.cells #[.string hp, .slice ho nH hcap, .slice bo nB bcap] 40)).alloc (.cells #[.string fp, .slice fo nF fcap] 43)) w' → w'.cell? ⟨w.heap.size, 0, none⟩ = some (.int .i64 kd) ∧ w'.cell? ⟨w.heap.size, 1, none⟩ = some (.string p) ∧ w'.cell? ⟨w.heap.size, 2, none⟩ = some (.slice ao nA cap) ∧ w'.cell? ⟨w.heap.size, 3, none⟩ = some (.string op) ∧ w'.cell? ⟨w.heap.size, 4, none⟩ = some (.bool lv) ∧ w'.cell? ⟨w.heap.size, 5, none⟩ = some (.string ln) ∧ w'.cell? ⟨w.heap.size, 6, none⟩ = some (.bool lk) ∧ w'.cell? ⟨w.heap.size, 7, none⟩ = some (.string ls) ∧ w'.cell? ⟨w.heap.size, 8, none⟩ = some (.int .i64 li) ∧ w'.cell? ⟨w.heap.size, 9, none⟩ = some (.bool rv) ∧ w'.cell? ⟨w.heap.size, 10, none⟩ = some (.string rn) ∧ w'.cell? ⟨w.heap.size, 11, none⟩ = some (.bool rk) ∧ w'.cell? ⟨w.heap.size, 12, none⟩ = some (.string rs) ∧ w'.cell? ⟨w.heap.size, 13, none⟩ = some (.int .i64 ri) ∧ w'.cell? ⟨w.heap.size + 1, 0, none⟩ = some (.string hp) ∧ w'.cell? ⟨w.heap.size + 1, 1, none⟩ = some (.slice ho nH hcap) ∧ w'.cell? ⟨w.heap.size + 1, 2, none⟩ = some (.slice bo nB bcap) ∧ w'.cell? ⟨w.heap.size + 1 + 1, 0, none⟩ = some (.string fp) ∧ w'.cell? ⟨w.heap.size + 1 + 1, 1, none⟩ = some (.slice fo nF fcap) ∧ w.heap.size < w'.heap.size ∧ w.heap.size + 1 < w'.heap.size ∧ w.heap.size + 1 + 1 < w'.heap.size ∧ Below w.heap.size w w') := fun w' hb => by
    have k0 := (((Blk.new w #[.int .i64 kd, .string p, .slice ao nA cap, .string op, .bool lv, .string ln, .bool lk, .string ls, .int .i64 li, .bool rv, .string rn, .bool rk, .string rs, .int .i64 ri] 37).below (al_below _ (.cells #[.string hp, .slice ho nH hcap, .slice bo nB bcap] 40))).below (al_below _ (.cells #[.string fp, .slice fo nF fcap] 43))).below hb
    have k1 := ((blk2 w #[.int .i64 kd, .string p, .slice ao nA cap, .string op, .bool lv, .string ln, .bool lk, .string ls, .int .i64 li, .bool rv, .string rn, .bool rk, .string rs, .int .i64 ri] #[.string hp, .slice ho nH hcap, .slice bo nB bcap] 37 40).below (al_below _ (.cells #[.string fp, .slice fo nF fcap] 43))).below hb
    have k2 := Blk.new ((w.alloc (.cells #[.int .i64 kd, .string p, .slice ao nA cap, .string op, .bool lv, .string ln, .bool lk, .string ls, .int .i64 li, .bool rv, .string rn, .bool rk, .string rs, .int .i64 ri] 37)).alloc (.cells #[.string hp, .slice ho nH hcap, .slice bo nB bcap] 40)) #[.string fp, .slice fo nF fcap] 43
    have ez : ((w.alloc (.cells #[.int .i64 kd, .string p, .slice ao nA cap, .string op, .bool lv, .string ln, .bool lk, .string ls, .int .i64 li, .bool rv, .string rn, .bool rk, .string rs, .int .i64 ri] 37)).alloc (.cells #[.string hp, .slice ho nH hcap, .slice bo nB bcap] 40)).heap.size = w.heap.size + 1 + 1 := by simp
    rw [ez] at k2
    have k2 := k2.below hb
    exact ⟨k0.cell 0, k0.cell 1, k0.cell 2, k0.cell 3, k0.cell 4, k0.cell 5, k0.cell 6, k0.cell 7, k0.cell 8, k0.cell 9, k0.cell 10, k0.cell 11, k0.cell 12, k0.cell 13, k1.cell 0, k1.cell 1, k1.cell 2, k2.cell 0, k2.cell 1, k0.lt, k1.lt, k2.lt, hbC.trans (hb.mono hbC.size)⟩
  clear hx hh hb' hf hIl hIr hIf hsl hsr hsf hE hT hsla hsll hS1 hS2 hS3 hS4 hS5 hnA hnH hnB hnF hbA hbB hbC
  go_enter Tryz.func4, Tryz.ntmps4
  go_wp2_with (go_at_call 9; refine (HSH.out _ HBC.out).mono ?_; rintro e w1 ⟨rfl, hb1⟩; have HC1 := Lib.hid (HCE.out _ hb1); clear hb1)
  go_region_held3 (fun w' => w'.cell? ⟨w.heap.size, 0, none⟩ = some (.int .i64 kd) ∧ w'.cell? ⟨w.heap.size, 1, none⟩ = some (.string p) ∧ w'.cell? ⟨w.heap.size, 2, none⟩ = some (.slice ao nA cap) ∧ w'.cell? ⟨w.heap.size, 3, none⟩ = some (.string op) ∧ w'.cell? ⟨w.heap.size, 4, none⟩ = some (.bool lv) ∧ w'.cell? ⟨w.heap.size, 5, none⟩ = some (.string ln) ∧ w'.cell? ⟨w.heap.size, 6, none⟩ = some (.bool lk) ∧ w'.cell? ⟨w.heap.size, 7, none⟩ = some (.string ls) ∧ w'.cell? ⟨w.heap.size, 8, none⟩ = some (.int .i64 li) ∧ w'.cell? ⟨w.heap.size, 9, none⟩ = some (.bool rv) ∧ w'.cell? ⟨w.heap.size, 10, none⟩ = some (.string rn) ∧ w'.cell? ⟨w.heap.size, 11, none⟩ = some (.bool rk) ∧ w'.cell? ⟨w.heap.size, 12, none⟩ = some (.string rs) ∧ w'.cell? ⟨w.heap.size, 13, none⟩ = some (.int .i64 ri) ∧ w'.cell? ⟨w.heap.size + 1, 0, none⟩ = some (.string hp) ∧ w'.cell? ⟨w.heap.size + 1, 1, none⟩ = some (.slice ho nH hcap) ∧ w'.cell? ⟨w.heap.size + 1, 2, none⟩ = some (.slice bo nB bcap) ∧ w'.cell? ⟨w.heap.size + 1 + 1, 0, none⟩ = some (.string fp) ∧ w'.cell? ⟨w.heap.size + 1 + 1, 1, none⟩ = some (.slice fo nF fcap) ∧ w.heap.size < w'.heap.size ∧ w.heap.size + 1 < w'.heap.size ∧ w.heap.size + 1 + 1 < w'.heap.size ∧ Below w.heap.size w w')
    (first | assumption | exact pieces_keep (by assumption) hbN | exact pieces_keep HC1.out ((Below.refl _ _).drew))
    (first
      | (go_at_call 15; refine (HL1.out _ (by go_split_ands; assumption)).mono ?_; rintro e w' ⟨rfl, hbN⟩)
      | (go_at_call 16; refine (HL2.out _ (by go_split_ands; assumption)).mono ?_; rintro e w' ⟨rfl, hbN⟩)
      | (go_at_call 17; refine (HT1.out _ (by go_split_ands; assumption)).mono ?_; rintro e w' ⟨rfl, hbN⟩)
      | (go_at_call 18; refine (HT2.out _ (by go_split_ands; assumption)).mono ?_; rintro e w' ⟨rfl, hbN⟩)
      | (go_at_call 19; refine (HA1.out _ (by go_split_ands; assumption)).mono ?_; rintro e w' ⟨rfl, hbN⟩)
      | (go_at_call 20; refine (HA2.out _ (by go_split_ands; assumption)).mono ?_; rintro e w' ⟨rfl, hbN⟩)
      | (go_at_call 21; refine (HR1.out _ (by go_split_ands; assumption)).mono ?_; rintro e w' ⟨rfl, hbN⟩)
      | (go_at_call 22; refine (HR2.out _ (by go_split_ands; assumption)).mono ?_; rintro e w' ⟨rfl, hbN⟩)
      | (go_at_call 23; refine (HF1.out _ (by go_split_ands; assumption)).mono ?_; rintro e w' ⟨rfl, hbN⟩)
      | (go_at_call 24; refine (HF2.out _ (by go_split_ands; assumption)).mono ?_; rintro e w' ⟨rfl, hbN⟩))
  all_goals
    go_wp2
    go_ret
    go_split_ands
    exact ⟨by first | rfl | simp, by assumption⟩
end Go.Proofs.YtddioikfhabjpaaGreatDoor
