/-
  PrinterLines' walk: the loop, and the two programs one behind the other.
-/
import Derived.Test.YtddioikfhabjpaaGreatDoorPLinesW
namespace Go.Proofs.YtddioikfhabjpaaGreatDoor
set_option linter.unusedSimpArgs false
set_option linter.unusedVariables false
set_option linter.unusedSectionVars false
set_option maxRecDepth 100000
open Go.RowKit Go.Maps

theorem lines_keep {w W w' : World} {n b0 b1 : Nat} {e0 e1 f1 : Value} (l0 : b0 < n) (l1 : b1 < n) (hn : w.heap.size ≤ n)
    (h : W.cell? ⟨b0, 0, none⟩ = some e0 ∧ W.cell? ⟨b0, 1, none⟩ = some e1 ∧ W.cell? ⟨b1, 1, none⟩ = some f1 ∧ n ≤ W.heap.size ∧ Below w.heap.size w W) (hb : Below n W w') :
    w'.cell? ⟨b0, 0, none⟩ = some e0 ∧ w'.cell? ⟨b0, 1, none⟩ = some e1 ∧ w'.cell? ⟨b1, 1, none⟩ = some f1 ∧ n ≤ w'.heap.size ∧ Below w.heap.size w w' := by
  obtain ⟨h0, h1, h2, h3, h4⟩ := h
  exact ⟨(hb.cell (p := ⟨b0, _, none⟩) l0).trans h0, (hb.cell (p := ⟨b0, _, none⟩) l0).trans h1, (hb.cell (p := ⟨b1, _, none⟩) l1).trans h2, Nat.le_trans h3 hb.size, h4.trans (hb.mono hn)⟩

theorem lines_first {w W : World} {n b0 b1 : Nat} {e0 e1 f1 : Value} (h0 : W.cell? ⟨b0, 0, none⟩ = some e0) (h1 : W.cell? ⟨b0, 1, none⟩ = some e1) (h2 : W.cell? ⟨b1, 1, none⟩ = some f1) (h3 : n ≤ W.heap.size) (h4 : Below w.heap.size w W) :
    W.cell? ⟨b0, 0, none⟩ = some e0 ∧ W.cell? ⟨b0, 1, none⟩ = some e1 ∧ W.cell? ⟨b1, 1, none⟩ = some f1 ∧ n ≤ W.heap.size ∧ Below w.heap.size w W := ⟨h0, h1, h2, h3, h4⟩
theorem lines_drew {w W : World} {n b0 b1 : Nat} {e0 e1 f1 : Value}
    (h : W.cell? ⟨b0, 0, none⟩ = some e0 ∧ W.cell? ⟨b0, 1, none⟩ = some e1 ∧ W.cell? ⟨b1, 1, none⟩ = some f1 ∧ n ≤ W.heap.size ∧ Below w.heap.size w W) :
    W.drew.cell? ⟨b0, 0, none⟩ = some e0 ∧ W.drew.cell? ⟨b0, 1, none⟩ = some e1 ∧ W.drew.cell? ⟨b1, 1, none⟩ = some f1 ∧ n ≤ W.drew.heap.size ∧ Below w.heap.size w W.drew := ⟨h.1, h.2.1, h.2.2.1, h.2.2.2.1, h.2.2.2.2.drew⟩
theorem lines_alloc {w W : World} {n b0 b1 : Nat} {e0 e1 f1 : Value} (l0 : b0 < n) (l1 : b1 < n) (hn : w.heap.size ≤ n)
    (h : W.cell? ⟨b0, 0, none⟩ = some e0 ∧ W.cell? ⟨b0, 1, none⟩ = some e1 ∧ W.cell? ⟨b1, 1, none⟩ = some f1 ∧ n ≤ W.heap.size ∧ Below w.heap.size w W) (o : Obj) :
    (W.alloc o).cell? ⟨b0, 0, none⟩ = some e0 ∧ (W.alloc o).cell? ⟨b0, 1, none⟩ = some e1 ∧ (W.alloc o).cell? ⟨b1, 1, none⟩ = some f1 ∧ n ≤ (W.alloc o).heap.size ∧ Below w.heap.size w (W.alloc o) :=
  lines_keep l0 l1 hn h ((Below.refl _ _).alloc h.2.2.2.1 _)
theorem lines_set {w W : World} {n b0 b1 b9 : Nat} {e0 e1 f1 : Value} (l0 : b0 < n) (l1 : b1 < n) (hn : w.heap.size ≤ n)
    (h : W.cell? ⟨b0, 0, none⟩ = some e0 ∧ W.cell? ⟨b0, 1, none⟩ = some e1 ∧ W.cell? ⟨b1, 1, none⟩ = some f1 ∧ n ≤ W.heap.size ∧ Below w.heap.size w W) (h9 : n ≤ b9) (x y : Value) :
    ((W.setCell ⟨b9, 0, none⟩ x).setCell ⟨b9, 1, none⟩ y).cell? ⟨b0, 0, none⟩ = some e0 ∧ ((W.setCell ⟨b9, 0, none⟩ x).setCell ⟨b9, 1, none⟩ y).cell? ⟨b0, 1, none⟩ = some e1 ∧ ((W.setCell ⟨b9, 0, none⟩ x).setCell ⟨b9, 1, none⟩ y).cell? ⟨b1, 1, none⟩ = some f1 ∧ n ≤ ((W.setCell ⟨b9, 0, none⟩ x).setCell ⟨b9, 1, none⟩ y).heap.size ∧ Below w.heap.size w ((W.setCell ⟨b9, 0, none⟩ x).setCell ⟨b9, 1, none⟩ y) :=
  lines_keep l0 l1 hn h (((Below.refl _ _).setCell (p := ⟨b9, 0, none⟩) h9 x).setCell (p := ⟨b9, 1, none⟩) h9 y)

theorem below_step {X W W' : World} (h : Below X.heap.size X W) (hb : Below W.heap.size W W') : Below X.heap.size X W' := h.trans (hb.mono h.size)
theorem below_w {w X W : World} (hw : Below w.heap.size w X) (h : Below X.heap.size X W) : Below w.heap.size w W := hw.trans (h.mono hw.size)
/-- The program with more rules in a box of its own, which was laid behind them. -/
theorem pack_alloc {w w3 : World} {B m vc : Nat} {v x : Value} {vo : Option Addr} {L : List Ru} (hO : OwnRu w w3 B v L) (hv : v = .slice vo m vc) (hb : Below w.heap.size w w3) (hm : L.length ≤ maxLen) :
    (w3.alloc (.cells #[x, .slice vo m vc] 25)).cell? ⟨w3.heap.size, 0, none⟩ = some x ∧ (w3.alloc (.cells #[x, .slice vo m vc] 25)).cell? ⟨w3.heap.size, 1, none⟩ = some (.slice vo m vc) ∧ w3.heap.size < (w3.alloc (.cells #[x, .slice vo m vc] 25)).heap.size ∧ Rus (w3.alloc (.cells #[x, .slice vo m vc] 25)) (.slice vo m vc) L ∧ Below w.heap.size w (w3.alloc (.cells #[x, .slice vo m vc] 25)) := by
  subst hv
  obtain ⟨h1, h2, -, -, h3⟩ := box9 (heap1L w3 (.cells #[x, .slice vo m vc] 25))
  have h4 := hb.trans ((al_below w3 (.cells #[x, .slice vo m vc] 25)).mono hb.size)
  exact ⟨h1, h2, h3, (hO.below (al_below _ _)).rus h4 hm, h4⟩
/-- The same where the box was laid ahead, and stored into. -/
theorem pack_set {w w3 : World} {B m vc b9 : Nat} {v x z0 z1 : Value} {vo : Option Addr} {L : List Ru} {ty : TypeId} (hO : OwnRu w w3 B v L) (hv : v = .slice vo m vc) (hb : Below w.heap.size w w3) (hm : L.length ≤ maxLen)
    (h9 : w3.heap[b9]? = some (.cells #[z0, z1] ty (0, 0))) (hne : v.ownBlock ≠ some b9) (hn : w.heap.size ≤ b9) :
    ((w3.setCell ⟨b9, 0, none⟩ x).setCell ⟨b9, 1, none⟩ (.slice vo m vc)).cell? ⟨b9, 0, none⟩ = some x ∧ ((w3.setCell ⟨b9, 0, none⟩ x).setCell ⟨b9, 1, none⟩ (.slice vo m vc)).cell? ⟨b9, 1, none⟩ = some (.slice vo m vc) ∧ b9 < ((w3.setCell ⟨b9, 0, none⟩ x).setCell ⟨b9, 1, none⟩ (.slice vo m vc)).heap.size ∧ Rus ((w3.setCell ⟨b9, 0, none⟩ x).setCell ⟨b9, 1, none⟩ (.slice vo m vc)) (.slice vo m vc) L ∧ Below w.heap.size w ((w3.setCell ⟨b9, 0, none⟩ x).setCell ⟨b9, 1, none⟩ (.slice vo m vc)) := by
  subst hv
  have h8 := heap_set (o := 1) (heap_set (o := 0) h9 x) (.slice vo m vc)
  obtain ⟨h1, h2, -, -, h3⟩ := box9 (x := x) (y := .slice vo m vc) (by rw [h8]; rfl)
  have h4 := (hb.setCell (p := ⟨b9, 0, none⟩) hn x).setCell (p := ⟨b9, 1, none⟩) hn (.slice vo m vc)
  refine ⟨h1, h2, h3, (hO.far (fun g hg => ?_)).rus h4 hm, h4⟩
  have hg9 : g ≠ b9 := fun e => hne (by rw [hg, e])
  exact (Below.heap_setCell _ ⟨b9, 1, none⟩ _ g hg9).trans (Below.heap_setCell _ ⟨b9, 0, none⟩ _ g hg9)

theorem pack_keep {w X W' : World} {n b0 b1 b9 : Nat} {e0 e1 f1 z0 z1 : Value} (l0 : b0 < n) (l1 : b1 < n)
    (h : X.cell? ⟨b0, 0, none⟩ = some e0 ∧ X.cell? ⟨b0, 1, none⟩ = some e1 ∧ X.cell? ⟨b1, 1, none⟩ = some f1 ∧ n ≤ X.heap.size ∧ Below w.heap.size w X)
    (k0 : X.cell? ⟨b9, 0, none⟩ = some z0) (k1 : X.cell? ⟨b9, 1, none⟩ = some z1) (k2 : b9 < X.heap.size) (hb : Below X.heap.size X W') :
    W'.cell? ⟨b0, 0, none⟩ = some e0 ∧ W'.cell? ⟨b0, 1, none⟩ = some e1 ∧ W'.cell? ⟨b1, 1, none⟩ = some f1 ∧ W'.cell? ⟨b9, 0, none⟩ = some z0 ∧ W'.cell? ⟨b9, 1, none⟩ = some z1 ∧ Below X.heap.size X W' := by
  obtain ⟨h0, h1, h2, h3, -⟩ := h
  have l0' : b0 < X.heap.size := Nat.lt_of_lt_of_le l0 h3
  have l1' : b1 < X.heap.size := Nat.lt_of_lt_of_le l1 h3
  exact ⟨(hb.cell (p := ⟨b0, _, none⟩) l0').trans h0, (hb.cell (p := ⟨b0, _, none⟩) l0').trans h1, (hb.cell (p := ⟨b1, _, none⟩) l1').trans h2, (hb.cell (p := ⟨b9, _, none⟩) k2).trans k0, (hb.cell (p := ⟨b9, _, none⟩) k2).trans k1, hb⟩

set_option maxHeartbeats 32000000 in
set_option maxRecDepth 100000 in
theorem lines_walk (g h : Pr) (x y x2 y2 : Value) (w : World) (hx : Des w x g.decls) (hy : Rus w y g.rules) (kx : Des w x2 h.decls) (ky : Rus w y2 h.rules) (hI : InPr g) (kI : InPr h) (hs : szPr g ≤ 1048576) (ks : szPr h ≤ 1048576) (hN : NilC y) (kN : NilC y2) (hE : PEnv w) (hT : Tab w) :
    Calls Tryz.prog 8 #[.agg #[x, y], .agg #[x2, y2]] w fun e w' => e = .returned (.bool true) ∧ Below w.heap.size w w' := by
  obtain ⟨xo, xc, rfl, -⟩ := hx.form
  obtain ⟨yo, yc, rfl, -⟩ := hy.form
  obtain ⟨xo2, xc2, rfl, -⟩ := kx.form
  obtain ⟨yo2, yc2, rfl, -⟩ := ky.form
  have hle := progTx_le hI
  have hld : 3 * g.decls.length ≤ szDes g.decls := sum_len szDe 3 (fun t => by unfold szDe; omega) _
  have hlr : 2 * g.rules.length ≤ szRus g.rules := sum_len szRu 2 (fun t => by unfold szRu szAm; omega) _
  have klr : 2 * h.rules.length ≤ szRus h.rules := sum_len szRu 2 (fun t => by unfold szRu szAm; omega) _
  have hgd : g.decls.length ≤ 1000000 := by unfold szPr at hs; omega
  have hgr : g.rules.length ≤ 1000000 := by unfold szPr at hs; omega
  have khr : h.rules.length ≤ 1000000 := by unfold szPr at ks; omega
  have HSH := Lib.hid (fun W (hb : Below w.heap.size w W) => shownP_any W (hE.below hb) (hT.on hb))
  have HF1 := Lib.hid (fun W (hb : Below w.heap.size w W) => few_any g _ _ W (hx.below stayDe hb) (hy.below stayRu hb) (by omega))
  have HF2 := Lib.hid (fun W (hb : Below w.heap.size w W) => few_any h _ _ W (kx.below stayDe hb) (ky.below stayRu hb) (by omega))
  have HM1 := Lib.hid (fun W (hb : Below w.heap.size w W) => pmay_any g _ _ W (hx.below stayDe hb) (hy.below stayRu hb) hI (by omega))
  have HM2 := Lib.hid (fun W (hb : Below w.heap.size w W) => pmay_any h _ _ W (kx.below stayDe hb) (ky.below stayRu hb) kI (by omega))
  have HPG := Lib.hid (fun W (hb : Below w.heap.size w W) => pprog_any g _ _ W (hx.below stayDe hb) (hy.below stayRu hb) hI (by omega) (hT.on hb))
  obtain ⟨S, hS⟩ : ∃ S : ByteArray, S = ⟨(progTx g).toArray⟩ := ⟨_, rfl⟩
  have hSd : S.data.toList = progTx g := by rw [hS]
  have hSl : S.data.toList.length = S.size := by simp
  obtain ⟨T, hT2⟩ : ∃ T : ByteArray, T = ⟨(progTx ⟨[], h.rules⟩).toArray⟩ := ⟨_, rfl⟩
  have hTd : T.data.toList = progTx ⟨[], h.rules⟩ := by rw [hT2]
  have hI2 : InPr ⟨[], h.rules⟩ := ⟨by simp, kI.2⟩
  have hI3 : InPr ⟨g.decls, g.rules ++ h.rules⟩ := ⟨hI.1, fun r hr => by
    rcases List.mem_append.1 hr with hr | hr
    · exact hI.2 r hr
    · exact kI.2 r hr⟩
  have hz2 : szPr ⟨[], h.rules⟩ ≤ 1048576 := by unfold szPr szDes at *; simp at *; omega
  have hz3 : szPr ⟨g.decls, g.rules ++ h.rules⟩ ≤ 2097152 := by unfold szPr szRus szDes at *; simp at *; omega
  have hTle : T.size ≤ 100000000 := by
    have h1 := progTx_le hI2
    have h2 : T.data.toList.length = T.size := by simp
    rw [hTd] at h2
    omega
  have HP2 : Hid (∀ W, Below w.heap.size w W → Calls Tryz.prog 11 #[.agg #[.slice none 0 0, .slice yo2 h.rules.length yc2]] W fun e w' => e = .returned (.string T) ∧ Below W.heap.size W w') := fun W hb => by
    rw [hT2]
    exact pprog_any ⟨[], h.rules⟩ _ _ W (RdL.nil _ _ _ _ _) (ky.below stayRu hb) hI2 (by omega) (hT.on hb)
  have HP3 : Hid (∀ W v, Below w.heap.size w W → Rus W v (g.rules ++ h.rules) → Calls Tryz.prog 11 #[.agg #[.slice xo g.decls.length xc, v]] W fun e w' => e = .returned (.string (S ++ T)) ∧ Below W.heap.size W w') := fun W v hb hv => by
    have := pprog_any ⟨g.decls, g.rules ++ h.rules⟩ _ v W (hx.below stayDe hb) hv hI3 (by omega) (hT.on hb)
    rw [prog_behind] at this
    have e : (⟨(progTx g ++ progTx ⟨[], h.rules⟩).toArray⟩ : ByteArray) = S ++ T := by
      apply Go.WideShapes.bytes_inj
      rw [Go.Joins.data_append, hSd, hTd]
    rw [e] at this
    exact this
  rw [← hS] at HPG
  have hSle : S.size ≤ 100000000 := by rw [← hSl, hSd]; omega
  obtain ⟨mb, hmb⟩ : ∃ mb, mb = mayPrB g := ⟨_, rfl⟩
  obtain ⟨mc, hmc⟩ : ∃ mb, mb = mayPrB h := ⟨_, rfl⟩
  have HLN : Hid (mb = true → Lined S.data.toList (g.decls.length + g.rules.length)) := fun hm => by
    rw [hSd]; exact lined_prog ((mayPr_iff hI).1 (hmb.symm.trans hm))
  rw [← hmb] at HM1
  rw [← hmc] at HM2
  have HRG := Lib.hid hy
  have HRH := Lib.hid ky
  have HNG := Lib.hid hN
  have HNH := Lib.hid kN
  obtain ⟨GD, GR⟩ := g
  obtain ⟨KD, KR⟩ := h
  simp only at HF1 HF2 HM1 HM2 HPG HP2 HP3 HLN HRG HRH HNG HNH hgd hgr khr
  obtain ⟨W, hW⟩ : ∃ W, W = (w.alloc (.cells #[.slice xo GD.length xc, .slice yo GR.length yc] 25)).alloc (.cells #[.slice xo2 KD.length xc2, .slice yo2 KR.length yc2] 25) := ⟨_, rfl⟩
  have hbW : Below w.heap.size w W := by rw [hW]; exact (al_below w _).alloc (by simp) _
  have HB0 := Lib.hid hbW
  have HK : Hid (∀ W', Below W.heap.size W W' → W'.cell? ⟨w.heap.size, 0, none⟩ = some (.slice xo GD.length xc) ∧ W'.cell? ⟨w.heap.size, 1, none⟩ = some (.slice yo GR.length yc) ∧ W'.cell? ⟨w.heap.size + 1, 0, none⟩ = some (.slice xo2 KD.length xc2) ∧ W'.cell? ⟨w.heap.size + 1, 1, none⟩ = some (.slice yo2 KR.length yc2) ∧ w.heap.size < W'.heap.size ∧ w.heap.size + 1 < W'.heap.size ∧ Below w.heap.size w W') := fun W' hb => by
    have hB : Blk W w.heap.size #[.slice xo GD.length xc, .slice yo GR.length yc] 25 := by rw [hW]; exact (Blk.new w _ _).below (al_below _ _)
    have hC : Blk W (w.heap.size + 1) #[.slice xo2 KD.length xc2, .slice yo2 KR.length yc2] 25 := by rw [hW]; exact blk2 _ _ _ _ _
    exact ⟨(hB.below hb).cell 0, (hB.below hb).cell 1, (hC.below hb).cell 0, (hC.below hb).cell 1, (hB.below hb).lt, (hC.below hb).lt, hbW.trans (hb.mono hbW.size)⟩
  have HW := Lib.hid hW
  have hSI : (S.size : Int) ≤ 100000000 := by omega
  have HSL := Lib.hid hSl
  clear hx hy kx ky hI kI hs ks hN kN hE hT hle hld hlr klr hS hSd hSl hT2 hTd hI2 hI3 hz2 hz3 hmb hmc hbW hW hSle
  go_enter Tryz.func8, Tryz.ntmps8
  go_wp2_with (go_at_call 9; rw [← HW.out]; refine (HSH.out _ HB0.out).mono ?_; rintro e w1 ⟨rfl, hb1⟩; have HB1 : Hid (Below W.heap.size W w1) := hb1; clear hb1; obtain ⟨p0, p1, p2, p3, p4, p5, p6⟩ := HK.out _ HB1.out)
  refine (HF1.out _ p6).mono ?_
  rintro e w2 ⟨fb, rfl, hb2⟩
  have HB2 : Hid (Below W.heap.size W w2) := HB1.out.trans (hb2.mono HB1.out.size)
  clear hb2 p0 p1 p2 p3 p4 p5 p6
  cases fb
  · go_wp2
    go_ret
    exact ⟨rfl, (HK.out _ HB2.out).2.2.2.2.2.2⟩
  obtain ⟨p0, p1, p2, p3, p4, p5, p6⟩ := HK.out _ HB2.out
  go_wp2_with fail
  refine (HF2.out _ p6).mono ?_
  rintro e w3 ⟨fc, rfl, hb3⟩
  have HB3 : Hid (Below W.heap.size W w3) := HB2.out.trans (hb3.mono HB2.out.size)
  clear hb3 p0 p1 p2 p3 p4 p5 p6
  cases fc
  · go_wp2
    go_ret
    exact ⟨rfl, (HK.out _ HB3.out).2.2.2.2.2.2⟩
  obtain ⟨p0, p1, p2, p3, p4, p5, p6⟩ := HK.out _ HB3.out
  cases mb
  · go_wp2_with (go_at_call 13; refine (HM1.out _ p6).mono ?_; rintro e w4 ⟨rfl, hb4⟩; have HB4 : Hid (Below W.heap.size W w4) := HB3.out.trans (hb4.mono HB3.out.size); clear hb4)
    go_ret
    exact ⟨rfl, (HK.out _ HB4.out).2.2.2.2.2.2⟩
  cases mc
  · go_wp2_with (first
      | (go_at_call 13; refine (HM1.out _ p6).mono ?_; rintro e w4 ⟨rfl, hb4⟩; have HB4 : Hid (Below W.heap.size W w4) := HB3.out.trans (hb4.mono HB3.out.size); clear hb4 HM1; obtain ⟨q0, q1, q2, q3, q4, q5, q6⟩ := HK.out _ HB4.out)
      | (go_at_call 13; refine (HM2.out _ q6).mono ?_; rintro e w5 ⟨rfl, hb5⟩; have HB5 : Hid (Below W.heap.size W w5) := HB4.out.trans (hb5.mono HB4.out.size); clear hb5))
    go_ret
    exact ⟨rfl, (HK.out _ HB5.out).2.2.2.2.2.2⟩
  have HL := Lib.hid (HLN.out rfl)
  clear HLN
  go_wp2_with (first
    | (go_at_call 13; refine (HM1.out _ p6).mono ?_; rintro e w4 ⟨rfl, hb4⟩; have HB4 : Hid (Below W.heap.size W w4) := HB3.out.trans (hb4.mono HB3.out.size); clear hb4 HM1; obtain ⟨q0, q1, q2, q3, q4, q5, q6⟩ := HK.out _ HB4.out)
    | (go_at_call 13; refine (HM2.out _ q6).mono ?_; rintro e w5 ⟨rfl, hb5⟩; have HB5 : Hid (Below W.heap.size W w5) := HB4.out.trans (hb5.mono HB4.out.size); clear hb5 HM2; obtain ⟨r0, r1, r2, r3, r4, r5, r6⟩ := HK.out _ HB5.out)
    | (go_at_call 11; refine (HPG.out _ r6).mono ?_; rintro e w6 ⟨rfl, hb6⟩; have HB6 : Hid (Below W.heap.size W w6) := HB5.out.trans (hb6.mono HB5.out.size); clear hb6))
  clear p0 p1 p2 p3 p4 p5 p6 q0 q1 q2 q3 q4 q5 q6 r0 r1 r2 r3 r4 r5 r6 HB5 HB4 HB3 HB2 HB1
  go_loopw [7, 8] (fun n i wr => ∃ k : Nat, (k : Int) ≤ (S.size : Int) ∧ i = .int .i64 k ∧ n = .int .i64 ((nls (S.data.toList.take k) : Nat) : Int) ∧ Hid (Below W.heap.size W wr)) (fun _ i _ => S.size - (intOf i).toNat)
  case atStart => exact ⟨0, by omega, rfl, rfl, HB6.out⟩
  case round =>
    clear HB6
    obtain ⟨k, hk, rfl, rfl, HB⟩ := hrel
    by_cases hlt : k < S.size
    · have hltI : (k : Int) < (S.size : Int) := by omega
      have hk0 : (0 : Int) ≤ (k : Int) := by omega
      have HLT : Hid (k + 1 ≤ S.size) := hlt
      have hkl : k < S.data.toList.length := by rw [HSL.out]; exact hlt
      have hbyte : S.data.toList[k]'hkl = S[k]'hlt := by simp [ByteArray.getElem_eq_getElem_data]
      have hnt := nls_take hkl
      rw [hbyte] at hnt
      have hnb : nls (S.data.toList.take k) ≤ k := by
        unfold nls
        exact Nat.le_trans (List.length_filter_le _ _) (by rw [List.length_take]; omega)
      obtain ⟨c, hc⟩ : ∃ c, c = S[k]'hlt := ⟨_, rfl⟩
      by_cases h10 : c = 10
      · have h46 : ∃ m, k = m + 1 ∧ S.data.toList[m]? = some 46 := HL.out.ends k (by rw [List.getElem?_eq_getElem hkl, hbyte, ← hc, h10])
        rw [← hc, if_pos h10] at hnt
        obtain ⟨m, rfl, hm⟩ := h46
        obtain ⟨hm1, hm2⟩ := List.getElem?_eq_some_iff.1 hm
        have hmS : m < S.size := by omega
        have hmb : (S[m]'hmS) = 46 := by rw [← hm2]; simp [ByteArray.getElem_eq_getElem_data]
        have hcb : (S[m + 1]'hlt) = 10 := hc.symm.trans h10
        have hmI : (m : Int) < (S.size : Int) := by omega
        have hm0 : (0 : Int) ≤ (m : Int) := by omega
        obtain ⟨q, hq⟩ : ∃ q, q = nls (S.data.toList.take (m + 1)) := ⟨_, rfl⟩
        rw [← hq] at hnt hnb ⊢
        have hqI : (q : Int) ≤ 100000001 := by omega
        have HNT := Lib.hid hnt
        clear hbyte hnt hnb hc h10 hm hm1 hm2 hq hkl
        go_wp2
        go_roundw
        case rel => exact ⟨m + 1 + 1, by have := HLT.out; omega, by go_num, by rw [HNT.out]; exact congrArg (Value.int .i64) (by omega), HB.out⟩
        case measure => simp [intOf]; have := HLT.out; omega
      · have hcb : (S[k]'hlt) = c := hc.symm
        have hcB : ((c.toNat : Int) == 10) = false := by
          simp only [beq_eq_false_iff_ne]
          intro e
          exact h10 (UInt8.toNat_inj.1 (by simp; omega))
        rw [← hc, if_neg h10, Nat.add_zero] at hnt
        have HNT := Lib.hid hnt
        clear hbyte hnt hnb hc h10 hkl
        go_wp2
        go_roundw
        case rel => exact ⟨k + 1, by have := HLT.out; omega, by go_num, by rw [HNT.out]; exact congrArg (Value.int .i64) (by omega), HB.out⟩
        case measure => simp [intOf]; have := HLT.out; omega
    · have hltI : ¬ (k : Int) < (S.size : Int) := by omega
      have hcnt : nls (S.data.toList.take k) = GD.length + GR.length := by
        rw [List.take_of_length_le (by rw [HSL.out]; omega)]
        exact HL.out.count
      rw [hcnt]
      clear hcnt
      obtain ⟨nn, hnn⟩ : ∃ nn : Nat, nn = GD.length + GR.length := ⟨_, rfl⟩
      rw [← hnn]
      have hsum : (GD.length : Int) + (GR.length : Int) = (nn : Int) := by omega
      have hnI : (nn : Int) ≤ 2000000 := by omega
      have hwn : IntKind.i64.wrap (nn : Int) = (nn : Int) := by rw [IntKind.wrap_i64]; omega
      clear hnn
      obtain ⟨p0, p1, p2, p3, p4, p5, p6⟩ := HK.out _ HB.out
      have hdI : (GD.length : Int) ≤ 1000000 := by omega
      have hrI : (GR.length : Int) ≤ 1000000 := by omega
      have l0 : w.heap.size < W.heap.size := by have := HW.out; rw [this]; simp; omega
      have l1 : w.heap.size + 1 < W.heap.size := by have := HW.out; rw [this]; simp
      have hn : w.heap.size ≤ W.heap.size := by omega
      have HBr := Lib.hid (lines_first p0 p1 p3 HB.out.size p6)
      have HL0 := Lib.hid l0
      have HL1 := Lib.hid l1
      have HHN := Lib.hid hn
      have HSZ := Lib.hid HB.out.size
      have hn2 : W.heap.size ≤ wr.heap.size := HB.out.size
      clear l0 l1 hn p0 p1 p2 p3 p4 p5 p6
      have e3 : ((S ++ T).toList == (S ++ T).toList) = true := by simp
      have hst : ¬ 9223372036854775807 < S.size + T.size := by omega
      go_wp2_with fail
      go_region_held3 (fun w' => w'.cell? ⟨w.heap.size, 0, none⟩ = some (.slice xo GD.length xc) ∧ w'.cell? ⟨w.heap.size, 1, none⟩ = some (.slice yo GR.length yc) ∧ w'.cell? ⟨w.heap.size + 1, 1, none⟩ = some (.slice yo2 KR.length yc2) ∧ W.heap.size ≤ w'.heap.size ∧ Below w.heap.size w w')
        (first | assumption | exact lines_drew HBr.out | exact HBr.out | exact lines_alloc HL0.out HL1.out HHN.out (by assumption) _ | exact lines_set HL0.out HL1.out HHN.out (by assumption) (by omega) _ _)
        (first
          | (refine step_append_ru (w0 := w) rfl (.tmp 55) (.tmp 57) rfl wr.heap.size (.slice (some ⟨_, 0, none⟩) 0 0) [] rfl (own_empty_ru (by simp) (by first | exact heap1L _ _ | exact heap2L _ _ _ | exact heap1oL _ _ _)) (.slice yo GR.length yc) GR rfl HRG.out HNG.out (by go_split_ands; assumption) (by simp; omega) (by first | omega | (simp; omega) | simp) ?_; intro v1 w2 ho1 hb1 hz1; have hw2 : wr.heap.size ≤ w2.heap.size := Nat.le_trans (by first | omega | (simp; omega) | simp) hb1.size; have hS2 := lines_keep HL0.out HL1.out HHN.out (by assumption) (hb1.mono hn2); have HO1 := Lib.hid ho1; have HZ1 := Lib.hid hz1; clear ho1 hb1 hz1)
          | (refine step_append_ru (w0 := w) rfl (.tmp 58) (.tmp 60) rfl wr.heap.size v1 ([] ++ GR) rfl (by first | exact HO1.out | exact HO1.out.below (al_below _ _)) (.slice yo2 KR.length yc2) KR rfl HRH.out HNH.out (by go_split_ands; assumption) (by simp; omega) (by first | omega | (simp; omega)) ?_; intro v2 w3 ho2 hb2 hz2; have hS3 := lines_keep HL0.out HL1.out HHN.out (by assumption) (hb2.mono hn2); obtain ⟨vo, vc, hv2⟩ := ho2.form; subst hv2; have HO2 := Lib.hid ho2; have HZ2 := Lib.hid hz2; clear ho2 hb2 hz2;
              (first
                | (have h8 := HZ1.out _ (.cells #[.slice none 0 0, .slice none 0 0] 25 (0, 0)) (by first | exact heap1oL _ _ _ | exact heap2L _ _ _) (by simp [Value.ownBlock]); have h9 := HZ2.out _ _ h8.1 h8.2; obtain ⟨c0, c1, f0, f1, lt9⟩ := box9 h9.1; have HV9 := Lib.hid h9.2; have HC9 := Lib.hid h9.1; clear h8 h9)
                | (have h9 := HZ2.out w2.heap.size (.cells #[.slice none 0 0, .slice none 0 0] 25 (0, 0)) (heap1L _ _) (fun e => Nat.lt_irrefl _ (HO1.out.lt _ e)); obtain ⟨c0, c1, f0, f1, lt9⟩ := box9 h9.1; have HV9 := Lib.hid h9.2; have HC9 := Lib.hid h9.1; clear h9)
                | skip)))
      · have hs9 := lines_alloc HL0.out HL1.out HHN.out hS3 (Obj.cells #[Value.slice xo GD.length xc, Value.slice vo (GR.length + KR.length) vc] 25)
        have hp9 := pack_alloc (x := .slice xo GD.length xc) (m := GR.length + KR.length) (vo := vo) (vc := vc) HO2.out (by simp) hS3.2.2.2.2 (by simp; unfold maxLen; omega)
        generalize w3.alloc (Obj.cells #[Value.slice xo GD.length xc, Value.slice vo (GR.length + KR.length) vc] 25) = X at hp9 hs9 ⊢
        obtain ⟨k0, k1, k2, k3, k4⟩ := hp9
        have HXW := Lib.hid k4
        have HQ3 := Lib.hid (fun W' (hb : Below X.heap.size X W') => HP3.out W' _ (below_w HXW.out hb) (k3.below stayRu hb))
        have HQ2 := Lib.hid (fun W' (hb : Below X.heap.size X W') => HP2.out W' (below_w HXW.out hb))
        have HK9 : Hid (∀ W', Below X.heap.size X W' → W'.cell? ⟨w.heap.size, 0, none⟩ = some (.slice xo GD.length xc) ∧ W'.cell? ⟨w.heap.size, 1, none⟩ = some (.slice yo GR.length yc) ∧ W'.cell? ⟨w.heap.size + 1, 1, none⟩ = some (.slice yo2 KR.length yc2) ∧ W'.cell? ⟨w3.heap.size, 0, none⟩ = some (.slice xo GD.length xc) ∧ W'.cell? ⟨w3.heap.size, 1, none⟩ = some (.slice vo (GR.length + KR.length) vc) ∧ Below X.heap.size X W') := fun W' hb => pack_keep HL0.out HL1.out hs9 k0 k1 k2 hb
        clear k0 k1 k2 k3 k4 hs9 HZ1 HZ2 HO1 HO2 hS2 hS3
        go_wp2_with fail
        go_region_held3 (fun w' => w'.cell? ⟨w.heap.size, 0, none⟩ = some (.slice xo GD.length xc) ∧ w'.cell? ⟨w.heap.size, 1, none⟩ = some (.slice yo GR.length yc) ∧ w'.cell? ⟨w.heap.size + 1, 1, none⟩ = some (.slice yo2 KR.length yc2) ∧ w'.cell? ⟨w3.heap.size, 0, none⟩ = some (.slice xo GD.length xc) ∧ w'.cell? ⟨w3.heap.size, 1, none⟩ = some (.slice vo (GR.length + KR.length) vc) ∧ Below X.heap.size X w')
          (first | assumption | exact HK9.out _ (below_step (by go_split_ands; assumption) hbN) | exact HK9.out _ ((Below.refl _ _).drew) | exact HK9.out _ (Below.refl _ _))
          (first
            | (go_at_call 11; with_reducible refine (HQ3.out _ (by go_split_ands; assumption)).mono ?_; rintro e w' ⟨rfl, hbN⟩)
            | (go_at_call 11; with_reducible refine (HQ2.out _ (by go_split_ands; assumption)).mono ?_; rintro e w' ⟨rfl, hbN⟩))
        all_goals
          go_wp2
          go_ret
          go_split_ands
          exact ⟨by first | rfl | simp, below_w HXW.out (by assumption)⟩
      · have hs9 := lines_set (b9 := w2.heap.size) HL0.out HL1.out HHN.out hS3 (by omega) (Value.slice xo GD.length xc) (Value.slice vo (GR.length + KR.length) vc)
        have hp9 := pack_set (x := .slice xo GD.length xc) (m := GR.length + KR.length) (vo := vo) (vc := vc) HO2.out (by simp) hS3.2.2.2.2 (by simp; unfold maxLen; omega) HC9.out HV9.out (by have := HHN.out; omega)
        generalize (w3.setCell ⟨w2.heap.size, 0, none⟩ (Value.slice xo GD.length xc)).setCell ⟨w2.heap.size, 1, none⟩ (Value.slice vo (GR.length + KR.length) vc) = X at hp9 hs9 ⊢
        obtain ⟨k0, k1, k2, k3, k4⟩ := hp9
        have HXW := Lib.hid k4
        have HQ3 := Lib.hid (fun W' (hb : Below X.heap.size X W') => HP3.out W' _ (below_w HXW.out hb) (k3.below stayRu hb))
        have HQ2 := Lib.hid (fun W' (hb : Below X.heap.size X W') => HP2.out W' (below_w HXW.out hb))
        have HK9 : Hid (∀ W', Below X.heap.size X W' → W'.cell? ⟨w.heap.size, 0, none⟩ = some (.slice xo GD.length xc) ∧ W'.cell? ⟨w.heap.size, 1, none⟩ = some (.slice yo GR.length yc) ∧ W'.cell? ⟨w.heap.size + 1, 1, none⟩ = some (.slice yo2 KR.length yc2) ∧ W'.cell? ⟨w2.heap.size, 0, none⟩ = some (.slice xo GD.length xc) ∧ W'.cell? ⟨w2.heap.size, 1, none⟩ = some (.slice vo (GR.length + KR.length) vc) ∧ Below X.heap.size X W') := fun W' hb => pack_keep HL0.out HL1.out hs9 k0 k1 k2 hb
        clear k0 k1 k2 k3 k4 hs9 HZ1 HZ2 HO1 HO2 hS2 hS3
        go_wp2_with fail
        go_region_held3 (fun w' => w'.cell? ⟨w.heap.size, 0, none⟩ = some (.slice xo GD.length xc) ∧ w'.cell? ⟨w.heap.size, 1, none⟩ = some (.slice yo GR.length yc) ∧ w'.cell? ⟨w.heap.size + 1, 1, none⟩ = some (.slice yo2 KR.length yc2) ∧ w'.cell? ⟨w2.heap.size, 0, none⟩ = some (.slice xo GD.length xc) ∧ w'.cell? ⟨w2.heap.size, 1, none⟩ = some (.slice vo (GR.length + KR.length) vc) ∧ Below X.heap.size X w')
          (first | assumption | exact HK9.out _ (below_step (by go_split_ands; assumption) hbN) | exact HK9.out _ ((Below.refl _ _).drew) | exact HK9.out _ (Below.refl _ _))
          (first
            | (go_at_call 11; with_reducible refine (HQ3.out _ (by go_split_ands; assumption)).mono ?_; rintro e w' ⟨rfl, hbN⟩)
            | (go_at_call 11; with_reducible refine (HQ2.out _ (by go_split_ands; assumption)).mono ?_; rintro e w' ⟨rfl, hbN⟩))
        all_goals
          go_wp2
          go_ret
          go_split_ands
          exact ⟨by first | rfl | simp, below_w HXW.out (by assumption)⟩
      · have hs9 := lines_set (b9 := wr.heap.size + 1) HL0.out HL1.out HHN.out hS3 (by omega) (Value.slice xo GD.length xc) (Value.slice vo (GR.length + KR.length) vc)
        have hp9 := pack_set (x := .slice xo GD.length xc) (m := GR.length + KR.length) (vo := vo) (vc := vc) HO2.out (by simp) hS3.2.2.2.2 (by simp; unfold maxLen; omega) HC9.out HV9.out (by have := HHN.out; omega)
        generalize (w3.setCell ⟨wr.heap.size + 1, 0, none⟩ (Value.slice xo GD.length xc)).setCell ⟨wr.heap.size + 1, 1, none⟩ (Value.slice vo (GR.length + KR.length) vc) = X at hp9 hs9 ⊢
        obtain ⟨k0, k1, k2, k3, k4⟩ := hp9
        have HXW := Lib.hid k4
        have HQ3 := Lib.hid (fun W' (hb : Below X.heap.size X W') => HP3.out W' _ (below_w HXW.out hb) (k3.below stayRu hb))
        have HQ2 := Lib.hid (fun W' (hb : Below X.heap.size X W') => HP2.out W' (below_w HXW.out hb))
        have HK9 : Hid (∀ W', Below X.heap.size X W' → W'.cell? ⟨w.heap.size, 0, none⟩ = some (.slice xo GD.length xc) ∧ W'.cell? ⟨w.heap.size, 1, none⟩ = some (.slice yo GR.length yc) ∧ W'.cell? ⟨w.heap.size + 1, 1, none⟩ = some (.slice yo2 KR.length yc2) ∧ W'.cell? ⟨wr.heap.size + 1, 0, none⟩ = some (.slice xo GD.length xc) ∧ W'.cell? ⟨wr.heap.size + 1, 1, none⟩ = some (.slice vo (GR.length + KR.length) vc) ∧ Below X.heap.size X W') := fun W' hb => pack_keep HL0.out HL1.out hs9 k0 k1 k2 hb
        clear k0 k1 k2 k3 k4 hs9 HZ1 HZ2 HO1 HO2 hS2 hS3
        go_wp2_with fail
        go_region_held3 (fun w' => w'.cell? ⟨w.heap.size, 0, none⟩ = some (.slice xo GD.length xc) ∧ w'.cell? ⟨w.heap.size, 1, none⟩ = some (.slice yo GR.length yc) ∧ w'.cell? ⟨w.heap.size + 1, 1, none⟩ = some (.slice yo2 KR.length yc2) ∧ w'.cell? ⟨wr.heap.size + 1, 0, none⟩ = some (.slice xo GD.length xc) ∧ w'.cell? ⟨wr.heap.size + 1, 1, none⟩ = some (.slice vo (GR.length + KR.length) vc) ∧ Below X.heap.size X w')
          (first | assumption | exact HK9.out _ (below_step (by go_split_ands; assumption) hbN) | exact HK9.out _ ((Below.refl _ _).drew) | exact HK9.out _ (Below.refl _ _))
          (first
            | (go_at_call 11; with_reducible refine (HQ3.out _ (by go_split_ands; assumption)).mono ?_; rintro e w' ⟨rfl, hbN⟩)
            | (go_at_call 11; with_reducible refine (HQ2.out _ (by go_split_ands; assumption)).mono ?_; rintro e w' ⟨rfl, hbN⟩))
        all_goals
          go_wp2
          go_ret
          go_split_ands
          exact ⟨by first | rfl | simp, below_w HXW.out (by assumption)⟩
      · have hs9 := lines_set (b9 := wr.heap.size) HL0.out HL1.out HHN.out hS3 (by omega) (Value.slice xo GD.length xc) (Value.slice vo (GR.length + KR.length) vc)
        have hp9 := pack_set (x := .slice xo GD.length xc) (m := GR.length + KR.length) (vo := vo) (vc := vc) HO2.out (by simp) hS3.2.2.2.2 (by simp; unfold maxLen; omega) HC9.out HV9.out (by have := HHN.out; omega)
        generalize (w3.setCell ⟨wr.heap.size, 0, none⟩ (Value.slice xo GD.length xc)).setCell ⟨wr.heap.size, 1, none⟩ (Value.slice vo (GR.length + KR.length) vc) = X at hp9 hs9 ⊢
        obtain ⟨k0, k1, k2, k3, k4⟩ := hp9
        have HXW := Lib.hid k4
        have HQ3 := Lib.hid (fun W' (hb : Below X.heap.size X W') => HP3.out W' _ (below_w HXW.out hb) (k3.below stayRu hb))
        have HQ2 := Lib.hid (fun W' (hb : Below X.heap.size X W') => HP2.out W' (below_w HXW.out hb))
        have HK9 : Hid (∀ W', Below X.heap.size X W' → W'.cell? ⟨w.heap.size, 0, none⟩ = some (.slice xo GD.length xc) ∧ W'.cell? ⟨w.heap.size, 1, none⟩ = some (.slice yo GR.length yc) ∧ W'.cell? ⟨w.heap.size + 1, 1, none⟩ = some (.slice yo2 KR.length yc2) ∧ W'.cell? ⟨wr.heap.size, 0, none⟩ = some (.slice xo GD.length xc) ∧ W'.cell? ⟨wr.heap.size, 1, none⟩ = some (.slice vo (GR.length + KR.length) vc) ∧ Below X.heap.size X W') := fun W' hb => pack_keep HL0.out HL1.out hs9 k0 k1 k2 hb
        clear k0 k1 k2 k3 k4 hs9 HZ1 HZ2 HO1 HO2 hS2 hS3
        go_wp2_with fail
        go_region_held3 (fun w' => w'.cell? ⟨w.heap.size, 0, none⟩ = some (.slice xo GD.length xc) ∧ w'.cell? ⟨w.heap.size, 1, none⟩ = some (.slice yo GR.length yc) ∧ w'.cell? ⟨w.heap.size + 1, 1, none⟩ = some (.slice yo2 KR.length yc2) ∧ w'.cell? ⟨wr.heap.size, 0, none⟩ = some (.slice xo GD.length xc) ∧ w'.cell? ⟨wr.heap.size, 1, none⟩ = some (.slice vo (GR.length + KR.length) vc) ∧ Below X.heap.size X w')
          (first | assumption | exact HK9.out _ (below_step (by go_split_ands; assumption) hbN) | exact HK9.out _ ((Below.refl _ _).drew) | exact HK9.out _ (Below.refl _ _))
          (first
            | (go_at_call 11; with_reducible refine (HQ3.out _ (by go_split_ands; assumption)).mono ?_; rintro e w' ⟨rfl, hbN⟩)
            | (go_at_call 11; with_reducible refine (HQ2.out _ (by go_split_ands; assumption)).mono ?_; rintro e w' ⟨rfl, hbN⟩))
        all_goals
          go_wp2
          go_ret
          go_split_ands
          exact ⟨by first | rfl | simp, below_w HXW.out (by assumption)⟩
end Go.Proofs.YtddioikfhabjpaaGreatDoor
