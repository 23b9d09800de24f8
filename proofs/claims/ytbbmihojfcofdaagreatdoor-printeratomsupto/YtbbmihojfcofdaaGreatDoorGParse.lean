/-
  Contract of parse.Parse.
-/
import Derived.Test.YtbbmihojfcofdaaGreatDoorGWhole
namespace Go.Proofs.YtbbmihojfcofdaaGreatDoor
set_option linter.unusedSimpArgs false
set_option linter.unusedVariables false
set_option linter.unusedSectionVars false
set_option maxRecDepth 100000
open Go.RowKit Go.Maps

/-- What the rows' variables hold. -/
structure PEnv (w : World) : Prop where
  env : Env w
  ops : OpsM w
  big : 8 ≤ w.heap.size
theorem PEnv.below {w w' : World} (h : PEnv w) (hb : Below w.heap.size w w') : PEnv w' := ⟨h.env.below hb, h.ops.below hb, Nat.le_trans h.big hb.size⟩
/-- Two programs' blocks, both still empty. -/
theorem two_blocks (w : World) : ∃ w0, w0 = (w.alloc (.cells #[.slice none 0 0, .slice none 0 0] 25)).alloc (.cells #[.slice none 0 0, .slice none 0 0] 25) ∧ Below w.heap.size w w0 ∧ w0.heap.size = w.heap.size + 2 ∧ Blk w0 w.heap.size #[.slice none 0 0, .slice none 0 0] 25 ∧ Blk w0 (w.heap.size + 1) #[.slice none 0 0, .slice none 0 0] 25 := by
  refine ⟨_, rfl, ((Below.refl _ _).alloc (Nat.le_refl _) _).alloc (by simp) _, by simp, ?_, ?_⟩
  · exact (Blk.new w #[.slice none 0 0, .slice none 0 0] 25).below (al_below _ _)
  · have := Blk.new (w.alloc (.cells #[.slice none 0 0, .slice none 0 0] 25)) #[.slice none 0 0, .slice none 0 0] 25
    have e : (w.alloc (.cells #[.slice none 0 0, .slice none 0 0] 25)).heap.size = w.heap.size + 1 := by simp
    rw [e] at this
    exact this

set_option maxHeartbeats 8000000 in
theorem whole_any (s : ByteArray) (w : World) (hE : PEnv w) (hsz : s.size ≤ maxLen) :
    Calls Tryz.prog 49 #[.string s, .func (.func 50) #[] #[]] w fun e w' => ParseOut w (parseR s) e w' := by
  obtain ⟨w0, hw0, hb0, hs0, hR0, hN0⟩ := two_blocks w
  have HE0 := Lib.hid (hE.below hb0)
  have HSC := Lib.hid (scan_any s w0 HE0.out.env)
  have HW0 := Lib.hid hw0
  have HB0 := Lib.hid hb0
  have HS0 := Lib.hid hs0
  have HR0 := Lib.hid hR0
  have HN0 := Lib.hid hN0
  unfold maxLen at hsz
  obtain ⟨r, hr⟩ : ∃ r, r = parseR s := ⟨_, rfl⟩
  rw [← hr]
  unfold parseR at hr
  have HSH : Hid (∀ t ∈ (scanR s).toks, t.s.size ≤ 65536) := fun t h => scanR_short h
  have HLN : Hid ((scanR s).toks.length ≤ 65536) := scanR_len s
  obtain ⟨q, hq⟩ : ∃ q, q = scanR s := ⟨_, rfl⟩
  unfold ScanOut at HSC
  rw [← hq] at hr HSC HSH HLN
  obtain ⟨bd, pl, T⟩ := q
  simp only at hr HSC HSH HLN
  have h8 := hE.big
  clear hE hw0 hb0 hs0 hR0 hN0 hq
  by_cases hbd : bd = 0
  · subst hbd
    rw [if_pos rfl] at hr
    unfold parseL at hr
    have HPR := Lib.hid (fun W pb (hW : Feed W pb T (s.size : Int)) (hO : OpsM W) (h10 : 10 ≤ pb) => program_any hW hO h10 HLN.out)
    have HRST := Lib.hid (progG_rest (s.size : Int) T.length Pr.zero T)
    obtain ⟨p, hp⟩ : ∃ p, p = progP (s.size : Int) T := ⟨_, rfl⟩
    have hp' : progF (s.size : Int) T.length Pr.zero T = p := hp.symm
    rw [hp'] at HRST
    simp only [← hp, ProgOut] at hr HPR
    clear hp hp'
    obtain ⟨qb, g, M⟩ := p
    simp only at hr HPR HRST
    by_cases hqb : qb = 0
    · subst hqb
      rw [if_pos rfl] at hr
      obtain rfl : M = [] := HRST.out rfl
      have HR := Lib.hid hr
      clear hr HRST
      go_enter Tryz.func49, Tryz.ntmps49
      go_wp2_with fail
      rw [← HW0.out]
      refine (HSC.out).mono ?_
      rintro e w1 ⟨v, rfl, hb1, ho1⟩
      have hF := Feed.new ho1 (by have := HLN.out; unfold maxLen; omega) HSH.out (s.size : Int)
      obtain ⟨ao, cap, hv, -⟩ := (ho1.tks (by have := HLN.out; unfold maxLen; omega)).form
      subst hv
      have hb1' := hb1.trans ((al_below w1 (.cells #[.slice ao T.length cap, .int .i64 (s.size : Int)] 107)).mono hb1.size)
      have HF1 := Lib.hid hF
      have HB1 : Hid (Below w.heap.size w (w1.alloc (.cells #[.slice ao T.length cap, .int .i64 (s.size : Int)] 107))) := HB0.out.trans (hb1'.mono HB0.out.size)
      have HR1 := Lib.hid (HR0.out.below hb1')
      have HL1 : Hid (w.heap.size + 2 ≤ w1.heap.size) := by show _ ≤ _; rw [← HS0.out]; exact hb1.size
      have HC := Lib.hid (HPR.out _ _ HF1.out (HE0.out.below hb1').ops (by have := HL1.out; omega))
      clear hF hb1 hb1' ho1 HSC HPR HW0
      go_wp2_with (first
        | (go_at_call 50; refine (HC.out).mono ?_; rintro e w2 ⟨x, y, rfl, h2, hd, hu⟩; obtain ⟨xo, xc, hx, -⟩ := hd.cells; subst hx; obtain ⟨yo, yc, hy, -⟩ := hu.cells; subst hy; have HR2 := Lib.hid ((HR1.out.turns h2.turns (by have := HL1.out; omega)).below (al_below w2 (.cells #[.slice xo g.decls.length xc, .slice yo g.rules.length yc] 25))); have HB2 : Hid (Below w.heap.size w (w2.alloc (.cells #[.slice xo g.decls.length xc, .slice yo g.rules.length yc] 25))) := (HB1.out.trans (h2.turns.below HB1.out.size (fun k e => by have e' : k = w1.heap.size := e; have := HL1.out; omega))).alloc (by have := HB1.out.size; have := h2.turns.size; omega) _; have HD2 := Lib.hid (hd.below keepDe (al_below w2 (.cells #[.slice xo g.decls.length xc, .slice yo g.rules.length yc] 25))); have HU2 := Lib.hid (hu.below keepRu (al_below w2 (.cells #[.slice xo g.decls.length xc, .slice yo g.rules.length yc] 25))); have HQ2 : Hid (w.heap.size < (w1.alloc (.cells #[.slice ao T.length cap, .int .i64 (s.size : Int)] 107)).heap.size) := (show w.heap.size < _ by have := HL1.out; simp; omega); clear hd hu; have HM2 := Lib.hid (more_any (h2.feed.below (al_below w2 (.cells #[.slice xo g.decls.length xc, .slice yo g.rules.length yc] 25)))); clear HC)
        | (go_at_call 67; refine (HM2.out).mono ?_; rintro e w3 ⟨rfl, rfl⟩; clear HM2)
        | (refine wpList_store_row rfl 25 _ _ rfl w.heap.size #[.slice xo g.decls.length xc, .slice yo g.rules.length yc] rfl rfl 25 _ HR2.out (by kernel_rfl) rfl (by simp [Value.oneCell']) ?_))
      refine bodyPost_ret (ret_cell3 Tryz.results49 rfl rfl rfl (HR2.out.lay _) Tryz.underlying25 (by kernel_rfl)) rfl ?_
      rw [HR.out]
      exact ⟨_, _, rfl, below_lay HB2.out (Nat.le_refl _) _, (HD2.out.turns keepDe (Turns.laid _ w.heap.size _) HQ2.out).mono keepDe (Nat.le_of_lt HQ2.out), (HU2.out.turns keepRu (Turns.laid _ w.heap.size _) HQ2.out).mono keepRu (Nat.le_of_lt HQ2.out)⟩
    · rw [if_neg hqb] at hr
      have hbdI : ¬ (qb : Int) = 0 := by omega
      have hbdB : ((qb : Int) == 0) = false := by simpa using hbdI
      have hbdN : ((qb : Int) != 0) = true := by simp [bne, hbdB]
      obtain ⟨t, ht⟩ : ∃ t, t = atT (s.size : Int) M 0 := ⟨_, rfl⟩
      have HNE := Lib.hid (fun W pb (hW : Feed W pb M (s.size : Int)) => next_any hW)
      simp only [← ht, tokV] at hr HNE
      have hfd : ∀ W : World, (Instr.field 110 (.agg #[.int .i64 t.kind, .string t.s, .int .i64 t.n, .bool t.q, .int .i64 t.pl]) 4).run Tryz.prog W = .ok (.int .i64 t.pl) W := fun _ => by kernel_rfl
      have HR := Lib.hid hr
      clear hr HRST ht
      go_enter Tryz.func49, Tryz.ntmps49
      go_wp2_with fail
      rw [← HW0.out]
      refine (HSC.out).mono ?_
      rintro e w1 ⟨v, rfl, hb1, ho1⟩
      have hF := Feed.new ho1 (by have := HLN.out; unfold maxLen; omega) HSH.out (s.size : Int)
      obtain ⟨ao, cap, hv, -⟩ := (ho1.tks (by have := HLN.out; unfold maxLen; omega)).form
      subst hv
      have hb1' := hb1.trans ((al_below w1 (.cells #[.slice ao T.length cap, .int .i64 (s.size : Int)] 107)).mono hb1.size)
      have HF1 := Lib.hid hF
      have HB1 : Hid (Below w.heap.size w (w1.alloc (.cells #[.slice ao T.length cap, .int .i64 (s.size : Int)] 107))) := HB0.out.trans (hb1'.mono HB0.out.size)
      have HR1 := Lib.hid (HR0.out.below hb1')
      have HL1 : Hid (w.heap.size + 2 ≤ w1.heap.size) := by show _ ≤ _; rw [← HS0.out]; exact hb1.size
      have HC := Lib.hid (HPR.out _ _ HF1.out (HE0.out.below hb1').ops (by have := HL1.out; omega))
      have HN1 := Lib.hid (HN0.out.below hb1')
      clear hF hb1 hb1' ho1 HSC HPR HW0
      go_wp2_with (go_at_call 50; refine (HC.out).mono ?_; rintro e w2 ⟨x, y, rfl, h2, hd, hu⟩; obtain ⟨xo, xc, hx, -⟩ := hd.cells; subst hx; obtain ⟨yo, yc, hy, -⟩ := hu.cells; subst hy; have HR2 := Lib.hid ((HR1.out.turns h2.turns (by have := HL1.out; omega)).below (al_below w2 (.cells #[.slice xo g.decls.length xc, .slice yo g.rules.length yc] 25))); have HN2 := ((HN1.out.turns h2.turns (by have := HL1.out; omega)).below (al_below w2 (.cells #[.slice xo g.decls.length xc, .slice yo g.rules.length yc] 25))); have HB2 : Hid (Below w.heap.size w (w2.alloc (.cells #[.slice xo g.decls.length xc, .slice yo g.rules.length yc] 25))) := (HB1.out.trans (h2.turns.below HB1.out.size (fun k e => by have e' : k = w1.heap.size := e; have := HL1.out; omega))).alloc (by have := HB1.out.size; have := h2.turns.size; omega) _; have HNX := Lib.hid (h2.feed.below (al_below w2 (.cells #[.slice xo g.decls.length xc, .slice yo g.rules.length yc] 25))); have n0 := HN2.cell 0; have n1 := HN2.cell 1; simp at n0 n1; have HNN := Lib.hid HN2; clear HN2 HC hd hu)
      obtain ⟨W2, hW2⟩ : ∃ W2, W2 = (w2.alloc (.cells #[.slice xo g.decls.length xc, .slice yo g.rules.length yc] 25)) := ⟨_, rfl⟩
      rw [← hW2] at HR2 HNN n0 n1 HB2 HNX ⊢
      clear hW2
      have HNC := Lib.hid (fun W (hb : Below W2.heap.size W2 W) => HNE.out W _ (HNX.out.below hb))
      have hl1 := HR2.out.lt
      have hl2 := HNN.out.lt
      go_region_with (go_at_call 68; refine (HNC.out _ (by first | exact Below.refl _ _ | exact (Below.refl _ _).drew | exact below_drewN _ _)).mono ?_; rintro e w3 ⟨rfl, hb3⟩; have HR3 := Lib.hid (HR2.out.below (Below.trans (by first | exact Below.refl _ _ | exact (Below.refl _ _).drew | exact below_drewN _ _) hb3)); have r0 := HR3.out.cell 0; have r1 := HR3.out.cell 1; have k0 := HR3.out.frozen 0; have k1 := HR3.out.frozen 1; have HN3 := HNN.out.below (Below.trans (by first | exact Below.refl _ _ | exact (Below.refl _ _).drew | exact below_drewN _ _) hb3); have m0 := HN3.cell 0; have m1 := HN3.cell 1; simp at r0 r1 m0 m1; clear HN3; have HB3 : Hid (Below w.heap.size w w3) := HB2.out.trans (Below.mono (Below.trans (by first | exact Below.refl _ _ | exact (Below.refl _ _).drew | exact below_drewN _ _) hb3) HB2.out.size); clear hb3)
      all_goals
        go_wp2
        have hz := heap_set (o := 1) (heap_set (o := 0) HR3.out (.slice none 0 0)) (.slice none 0 0)
        exact bodyPost_ret (ret_cell3 Tryz.results49 rfl rfl rfl (show Blk _ _ _ _ from hz) Tryz.underlying25 (by kernel_rfl)) rfl (ParseOut.fail HR.out rfl ((HB3.out.setCell (Nat.le_refl _) _).setCell (Nat.le_refl _) _))
  · rw [if_neg hbd] at hr
    have hbdI : ¬ (bd : Int) = 0 := by omega
    have hbdB : ((bd : Int) == 0) = false := by simpa using hbdI
    have hbdN : ((bd : Int) != 0) = true := by simp [bne, hbdB]
    have HR := Lib.hid hr
    clear hr
    go_enter Tryz.func49, Tryz.ntmps49
    go_wp2_with fail
    rw [← HW0.out]
    refine (HSC.out).mono ?_
    rintro e w1 ⟨v, rfl, hb1, -⟩
    have HR1 := Lib.hid (HR0.out.below hb1)
    have HN1 := HN0.out.below hb1
    have n0 := HN1.cell 0
    have n1 := HN1.cell 1
    simp at n0 n1
    have HB1 : Hid (Below w.heap.size w w1) := HB0.out.trans (hb1.mono HB0.out.size)
    clear HN1 hb1 HSC HW0
    go_wp2_with (refine wpList_store_row rfl 25 _ _ rfl w.heap.size #[.slice none 0 0, .slice none 0 0] rfl rfl 25 _ HR1.out (by kernel_rfl) rfl (by simp [Value.oneCell']) ?_)
    exact bodyPost_ret (ret_cell3 Tryz.results49 rfl rfl rfl (HR1.out.lay _) Tryz.underlying25 (by kernel_rfl)) rfl (ParseOut.fail HR.out rfl (below_lay HB1.out (Nat.le_refl _) _))

set_option maxHeartbeats 2000000 in
theorem parse_any (s : ByteArray) (w : World) (hE : PEnv w) (hsz : s.size ≤ maxLen) :
    Calls Tryz.prog 25 #[.string s] w fun e w' => ParseOut w (parseR s) e w' := by
  have hb0 := (Below.refl w.heap.size w).alloc (Nat.le_refl _) (.cells #[.slice none 0 0, .slice none 0 0] 25)
  have HB0 := Lib.hid hb0
  have HR0 := Lib.hid (Blk.new w #[.slice none 0 0, .slice none 0 0] 25)
  have HW := Lib.hid (whole_any s _ (hE.below hb0) hsz)
  obtain ⟨r, hr⟩ : ∃ r, r = parseR s := ⟨_, rfl⟩
  rw [← hr] at HW ⊢
  simp only [ParseOut] at HW
  clear hE hb0 hr
  go_enter Tryz.func25, Tryz.ntmps25
  go_wp2_with (first
    | (go_at_call 49; refine (HW.out).mono ?_; rintro e w1 ⟨x, y, rfl, hb1, hd, hu⟩; obtain ⟨xo, xc, hx, -⟩ := hd.cells; subst hx; obtain ⟨yo, yc, hy, -⟩ := hu.cells; subst hy; have HR1 := Lib.hid (HR0.out.below hb1); have HB1 : Hid (Below w.heap.size w w1) := HB0.out.trans (hb1.mono HB0.out.size); have HD1 := Lib.hid hd; have HU1 := Lib.hid hu; clear hb1 hd hu HW)
    | (refine wpList_store_row rfl 25 _ _ rfl w.heap.size #[.slice xo r.g.decls.length xc, .slice yo r.g.rules.length yc] rfl rfl 25 _ HR1.out (by kernel_rfl) rfl (by simp [Value.oneCell']) ?_))
  refine bodyPost_ret (ret_cell3 Tryz.results25 rfl rfl rfl (HR1.out.lay _) Tryz.underlying25 (by kernel_rfl)) rfl ?_
  have hq : w.heap.size < (w.alloc (.cells #[.slice none 0 0, .slice none 0 0] 25)).heap.size := by simp
  exact ⟨_, _, rfl, below_lay HB1.out (Nat.le_refl _) _, (HD1.out.turns keepDe (Turns.laid _ w.heap.size _) hq).mono keepDe (Nat.le_of_lt hq), (HU1.out.turns keepRu (Turns.laid _ w.heap.size _) hq).mono keepRu (Nat.le_of_lt hq)⟩
end Go.Proofs.YtbbmihojfcofdaaGreatDoor
