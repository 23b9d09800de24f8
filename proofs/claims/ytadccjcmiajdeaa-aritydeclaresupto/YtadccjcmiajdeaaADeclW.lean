/-
  ArityDeclares's walk.
-/
import Derived.Test.YtadccjcmiajdeaaADeclP
namespace Go.Proofs.Ytadccjcmiajdeaa
set_option linter.unusedSimpArgs false
set_option linter.unusedVariables false
set_option linter.unusedSectionVars false
set_option maxRecDepth 100000
open Go.RowKit Go.Maps

theorem dk_keep {w4 W W' : World} {a b i : Nat} {x0 x1 y0 y1 : Value} (l0 : a < w4.heap.size) (l1 : b < w4.heap.size)
    (h : W.cell? ⟨a, 0, none⟩ = some x0 ∧ W.cell? ⟨a, 1, none⟩ = some x1 ∧ W.cell? ⟨b, i, none⟩ = some y0 ∧ W.cell? ⟨b, i + 1, none⟩ = some y1 ∧ w4.heap.size ≤ W.heap.size ∧ Below w4.heap.size w4 W) (hb : Below w4.heap.size W W') :
    W'.cell? ⟨a, 0, none⟩ = some x0 ∧ W'.cell? ⟨a, 1, none⟩ = some x1 ∧ W'.cell? ⟨b, i, none⟩ = some y0 ∧ W'.cell? ⟨b, i + 1, none⟩ = some y1 ∧ w4.heap.size ≤ W'.heap.size ∧ Below w4.heap.size w4 W' := by
  obtain ⟨h0, h1, h2, h3, h4, h5⟩ := h
  exact ⟨(hb.cell (p := ⟨a, _, none⟩) l0).trans h0, (hb.cell (p := ⟨a, _, none⟩) l0).trans h1, (hb.cell (p := ⟨b, _, none⟩) l1).trans h2, (hb.cell (p := ⟨b, _, none⟩) l1).trans h3, Nat.le_trans h4 hb.size, h5.trans hb⟩
theorem dk_drew {w4 W : World} {a b i : Nat} {x0 x1 y0 y1 : Value}
    (h : W.cell? ⟨a, 0, none⟩ = some x0 ∧ W.cell? ⟨a, 1, none⟩ = some x1 ∧ W.cell? ⟨b, i, none⟩ = some y0 ∧ W.cell? ⟨b, i + 1, none⟩ = some y1 ∧ w4.heap.size ≤ W.heap.size ∧ Below w4.heap.size w4 W) :
    W.drew.cell? ⟨a, 0, none⟩ = some x0 ∧ W.drew.cell? ⟨a, 1, none⟩ = some x1 ∧ W.drew.cell? ⟨b, i, none⟩ = some y0 ∧ W.drew.cell? ⟨b, i + 1, none⟩ = some y1 ∧ w4.heap.size ≤ W.drew.heap.size ∧ Below w4.heap.size w4 W.drew := ⟨h.1, h.2.1, h.2.2.1, h.2.2.2.1, h.2.2.2.2.1, h.2.2.2.2.2.drew⟩
theorem dk_alloc {w4 W : World} {a b i : Nat} {x0 x1 y0 y1 : Value} (l0 : a < w4.heap.size) (l1 : b < w4.heap.size)
    (h : W.cell? ⟨a, 0, none⟩ = some x0 ∧ W.cell? ⟨a, 1, none⟩ = some x1 ∧ W.cell? ⟨b, i, none⟩ = some y0 ∧ W.cell? ⟨b, i + 1, none⟩ = some y1 ∧ w4.heap.size ≤ W.heap.size ∧ Below w4.heap.size w4 W) (o : Obj) :
    (W.alloc o).cell? ⟨a, 0, none⟩ = some x0 ∧ (W.alloc o).cell? ⟨a, 1, none⟩ = some x1 ∧ (W.alloc o).cell? ⟨b, i, none⟩ = some y0 ∧ (W.alloc o).cell? ⟨b, i + 1, none⟩ = some y1 ∧ w4.heap.size ≤ (W.alloc o).heap.size ∧ Below w4.heap.size w4 (W.alloc o) := dk_keep l0 l1 h ((Below.refl _ _).alloc h.2.2.2.2.1 _)
set_option maxHeartbeats 16000000 in
theorem decl_walk {g : Pr} {x y : Value} {at' : Int} {w : World} (hx : Des w x g.decls) (hy : Rus w y g.rules) (hI : InPr g) (hs : szPr g ≤ 1048576) (lb : 0 ≤ at') (ub : at' ≤ 255) :
    Calls Try.prog 6 #[.agg #[x, y], .int .u8 at'] w fun e w' => e = .returned (.bool true) ∧ Below w.heap.size w w' := by
  obtain ⟨hu, hn⟩ := uses_in hI hs
  obtain ⟨xo, xc, rfl, -⟩ := hx.form
  obtain ⟨yo, yc, rfl, -⟩ := hy.form
  have HW : Hid (Below w.heap.size w (w.alloc (.cells #[.slice xo g.decls.length xc, .slice yo g.rules.length yc] 25))) := al_bel w _
  have HX := Lib.hid (hx.below stayDe HW.out)
  have HY := Lib.hid (hy.below stayRu HW.out)
  have HU := Lib.hid hu
  have HN : Hid ((usesL g).length ≤ 1000000000) := by show _ ≤ _; omega
  obtain ⟨f, hf⟩ : ∃ f, f = decide ((usesL g).length ≤ 300) := ⟨_, rfl⟩
  have HF := Lib.hid hf
  have HNS : Hid ((usesL g).length ≤ 1048576) := hn
  clear hx hy hu hn hf hI hs
  cases f
  · go_enter Try.func6, Try.ntmps6
    go_wp2_with (first
      | (go_at_call 8; refine (shown_any _).mono ?_; rintro e w1 ⟨rfl, hb1⟩; obtain ⟨c0, c1⟩ := box2 hb1; have HB1 : Hid (Below (w.alloc (.cells #[.slice xo g.decls.length xc, .slice yo g.rules.length yc] 25)).heap.size (w.alloc (.cells #[.slice xo g.decls.length xc, .slice yo g.rules.length yc] 25)) w1) := hb1; clear hb1)
      | (go_at_call 9; refine (few_any g _ _ w1 (HX.out.below stayDe HB1.out) (HY.out.below stayRu HB1.out) HN.out).mono ?_; rintro e w2 ⟨he, hb2⟩; rw [← HF.out] at he; subst he; have hB2 := HB1.out.trans (hb2.mono HB1.out.size); obtain ⟨d0, d1⟩ := box2 hB2; have HB2 : Hid (Below (w.alloc (.cells #[.slice xo g.decls.length xc, .slice yo g.rules.length yc] 25)).heap.size (w.alloc (.cells #[.slice xo g.decls.length xc, .slice yo g.rules.length yc] 25)) w2) := hB2; clear hb2 hB2 c0 c1))
    go_ret
    exact ⟨rfl, out_of HW.out HB2.out⟩
  rcases told_or (usesL g) with ⟨hF, hT⟩ | ⟨hF, bk, hbk, hT⟩
  · have HT := Lib.hid hT
    have HT2 := Lib.hid (told_decl hF)
    by_cases h0 : (firsts (usesL g)).length = 0
    · have H0 := Lib.hid h0
      clear hT hF HT2 h0
      go_enter Try.func6, Try.ntmps6
      go_wp2_with (first
        | (go_at_call 8; refine (shown_any _).mono ?_; rintro e w1 ⟨rfl, hb1⟩; obtain ⟨c0, c1⟩ := box2 hb1; have HB1 : Hid (Below (w.alloc (.cells #[.slice xo g.decls.length xc, .slice yo g.rules.length yc] 25)).heap.size (w.alloc (.cells #[.slice xo g.decls.length xc, .slice yo g.rules.length yc] 25)) w1) := hb1; clear hb1)
        | (go_at_call 9; refine (few_any g _ _ w1 (HX.out.below stayDe HB1.out) (HY.out.below stayRu HB1.out) HN.out).mono ?_; rintro e w2 ⟨he, hb2⟩; rw [← HF.out] at he; subst he; have hB2 := HB1.out.trans (hb2.mono HB1.out.size); obtain ⟨d0, d1⟩ := box2 hB2; have HB2 : Hid (Below (w.alloc (.cells #[.slice xo g.decls.length xc, .slice yo g.rules.length yc] 25)).heap.size (w.alloc (.cells #[.slice xo g.decls.length xc, .slice yo g.rules.length yc] 25)) w2) := hB2; clear hb2 hB2 c0 c1)
        | (go_at_call 10; refine (of_any g _ _ w2 (HX.out.below stayDe HB2.out) (HY.out.below stayRu HB2.out) HU.out HN.out).mono ?_; intro e w3 h3; obtain ⟨v3, he3, hd3, hb3⟩ := h3.des HN.out; rw [HT.out] at he3 hd3; obtain rfl : e = .returned (.tuple #[v3, .int .i64 0, .int .i64 0]) := he3; obtain ⟨o3, n3, s3, rfl, hn3⟩ := hd3.formN; have hn30 : n3 = 0 := hn3.trans H0.out; subst hn30; have hB3 := HB2.out.trans (hb3.mono HB2.out.size); obtain ⟨e0, e1⟩ := box2 hB3; have HB3 : Hid (Below (w.alloc (.cells #[.slice xo g.decls.length xc, .slice yo g.rules.length yc] 25)).heap.size (w.alloc (.cells #[.slice xo g.decls.length xc, .slice yo g.rules.length yc] 25)) w3) := hB3; have HD3 := Lib.hid hd3; clear h3 hb3 hd3 hB3 hn3 d0 d1))
      go_ret
      exact ⟨rfl, out_of HW.out HB3.out⟩
    · obtain ⟨m0, hm0⟩ : ∃ m0, m0 = (firsts (usesL g)).length := ⟨_, rfl⟩
      have hm1 : m0 ≤ 1048576 := by rw [hm0]; exact Nat.le_trans (firsts_len _) HNS.out
      rw [← hm0] at h0
      have hzb : ((m0 : Int) == 0) = false := by simp [h0]
      have hz0 : ¬ (m0 : Int) = 0 := by omega
      obtain ⟨kk, hkk, hkl⟩ : ∃ kk : Nat, at' % (m0 : Int) = (kk : Int) ∧ kk < m0 := by
        have h1 := Int.emod_nonneg at' hz0
        have h2 := Int.emod_lt_of_pos at' (show (0 : Int) < (m0 : Int) by omega)
        exact ⟨(at' % (m0 : Int)).toNat, by omega, by omega⟩
      have hklI : (kk : Int) < (m0 : Int) := by omega
      have HK : Hid (kk < (firsts (usesL g)).length) := by show _ < _; omega
      obtain ⟨d, hd⟩ : ∃ d, d = (firsts (usesL g))[kk]'HK.out := ⟨_, rfl⟩
      have hdv : DeV d := HU.out d (firsts_sub _ d (by rw [hd]; exact List.getElem_mem _))
      obtain ⟨z, hz⟩ : ∃ z, z = IntKind.i64.wrap (d.ar + 1) := ⟨_, rfl⟩
      have hzr : z ≠ d.ar ∧ InR z := by
        have h1 := hdv.2
        unfold InR at h1 ⊢
        rw [IntKind.wrap_i64] at hz
        omega
      have HU3 := Lib.hid (badP_in HU.out HK.out hd hzr.2)
      have HT3 := Lib.hid (told_badP HK.out hd hzr.1)
      have HN3 : Hid ((usesL (badP g kk d z)).length ≤ 1000000000) := Nat.le_trans (badP_len g kk d z) (by have := HNS.out; omega)
      have HN2 : Hid ((usesL (declP g)).length ≤ 1000000000) := Nat.le_trans (decl_len g) (by have := HNS.out; omega)
      have HU2 : Hid (∀ u ∈ usesL (declP g), DeV u) := fun u hu => HU.out u (decl_sub g u hu)
      have HV : Hid (∀ u ∈ (firsts (usesL g)), DeV u) := fun u hu => HU.out u (firsts_sub _ u hu)
      have HD := Lib.hid hd
      obtain ⟨dp, dar⟩ := d
      simp only at hz hzr
      have hzw := hz.symm
      have HM0 := Lib.hid hm0
      have HM1 := Lib.hid hm1
      have HML : Hid ((badL (firsts (usesL g)) kk ⟨dp, dar⟩ z).length + 1 ≤ maxLen ∧ ((badL (firsts (usesL g)) kk ⟨dp, dar⟩ z).length + 1) * 24 ≤ 140737488355328) := by
        show _ ∧ _
        unfold badL
        rw [List.length_set, ← hm0]
        unfold maxLen
        omega
      have HML2 : Hid ((badL (firsts (usesL g)) kk ⟨dp, dar⟩ z ++ ([⟨dp, dar⟩] : List De)).length ≤ maxLen) := by
        show _ ≤ _
        rw [List.length_append]
        exact HML.out.1
      clear hd hz hzr hdv hT hF hm0 hm1 h0 HNS hkl
      go_enter Try.func6, Try.ntmps6
      go_wp2_with (first
        | (go_at_call 8; refine (shown_any _).mono ?_; rintro e w1 ⟨rfl, hb1⟩; obtain ⟨c0, c1⟩ := box2 hb1; have HB1 : Hid (Below (w.alloc (.cells #[.slice xo g.decls.length xc, .slice yo g.rules.length yc] 25)).heap.size (w.alloc (.cells #[.slice xo g.decls.length xc, .slice yo g.rules.length yc] 25)) w1) := hb1; clear hb1)
        | (go_at_call 9; refine (few_any g _ _ w1 (HX.out.below stayDe HB1.out) (HY.out.below stayRu HB1.out) HN.out).mono ?_; rintro e w2 ⟨he, hb2⟩; rw [← HF.out] at he; subst he; have hB2 := HB1.out.trans (hb2.mono HB1.out.size); obtain ⟨d0, d1⟩ := box2 hB2; have HB2 : Hid (Below (w.alloc (.cells #[.slice xo g.decls.length xc, .slice yo g.rules.length yc] 25)).heap.size (w.alloc (.cells #[.slice xo g.decls.length xc, .slice yo g.rules.length yc] 25)) w2) := hB2; have HQ1 := Lib.hid (of_any g _ _ w2 (HX.out.below stayDe hB2) (HY.out.below stayRu hB2) HU.out HN.out); clear hb2 hB2 c0 c1)
        | (go_at_call 10; (with_reducible refine HQ1.out.mono ?_); clear HQ1; intro e w3 h3; obtain ⟨v3, he3, hd3, hb3⟩ := h3.des HN.out; rw [HT.out] at he3 hd3; obtain rfl : e = .returned (.tuple #[v3, .int .i64 0, .int .i64 0]) := he3; obtain ⟨o3, n3, s3, rfl, hn3⟩ := hd3.formN; rw [← HM0.out] at hn3; subst hn3; have hB3 := HB2.out.trans (hb3.mono HB2.out.size); obtain ⟨e0, e1⟩ := box2 hB3; have HB3 : Hid (Below (w.alloc (.cells #[.slice xo g.decls.length xc, .slice yo g.rules.length yc] 25)).heap.size (w.alloc (.cells #[.slice xo g.decls.length xc, .slice yo g.rules.length yc] 25)) w3) := hB3; obtain ⟨b, off, cs, rfl, hbl, hR, hcell⟩ := hd3.at kk HK.out; obtain rfl : cs = _ := hR; rw [← HD.out] at hcell; have q0 := hcell 0 _ rfl; have q1 := hcell 1 _ rfl; simp only [Nat.add_zero] at q0; clear hcell; have HD3 := Lib.hid hd3; have HQ2 : Hid (∀ W', Below w3.heap.size w3 W' → Calls Try.prog 10 #[.agg #[.slice (some ⟨b, off, none⟩) n3 s3, .slice yo g.rules.length yc]] W' (OfOut W' (usesL (declP g)))) := (fun W' hb => of_any (declP g) _ _ W' (HD3.out.below stayDe hb) ((HY.out.below stayRu HB3.out).below stayRu hb) HU2.out HN2.out); clear h3 hb3 hd3 hB3 d0 d1)
        | (go_at_call 10; (with_reducible refine (HQ2.out _ (al_bel _ _)).mono ?_); clear HQ2; intro e w4 h4; obtain ⟨v4, he4, hd4, hb4⟩ := h4.des HN2.out; rw [HT2.out] at he4 hd4; obtain rfl : e = .returned (.tuple #[v4, .int .i64 0, .int .i64 0]) := he4; obtain ⟨o4, n4, s4, rfl, hn4⟩ := hd4.formN; have hb34 := (al_bel w3 _).trans (hb4.mono (by simp)); have q2 := (hb34.cell (p := ⟨b, _, none⟩) hbl).trans q0; have q3 := (hb34.cell (p := ⟨b, _, none⟩) hbl).trans q1; have hbl4 : b < w4.heap.size := Nat.lt_of_lt_of_le hbl hb34.size; have HL4 := Lib.hid (HD3.out.below stayDe hb34); have HM4 := Lib.hid hd4; have hB4 := HB3.out.trans (hb34.mono HB3.out.size); have HB4 : Hid (Below (w.alloc (.cells #[.slice xo g.decls.length xc, .slice yo g.rules.length yc] 25)).heap.size (w.alloc (.cells #[.slice xo g.decls.length xc, .slice yo g.rules.length yc] 25)) w4) := hB4; obtain ⟨c0, c1⟩ := box2 hB4; clear h4 hb4 hd4 hB4 hn4 hb34 q0 q1 hbl HD3 e0 e1)
        | (at_builtin; refine wpList_append_all rfl _ _ 22 rfl elDe cellRDe w4.heap.size _ [] rfl (OwnW.made (by simp) (heap1L _ _)) _ (firsts (usesL g)) rfl HL4.out (al_bel _ _) (by have := HM0.out; have := HM1.out; unfold maxLen; simp; omega) (by have := HM0.out; have := HM1.out; simp; omega) (by simp) ?_; intro v5 w5 h5 hb5 hg5 hl5; clear hg5 hl5; rw [List.nil_append] at h5; obtain ⟨g5, cap5, hv5, hc5, hBg, hg5, s0, s1, fz, hset⟩ := own_ar h5 HK.out; rw [← HM0.out] at hv5 hc5; subst hv5; rw [← HD.out] at s0 s1 hset; have HSET := Lib.hid hset; have hb45 := (al_bel w4 _).trans (hb5.mono (by simp)); have q4 := (hb45.cell (p := ⟨b, _, none⟩) hbl4).trans q2; have q5 := (hb45.cell (p := ⟨b, _, none⟩) hbl4).trans q3; have c2 := (hb45.cell (p := ⟨w.heap.size, 0, none⟩) (show w.heap.size < w4.heap.size from (by have := HB4.out.size; simp at this; omega))).trans c0; have c3 := (hb45.cell (p := ⟨w.heap.size, 1, none⟩) (show w.heap.size < w4.heap.size from (by have := HB4.out.size; simp at this; omega))).trans c1; have HB45 := Lib.hid hb45; clear h5 hb5 hset hb45 c0 c1 q2 q3))
      have ho6 := HSET.out z
      have hb56 : Below w4.heap.size w5 (w5.setCell ⟨g5, kk * 2 + 1, none⟩ (.int .i64 z)) := (Below.refl _ _).setCell (p := ⟨g5, kk * 2 + 1, none⟩) hBg _
      have hl0 : w.heap.size < w4.heap.size := by have := HB4.out.size; simp at this; omega
      have q6 := (hb56.cell (p := ⟨b, _, none⟩) hbl4).trans q4
      have q7 := (hb56.cell (p := ⟨b, _, none⟩) hbl4).trans q5
      have c4 := (hb56.cell (p := ⟨w.heap.size, 0, none⟩) hl0).trans c2
      have c5 := (hb56.cell (p := ⟨w.heap.size, 1, none⟩) hl0).trans c3
      have hb46 := HB45.out.trans hb56
      generalize w5.setCell ⟨g5, kk * 2 + 1, none⟩ (.int .i64 z) = w6 at *
      have HO6 := Lib.hid ho6
      have HL0 := Lib.hid hl0
      have HBL := Lib.hid hbl4
      have HBr := Lib.hid (show w6.cell? ⟨w.heap.size, 0, none⟩ = some (.slice xo g.decls.length xc) ∧ w6.cell? ⟨w.heap.size, 1, none⟩ = some (.slice yo g.rules.length yc) ∧ w6.cell? ⟨b, off + kk * 2, none⟩ = some (.string dp) ∧ w6.cell? ⟨b, off + kk * 2 + 1, none⟩ = some (.int .i64 dar) ∧ w4.heap.size ≤ w6.heap.size ∧ Below w4.heap.size w4 w6 from ⟨c4, c5, q6, q7, hb46.size, hb46⟩)
      have ht3 := HT3.out
      rw [← HM0.out] at ht3
      have HT3 := Lib.hid ht3
      clear ho6 hb56 hl0 q4 q5 c2 c3 q6 q7 c4 c5 hb46 HSET HB45 hBg hg5 s0 s1 fz hbl4 ht3
      go_region_held3 (fun w' => w'.cell? ⟨w.heap.size, 0, none⟩ = some (.slice xo g.decls.length xc) ∧ w'.cell? ⟨w.heap.size, 1, none⟩ = some (.slice yo g.rules.length yc) ∧ w'.cell? ⟨b, off + kk * 2, none⟩ = some (.string dp) ∧ w'.cell? ⟨b, off + kk * 2 + 1, none⟩ = some (.int .i64 dar) ∧ w4.heap.size ≤ w'.heap.size ∧ Below w4.heap.size w4 w')
        (first | assumption | exact dk_drew HBr.out | exact HBr.out | exact dk_alloc HL0.out HBL.out (by assumption) _)
        (first
          | (go_at_call 10; refine (of_any (badP g kk ⟨dp, dar⟩ z) _ _ _ (HD7.out.below stayDe (by first | exact Below.refl _ _ | exact al_bel _ _)) ((HY.out.below stayRu HB4.out).below stayRu (by go_split_ands; assumption)) HU3.out HN3.out).mono ?_; intro e w8 h8; obtain ⟨v8, he8, hd8, hb8⟩ := h8.des HN3.out; rw [HT3.out] at he8 hd8; obtain rfl : e = .returned (.tuple #[v8, .int .i64 (n3 : Nat), .int .i64 5]) := he8; obtain ⟨o8, n8, t8, rfl, hn8⟩ := hd8.formN; obtain rfl : n8 = 0 := hn8; have hS8 := dk_keep HL0.out HBL.out (by assumption) (hb8.mono (by go_split_ands; assumption)); clear h8 hb8 hd8)
          | (refine step_append_one (w0 := w4) rfl (.tmp 66) (.tmp 71) 22 rfl elDe w4.heap.size (.slice (some ⟨g5, 0, none⟩) n3 cap5) (badL (firsts (usesL g)) kk ⟨dp, dar⟩ z) rfl (by first | exact HO6.out.far (fun _ _ => rfl) | exact (HO6.out.below (al_bel _ (.cells #[.string dp, .int .i64 dar] 39))).far (fun _ _ => rfl)) _ 1 rfl ⟨dp, dar⟩ [.string dp, .int .i64 dar] (cellW_de w4 ⟨dp, dar⟩) #[.string dp, .int .i64 dar] (by exact heap1L _ _) rfl HML.out.1 HML.out.2 (by first | omega | (simp; omega)) ?_; intro v7 w7 ho7 hb7 hz7; have hS7 := dk_keep HL0.out HBL.out (by assumption) hb7; have hd7 : Des w7 v7 (badP g kk ⟨dp, dar⟩ z).decls := ho7.rd stayDe hS7.2.2.2.2.2 HML2.out; have HD7 := Lib.hid hd7; obtain ⟨vo, nv, vc, hv7, hnv⟩ := ho7.formN; subst hv7; clear ho7 hb7 hz7 hd7 hnv))
      all_goals
        clear HO6 HD7 hS7
        obtain ⟨a0, a1, a2, a3, a4, a5⟩ := hS8
        have HSM := Lib.hid (rsame_any (HL4.out.below stayDe a5) (HM4.out.below stayDe a5) HV.out)
        have HB8 : Hid (Below (w.alloc (.cells #[.slice xo g.decls.length xc, .slice yo g.rules.length yc] 25)).heap.size (w.alloc (.cells #[.slice xo g.decls.length xc, .slice yo g.rules.length yc] 25)) w8) := HB4.out.trans (a5.mono HB4.out.size)
        clear a5
        go_wp2_with (go_at_call 14; refine HSM.out.mono ?_; rintro e w9 ⟨rfl, hb9⟩; have HB9 : Hid (Below (w.alloc (.cells #[.slice xo g.decls.length xc, .slice yo g.rules.length yc] 25)).heap.size (w.alloc (.cells #[.slice xo g.decls.length xc, .slice yo g.rules.length yc] 25)) w9) := HB8.out.trans (hb9.mono HB8.out.size); clear hb9)
        go_ret
        exact ⟨rfl, out_of HW.out HB9.out⟩
  · have HT := Lib.hid hT
    clear hT hF hbk
    go_enter Try.func6, Try.ntmps6
    go_wp2_with (first
      | (go_at_call 8; refine (shown_any _).mono ?_; rintro e w1 ⟨rfl, hb1⟩; obtain ⟨c0, c1⟩ := box2 hb1; have HB1 : Hid (Below (w.alloc (.cells #[.slice xo g.decls.length xc, .slice yo g.rules.length yc] 25)).heap.size (w.alloc (.cells #[.slice xo g.decls.length xc, .slice yo g.rules.length yc] 25)) w1) := hb1; clear hb1)
      | (go_at_call 9; refine (few_any g _ _ w1 (HX.out.below stayDe HB1.out) (HY.out.below stayRu HB1.out) HN.out).mono ?_; rintro e w2 ⟨he, hb2⟩; rw [← HF.out] at he; subst he; have hB2 := HB1.out.trans (hb2.mono HB1.out.size); obtain ⟨d0, d1⟩ := box2 hB2; have HB2 : Hid (Below (w.alloc (.cells #[.slice xo g.decls.length xc, .slice yo g.rules.length yc] 25)).heap.size (w.alloc (.cells #[.slice xo g.decls.length xc, .slice yo g.rules.length yc] 25)) w2) := hB2; clear hb2 hB2 c0 c1)
      | (go_at_call 10; refine (of_any g _ _ w2 (HX.out.below stayDe HB2.out) (HY.out.below stayRu HB2.out) HU.out HN.out).mono ?_; intro e w3 h3; obtain ⟨v3, he3, hd3, hb3⟩ := h3.des HN.out; rw [HT.out] at he3 hd3; obtain rfl : e = .returned (.tuple #[v3, .int .i64 (bk : Nat), .int .i64 5]) := he3; obtain ⟨o3, n3, s3, rfl, hn3⟩ := hd3.formN; have HN3 := Lib.hid hn3; have hB3 := HB2.out.trans (hb3.mono HB2.out.size); obtain ⟨e0, e1⟩ := box2 hB3; have HB3 : Hid (Below (w.alloc (.cells #[.slice xo g.decls.length xc, .slice yo g.rules.length yc] 25)).heap.size (w.alloc (.cells #[.slice xo g.decls.length xc, .slice yo g.rules.length yc] 25)) w3) := hB3; have HD3 := Lib.hid hd3; clear h3 hb3 hd3 hB3 hn3 d0 d1))
    go_ret
    exact ⟨rfl, out_of HW.out HB3.out⟩
end Go.Proofs.Ytadccjcmiajdeaa
