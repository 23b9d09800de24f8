/-
  ArityFirst's walk.
-/
import Derived.Test.YtadccjcmiajdeaaAFirstP
import Derived.Test.YtadccjcmiajdeaaQPack
namespace Go.Proofs.Ytadccjcmiajdeaa
set_option linter.unusedSimpArgs false
set_option linter.unusedVariables false
set_option linter.unusedSectionVars false
set_option maxRecDepth 100000
open Go.RowKit Go.Maps

/-- The boxes in which a program and a rule lie. -/
theorem box5 {w W : World} {x y z0 z1 z2 : Value} {t1 t2 : TypeId} (h : Below ((w.alloc (.cells #[x, y] t1)).alloc (.cells #[z0, z1, z2] t2)).heap.size ((w.alloc (.cells #[x, y] t1)).alloc (.cells #[z0, z1, z2] t2)) W) :
    W.cell? ⟨w.heap.size, 0, none⟩ = some x ∧ W.cell? ⟨w.heap.size, 1, none⟩ = some y ∧ W.cell? ⟨w.heap.size + 1, 0, none⟩ = some z0 ∧ W.cell? ⟨w.heap.size + 1, 1, none⟩ = some z1 ∧ W.cell? ⟨w.heap.size + 1, 2, none⟩ = some z2 := by
  have ha : Blk ((w.alloc (.cells #[x, y] t1)).alloc (.cells #[z0, z1, z2] t2)) w.heap.size #[x, y] t1 := heap1oL _ _ _
  have hb : Blk ((w.alloc (.cells #[x, y] t1)).alloc (.cells #[z0, z1, z2] t2)) (w.heap.size + 1) #[z0, z1, z2] t2 := heap2L _ _ _
  have ha := ha.below h
  have hb := hb.below h
  exact ⟨ha.cell 0, ha.cell 1, hb.cell 0, hb.cell 1, hb.cell 2⟩
theorem fr_keep {W0 W3 W W' : World} {n : Nat} {b : Nat} {x y z0 z1 z2 : Value} (l0 : b + 1 < n) (hn : W0.heap.size ≤ n)
    (h : W.cell? ⟨b, 0, none⟩ = some x ∧ W.cell? ⟨b, 1, none⟩ = some y ∧ W.cell? ⟨b + 1, 0, none⟩ = some z0 ∧ W.cell? ⟨b + 1, 1, none⟩ = some z1 ∧ W.cell? ⟨b + 1, 2, none⟩ = some z2 ∧ n ≤ W.heap.size ∧ Below n W3 W ∧ Below W0.heap.size W0 W) (hb : Below n W W') :
    W'.cell? ⟨b, 0, none⟩ = some x ∧ W'.cell? ⟨b, 1, none⟩ = some y ∧ W'.cell? ⟨b + 1, 0, none⟩ = some z0 ∧ W'.cell? ⟨b + 1, 1, none⟩ = some z1 ∧ W'.cell? ⟨b + 1, 2, none⟩ = some z2 ∧ n ≤ W'.heap.size ∧ Below n W3 W' ∧ Below W0.heap.size W0 W' := by
  obtain ⟨h0, h1, h2, h3, h4, h5, h7, h6⟩ := h
  have l1 : b < n := by omega
  exact ⟨(hb.cell (p := ⟨b, _, none⟩) l1).trans h0, (hb.cell (p := ⟨b, _, none⟩) l1).trans h1, (hb.cell (p := ⟨b + 1, _, none⟩) l0).trans h2, (hb.cell (p := ⟨b + 1, _, none⟩) l0).trans h3, (hb.cell (p := ⟨b + 1, _, none⟩) l0).trans h4, Nat.le_trans h5 hb.size, h7.trans hb, h6.trans (hb.mono hn)⟩
theorem fr_drew {W0 W3 W : World} {n : Nat} {b : Nat} {x y z0 z1 z2 : Value}
    (h : W.cell? ⟨b, 0, none⟩ = some x ∧ W.cell? ⟨b, 1, none⟩ = some y ∧ W.cell? ⟨b + 1, 0, none⟩ = some z0 ∧ W.cell? ⟨b + 1, 1, none⟩ = some z1 ∧ W.cell? ⟨b + 1, 2, none⟩ = some z2 ∧ n ≤ W.heap.size ∧ Below n W3 W ∧ Below W0.heap.size W0 W) :
    W.drew.cell? ⟨b, 0, none⟩ = some x ∧ W.drew.cell? ⟨b, 1, none⟩ = some y ∧ W.drew.cell? ⟨b + 1, 0, none⟩ = some z0 ∧ W.drew.cell? ⟨b + 1, 1, none⟩ = some z1 ∧ W.drew.cell? ⟨b + 1, 2, none⟩ = some z2 ∧ n ≤ W.drew.heap.size ∧ Below n W3 W.drew ∧ Below W0.heap.size W0 W.drew :=
  ⟨h.1, h.2.1, h.2.2.1, h.2.2.2.1, h.2.2.2.2.1, h.2.2.2.2.2.1, h.2.2.2.2.2.2.1.drew, h.2.2.2.2.2.2.2.drew⟩
theorem fr_alloc {W0 W3 W : World} {n : Nat} {b : Nat} {x y z0 z1 z2 : Value} (l0 : b + 1 < n) (hn : W0.heap.size ≤ n)
    (h : W.cell? ⟨b, 0, none⟩ = some x ∧ W.cell? ⟨b, 1, none⟩ = some y ∧ W.cell? ⟨b + 1, 0, none⟩ = some z0 ∧ W.cell? ⟨b + 1, 1, none⟩ = some z1 ∧ W.cell? ⟨b + 1, 2, none⟩ = some z2 ∧ n ≤ W.heap.size ∧ Below n W3 W ∧ Below W0.heap.size W0 W) (o : Obj) :
    (W.alloc o).cell? ⟨b, 0, none⟩ = some x ∧ (W.alloc o).cell? ⟨b, 1, none⟩ = some y ∧ (W.alloc o).cell? ⟨b + 1, 0, none⟩ = some z0 ∧ (W.alloc o).cell? ⟨b + 1, 1, none⟩ = some z1 ∧ (W.alloc o).cell? ⟨b + 1, 2, none⟩ = some z2 ∧ n ≤ (W.alloc o).heap.size ∧ Below n W3 (W.alloc o) ∧ Below W0.heap.size W0 (W.alloc o) :=
  fr_keep l0 hn h ((Below.refl _ _).alloc h.2.2.2.2.2.1 _)

set_option maxHeartbeats 16000000 in
theorem first_walk {g : Pr} {r : Ru} {x y hx' hy' : Value} {w : World} (hx : Des w x g.decls) (hy : Rus w y g.rules) (hI : InPr g) (hs : szPr g ≤ 1048576) (hh : Tms w hx' r.head.args) (hb : Lts w hy' r.body) (hr : szRu r ≤ 1048576) :
    Calls Try.prog 7 #[.agg #[x, y], .agg #[.string r.head.p, hx', hy']] w fun e w' => e = .returned (.bool true) ∧ Below w.heap.size w w' := by
  obtain ⟨hu, hn⟩ := uses_in hI hs
  obtain ⟨xo, xc, rfl, -⟩ := hx.form
  obtain ⟨yo, yc, rfl, -⟩ := hy.form
  obtain ⟨ho, hc, rfl, -⟩ := hh.form
  obtain ⟨bo, bc, rfl, -⟩ := hb.form
  have HW : Hid (Below w.heap.size w ((w.alloc (.cells #[.slice xo g.decls.length xc, .slice yo g.rules.length yc] 25)).alloc (.cells #[.string r.head.p, .slice ho r.head.args.length hc, .slice bo r.body.length bc] 46))) := (al_bel w _).alloc (by simp) _
  have HX := Lib.hid (hx.below stayDe HW.out)
  have HY := Lib.hid (hy.below stayRu HW.out)
  have HR : Hid (CellW RuI 3 ((w.alloc (.cells #[.slice xo g.decls.length xc, .slice yo g.rules.length yc] 25)).alloc (.cells #[.string r.head.p, .slice ho r.head.args.length hc, .slice bo r.body.length bc] 46)) r [.string r.head.p, .slice ho r.head.args.length hc, .slice bo r.body.length bc]) := ⟨rfl, by simp [Value.oneCell'], _, _, rfl, hh.below stayTm HW.out, hb.below stayLt HW.out⟩
  have HU := Lib.hid hu
  have hum := uses_in_ru hr
  have HU2 : Hid (∀ u ∈ usesL (moreP g r), DeV u) := fun u hq => by
    rw [uses_more] at hq
    rcases List.mem_append.1 hq with hq | hq
    · exact hu u hq
    · exact hum u hq
  have hbl : r.body.length ≤ 1048576 := by
    have h1 := sum_len szLt 2 (fun l => by unfold szLt; omega) r.body
    unfold szRu szLts at hr
    omega
  have HN : Hid ((usesL g).length ≤ 1000000000) := by show _ ≤ _; omega
  have HN2 : Hid ((usesL (moreP g r)).length ≤ 1000000000) := by
    show _ ≤ _
    rw [uses_more, List.length_append]
    have := ats_len r
    omega
  have hrl : g.rules.length ≤ 1048576 := by
    have h1 := sum_len szRu 1 (fun r => by unfold szRu; omega) g.rules
    unfold szPr szRus at hs
    omega
  have HML : Hid ((([] ++ g.rules) ++ [r]).length ≤ maxLen) := by
    show _ ≤ _
    simp
    unfold maxLen
    omega
  obtain ⟨f, hf⟩ : ∃ f, f = decide ((usesL g).length ≤ 300) := ⟨_, rfl⟩
  have HF := Lib.hid hf
  clear hx hy hh hb hu hn hf hI hs hr hum
  cases f
  · go_enter Try.func7, Try.ntmps7
    go_wp2_with (first
      | (go_at_call 8; refine (shown_any _).mono ?_; rintro e w1 ⟨rfl, hb1⟩; obtain ⟨x0, x1, y0, y1, y2⟩ := box5 hb1; have HB1 : Hid (Below ((w.alloc (.cells #[.slice xo g.decls.length xc, .slice yo g.rules.length yc] 25)).alloc (.cells #[.string r.head.p, .slice ho r.head.args.length hc, .slice bo r.body.length bc] 46)).heap.size ((w.alloc (.cells #[.slice xo g.decls.length xc, .slice yo g.rules.length yc] 25)).alloc (.cells #[.string r.head.p, .slice ho r.head.args.length hc, .slice bo r.body.length bc] 46)) w1) := hb1; clear hb1)
      | (go_at_call 9; refine (few_any g _ _ w1 (HX.out.below stayDe HB1.out) (HY.out.below stayRu HB1.out) HN.out).mono ?_; rintro e w2 ⟨he, hb2⟩; rw [← HF.out] at he; subst he; have hB2 := HB1.out.trans (hb2.mono HB1.out.size); obtain ⟨p0, p1, q0, q1, q2⟩ := box5 hB2; have HB2 : Hid (Below ((w.alloc (.cells #[.slice xo g.decls.length xc, .slice yo g.rules.length yc] 25)).alloc (.cells #[.string r.head.p, .slice ho r.head.args.length hc, .slice bo r.body.length bc] 46)).heap.size ((w.alloc (.cells #[.slice xo g.decls.length xc, .slice yo g.rules.length yc] 25)).alloc (.cells #[.string r.head.p, .slice ho r.head.args.length hc, .slice bo r.body.length bc] 46)) w2) := hB2; clear hb2 hB2 x0 x1 y0 y1 y2))
    go_ret
    exact ⟨rfl, out_of HW.out HB2.out⟩
  by_cases h50 : (50 : Int) < (r.body.length : Int)
  · go_enter Try.func7, Try.ntmps7
    go_wp2_with (first
      | (go_at_call 8; refine (shown_any _).mono ?_; rintro e w1 ⟨rfl, hb1⟩; obtain ⟨x0, x1, y0, y1, y2⟩ := box5 hb1; have HB1 : Hid (Below ((w.alloc (.cells #[.slice xo g.decls.length xc, .slice yo g.rules.length yc] 25)).alloc (.cells #[.string r.head.p, .slice ho r.head.args.length hc, .slice bo r.body.length bc] 46)).heap.size ((w.alloc (.cells #[.slice xo g.decls.length xc, .slice yo g.rules.length yc] 25)).alloc (.cells #[.string r.head.p, .slice ho r.head.args.length hc, .slice bo r.body.length bc] 46)) w1) := hb1; clear hb1)
      | (go_at_call 9; refine (few_any g _ _ w1 (HX.out.below stayDe HB1.out) (HY.out.below stayRu HB1.out) HN.out).mono ?_; rintro e w2 ⟨he, hb2⟩; rw [← HF.out] at he; subst he; have hB2 := HB1.out.trans (hb2.mono HB1.out.size); obtain ⟨p0, p1, q0, q1, q2⟩ := box5 hB2; have HB2 : Hid (Below ((w.alloc (.cells #[.slice xo g.decls.length xc, .slice yo g.rules.length yc] 25)).alloc (.cells #[.string r.head.p, .slice ho r.head.args.length hc, .slice bo r.body.length bc] 46)).heap.size ((w.alloc (.cells #[.slice xo g.decls.length xc, .slice yo g.rules.length yc] 25)).alloc (.cells #[.string r.head.p, .slice ho r.head.args.length hc, .slice bo r.body.length bc] 46)) w2) := hB2; clear hb2 hB2 x0 x1 y0 y1 y2))
    go_ret
    exact ⟨rfl, out_of HW.out HB2.out⟩
  have HO := Lib.hid (told_or (usesL g))
  rcases HO.out with ⟨hF, hT⟩ | ⟨hF, bk, hbk, hT⟩
  · have HT := Lib.hid hT
    have HM := Lib.hid (told_more ((atomsL r).map useOf) hF)
    rw [← uses_more] at HM
    clear hT hF HO
    rcases HM.out with ⟨hF2, hT2⟩ | ⟨ck, hck, hT2⟩
    · have HT2 := Lib.hid hT2
      have HLE : Hid ((firsts (usesL g)).length ≤ (firsts (usesL (moreP g r))).length ∧ (firsts (usesL (moreP g r))).take (firsts (usesL g)).length = firsts (usesL g)) := by
        obtain ⟨R, hR⟩ := firsts_more (usesL g) ((atomsL r).map useOf)
        rw [← uses_more] at hR
        rw [hR]
        exact ⟨by simp, by simp⟩
      have HFN : Hid ((firsts (usesL (moreP g r))).length ≤ 1000000000 ∧ ∀ d ∈ firsts (usesL g), DeV d) := ⟨Nat.le_trans (firsts_len (usesL (moreP g r))) HN2.out, fun d hd => HU.out d (firsts_sub _ d hd)⟩
      clear hT2 hF2 HM
      · go_enter Try.func7, Try.ntmps7
        go_wp2_with (first
          | (go_at_call 8; refine (shown_any _).mono ?_; rintro e w1 ⟨rfl, hb1⟩; obtain ⟨x0, x1, y0, y1, y2⟩ := box5 hb1; have HB1 : Hid (Below ((w.alloc (.cells #[.slice xo g.decls.length xc, .slice yo g.rules.length yc] 25)).alloc (.cells #[.string r.head.p, .slice ho r.head.args.length hc, .slice bo r.body.length bc] 46)).heap.size ((w.alloc (.cells #[.slice xo g.decls.length xc, .slice yo g.rules.length yc] 25)).alloc (.cells #[.string r.head.p, .slice ho r.head.args.length hc, .slice bo r.body.length bc] 46)) w1) := hb1; clear hb1)
          | (go_at_call 9; refine (few_any g _ _ w1 (HX.out.below stayDe HB1.out) (HY.out.below stayRu HB1.out) HN.out).mono ?_; rintro e w2 ⟨he, hb2⟩; rw [← HF.out] at he; subst he; have hB2 := HB1.out.trans (hb2.mono HB1.out.size); obtain ⟨p0, p1, q0, q1, q2⟩ := box5 hB2; have HB2 : Hid (Below ((w.alloc (.cells #[.slice xo g.decls.length xc, .slice yo g.rules.length yc] 25)).alloc (.cells #[.string r.head.p, .slice ho r.head.args.length hc, .slice bo r.body.length bc] 46)).heap.size ((w.alloc (.cells #[.slice xo g.decls.length xc, .slice yo g.rules.length yc] 25)).alloc (.cells #[.string r.head.p, .slice ho r.head.args.length hc, .slice bo r.body.length bc] 46)) w2) := hB2; clear hb2 hB2 x0 x1 y0 y1 y2)
          | (go_at_call 10; refine (of_any g _ _ w2 (HX.out.below stayDe HB2.out) (HY.out.below stayRu HB2.out) HU.out HN.out).mono ?_; intro e w3 h3; obtain ⟨v3, he3, hd3, hb3⟩ := h3.des HN.out; rw [HT.out] at he3 hd3; obtain rfl : e = .returned (.tuple #[v3, .int .i64 0, .int .i64 0]) := he3; obtain ⟨o3, n3, s3, rfl, hn3⟩ := hd3.formN; have HN3 := Lib.hid hn3; have hB3 := HB2.out.trans (hb3.mono HB2.out.size); obtain ⟨x0, x1, y0, y1, y2⟩ := box5 hB3; have HB3 : Hid (Below ((w.alloc (.cells #[.slice xo g.decls.length xc, .slice yo g.rules.length yc] 25)).alloc (.cells #[.string r.head.p, .slice ho r.head.args.length hc, .slice bo r.body.length bc] 46)).heap.size ((w.alloc (.cells #[.slice xo g.decls.length xc, .slice yo g.rules.length yc] 25)).alloc (.cells #[.string r.head.p, .slice ho r.head.args.length hc, .slice bo r.body.length bc] 46)) w3) := hB3; have HD3 := Lib.hid hd3; clear h3 hb3 hd3 hB3 hn3 p0 p1 q0 q1 q2))
        have hL0 : w.heap.size + 1 < w3.heap.size := by have := HB3.out.size; simp at this; omega
        have HL0 := Lib.hid hL0
        have hn2 : ((w.alloc (.cells #[.slice xo g.decls.length xc, .slice yo g.rules.length yc] 25)).alloc (.cells #[.string r.head.p, .slice ho r.head.args.length hc, .slice bo r.body.length bc] 46)).heap.size ≤ w3.heap.size := HB3.out.size
        have HHN := Lib.hid hn2
        have HBr := Lib.hid (show w3.cell? ⟨w.heap.size, 0, none⟩ = some (.slice xo g.decls.length xc) ∧ w3.cell? ⟨w.heap.size, 1, none⟩ = some (.slice yo g.rules.length yc) ∧ w3.cell? ⟨w.heap.size + 1, 0, none⟩ = some (.string r.head.p) ∧ w3.cell? ⟨w.heap.size + 1, 1, none⟩ = some (.slice ho r.head.args.length hc) ∧ w3.cell? ⟨w.heap.size + 1, 2, none⟩ = some (.slice bo r.body.length bc) ∧ w3.heap.size ≤ w3.heap.size ∧ Below w3.heap.size w3 w3 ∧ Below ((w.alloc (.cells #[.slice xo g.decls.length xc, .slice yo g.rules.length yc] 25)).alloc (.cells #[.string r.head.p, .slice ho r.head.args.length hc, .slice bo r.body.length bc] 46)).heap.size ((w.alloc (.cells #[.slice xo g.decls.length xc, .slice yo g.rules.length yc] 25)).alloc (.cells #[.string r.head.p, .slice ho r.head.args.length hc, .slice bo r.body.length bc] 46)) w3 from ⟨x0, x1, y0, y1, y2, Nat.le_refl _, Below.refl _ _, HB3.out⟩)
        clear x0 x1 y0 y1 y2 hL0 hn2 HB1 HB2
        go_region_held3 (fun w' => w'.cell? ⟨w.heap.size, 0, none⟩ = some (.slice xo g.decls.length xc) ∧ w'.cell? ⟨w.heap.size, 1, none⟩ = some (.slice yo g.rules.length yc) ∧ w'.cell? ⟨w.heap.size + 1, 0, none⟩ = some (.string r.head.p) ∧ w'.cell? ⟨w.heap.size + 1, 1, none⟩ = some (.slice ho r.head.args.length hc) ∧ w'.cell? ⟨w.heap.size + 1, 2, none⟩ = some (.slice bo r.body.length bc) ∧ w3.heap.size ≤ w'.heap.size ∧ Below w3.heap.size w3 w' ∧ Below ((w.alloc (.cells #[.slice xo g.decls.length xc, .slice yo g.rules.length yc] 25)).alloc (.cells #[.string r.head.p, .slice ho r.head.args.length hc, .slice bo r.body.length bc] 46)).heap.size ((w.alloc (.cells #[.slice xo g.decls.length xc, .slice yo g.rules.length yc] 25)).alloc (.cells #[.string r.head.p, .slice ho r.head.args.length hc, .slice bo r.body.length bc] 46)) w')
          (first | assumption | exact fr_drew HBr.out | exact HBr.out | exact fr_alloc HL0.out HHN.out (by assumption) _)
          (first
            | (refine step_append_all (w0 := ((w.alloc (.cells #[.slice xo g.decls.length xc, .slice yo g.rules.length yc] 25)).alloc (.cells #[.string r.head.p, .slice ho r.head.args.length hc, .slice bo r.body.length bc] 46))) rfl (.tmp 32) (.tmp 34) 23 rfl elRu cellRRu w3.heap.size (.slice (some ⟨_, 0, none⟩) 0 0) [] rfl (OwnW.made (by simp) (by first | exact heap1L _ _ | exact heap2L _ _ _ | exact heap1oL _ _ _)) (.slice yo g.rules.length yc) g.rules rfl HY.out (by go_split_ands; assumption) (by unfold maxLen; simp; omega) (by simp; omega) (by first | omega | (simp; omega) | simp) ?_; intro v1 wa ho1 hb1 hz1; have hwa : w3.heap.size ≤ wa.heap.size := Nat.le_trans (by first | omega | (simp; omega) | simp) hb1.size; have hSa := fr_keep HL0.out HHN.out (by assumption) hb1; have HO1 := Lib.hid ho1; have HZ1 := Lib.hid hz1; clear ho1 hb1 hz1)
            | (go_at_call 10; refine (of_any (moreP g r) _ _ _ (HX.out.below stayDe (by go_split_ands; assumption)) (HR2.out.below stayRu (by first | exact Below.refl _ _ | exact al_bel _ _)) HU2.out HN2.out).mono ?_; intro e w5 h5; obtain ⟨v5, he5, hd5, hb5⟩ := h5.des HN2.out; rw [HT2.out] at he5 hd5; obtain rfl : e = .returned (.tuple #[v5, .int .i64 0, .int .i64 0]) := he5; obtain ⟨o5, n5, t5, rfl, hn5⟩ := hd5.formN; have HN5 := Lib.hid hn5; clear hn5; have hS5 := fr_keep HL0.out HHN.out (by assumption) (hb5.mono (by go_split_ands; assumption)); have HD5 := Lib.hid hd5; clear h5 hb5 hd5)
            | (refine step_append_one (w0 := ((w.alloc (.cells #[.slice xo g.decls.length xc, .slice yo g.rules.length yc] 25)).alloc (.cells #[.string r.head.p, .slice ho r.head.args.length hc, .slice bo r.body.length bc] 46))) rfl (.tmp 35) (.tmp 37) 23 rfl elRu w3.heap.size v1 ([] ++ g.rules) rfl (by first | exact HO1.out | exact HO1.out.below (al_bel _ _)) _ 1 rfl r [.string r.head.p, .slice ho r.head.args.length hc, .slice bo r.body.length bc] HR.out #[.string r.head.p, .slice ho r.head.args.length hc, .slice bo r.body.length bc] (by first | exact heap1L _ _ | exact (HZ1.out _ _ (by first | exact heap1oL _ _ _ | exact heap2L _ _ _) (by simp [Value.ownBlock])).1) rfl (by unfold maxLen; simp; omega) (by simp; omega) (by first | omega | (simp; omega)) ?_; intro v2 wb ho2 hb2 hz2; have hSb := fr_keep HL0.out HHN.out (by assumption) hb2; have hr2 : Rus wb v2 (moreP g r).rules := ho2.rd stayRu hSb.2.2.2.2.2.2.2 HML.out; have HR2 := Lib.hid hr2; obtain ⟨vo, nv, vc, hv2, hnv⟩ := ho2.formN; subst hv2; clear ho2 hb2 hz2 hr2 hnv))

        all_goals
          clear HO1 HZ1 HR2 hSa hSb
          obtain ⟨a0, a1, a2, a3, a4, a5, a6, a7⟩ := hS5
          have h35 : n3 ≤ n5 := by have := HLE.out.1; have := HN3.out; have := HN5.out; omega
          have h35I : (n3 : Int) ≤ (n5 : Int) := by omega
          have hm5 : n5 ≤ maxLen ∧ n5 ≤ t5 := by
            obtain ⟨_, _, e, h1, h2⟩ := HD5.out.form
            cases e
            rw [← HN5.out] at h1 h2
            exact ⟨h2, h1⟩
          have hrun : ∀ W, (Instr.slice 22 (.slice o5 n5 t5) none (some (.int .i64 (n3 : Int))) none).run Try.prog W = .ok (sliced o5 0 n3 t5 2) W := fun W => by
            have hm := hm5.2
            rw [run_slice_h (P := Try.prog) W _ _ _ _ (sizeOf_el elDe W).2 .i64 (n3 : Int) (by omega) (by omega), (sizeOf_el elDe W).1]
            simp [Result.andThen]
          clear hm5
          have hcut : Des w5 (sliced o5 0 n3 t5 2) (firsts (usesL g)) := by
            have h5 : Des w5 (.slice o5 (firsts (usesL (moreP g r))).length t5) (firsts (usesL (moreP g r))) := by rw [← HN5.out]; exact HD5.out
            have := (h5.sliced (i := 0) (j := n3) (Nat.zero_le _) (by rw [← HN5.out]; exact h35)).1
            rw [List.drop_zero, HN3.out, HLE.out.2] at this
            rw [HN3.out]
            exact this
          obtain ⟨z, hz⟩ : ∃ z, z = sliced o5 0 n3 t5 2 := ⟨_, rfl⟩
          rw [← hz] at hrun hcut
          have hl5 : Des w5 (.slice o3 n3 s3) (firsts (usesL g)) := HD3.out.below stayDe a6
          have HSM := Lib.hid (rsame_any hcut hl5 HFN.out.2)
          have HB5 := Lib.hid a7
          clear hcut hl5 hz HD5 HLE HD3
          go_wp2_with (go_at_call 14; refine HSM.out.mono ?_; rintro e w6 ⟨rfl, hb6⟩; have HB6 : Hid (Below ((w.alloc (.cells #[.slice xo g.decls.length xc, .slice yo g.rules.length yc] 25)).alloc (.cells #[.string r.head.p, .slice ho r.head.args.length hc, .slice bo r.body.length bc] 46)).heap.size ((w.alloc (.cells #[.slice xo g.decls.length xc, .slice yo g.rules.length yc] 25)).alloc (.cells #[.string r.head.p, .slice ho r.head.args.length hc, .slice bo r.body.length bc] 46)) w6) := HB5.out.trans (hb6.mono HB5.out.size); clear hb6)
          go_ret
          exact ⟨rfl, out_of HW.out HB6.out⟩
    · have HM := Lib.hid hT2
      have HCK := Lib.hid hck
      clear hT2 hck
      · go_enter Try.func7, Try.ntmps7
        go_wp2_with (first
          | (go_at_call 8; refine (shown_any _).mono ?_; rintro e w1 ⟨rfl, hb1⟩; obtain ⟨x0, x1, y0, y1, y2⟩ := box5 hb1; have HB1 : Hid (Below ((w.alloc (.cells #[.slice xo g.decls.length xc, .slice yo g.rules.length yc] 25)).alloc (.cells #[.string r.head.p, .slice ho r.head.args.length hc, .slice bo r.body.length bc] 46)).heap.size ((w.alloc (.cells #[.slice xo g.decls.length xc, .slice yo g.rules.length yc] 25)).alloc (.cells #[.string r.head.p, .slice ho r.head.args.length hc, .slice bo r.body.length bc] 46)) w1) := hb1; clear hb1)
          | (go_at_call 9; refine (few_any g _ _ w1 (HX.out.below stayDe HB1.out) (HY.out.below stayRu HB1.out) HN.out).mono ?_; rintro e w2 ⟨he, hb2⟩; rw [← HF.out] at he; subst he; have hB2 := HB1.out.trans (hb2.mono HB1.out.size); obtain ⟨p0, p1, q0, q1, q2⟩ := box5 hB2; have HB2 : Hid (Below ((w.alloc (.cells #[.slice xo g.decls.length xc, .slice yo g.rules.length yc] 25)).alloc (.cells #[.string r.head.p, .slice ho r.head.args.length hc, .slice bo r.body.length bc] 46)).heap.size ((w.alloc (.cells #[.slice xo g.decls.length xc, .slice yo g.rules.length yc] 25)).alloc (.cells #[.string r.head.p, .slice ho r.head.args.length hc, .slice bo r.body.length bc] 46)) w2) := hB2; clear hb2 hB2 x0 x1 y0 y1 y2)
          | (go_at_call 10; refine (of_any g _ _ w2 (HX.out.below stayDe HB2.out) (HY.out.below stayRu HB2.out) HU.out HN.out).mono ?_; intro e w3 h3; obtain ⟨v3, he3, hd3, hb3⟩ := h3.des HN.out; rw [HT.out] at he3 hd3; obtain rfl : e = .returned (.tuple #[v3, .int .i64 0, .int .i64 0]) := he3; obtain ⟨o3, n3, s3, rfl, hn3⟩ := hd3.formN; have HN3 := Lib.hid hn3; have hB3 := HB2.out.trans (hb3.mono HB2.out.size); obtain ⟨x0, x1, y0, y1, y2⟩ := box5 hB3; have HB3 : Hid (Below ((w.alloc (.cells #[.slice xo g.decls.length xc, .slice yo g.rules.length yc] 25)).alloc (.cells #[.string r.head.p, .slice ho r.head.args.length hc, .slice bo r.body.length bc] 46)).heap.size ((w.alloc (.cells #[.slice xo g.decls.length xc, .slice yo g.rules.length yc] 25)).alloc (.cells #[.string r.head.p, .slice ho r.head.args.length hc, .slice bo r.body.length bc] 46)) w3) := hB3; have HD3 := Lib.hid hd3; clear h3 hb3 hd3 hB3 hn3 p0 p1 q0 q1 q2))
        have hL0 : w.heap.size + 1 < w3.heap.size := by have := HB3.out.size; simp at this; omega
        have HL0 := Lib.hid hL0
        have hn2 : ((w.alloc (.cells #[.slice xo g.decls.length xc, .slice yo g.rules.length yc] 25)).alloc (.cells #[.string r.head.p, .slice ho r.head.args.length hc, .slice bo r.body.length bc] 46)).heap.size ≤ w3.heap.size := HB3.out.size
        have HHN := Lib.hid hn2
        have HBr := Lib.hid (show w3.cell? ⟨w.heap.size, 0, none⟩ = some (.slice xo g.decls.length xc) ∧ w3.cell? ⟨w.heap.size, 1, none⟩ = some (.slice yo g.rules.length yc) ∧ w3.cell? ⟨w.heap.size + 1, 0, none⟩ = some (.string r.head.p) ∧ w3.cell? ⟨w.heap.size + 1, 1, none⟩ = some (.slice ho r.head.args.length hc) ∧ w3.cell? ⟨w.heap.size + 1, 2, none⟩ = some (.slice bo r.body.length bc) ∧ w3.heap.size ≤ w3.heap.size ∧ Below w3.heap.size w3 w3 ∧ Below ((w.alloc (.cells #[.slice xo g.decls.length xc, .slice yo g.rules.length yc] 25)).alloc (.cells #[.string r.head.p, .slice ho r.head.args.length hc, .slice bo r.body.length bc] 46)).heap.size ((w.alloc (.cells #[.slice xo g.decls.length xc, .slice yo g.rules.length yc] 25)).alloc (.cells #[.string r.head.p, .slice ho r.head.args.length hc, .slice bo r.body.length bc] 46)) w3 from ⟨x0, x1, y0, y1, y2, Nat.le_refl _, Below.refl _ _, HB3.out⟩)
        clear x0 x1 y0 y1 y2 hL0 hn2 HB1 HB2
        go_region_held3 (fun w' => w'.cell? ⟨w.heap.size, 0, none⟩ = some (.slice xo g.decls.length xc) ∧ w'.cell? ⟨w.heap.size, 1, none⟩ = some (.slice yo g.rules.length yc) ∧ w'.cell? ⟨w.heap.size + 1, 0, none⟩ = some (.string r.head.p) ∧ w'.cell? ⟨w.heap.size + 1, 1, none⟩ = some (.slice ho r.head.args.length hc) ∧ w'.cell? ⟨w.heap.size + 1, 2, none⟩ = some (.slice bo r.body.length bc) ∧ w3.heap.size ≤ w'.heap.size ∧ Below w3.heap.size w3 w' ∧ Below ((w.alloc (.cells #[.slice xo g.decls.length xc, .slice yo g.rules.length yc] 25)).alloc (.cells #[.string r.head.p, .slice ho r.head.args.length hc, .slice bo r.body.length bc] 46)).heap.size ((w.alloc (.cells #[.slice xo g.decls.length xc, .slice yo g.rules.length yc] 25)).alloc (.cells #[.string r.head.p, .slice ho r.head.args.length hc, .slice bo r.body.length bc] 46)) w')
          (first | assumption | exact fr_drew HBr.out | exact HBr.out | exact fr_alloc HL0.out HHN.out (by assumption) _)
          (first
            | (refine step_append_all (w0 := ((w.alloc (.cells #[.slice xo g.decls.length xc, .slice yo g.rules.length yc] 25)).alloc (.cells #[.string r.head.p, .slice ho r.head.args.length hc, .slice bo r.body.length bc] 46))) rfl (.tmp 32) (.tmp 34) 23 rfl elRu cellRRu w3.heap.size (.slice (some ⟨_, 0, none⟩) 0 0) [] rfl (OwnW.made (by simp) (by first | exact heap1L _ _ | exact heap2L _ _ _ | exact heap1oL _ _ _)) (.slice yo g.rules.length yc) g.rules rfl HY.out (by go_split_ands; assumption) (by unfold maxLen; simp; omega) (by simp; omega) (by first | omega | (simp; omega) | simp) ?_; intro v1 wa ho1 hb1 hz1; have hwa : w3.heap.size ≤ wa.heap.size := Nat.le_trans (by first | omega | (simp; omega) | simp) hb1.size; have hSa := fr_keep HL0.out HHN.out (by assumption) hb1; have HO1 := Lib.hid ho1; have HZ1 := Lib.hid hz1; clear ho1 hb1 hz1)
            | (go_at_call 10; refine (of_any (moreP g r) _ _ _ (HX.out.below stayDe (by go_split_ands; assumption)) (HR2.out.below stayRu (by first | exact Below.refl _ _ | exact al_bel _ _)) HU2.out HN2.out).mono ?_; intro e w5 h5; obtain ⟨v5, he5, hd5, hb5⟩ := h5.des HN2.out; rw [HM.out] at he5 hd5; obtain rfl : e = .returned (.tuple #[v5, .int .i64 (ck : Nat), .int .i64 5]) := he5; obtain ⟨o5, n5, t5, rfl, hn5⟩ := hd5.formN; obtain rfl : n5 = 0 := hn5; have hS5 := fr_keep HL0.out HHN.out (by assumption) (hb5.mono (by go_split_ands; assumption)); have HD5 := Lib.hid hd5; clear h5 hb5 hd5)
            | (refine step_append_one (w0 := ((w.alloc (.cells #[.slice xo g.decls.length xc, .slice yo g.rules.length yc] 25)).alloc (.cells #[.string r.head.p, .slice ho r.head.args.length hc, .slice bo r.body.length bc] 46))) rfl (.tmp 35) (.tmp 37) 23 rfl elRu w3.heap.size v1 ([] ++ g.rules) rfl (by first | exact HO1.out | exact HO1.out.below (al_bel _ _)) _ 1 rfl r [.string r.head.p, .slice ho r.head.args.length hc, .slice bo r.body.length bc] HR.out #[.string r.head.p, .slice ho r.head.args.length hc, .slice bo r.body.length bc] (by first | exact heap1L _ _ | exact (HZ1.out _ _ (by first | exact heap1oL _ _ _ | exact heap2L _ _ _) (by simp [Value.ownBlock])).1) rfl (by unfold maxLen; simp; omega) (by simp; omega) (by first | omega | (simp; omega)) ?_; intro v2 wb ho2 hb2 hz2; have hSb := fr_keep HL0.out HHN.out (by assumption) hb2; have hr2 : Rus wb v2 (moreP g r).rules := ho2.rd stayRu hSb.2.2.2.2.2.2.2 HML.out; have HR2 := Lib.hid hr2; obtain ⟨vo, nv, vc, hv2, hnv⟩ := ho2.formN; subst hv2; clear ho2 hb2 hz2 hr2 hnv))

        all_goals
          clear HO1 HZ1 HR2 hSa hSb
          obtain ⟨a0, a1, a2, a3, a4, a5, a6, a7⟩ := hS5
          have HB5 := Lib.hid a7
          clear HD5 HD3
          go_wp2_with (go_at_call 15; refine (ruses_any g _ _ w5 (HX.out.below stayDe HB5.out) (HY.out.below stayRu HB5.out) HN.out).mono ?_; rintro e w6 ⟨u6, rfl, hu6, hb6⟩; have hd6 := hu6.rd stayDe hb6 (by have := HN.out; unfold maxLen; omega); obtain ⟨o6, n6, s6, rfl, hn6⟩ := hd6.formN; have hle6 : (n6 : Int) ≤ (ck : Int) := (by have := HCK.out; omega); have HB6 : Hid (Below ((w.alloc (.cells #[.slice xo g.decls.length xc, .slice yo g.rules.length yc] 25)).alloc (.cells #[.string r.head.p, .slice ho r.head.args.length hc, .slice bo r.body.length bc] 46)).heap.size ((w.alloc (.cells #[.slice xo g.decls.length xc, .slice yo g.rules.length yc] 25)).alloc (.cells #[.string r.head.p, .slice ho r.head.args.length hc, .slice bo r.body.length bc] 46)) w6) := HB5.out.trans (hb6.mono HB5.out.size); clear hu6 hb6 hd6 hn6)
          go_ret
          exact ⟨by simp [hle6], out_of HW.out HB6.out⟩
  · have HT := Lib.hid hT
    have HM := told_more_bad ((atomsL r).map useOf) hF
    rw [← uses_more, hT] at HM
    have HM := Lib.hid HM
    clear hT hF HO hbk
    · go_enter Try.func7, Try.ntmps7
      go_wp2_with (first
        | (go_at_call 8; refine (shown_any _).mono ?_; rintro e w1 ⟨rfl, hb1⟩; obtain ⟨x0, x1, y0, y1, y2⟩ := box5 hb1; have HB1 : Hid (Below ((w.alloc (.cells #[.slice xo g.decls.length xc, .slice yo g.rules.length yc] 25)).alloc (.cells #[.string r.head.p, .slice ho r.head.args.length hc, .slice bo r.body.length bc] 46)).heap.size ((w.alloc (.cells #[.slice xo g.decls.length xc, .slice yo g.rules.length yc] 25)).alloc (.cells #[.string r.head.p, .slice ho r.head.args.length hc, .slice bo r.body.length bc] 46)) w1) := hb1; clear hb1)
        | (go_at_call 9; refine (few_any g _ _ w1 (HX.out.below stayDe HB1.out) (HY.out.below stayRu HB1.out) HN.out).mono ?_; rintro e w2 ⟨he, hb2⟩; rw [← HF.out] at he; subst he; have hB2 := HB1.out.trans (hb2.mono HB1.out.size); obtain ⟨p0, p1, q0, q1, q2⟩ := box5 hB2; have HB2 : Hid (Below ((w.alloc (.cells #[.slice xo g.decls.length xc, .slice yo g.rules.length yc] 25)).alloc (.cells #[.string r.head.p, .slice ho r.head.args.length hc, .slice bo r.body.length bc] 46)).heap.size ((w.alloc (.cells #[.slice xo g.decls.length xc, .slice yo g.rules.length yc] 25)).alloc (.cells #[.string r.head.p, .slice ho r.head.args.length hc, .slice bo r.body.length bc] 46)) w2) := hB2; clear hb2 hB2 x0 x1 y0 y1 y2)
        | (go_at_call 10; refine (of_any g _ _ w2 (HX.out.below stayDe HB2.out) (HY.out.below stayRu HB2.out) HU.out HN.out).mono ?_; intro e w3 h3; obtain ⟨v3, he3, hd3, hb3⟩ := h3.des HN.out; rw [HT.out] at he3 hd3; obtain rfl : e = .returned (.tuple #[v3, .int .i64 (bk : Nat), .int .i64 5]) := he3; obtain ⟨o3, n3, s3, rfl, hn3⟩ := hd3.formN; have HN3 := Lib.hid hn3; have hB3 := HB2.out.trans (hb3.mono HB2.out.size); obtain ⟨x0, x1, y0, y1, y2⟩ := box5 hB3; have HB3 : Hid (Below ((w.alloc (.cells #[.slice xo g.decls.length xc, .slice yo g.rules.length yc] 25)).alloc (.cells #[.string r.head.p, .slice ho r.head.args.length hc, .slice bo r.body.length bc] 46)).heap.size ((w.alloc (.cells #[.slice xo g.decls.length xc, .slice yo g.rules.length yc] 25)).alloc (.cells #[.string r.head.p, .slice ho r.head.args.length hc, .slice bo r.body.length bc] 46)) w3) := hB3; have HD3 := Lib.hid hd3; clear h3 hb3 hd3 hB3 hn3 p0 p1 q0 q1 q2))
      have hL0 : w.heap.size + 1 < w3.heap.size := by have := HB3.out.size; simp at this; omega
      have HL0 := Lib.hid hL0
      have hn2 : ((w.alloc (.cells #[.slice xo g.decls.length xc, .slice yo g.rules.length yc] 25)).alloc (.cells #[.string r.head.p, .slice ho r.head.args.length hc, .slice bo r.body.length bc] 46)).heap.size ≤ w3.heap.size := HB3.out.size
      have HHN := Lib.hid hn2
      have HBr := Lib.hid (show w3.cell? ⟨w.heap.size, 0, none⟩ = some (.slice xo g.decls.length xc) ∧ w3.cell? ⟨w.heap.size, 1, none⟩ = some (.slice yo g.rules.length yc) ∧ w3.cell? ⟨w.heap.size + 1, 0, none⟩ = some (.string r.head.p) ∧ w3.cell? ⟨w.heap.size + 1, 1, none⟩ = some (.slice ho r.head.args.length hc) ∧ w3.cell? ⟨w.heap.size + 1, 2, none⟩ = some (.slice bo r.body.length bc) ∧ w3.heap.size ≤ w3.heap.size ∧ Below w3.heap.size w3 w3 ∧ Below ((w.alloc (.cells #[.slice xo g.decls.length xc, .slice yo g.rules.length yc] 25)).alloc (.cells #[.string r.head.p, .slice ho r.head.args.length hc, .slice bo r.body.length bc] 46)).heap.size ((w.alloc (.cells #[.slice xo g.decls.length xc, .slice yo g.rules.length yc] 25)).alloc (.cells #[.string r.head.p, .slice ho r.head.args.length hc, .slice bo r.body.length bc] 46)) w3 from ⟨x0, x1, y0, y1, y2, Nat.le_refl _, Below.refl _ _, HB3.out⟩)
      clear x0 x1 y0 y1 y2 hL0 hn2 HB1 HB2
      go_region_held3 (fun w' => w'.cell? ⟨w.heap.size, 0, none⟩ = some (.slice xo g.decls.length xc) ∧ w'.cell? ⟨w.heap.size, 1, none⟩ = some (.slice yo g.rules.length yc) ∧ w'.cell? ⟨w.heap.size + 1, 0, none⟩ = some (.string r.head.p) ∧ w'.cell? ⟨w.heap.size + 1, 1, none⟩ = some (.slice ho r.head.args.length hc) ∧ w'.cell? ⟨w.heap.size + 1, 2, none⟩ = some (.slice bo r.body.length bc) ∧ w3.heap.size ≤ w'.heap.size ∧ Below w3.heap.size w3 w' ∧ Below ((w.alloc (.cells #[.slice xo g.decls.length xc, .slice yo g.rules.length yc] 25)).alloc (.cells #[.string r.head.p, .slice ho r.head.args.length hc, .slice bo r.body.length bc] 46)).heap.size ((w.alloc (.cells #[.slice xo g.decls.length xc, .slice yo g.rules.length yc] 25)).alloc (.cells #[.string r.head.p, .slice ho r.head.args.length hc, .slice bo r.body.length bc] 46)) w')
        (first | assumption | exact fr_drew HBr.out | exact HBr.out | exact fr_alloc HL0.out HHN.out (by assumption) _)
        (first
          | (refine step_append_all (w0 := ((w.alloc (.cells #[.slice xo g.decls.length xc, .slice yo g.rules.length yc] 25)).alloc (.cells #[.string r.head.p, .slice ho r.head.args.length hc, .slice bo r.body.length bc] 46))) rfl (.tmp 32) (.tmp 34) 23 rfl elRu cellRRu w3.heap.size (.slice (some ⟨_, 0, none⟩) 0 0) [] rfl (OwnW.made (by simp) (by first | exact heap1L _ _ | exact heap2L _ _ _ | exact heap1oL _ _ _)) (.slice yo g.rules.length yc) g.rules rfl HY.out (by go_split_ands; assumption) (by unfold maxLen; simp; omega) (by simp; omega) (by first | omega | (simp; omega) | simp) ?_; intro v1 wa ho1 hb1 hz1; have hwa : w3.heap.size ≤ wa.heap.size := Nat.le_trans (by first | omega | (simp; omega) | simp) hb1.size; have hSa := fr_keep HL0.out HHN.out (by assumption) hb1; have HO1 := Lib.hid ho1; have HZ1 := Lib.hid hz1; clear ho1 hb1 hz1)
          | (go_at_call 10; refine (of_any (moreP g r) _ _ _ (HX.out.below stayDe (by go_split_ands; assumption)) (HR2.out.below stayRu (by first | exact Below.refl _ _ | exact al_bel _ _)) HU2.out HN2.out).mono ?_; intro e w5 h5; obtain ⟨v5, he5, hd5, hb5⟩ := h5.des HN2.out; rw [HM.out] at he5 hd5; obtain rfl : e = .returned (.tuple #[v5, .int .i64 (bk : Nat), .int .i64 5]) := he5; obtain ⟨o5, n5, t5, rfl, hn5⟩ := hd5.formN; obtain rfl : n5 = 0 := hn5; have hS5 := fr_keep HL0.out HHN.out (by assumption) (hb5.mono (by go_split_ands; assumption)); have HD5 := Lib.hid hd5; clear h5 hb5 hd5)
          | (refine step_append_one (w0 := ((w.alloc (.cells #[.slice xo g.decls.length xc, .slice yo g.rules.length yc] 25)).alloc (.cells #[.string r.head.p, .slice ho r.head.args.length hc, .slice bo r.body.length bc] 46))) rfl (.tmp 35) (.tmp 37) 23 rfl elRu w3.heap.size v1 ([] ++ g.rules) rfl (by first | exact HO1.out | exact HO1.out.below (al_bel _ _)) _ 1 rfl r [.string r.head.p, .slice ho r.head.args.length hc, .slice bo r.body.length bc] HR.out #[.string r.head.p, .slice ho r.head.args.length hc, .slice bo r.body.length bc] (by first | exact heap1L _ _ | exact (HZ1.out _ _ (by first | exact heap1oL _ _ _ | exact heap2L _ _ _) (by simp [Value.ownBlock])).1) rfl (by unfold maxLen; simp; omega) (by simp; omega) (by first | omega | (simp; omega)) ?_; intro v2 wb ho2 hb2 hz2; have hSb := fr_keep HL0.out HHN.out (by assumption) hb2; have hr2 : Rus wb v2 (moreP g r).rules := ho2.rd stayRu hSb.2.2.2.2.2.2.2 HML.out; have HR2 := Lib.hid hr2; obtain ⟨vo, nv, vc, hv2, hnv⟩ := ho2.formN; subst hv2; clear ho2 hb2 hz2 hr2 hnv))

      all_goals
        clear HO1 HZ1 HR2 hSa hSb
        go_wp2
        go_ret
        exact ⟨rfl, out_of HW.out (by go_split_ands; assumption)⟩
end Go.Proofs.Ytadccjcmiajdeaa
