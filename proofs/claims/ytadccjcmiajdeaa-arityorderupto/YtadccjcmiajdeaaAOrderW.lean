/-
  ArityOrder's walk.
-/
import Derived.Test.YtadccjcmiajdeaaAOrderP
import Derived.Test.YtadccjcmiajdeaaQPack
namespace Go.Proofs.Ytadccjcmiajdeaa
set_option linter.unusedSimpArgs false
set_option linter.unusedVariables false
set_option linter.unusedSectionVars false
set_option maxRecDepth 100000
open Go.RowKit Go.Maps

/-- A program whose rules stand in another order. -/
def turnP (g : Pr) (k : Nat) : Pr := ⟨g.decls, g.rules.drop k ++ g.rules.take k⟩
theorem told_len (L : List De) : (told L).l.length ≤ L.length := by
  rcases told_or L with ⟨-, h⟩ | ⟨-, k, -, h⟩
  · rw [h]; exact firsts_len L
  · rw [h]; simp
/-- What the region keeps: the box, and what lay. -/
def KeptO (w W0 w2 : World) (x y : Value) (w' : World) : Prop := w'.cell? ⟨w.heap.size, 0, none⟩ = some x ∧ w'.cell? ⟨w.heap.size, 1, none⟩ = some y ∧ w2.heap.size ≤ w'.heap.size ∧ Below W0.heap.size W0 w'
theorem ord_keep {w W0 w2 W w' : World} {x y : Value} (l0 : w.heap.size < w2.heap.size) (hn : W0.heap.size ≤ w2.heap.size)
    (h : W.cell? ⟨w.heap.size, 0, none⟩ = some x ∧ W.cell? ⟨w.heap.size, 1, none⟩ = some y ∧ w2.heap.size ≤ W.heap.size ∧ Below W0.heap.size W0 W) (hb : Below w2.heap.size W w') :
    w'.cell? ⟨w.heap.size, 0, none⟩ = some x ∧ w'.cell? ⟨w.heap.size, 1, none⟩ = some y ∧ w2.heap.size ≤ w'.heap.size ∧ Below W0.heap.size W0 w' := by
  obtain ⟨h0, h1, h2, h3⟩ := h
  exact ⟨(hb.cell (p := ⟨w.heap.size, _, none⟩) l0).trans h0, (hb.cell (p := ⟨w.heap.size, _, none⟩) l0).trans h1, Nat.le_trans h2 hb.size, h3.trans (hb.mono hn)⟩
theorem ord_drew {w W0 w2 W : World} {x y : Value} (h : W.cell? ⟨w.heap.size, 0, none⟩ = some x ∧ W.cell? ⟨w.heap.size, 1, none⟩ = some y ∧ w2.heap.size ≤ W.heap.size ∧ Below W0.heap.size W0 W) :
    W.drew.cell? ⟨w.heap.size, 0, none⟩ = some x ∧ W.drew.cell? ⟨w.heap.size, 1, none⟩ = some y ∧ w2.heap.size ≤ W.drew.heap.size ∧ Below W0.heap.size W0 W.drew := ⟨h.1, h.2.1, h.2.2.1, h.2.2.2.drew⟩
theorem ord_alloc {w W0 w2 W : World} {x y : Value} (l0 : w.heap.size < w2.heap.size) (hn : W0.heap.size ≤ w2.heap.size)
    (h : W.cell? ⟨w.heap.size, 0, none⟩ = some x ∧ W.cell? ⟨w.heap.size, 1, none⟩ = some y ∧ w2.heap.size ≤ W.heap.size ∧ Below W0.heap.size W0 W) (o : Obj) :
    (W.alloc o).cell? ⟨w.heap.size, 0, none⟩ = some x ∧ (W.alloc o).cell? ⟨w.heap.size, 1, none⟩ = some y ∧ w2.heap.size ≤ (W.alloc o).heap.size ∧ Below W0.heap.size W0 (W.alloc o) :=
  ord_keep l0 hn h ((Below.refl _ _).alloc h.2.2.1 _)
theorem ord_set {w W0 w2 W : World} {b9 : Nat} {x y : Value} (l0 : w.heap.size < w2.heap.size) (hn : W0.heap.size ≤ w2.heap.size)
    (h : W.cell? ⟨w.heap.size, 0, none⟩ = some x ∧ W.cell? ⟨w.heap.size, 1, none⟩ = some y ∧ w2.heap.size ≤ W.heap.size ∧ Below W0.heap.size W0 W) (h9 : w2.heap.size ≤ b9) (u v : Value) :
    ((W.setCell ⟨b9, 0, none⟩ u).setCell ⟨b9, 1, none⟩ v).cell? ⟨w.heap.size, 0, none⟩ = some x ∧ ((W.setCell ⟨b9, 0, none⟩ u).setCell ⟨b9, 1, none⟩ v).cell? ⟨w.heap.size, 1, none⟩ = some y ∧ w2.heap.size ≤ ((W.setCell ⟨b9, 0, none⟩ u).setCell ⟨b9, 1, none⟩ v).heap.size ∧ Below W0.heap.size W0 ((W.setCell ⟨b9, 0, none⟩ u).setCell ⟨b9, 1, none⟩ v) :=
  ord_keep l0 hn h (((Below.refl _ _).setCell (p := ⟨b9, 0, none⟩) h9 u).setCell (p := ⟨b9, 1, none⟩) h9 v)

set_option maxHeartbeats 16000000 in
theorem order_walk {g : Pr} {x y : Value} {by' : Int} {w : World} (hx : Des w x g.decls) (hy : Rus w y g.rules) (hI : InPr g) (hs : szPr g ≤ 1048576) (lb : 0 ≤ by') (ub : by' ≤ 255) :
    Calls Try.prog 5 #[.agg #[x, y], .int .u8 by'] w fun e w' => e = .returned (.bool true) ∧ Below w.heap.size w w' := by
  obtain ⟨hu, hn⟩ := uses_in hI hs
  obtain ⟨xo, xc, rfl, -⟩ := hx.form
  obtain ⟨yo, yc, rfl, -⟩ := hy.form
  have HW : Hid (Below w.heap.size w (w.alloc (.cells #[.slice xo g.decls.length xc, .slice yo g.rules.length yc] 25))) := al_bel w _
  have HX := Lib.hid (hx.below stayDe HW.out)
  have HY := Lib.hid (hy.below stayRu HW.out)
  have HU := Lib.hid hu
  have HN : Hid ((usesL g).length ≤ 1000000000) := by show _ ≤ _; omega
  obtain ⟨f, hf⟩ : ∃ f, f = decide ((usesL g).length ≤ 300) := ⟨_, rfl⟩
  have HF := Lib.hid hf
  have hrl : g.rules.length ≤ 1048576 := by
    have h1 := sum_len szRu 1 (fun r => by unfold szRu; omega) g.rules
    unfold szPr szRus at hs
    omega
  clear hx hy hu hn hf hI hs
  cases f
  · go_enter Try.func5, Try.ntmps5
    go_wp2_with (first
      | (go_at_call 8; refine (shown_any _).mono ?_; rintro e w1 ⟨rfl, hb1⟩; obtain ⟨c0, c1⟩ := box2 hb1; have HB1 : Hid (Below (w.alloc (.cells #[.slice xo g.decls.length xc, .slice yo g.rules.length yc] 25)).heap.size (w.alloc (.cells #[.slice xo g.decls.length xc, .slice yo g.rules.length yc] 25)) w1) := hb1; clear hb1)
      | (go_at_call 9; refine (few_any g _ _ w1 (HX.out.below stayDe HB1.out) (HY.out.below stayRu HB1.out) HN.out).mono ?_; rintro e w2 ⟨he, hb2⟩; rw [← HF.out] at he; subst he; have hB2 := HB1.out.trans (hb2.mono HB1.out.size); obtain ⟨d0, d1⟩ := box2 hB2; have HB2 : Hid (Below (w.alloc (.cells #[.slice xo g.decls.length xc, .slice yo g.rules.length yc] 25)).heap.size (w.alloc (.cells #[.slice xo g.decls.length xc, .slice yo g.rules.length yc] 25)) w2) := hB2; clear hb2 hB2 c0 c1))
    go_ret
    exact ⟨rfl, out_of HW.out HB2.out⟩
  · by_cases hz : g.rules.length = 0
    · have hzb : ((g.rules.length : Int) == 0) = true := by simp [hz]
      clear hz
      go_enter Try.func5, Try.ntmps5
      go_wp2_with (first
        | (go_at_call 8; refine (shown_any _).mono ?_; rintro e w1 ⟨rfl, hb1⟩; obtain ⟨c0, c1⟩ := box2 hb1; have HB1 : Hid (Below (w.alloc (.cells #[.slice xo g.decls.length xc, .slice yo g.rules.length yc] 25)).heap.size (w.alloc (.cells #[.slice xo g.decls.length xc, .slice yo g.rules.length yc] 25)) w1) := hb1; clear hb1)
        | (go_at_call 9; refine (few_any g _ _ w1 (HX.out.below stayDe HB1.out) (HY.out.below stayRu HB1.out) HN.out).mono ?_; rintro e w2 ⟨he, hb2⟩; rw [← HF.out] at he; subst he; have hB2 := HB1.out.trans (hb2.mono HB1.out.size); obtain ⟨d0, d1⟩ := box2 hB2; have HB2 : Hid (Below (w.alloc (.cells #[.slice xo g.decls.length xc, .slice yo g.rules.length yc] 25)).heap.size (w.alloc (.cells #[.slice xo g.decls.length xc, .slice yo g.rules.length yc] 25)) w2) := hB2; clear hb2 hB2 c0 c1))
      go_ret
      exact ⟨rfl, out_of HW.out HB2.out⟩
    · have hzb : ((g.rules.length : Int) == 0) = false := by simp [hz]
      have hz0 : ¬ (g.rules.length : Int) = 0 := by omega
      obtain ⟨kk, hkk, hkl⟩ : ∃ kk : Nat, by' % (g.rules.length : Int) = (kk : Int) ∧ kk < g.rules.length := by
        have h1 := Int.emod_nonneg by' hz0
        have h2 := Int.emod_lt_of_pos by' (show (0 : Int) < (g.rules.length : Int) by omega)
        exact ⟨(by' % (g.rules.length : Int)).toNat, by omega, by omega⟩
      have hklI : (kk : Int) ≤ (g.rules.length : Int) := by omega
      obtain ⟨_, _, hee, hcap, -⟩ := HY.out.form
      have hcapy : g.rules.length ≤ yc := by cases hee; exact hcap
      clear hee hcap hz
      have HS1 := HY.out.sliced (i := kk) (j := g.rules.length) (by omega) (Nat.le_refl _)
      have HS2 := HY.out.sliced (i := 0) (j := kk) (Nat.zero_le _) (by omega)
      have hrunF : ∀ W, (Instr.slice 23 (.slice yo g.rules.length yc) (some (.int .i64 (kk : Int))) none none).run Try.prog W = .ok (sliced yo kk g.rules.length yc 3) W := fun W => by
        rw [run_slice_l (P := Try.prog) W _ _ _ _ (sizeOf_el elRu W).2 .i64 (kk : Int) (by omega) (by omega), (sizeOf_el elRu W).1]
        simp [Result.andThen]
      have hrunT : ∀ W, (Instr.slice 23 (.slice yo g.rules.length yc) none (some (.int .i64 (kk : Int))) none).run Try.prog W = .ok (sliced yo 0 kk yc 3) W := fun W => by
        rw [run_slice_h (P := Try.prog) W _ _ _ _ (sizeOf_el elRu W).2 .i64 (kk : Int) (by omega) (by omega), (sizeOf_el elRu W).1]
        simp [Result.andThen]
      obtain ⟨y1, hy1⟩ : ∃ y1, y1 = sliced yo kk g.rules.length yc 3 := ⟨_, rfl⟩
      obtain ⟨y2, hy2⟩ : ∃ y2, y2 = sliced yo 0 kk yc 3 := ⟨_, rfl⟩
      rw [← hy1] at hrunF HS1
      rw [← hy2] at hrunT HS2
      have HY1 : Hid (Rus (w.alloc (.cells #[.slice xo g.decls.length xc, .slice yo g.rules.length yc] 25)) y1 (g.rules.drop kk)) := by have := HS1.1; rw [List.take_length] at this; exact this
      have HY2 : Hid (Rus (w.alloc (.cells #[.slice xo g.decls.length xc, .slice yo g.rules.length yc] 25)) y2 (g.rules.take kk)) := by have := HS2.1; rw [List.drop_zero] at this; exact this
      have HT : Hid ((told (usesL g)).bad = (told (usesL (turnP g kk))).bad ∧ (told (usesL g)).l.length = (told (usesL (turnP g kk))).l.length ∧ ∀ d ∈ (told (usesL g)).l, findD (told (usesL (turnP g kk))).l d.p = some d.ar) := told_perm (uses_turned g.decls g.rules kk).1
      have HN2 : Hid ((usesL (turnP g kk)).length ≤ 1000000000) := by have := (uses_turned g.decls g.rules kk).2; have h2 := HN.out; show (usesL ⟨g.decls, g.rules.drop kk ++ g.rules.take kk⟩).length ≤ _; rw [this]; exact h2
      have HU2 : Hid (∀ u ∈ usesL (turnP g kk), DeV u) := fun u hu => HU.out u (((uses_turned g.decls g.rules kk).1 u).2 hu)
      have hdl : (g.rules.drop kk).length ≤ 1048576 := by simp; omega
      have htl : (g.rules.take kk).length ≤ 1048576 := by simp; omega
      obtain ⟨VM, hVM⟩ : ∃ VM, VM = (([] ++ g.rules.drop kk) ++ g.rules.take kk).length := ⟨_, rfl⟩
      have HVM := Lib.hid hVM
      clear hy1 hy2 HS1 HS2 hVM
      go_enter Try.func5, Try.ntmps5
      go_wp2_with (first
        | (go_at_call 8; refine (shown_any _).mono ?_; rintro e w1 ⟨rfl, hb1⟩; obtain ⟨c0, c1⟩ := box2 hb1; have HB1 : Hid (Below (w.alloc (.cells #[.slice xo g.decls.length xc, .slice yo g.rules.length yc] 25)).heap.size (w.alloc (.cells #[.slice xo g.decls.length xc, .slice yo g.rules.length yc] 25)) w1) := hb1; clear hb1)
        | (go_at_call 9; refine (few_any g _ _ w1 (HX.out.below stayDe HB1.out) (HY.out.below stayRu HB1.out) HN.out).mono ?_; rintro e w2 ⟨he, hb2⟩; rw [← HF.out] at he; subst he; have hB2 := HB1.out.trans (hb2.mono HB1.out.size); obtain ⟨d0, d1⟩ := box2 hB2; have HB2 : Hid (Below (w.alloc (.cells #[.slice xo g.decls.length xc, .slice yo g.rules.length yc] 25)).heap.size (w.alloc (.cells #[.slice xo g.decls.length xc, .slice yo g.rules.length yc] 25)) w2) := hB2; clear hb2 hB2 c0 c1))
      have hsz : w.heap.size + 1 = (w.alloc (.cells #[.slice xo g.decls.length xc, .slice yo g.rules.length yc] 25)).heap.size := by simp
      have hL0 : w.heap.size < w2.heap.size := by have := HB2.out.size; omega
      have HL0 := Lib.hid hL0
      have hn2 : (w.alloc (.cells #[.slice xo g.decls.length xc, .slice yo g.rules.length yc] 25)).heap.size ≤ w2.heap.size := HB2.out.size
      have HHN := Lib.hid hn2
      have HBr := Lib.hid (show w2.cell? ⟨w.heap.size, 0, none⟩ = some (.slice xo g.decls.length xc) ∧ w2.cell? ⟨w.heap.size, 1, none⟩ = some (.slice yo g.rules.length yc) ∧ w2.heap.size ≤ w2.heap.size ∧ Below (w.alloc (.cells #[.slice xo g.decls.length xc, .slice yo g.rules.length yc] 25)).heap.size (w.alloc (.cells #[.slice xo g.decls.length xc, .slice yo g.rules.length yc] 25)) w2 from ⟨d0, d1, Nat.le_refl _, HB2.out⟩)
      clear d0 d1 hL0 hn2 hsz HB1
      go_region_held3 (fun w' => w'.cell? ⟨w.heap.size, 0, none⟩ = some (.slice xo g.decls.length xc) ∧ w'.cell? ⟨w.heap.size, 1, none⟩ = some (.slice yo g.rules.length yc) ∧ w2.heap.size ≤ w'.heap.size ∧ Below (w.alloc (.cells #[.slice xo g.decls.length xc, .slice yo g.rules.length yc] 25)).heap.size (w.alloc (.cells #[.slice xo g.decls.length xc, .slice yo g.rules.length yc] 25)) w')
        (first | assumption | exact ord_drew HBr.out | exact HBr.out | exact ord_alloc HL0.out HHN.out (by assumption) _ | exact ord_set HL0.out HHN.out (by assumption) (by omega) _ _)
        (first
          | (refine step_append_all (w0 := (w.alloc (.cells #[.slice xo g.decls.length xc, .slice yo g.rules.length yc] 25))) rfl (.tmp 36) (.tmp 40) 23 rfl elRu cellRRu w2.heap.size (.slice (some ⟨_, 0, none⟩) 0 0) [] rfl (OwnW.made (by simp) (by first | exact heap1L _ _ | exact heap2L _ _ _ | exact heap1oL _ _ _)) y1 (g.rules.drop kk) rfl HY1.out (by go_split_ands; assumption) (by unfold maxLen; simp; omega) (by simp; omega) (by first | omega | (simp; omega) | simp) ?_; intro v1 wa ho1 hb1 hz1; have hwa : w2.heap.size ≤ wa.heap.size := Nat.le_trans (by first | omega | (simp; omega) | simp) hb1.size; have hSa := ord_keep HL0.out HHN.out (by assumption) hb1; have HO1 := Lib.hid ho1; have HZ1 := Lib.hid hz1; clear ho1 hb1 hz1)
          | (refine step_append_all (w0 := (w.alloc (.cells #[.slice xo g.decls.length xc, .slice yo g.rules.length yc] 25))) rfl (.tmp 41) (.tmp 45) 23 rfl elRu cellRRu w2.heap.size v1 ([] ++ g.rules.drop kk) rfl (by first | exact HO1.out | exact HO1.out.below (al_bel _ _)) y2 (g.rules.take kk) rfl HY2.out (by go_split_ands; assumption) (by unfold maxLen; simp; omega) (by simp; omega) (by first | omega | (simp; omega)) ?_; intro v2 wb ho2 hb2 hz2; have hSb := ord_keep HL0.out HHN.out (by assumption) hb2; obtain ⟨vo, vc, hv2⟩ := ho2.form; rw [← HVM.out] at hv2; subst hv2; have HO2 := Lib.hid ho2; have HZ2 := Lib.hid hz2; clear ho2 hb2 hz2;
              (first
                | (have h8 := HZ1.out _ (Obj.cells #[Value.slice none 0 0, Value.slice none 0 0] 25 (0, 0)) (by first | exact heap1oL _ _ _ | exact heap2L _ _ _) (by simp [Value.ownBlock]); have h9 := HZ2.out _ _ h8.1 h8.2; obtain ⟨c0, c1, f0, f1, lt9⟩ := box9 h9.1; have HV9 := Lib.hid h9.2; have HC9 := Lib.hid h9.1; clear h8 h9)
                | (have h9 := HZ2.out wa.heap.size (Obj.cells #[Value.slice none 0 0, Value.slice none 0 0] 25 (0, 0)) (heap1L _ _) (fun e => Nat.lt_irrefl _ (HO1.out.lt _ e).2); obtain ⟨c0, c1, f0, f1, lt9⟩ := box9 h9.1; have HV9 := Lib.hid h9.2; have HC9 := Lib.hid h9.1; clear h9)
                | skip)))
      · have hq9 := ord_alloc HL0.out HHN.out hSb (Obj.cells #[Value.slice xo g.decls.length xc, Value.slice vo VM vc] 25)
        have hp9 := pack_alloc (x := .slice xo g.decls.length xc) (m := VM) (vo := vo) (vc := vc) HO2.out rfl hSb.2.2.2 hSb.2.2.2 (by simp; unfold maxLen; omega)
        generalize wb.alloc (Obj.cells #[Value.slice xo g.decls.length xc, Value.slice vo VM vc] 25) = X at hp9 hq9 ⊢
        generalize wb.heap.size = b9 at hp9 ⊢
        clear HZ1 HZ2 HO1 HO2 hSa hSb hdl htl hrunF hrunT hwa
        have HB9 := Lib.hid hp9.bel
        have HPX := Lib.hid hp9
        have r0 := hq9.1
        have r1 := hq9.2
        have s0 := hp9.c0
        have s1 := hp9.c1
        have HQ1 := Lib.hid (of_any g _ _ X (HX.out.below stayDe HB9.out) (HY.out.below stayRu HB9.out) HU.out HN.out)
        have HQ2 : Hid (∀ W', Below X.heap.size X W' → Calls Try.prog 10 #[.agg #[.slice xo g.decls.length xc, .slice vo VM vc]] W' (OfOut W' (usesL (turnP g kk)))) := fun W' hb => of_any (turnP g kk) _ _ W' ((HX.out.below stayDe HB9.out).below stayDe hb) ((show Rus X (.slice vo VM vc) (turnP g kk).rules from HPX.out.rus).below stayRu hb) HU2.out HN2.out
        have hb9 := hp9.lt
        clear hp9 hq9
        go_wp2_with (first
          | (go_at_call 10; with_reducible refine HQ1.out.mono ?_; clear HQ1; intro e w3 h3; obtain ⟨v3, he3, hd3, hb3⟩ := h3.des HN.out; obtain ⟨c3, hc3⟩ : ∃ c : Int, c = (if (told (usesL g)).bad then 5 else 0) := ⟨_, rfl⟩; obtain ⟨p3, hp3⟩ : ∃ p : Nat, p = (told (usesL g)).at' := ⟨_, rfl⟩; rw [← hc3, ← hp3] at he3; subst he3; have HC3 := Lib.hid hc3; obtain ⟨o3, n3, t3, rfl, hn3⟩ := hd3.formN; have HN3 := Lib.hid hn3; have HB3 := Lib.hid hb3; have HD3 := Lib.hid hd3; have z0 := (hb3.cell (p := ⟨b9, 0, none⟩) hb9).trans s0; have z1 := (hb3.cell (p := ⟨b9, 1, none⟩) hb9).trans s1; clear h3 hc3 hp3 hn3 hb3 hd3 r0 r1 s0 s1)
          | (go_at_call 10; with_reducible refine (HQ2.out _ HB3.out).mono ?_; clear HQ2; intro e w4 h4; obtain ⟨v4, he4, hd4, hb4⟩ := h4.des HN2.out; obtain ⟨p4, hp4⟩ : ∃ p : Nat, p = (told (usesL (turnP g kk))).at' := ⟨_, rfl⟩; rw [← HT.out.1, ← HC3.out, ← hp4] at he4; subst he4; obtain ⟨o4, n4, t4, rfl, hn4⟩ := hd4.formN; rw [← HT.out.2.1, ← HN3.out] at hn4; subst hn4; have HD34 := Lib.hid (HD3.out.below stayDe hb4); have HD4 := Lib.hid hd4; have HB4 := Lib.hid (HB3.out.trans (hb4.mono HB3.out.size)); clear h4 hp4 hb4 hd4 HD3 z0 z1))
        have hk3 : (n4 : Int) ≤ 1000000000 := by have := HN.out; have h2 := told_len (usesL g); have := HN3.out; omega
        go_loopw [14] (fun i wr => ∃ k : Nat, k ≤ n4 ∧ i = .int .i64 (k : Int) ∧ Hid (Below w4.heap.size w4 wr)) (fun i _ => n4 - (intOf i).toNat)
        case atStart => exact ⟨0, Nat.zero_le _, rfl, Below.refl _ _⟩
        case round =>
          obtain ⟨k, hk, rfl, HB⟩ := hrel
          by_cases hlt : k < n4
          · have hltI : (k : Int) < (n4 : Int) := by omega
            have hlt' : k < (told (usesL g)).l.length := by have := HN3.out; omega
            obtain ⟨b, off, cs, rfl, hbl, hR, hcell⟩ := (HD34.out.below stayDe HB.out).at k hlt'
            obtain rfl : cs = _ := hR
            have q0 := hcell 0 _ rfl
            have q1 := hcell 1 _ rfl
            simp only [Nat.add_zero] at q0
            have hfd := HT.out.2.2 _ (List.getElem_mem hlt')
            have hcap : n4 ≤ t3 := by
              obtain ⟨_, _, e, h1, -⟩ := HD34.out.form
              cases e
              have := HN3.out
              omega
            clear hcell
            obtain ⟨d, hd⟩ : ∃ d, d = (told (usesL g)).l[k]'hlt' := ⟨_, rfl⟩
            rw [← hd] at q0 q1 hfd
            clear hd
            obtain ⟨dp, dar⟩ := d
            simp only [De.cells] at q0 q1 hfd
            have hc := find_any (HD4.out.below stayDe HB.out) dp
            rw [hfd] at hc
            simp only [Option.getD_some, Option.isSome_some] at hc
            have HC := Lib.hid hc
            clear hc hfd
            go_wp2_with (go_at_call 12; refine HC.out.mono ?_; rintro e w5 ⟨rfl, hb5⟩; have q2 := (hb5.cell (p := ⟨b, _, none⟩) hbl).trans q1; have HB5 : Hid (Below w4.heap.size w4 w5) := HB.out.trans (hb5.mono HB.out.size); clear hb5)
            go_roundw
            case rel => exact ⟨k + 1, by omega, by simp, HB5⟩
            case measure => simp [intOf]; omega
          · have hltI : ¬ (k : Int) < (n4 : Int) := by omega
            go_wp2
            go_ret
            exact ⟨rfl, out_of HW.out (HB9.out.trans ((HB4.out.trans (HB.out.mono HB4.out.size)).mono HB9.out.size))⟩
      · have hq9 := ord_set (b9 := wa.heap.size) HL0.out HHN.out hSb (by omega) (Value.slice xo g.decls.length xc) (Value.slice vo VM vc)
        have hp9 := pack_set (x := .slice xo g.decls.length xc) (m := VM) (vo := vo) (vc := vc) HO2.out rfl hSb.2.2.2 hSb.2.2.2 (by simp; unfold maxLen; omega) HC9.out HV9.out (by have := HHN.out; omega) (by have := HHN.out; omega)
        generalize (wb.setCell ⟨wa.heap.size, 0, none⟩ (Value.slice xo g.decls.length xc)).setCell ⟨wa.heap.size, 1, none⟩ (Value.slice vo VM vc) = X at hp9 hq9 ⊢
        generalize wa.heap.size = b9 at hp9 ⊢
        clear HZ1 HZ2 HO1 HO2 hSa hSb hdl htl hrunF hrunT hwa HC9 HV9 c0 c1 f0 f1 lt9
        have HB9 := Lib.hid hp9.bel
        have HPX := Lib.hid hp9
        have r0 := hq9.1
        have r1 := hq9.2
        have s0 := hp9.c0
        have s1 := hp9.c1
        have HQ1 := Lib.hid (of_any g _ _ X (HX.out.below stayDe HB9.out) (HY.out.below stayRu HB9.out) HU.out HN.out)
        have HQ2 : Hid (∀ W', Below X.heap.size X W' → Calls Try.prog 10 #[.agg #[.slice xo g.decls.length xc, .slice vo VM vc]] W' (OfOut W' (usesL (turnP g kk)))) := fun W' hb => of_any (turnP g kk) _ _ W' ((HX.out.below stayDe HB9.out).below stayDe hb) ((show Rus X (.slice vo VM vc) (turnP g kk).rules from HPX.out.rus).below stayRu hb) HU2.out HN2.out
        have hb9 := hp9.lt
        clear hp9 hq9
        go_wp2_with (first
          | (go_at_call 10; with_reducible refine HQ1.out.mono ?_; clear HQ1; intro e w3 h3; obtain ⟨v3, he3, hd3, hb3⟩ := h3.des HN.out; obtain ⟨c3, hc3⟩ : ∃ c : Int, c = (if (told (usesL g)).bad then 5 else 0) := ⟨_, rfl⟩; obtain ⟨p3, hp3⟩ : ∃ p : Nat, p = (told (usesL g)).at' := ⟨_, rfl⟩; rw [← hc3, ← hp3] at he3; subst he3; have HC3 := Lib.hid hc3; obtain ⟨o3, n3, t3, rfl, hn3⟩ := hd3.formN; have HN3 := Lib.hid hn3; have HB3 := Lib.hid hb3; have HD3 := Lib.hid hd3; have z0 := (hb3.cell (p := ⟨b9, 0, none⟩) hb9).trans s0; have z1 := (hb3.cell (p := ⟨b9, 1, none⟩) hb9).trans s1; clear h3 hc3 hp3 hn3 hb3 hd3 r0 r1 s0 s1)
          | (go_at_call 10; with_reducible refine (HQ2.out _ HB3.out).mono ?_; clear HQ2; intro e w4 h4; obtain ⟨v4, he4, hd4, hb4⟩ := h4.des HN2.out; obtain ⟨p4, hp4⟩ : ∃ p : Nat, p = (told (usesL (turnP g kk))).at' := ⟨_, rfl⟩; rw [← HT.out.1, ← HC3.out, ← hp4] at he4; subst he4; obtain ⟨o4, n4, t4, rfl, hn4⟩ := hd4.formN; rw [← HT.out.2.1, ← HN3.out] at hn4; subst hn4; have HD34 := Lib.hid (HD3.out.below stayDe hb4); have HD4 := Lib.hid hd4; have HB4 := Lib.hid (HB3.out.trans (hb4.mono HB3.out.size)); clear h4 hp4 hb4 hd4 HD3 z0 z1))
        have hk3 : (n4 : Int) ≤ 1000000000 := by have := HN.out; have h2 := told_len (usesL g); have := HN3.out; omega
        go_loopw [14] (fun i wr => ∃ k : Nat, k ≤ n4 ∧ i = .int .i64 (k : Int) ∧ Hid (Below w4.heap.size w4 wr)) (fun i _ => n4 - (intOf i).toNat)
        case atStart => exact ⟨0, Nat.zero_le _, rfl, Below.refl _ _⟩
        case round =>
          obtain ⟨k, hk, rfl, HB⟩ := hrel
          by_cases hlt : k < n4
          · have hltI : (k : Int) < (n4 : Int) := by omega
            have hlt' : k < (told (usesL g)).l.length := by have := HN3.out; omega
            obtain ⟨b, off, cs, rfl, hbl, hR, hcell⟩ := (HD34.out.below stayDe HB.out).at k hlt'
            obtain rfl : cs = _ := hR
            have q0 := hcell 0 _ rfl
            have q1 := hcell 1 _ rfl
            simp only [Nat.add_zero] at q0
            have hfd := HT.out.2.2 _ (List.getElem_mem hlt')
            have hcap : n4 ≤ t3 := by
              obtain ⟨_, _, e, h1, -⟩ := HD34.out.form
              cases e
              have := HN3.out
              omega
            clear hcell
            obtain ⟨d, hd⟩ : ∃ d, d = (told (usesL g)).l[k]'hlt' := ⟨_, rfl⟩
            rw [← hd] at q0 q1 hfd
            clear hd
            obtain ⟨dp, dar⟩ := d
            simp only [De.cells] at q0 q1 hfd
            have hc := find_any (HD4.out.below stayDe HB.out) dp
            rw [hfd] at hc
            simp only [Option.getD_some, Option.isSome_some] at hc
            have HC := Lib.hid hc
            clear hc hfd
            go_wp2_with (go_at_call 12; refine HC.out.mono ?_; rintro e w5 ⟨rfl, hb5⟩; have q2 := (hb5.cell (p := ⟨b, _, none⟩) hbl).trans q1; have HB5 : Hid (Below w4.heap.size w4 w5) := HB.out.trans (hb5.mono HB.out.size); clear hb5)
            go_roundw
            case rel => exact ⟨k + 1, by omega, by simp, HB5⟩
            case measure => simp [intOf]; omega
          · have hltI : ¬ (k : Int) < (n4 : Int) := by omega
            go_wp2
            go_ret
            exact ⟨rfl, out_of HW.out (HB9.out.trans ((HB4.out.trans (HB.out.mono HB4.out.size)).mono HB9.out.size))⟩
      · have hq9 := ord_set (b9 := w2.heap.size + 1) HL0.out HHN.out hSb (by omega) (Value.slice xo g.decls.length xc) (Value.slice vo VM vc)
        have hp9 := pack_set (x := .slice xo g.decls.length xc) (m := VM) (vo := vo) (vc := vc) HO2.out rfl hSb.2.2.2 hSb.2.2.2 (by simp; unfold maxLen; omega) HC9.out HV9.out (by have := HHN.out; omega) (by have := HHN.out; omega)
        generalize (wb.setCell ⟨w2.heap.size + 1, 0, none⟩ (Value.slice xo g.decls.length xc)).setCell ⟨w2.heap.size + 1, 1, none⟩ (Value.slice vo VM vc) = X at hp9 hq9 ⊢
        generalize w2.heap.size + 1 = b9 at hp9 ⊢
        clear HZ1 HZ2 HO1 HO2 hSa hSb hdl htl hrunF hrunT hwa HC9 HV9 c0 c1 f0 f1 lt9
        have HB9 := Lib.hid hp9.bel
        have HPX := Lib.hid hp9
        have r0 := hq9.1
        have r1 := hq9.2
        have s0 := hp9.c0
        have s1 := hp9.c1
        have HQ1 := Lib.hid (of_any g _ _ X (HX.out.below stayDe HB9.out) (HY.out.below stayRu HB9.out) HU.out HN.out)
        have HQ2 : Hid (∀ W', Below X.heap.size X W' → Calls Try.prog 10 #[.agg #[.slice xo g.decls.length xc, .slice vo VM vc]] W' (OfOut W' (usesL (turnP g kk)))) := fun W' hb => of_any (turnP g kk) _ _ W' ((HX.out.below stayDe HB9.out).below stayDe hb) ((show Rus X (.slice vo VM vc) (turnP g kk).rules from HPX.out.rus).below stayRu hb) HU2.out HN2.out
        have hb9 := hp9.lt
        clear hp9 hq9
        go_wp2_with (first
          | (go_at_call 10; with_reducible refine HQ1.out.mono ?_; clear HQ1; intro e w3 h3; obtain ⟨v3, he3, hd3, hb3⟩ := h3.des HN.out; obtain ⟨c3, hc3⟩ : ∃ c : Int, c = (if (told (usesL g)).bad then 5 else 0) := ⟨_, rfl⟩; obtain ⟨p3, hp3⟩ : ∃ p : Nat, p = (told (usesL g)).at' := ⟨_, rfl⟩; rw [← hc3, ← hp3] at he3; subst he3; have HC3 := Lib.hid hc3; obtain ⟨o3, n3, t3, rfl, hn3⟩ := hd3.formN; have HN3 := Lib.hid hn3; have HB3 := Lib.hid hb3; have HD3 := Lib.hid hd3; have z0 := (hb3.cell (p := ⟨b9, 0, none⟩) hb9).trans s0; have z1 := (hb3.cell (p := ⟨b9, 1, none⟩) hb9).trans s1; clear h3 hc3 hp3 hn3 hb3 hd3 r0 r1 s0 s1)
          | (go_at_call 10; with_reducible refine (HQ2.out _ HB3.out).mono ?_; clear HQ2; intro e w4 h4; obtain ⟨v4, he4, hd4, hb4⟩ := h4.des HN2.out; obtain ⟨p4, hp4⟩ : ∃ p : Nat, p = (told (usesL (turnP g kk))).at' := ⟨_, rfl⟩; rw [← HT.out.1, ← HC3.out, ← hp4] at he4; subst he4; obtain ⟨o4, n4, t4, rfl, hn4⟩ := hd4.formN; rw [← HT.out.2.1, ← HN3.out] at hn4; subst hn4; have HD34 := Lib.hid (HD3.out.below stayDe hb4); have HD4 := Lib.hid hd4; have HB4 := Lib.hid (HB3.out.trans (hb4.mono HB3.out.size)); clear h4 hp4 hb4 hd4 HD3 z0 z1))
        have hk3 : (n4 : Int) ≤ 1000000000 := by have := HN.out; have h2 := told_len (usesL g); have := HN3.out; omega
        go_loopw [14] (fun i wr => ∃ k : Nat, k ≤ n4 ∧ i = .int .i64 (k : Int) ∧ Hid (Below w4.heap.size w4 wr)) (fun i _ => n4 - (intOf i).toNat)
        case atStart => exact ⟨0, Nat.zero_le _, rfl, Below.refl _ _⟩
        case round =>
          obtain ⟨k, hk, rfl, HB⟩ := hrel
          by_cases hlt : k < n4
          · have hltI : (k : Int) < (n4 : Int) := by omega
            have hlt' : k < (told (usesL g)).l.length := by have := HN3.out; omega
            obtain ⟨b, off, cs, rfl, hbl, hR, hcell⟩ := (HD34.out.below stayDe HB.out).at k hlt'
            obtain rfl : cs = _ := hR
            have q0 := hcell 0 _ rfl
            have q1 := hcell 1 _ rfl
            simp only [Nat.add_zero] at q0
            have hfd := HT.out.2.2 _ (List.getElem_mem hlt')
            have hcap : n4 ≤ t3 := by
              obtain ⟨_, _, e, h1, -⟩ := HD34.out.form
              cases e
              have := HN3.out
              omega
            clear hcell
            obtain ⟨d, hd⟩ : ∃ d, d = (told (usesL g)).l[k]'hlt' := ⟨_, rfl⟩
            rw [← hd] at q0 q1 hfd
            clear hd
            obtain ⟨dp, dar⟩ := d
            simp only [De.cells] at q0 q1 hfd
            have hc := find_any (HD4.out.below stayDe HB.out) dp
            rw [hfd] at hc
            simp only [Option.getD_some, Option.isSome_some] at hc
            have HC := Lib.hid hc
            clear hc hfd
            go_wp2_with (go_at_call 12; refine HC.out.mono ?_; rintro e w5 ⟨rfl, hb5⟩; have q2 := (hb5.cell (p := ⟨b, _, none⟩) hbl).trans q1; have HB5 : Hid (Below w4.heap.size w4 w5) := HB.out.trans (hb5.mono HB.out.size); clear hb5)
            go_roundw
            case rel => exact ⟨k + 1, by omega, by simp, HB5⟩
            case measure => simp [intOf]; omega
          · have hltI : ¬ (k : Int) < (n4 : Int) := by omega
            go_wp2
            go_ret
            exact ⟨rfl, out_of HW.out (HB9.out.trans ((HB4.out.trans (HB.out.mono HB4.out.size)).mono HB9.out.size))⟩
      · have hq9 := ord_set (b9 := w2.heap.size) HL0.out HHN.out hSb (by omega) (Value.slice xo g.decls.length xc) (Value.slice vo VM vc)
        have hp9 := pack_set (x := .slice xo g.decls.length xc) (m := VM) (vo := vo) (vc := vc) HO2.out rfl hSb.2.2.2 hSb.2.2.2 (by simp; unfold maxLen; omega) HC9.out HV9.out (by have := HHN.out; omega) (by have := HHN.out; omega)
        generalize (wb.setCell ⟨w2.heap.size, 0, none⟩ (Value.slice xo g.decls.length xc)).setCell ⟨w2.heap.size, 1, none⟩ (Value.slice vo VM vc) = X at hp9 hq9 ⊢
        generalize w2.heap.size = b9 at hp9 ⊢
        clear HZ1 HZ2 HO1 HO2 hSa hSb hdl htl hrunF hrunT hwa HC9 HV9 c0 c1 f0 f1 lt9
        have HB9 := Lib.hid hp9.bel
        have HPX := Lib.hid hp9
        have r0 := hq9.1
        have r1 := hq9.2
        have s0 := hp9.c0
        have s1 := hp9.c1
        have HQ1 := Lib.hid (of_any g _ _ X (HX.out.below stayDe HB9.out) (HY.out.below stayRu HB9.out) HU.out HN.out)
        have HQ2 : Hid (∀ W', Below X.heap.size X W' → Calls Try.prog 10 #[.agg #[.slice xo g.decls.length xc, .slice vo VM vc]] W' (OfOut W' (usesL (turnP g kk)))) := fun W' hb => of_any (turnP g kk) _ _ W' ((HX.out.below stayDe HB9.out).below stayDe hb) ((show Rus X (.slice vo VM vc) (turnP g kk).rules from HPX.out.rus).below stayRu hb) HU2.out HN2.out
        have hb9 := hp9.lt
        clear hp9 hq9
        go_wp2_with (first
          | (go_at_call 10; with_reducible refine HQ1.out.mono ?_; clear HQ1; intro e w3 h3; obtain ⟨v3, he3, hd3, hb3⟩ := h3.des HN.out; obtain ⟨c3, hc3⟩ : ∃ c : Int, c = (if (told (usesL g)).bad then 5 else 0) := ⟨_, rfl⟩; obtain ⟨p3, hp3⟩ : ∃ p : Nat, p = (told (usesL g)).at' := ⟨_, rfl⟩; rw [← hc3, ← hp3] at he3; subst he3; have HC3 := Lib.hid hc3; obtain ⟨o3, n3, t3, rfl, hn3⟩ := hd3.formN; have HN3 := Lib.hid hn3; have HB3 := Lib.hid hb3; have HD3 := Lib.hid hd3; have z0 := (hb3.cell (p := ⟨b9, 0, none⟩) hb9).trans s0; have z1 := (hb3.cell (p := ⟨b9, 1, none⟩) hb9).trans s1; clear h3 hc3 hp3 hn3 hb3 hd3 r0 r1 s0 s1)
          | (go_at_call 10; with_reducible refine (HQ2.out _ HB3.out).mono ?_; clear HQ2; intro e w4 h4; obtain ⟨v4, he4, hd4, hb4⟩ := h4.des HN2.out; obtain ⟨p4, hp4⟩ : ∃ p : Nat, p = (told (usesL (turnP g kk))).at' := ⟨_, rfl⟩; rw [← HT.out.1, ← HC3.out, ← hp4] at he4; subst he4; obtain ⟨o4, n4, t4, rfl, hn4⟩ := hd4.formN; rw [← HT.out.2.1, ← HN3.out] at hn4; subst hn4; have HD34 := Lib.hid (HD3.out.below stayDe hb4); have HD4 := Lib.hid hd4; have HB4 := Lib.hid (HB3.out.trans (hb4.mono HB3.out.size)); clear h4 hp4 hb4 hd4 HD3 z0 z1))
        have hk3 : (n4 : Int) ≤ 1000000000 := by have := HN.out; have h2 := told_len (usesL g); have := HN3.out; omega
        go_loopw [14] (fun i wr => ∃ k : Nat, k ≤ n4 ∧ i = .int .i64 (k : Int) ∧ Hid (Below w4.heap.size w4 wr)) (fun i _ => n4 - (intOf i).toNat)
        case atStart => exact ⟨0, Nat.zero_le _, rfl, Below.refl _ _⟩
        case round =>
          obtain ⟨k, hk, rfl, HB⟩ := hrel
          by_cases hlt : k < n4
          · have hltI : (k : Int) < (n4 : Int) := by omega
            have hlt' : k < (told (usesL g)).l.length := by have := HN3.out; omega
            obtain ⟨b, off, cs, rfl, hbl, hR, hcell⟩ := (HD34.out.below stayDe HB.out).at k hlt'
            obtain rfl : cs = _ := hR
            have q0 := hcell 0 _ rfl
            have q1 := hcell 1 _ rfl
            simp only [Nat.add_zero] at q0
            have hfd := HT.out.2.2 _ (List.getElem_mem hlt')
            have hcap : n4 ≤ t3 := by
              obtain ⟨_, _, e, h1, -⟩ := HD34.out.form
              cases e
              have := HN3.out
              omega
            clear hcell
            obtain ⟨d, hd⟩ : ∃ d, d = (told (usesL g)).l[k]'hlt' := ⟨_, rfl⟩
            rw [← hd] at q0 q1 hfd
            clear hd
            obtain ⟨dp, dar⟩ := d
            simp only [De.cells] at q0 q1 hfd
            have hc := find_any (HD4.out.below stayDe HB.out) dp
            rw [hfd] at hc
            simp only [Option.getD_some, Option.isSome_some] at hc
            have HC := Lib.hid hc
            clear hc hfd
            go_wp2_with (go_at_call 12; refine HC.out.mono ?_; rintro e w5 ⟨rfl, hb5⟩; have q2 := (hb5.cell (p := ⟨b, _, none⟩) hbl).trans q1; have HB5 : Hid (Below w4.heap.size w4 w5) := HB.out.trans (hb5.mono HB.out.size); clear hb5)
            go_roundw
            case rel => exact ⟨k + 1, by omega, by simp, HB5⟩
            case measure => simp [intOf]; omega
          · have hltI : ¬ (k : Int) < (n4 : Int) := by omega
            go_wp2
            go_ret
            exact ⟨rfl, out_of HW.out (HB9.out.trans ((HB4.out.trans (HB.out.mono HB4.out.size)).mono HB9.out.size))⟩
end Go.Proofs.Ytadccjcmiajdeaa
