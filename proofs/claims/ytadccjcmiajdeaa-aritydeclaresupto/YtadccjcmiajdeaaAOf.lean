/-
  Contract of arity.Of: the arities of a program, or the first use that clashes.
-/
import Derived.Test.YtadccjcmiajdeaaAOfP
namespace Go.Proofs.Ytadccjcmiajdeaa
set_option linter.unusedSimpArgs false
set_option linter.unusedVariables false
set_option linter.unusedSectionVars false
set_option maxRecDepth 100000
open Go.RowKit Go.Shelf Go.Maps
attribute [local go_sem] Oper.semAt_some

/-- What Of hands back. -/
def OfOut (w : World) (L : List De) (e : Ending) (w' : World) : Prop :=
  ∃ v, e = .returned (.tuple #[v, .int .i64 ((told L).at' : Nat), .int .i64 (if (told L).bad then 5 else 0)]) ∧ w'.ownsRow w.heap.size 39 2 v (told L).l.length ((told L).l.flatMap De.cells) ∧ Below w.heap.size w w'
theorem two_new (w : World) (x y : Value) (t : TypeId) : ∀ j u, [x, y][j]? = some u → (w.alloc (.cells #[x, y] t)).cell? ((⟨w.heap.size, 0, none⟩ : Addr).add j) = some u := by
  intro j u hj
  rw [add_noneK, (Blk.new w _ t).cell]
  simpa using hj

set_option maxHeartbeats 8000000 in
theorem of_any (g : Pr) (x y : Value) (w : World) (hx : Des w x g.decls) (hy : Rus w y g.rules) (hu : ∀ u ∈ usesL g, u.p.size ≤ maxLen ∧ InR u.ar) (hl : (usesL g).length ≤ 1000000000) :
    Calls Try.prog 10 #[.agg #[x, y]] w (OfOut w (usesL g)) := by
  obtain ⟨i0, hi, hz0, hz1, hz2⟩ := info_parts infoDe
  have hmm := @run_makeMap Try.prog
  have HX := Lib.hid hx
  have HY := Lib.hid hy
  have HU := Lib.hid hu
  obtain ⟨L, hL⟩ : ∃ L, L = usesL g := ⟨_, rfl⟩
  rw [← hL] at HU hl ⊢
  have HL := Lib.hid hL
  have HN := Lib.hid hl
  obtain ⟨xo, xc, rfl, -⟩ := hx.form
  obtain ⟨yo, yc, rfl, -⟩ := hy.form
  clear hx hy hu hL hl
  refine (callsIn_wide (n := 3)).1 ?_
  refine callsIn_of_wp_marks Try.func10 rfl trivial ?_ rfl
  simp only [Try.ntmps10, List.size_toArray, List.length_cons, List.length_nil, Nat.reduceAdd, Nat.reduceSub, Array.replicate_succ, Array.replicate_zero, List.push_toArray, List.append_toArray, List.nil_append, List.cons_append]
  gi_wp2_with (refine ⟨trivial, ?_⟩; gi_at_call 17; refine (callsIn_wide.2 (uses_any _ _ _)).mono ?_; rintro e w1 ⟨rfl, hw1⟩)
  simp only [World.size_alloc, Nat.add_assoc, Nat.reduceAdd] at hw1 ⊢
  have hsz : w1.heap.size = w.heap.size + 9 := by rw [hw1]; simp
  have hB1 : Below w.heap.size w w1 := by
    rw [hw1]
    exact ((((((((al_bel w _).alloc (by simp) _).alloc (by simp; omega) _).alloc (by simp; omega) _).alloc (by simp; omega) _).alloc (by simp; omega) _).alloc (by simp; omega) _).alloc (by simp; omega) _).alloc (by simp; omega) _
  have hS1 : OfSt w.heap.size [] w1 := by
    rw [hw1]
    have a2 := Boxed.new (w.alloc (.cells #[.slice xo g.decls.length xc, .slice yo g.rules.length yc] 25)) 22 (.slice none 0 0)
    have a3 := Boxed.new ((w.alloc (.cells #[.slice xo g.decls.length xc, .slice yo g.rules.length yc] 25)).alloc (.cells #[.slice none 0 0] 22)) 3 (.int .i64 0)
    have a4 := Boxed.new (((w.alloc (.cells #[.slice xo g.decls.length xc, .slice yo g.rules.length yc] 25)).alloc (.cells #[.slice none 0 0] 22)).alloc (.cells #[.int .i64 0] 3)) 28 (.int .i64 0)
    have a5 := Boxed.new ((((w.alloc (.cells #[.slice xo g.decls.length xc, .slice yo g.rules.length yc] 25)).alloc (.cells #[.slice none 0 0] 22)).alloc (.cells #[.int .i64 0] 3)).alloc (.cells #[.int .i64 0] 28)) 22 (.slice none 0 0)
    have a6 := World.ownsMap_made (((((w.alloc (.cells #[.slice xo g.decls.length xc, .slice yo g.rules.length yc] 25)).alloc (.cells #[.slice none 0 0] 22)).alloc (.cells #[.int .i64 0] 3)).alloc (.cells #[.int .i64 0] 28)).alloc (.cells #[.slice none 0 0] 22)) Try.prog 9 (plainElem (H := Unit) Try.prog 3)
    have a7 := Boxed.new ((((((w.alloc (.cells #[.slice xo g.decls.length xc, .slice yo g.rules.length yc] 25)).alloc (.cells #[.slice none 0 0] 22)).alloc (.cells #[.int .i64 0] 3)).alloc (.cells #[.int .i64 0] 28)).alloc (.cells #[.slice none 0 0] 22)).alloc (.map #[] 0)) 55 (.map (some (w.heap.size + 5)))
    have a8 := Boxed.new (((((((w.alloc (.cells #[.slice xo g.decls.length xc, .slice yo g.rules.length yc] 25)).alloc (.cells #[.slice none 0 0] 22)).alloc (.cells #[.int .i64 0] 3)).alloc (.cells #[.int .i64 0] 28)).alloc (.cells #[.slice none 0 0] 22)).alloc (.map #[] 0)).alloc (.cells #[.map (some (w.heap.size + 5))] 55)) 3 (.int .i64 0)
    simp only [World.size_alloc, Nat.add_assoc, Nat.reduceAdd] at a2 a3 a4 a5 a6 a7 a8
    exact ⟨((((((a2.alloc _).alloc _).alloc _).alloc _).alloc _).alloc _).alloc _, (((((a3.alloc _).alloc _).alloc _).alloc _).alloc _).alloc _, ((((a4.alloc _).alloc _).alloc _).alloc _).alloc _, ⟨_, (((a5.alloc _).alloc _).alloc _).alloc _, World.ownsRow_nil _ _ _ _⟩, (a7.alloc _).alloc _, ⟨_, ((a6.alloc _).alloc _).alloc _, readsD_nil⟩, a8.alloc _, fine_nil⟩
  have hbox : w1.heap[w.heap.size + 8]? = some (.cells #[.slice xo g.decls.length xc, .slice yo g.rules.length yc] 25 (0, 0)) := by
    rw [hw1, show w.heap.size + 8 = ((((((((w.alloc (.cells #[.slice xo g.decls.length xc, .slice yo g.rules.length yc] 25)).alloc (.cells #[.slice none 0 0] 22)).alloc (.cells #[.int .i64 0] 3)).alloc (.cells #[.int .i64 0] 28)).alloc (.cells #[.slice none 0 0] 22)).alloc (.map #[] 0)).alloc (.cells #[.map (some (w.heap.size + 5))] 55)).alloc (.cells #[.int .i64 0] 3)).heap.size by simp]
    exact Blk.new _ _ _
  rw [← hw1]
  clear hw1
  refine iter_loop (gf := 18) (lb := #[.pointer (some ⟨w.heap.size + 8, 0, none⟩)]) rfl (enters_of Try.func18 (by kernel_rfl) rfl) (L := L)
    (by rw [HL.out]; exact uses_iter (W0 := w) g _ _ HX.out HY.out hB1 (w.heap.size + 8) hbox) (fun _ _ _ h k => h.trans k) (fun X l o o' hl h hc => KpH.put X l o o' (by omega) h hc) (fun x args he => by obtain rfl : args = _ := he; rfl)
    (fun pre W => OfSt w.heap.size pre W ∧ Below w.heap.size w W)
    (fun c pre W => (c = .ret ∧ OfBad w.heap.size pre W) ∧ Below w.heap.size w W)
    (OwnFrom.and (OfSt.own _ _ (by omega)) (ownFrom_below (Nat.le_refl _) (by omega)))
    (fun c => OwnFrom.and (OwnFrom.and (ownFrom_pure _ _) (fun s X Y row hs hg hr => hs.kept hg (fun r e => by have := (hr r e).1; omega))) (ownFrom_below (Nat.le_refl _) (by omega)))
    ⟨hS1, hB1⟩
    (fun x args a' W => ∃ (ub : Nat) (v : Value), W.heap[ub]? = some (Obj.cells #[.string x.p, .int .i64 x.ar] 39 (0, 0)) ∧ a' = { tmps := #[.agg #[.slice xo g.decls.length xc, .slice yo g.rules.length yc], .pointer (some ⟨w.heap.size, 0, none⟩), .pointer (some ⟨w.heap.size + 1, 0, none⟩), .pointer (some ⟨w.heap.size + 2, 0, none⟩), .pointer (some ⟨w.heap.size + 3, 0, none⟩), .pointer (some ⟨w.heap.size + 4, 0, none⟩), .pointer (some ⟨w.heap.size + 6, 0, none⟩), .pointer (some ⟨w.heap.size + 7, 0, none⟩), .pointer (some ⟨ub, 0, none⟩), undef, undef, .map (some (w.heap.size + 5)), .agg #[.slice xo g.decls.length xc, .slice yo g.rules.length yc], .func (.func 18) #[] #[.pointer (some ⟨w.heap.size + 8, 0, none⟩)], v, undef, undef, undef, undef, undef, undef, undef, undef, undef, undef, undef, undef, undef, undef, undef, undef, undef, undef, undef, undef, undef, undef, undef, undef, undef, undef, undef, undef, undef], defers := [] })
    (fun x args a' _ X Y row hs hg hr => by obtain ⟨ub, v, h1, h2⟩ := hs; exact ⟨ub, v, (hg.block ub (Array.getElem?_eq_some_iff.1 h1).1 (fun e => by obtain ⟨o, ho, hc⟩ := (hr ub e.symm).2; rw [h1] at ho; cases ho; cases hc)).trans h1, h2⟩)
    ?assign ?body ?done ?stop
  case assign =>
    intro l m pre x args W K he hi hs hK
    obtain rfl : args = _ := he
    have HI := Lib.hid hi
    have HK := Lib.hid hK
    have hn : w.heap.size ≤ W.heap.size := by omega
    clear hi hK hB1 hS1 hbox
    gi_wp2
    exact HK.out _ _ ((KeepsOthers.alloc _ _).from _) (KpH.alloc _ _ hn) ⟨HI.out.1.kept (World.grownBy_alloc W _ none) (fun r e => by cases e), HI.out.2.trans ((al_bel W _).mono hn)⟩ ⟨W.heap.size, _, Blk.new _ _ _, rfl⟩
  case body =>
    intro l m pre x rest args a' W hL he hi hax hs
    obtain ⟨ub, v, hub, rfl⟩ := hax
    obtain ⟨hS, hB⟩ := hi
    have hux := HU.out x (by rw [hL]; simp)
    have hlen : pre.length + 1 ≤ L.length := by rw [hL]; simp
    have hN := HN.out
    have hlk := hS.look hux.1
    have c6 := hS.mp.cell
    have c7 := hS.cnt.cell
    have f7 := hS.cnt.frozen
    have u0 : W.cell? ⟨ub, 0, none⟩ = some (.string x.p) := by rw [cell_of_row W ub 0 _ _ _ hub]; rfl
    have u1 : W.cell? ⟨ub, 1, none⟩ = some (.int .i64 x.ar) := by rw [cell_of_row W ub 1 _ _ _ hub]; rfl
    have HS := Lib.hid hS
    have HB := Lib.hid hB
    have HUB := Lib.hid hub
    have HUX := Lib.hid hux
    have hpI : (pre.length : Int) ≤ 1000000000 := by omega
    clear hS hB hub hux hL hlen hN hB1 hS1 hbox hmm
    cases hf : findD pre x.p with
    | some k =>
      rw [hf] at hlk
      simp only [Option.getD_some, Option.isSome_some] at hlk
      by_cases hk : k = x.ar
      · subst hk
        have hcl : Hid (clash pre x = false) := by show _ = _; unfold clash; rw [hf]; simp
        have hfi : Hid (firsts (pre ++ [x]) = firsts pre) := by show _ = _; rw [firsts_snoc', hf]; rfl
        gi_wp2
        obtain ⟨h1, h2⟩ := HS.out.same hcl.out hfi.out HB.out.size
        exact ⟨(KeepsOthers.setCell _ _ _).from _, h2, h1, HB.out.trans h2.bel⟩
      · have hcl : Hid (clash pre x = true) := by show _ = _; unfold clash; rw [hf]; simp [hk]
        have d2 := HS.out.r2.cell
        have d3 := HS.out.r3.cell
        have d4 := HS.out.r4.cell
        have g2 := HS.out.r2.frozen
        have g3 := HS.out.r3.frozen
        have g4 := HS.out.r4.frozen
        have hmix := mixedO
        gi_wp2
        gi_region_o
        all_goals
          gi_wp2
          exact ⟨((set3 HB.out.size).2 _).trans ((KeepsOthers.drew _).from _), ⟨rfl, HS.out.leave hcl.out⟩, HB.out.trans (set3 HB.out.size).1.drew⟩
    | none =>
      rw [hf] at hlk
      simp only [Option.getD_none, Option.isSome_none] at hlk
      have hcl : Hid (clash pre x = false) := by show _ = _; unfold clash; rw [hf]
      have hfi : Hid (firsts (pre ++ [x]) = firsts pre ++ [x]) := by show _ = _; rw [firsts_snoc', hf]; rfl
      have hfl : (firsts pre).length ≤ 1000000000 := Nat.le_trans (firsts_len pre) (by omega)
      have hf0 : Hid (findD (firsts pre) x.p = none) := by show _ = _; rw [findD_firsts]; exact hf
      obtain ⟨D, hD, hR⟩ := HS.out.mm
      have HR := Lib.hid hR
      have HD := Lib.hid hD
      clear hR hD hf
      gi_wp2_with (first
        | (gi_at_mapUpdate; refine wpListIn_mapUpdate_own _ rfl _ _ _ 55 rfl 9 3 keyedS Try.underlying55 _ (w.heap.size + 5) (firsts pre).length D rfl HD.out (by unfold maxLen; omega) _ _ _ rfl rfl (keyS HUX.out.1) _ [] (plainElem_int Try.underlying3 (WalkArith.wf_i64 ⟨HUX.out.2.1, HUX.out.2.2⟩)) ?_; intro w2 hown2 hg2
           obtain ⟨b1, b2, b3, b6, b7, v4, e4, e4', ho4, hk4, -⟩ := HS.out.store HB.out.size hg2
           have c4 := e4'.cell
           have hub2 : w2.heap[ub]? = some (Obj.cells #[.string x.p, .int .i64 x.ar] 39 (0, 0)) := (hg2.block ub (Array.getElem?_eq_some_iff.1 HUB.out).1 (fun e => by
             obtain ⟨es, ck, hh, -⟩ := HD.out
             have hub := HUB.out
             rw [Option.some.inj e, hh] at hub
             cases hub)).trans HUB.out
           have y0 : w2.cell? ⟨ub, 0, none⟩ = some (.string x.p) := by rw [cell_of_row w2 ub 0 _ _ _ hub2]; rfl
           have y1 : w2.cell? ⟨ub, 1, none⟩ = some (.int .i64 x.ar) := by rw [cell_of_row w2 ub 1 _ _ _ hub2]; rfl
           have HG2 := Lib.hid hg2
           have HO2 := Lib.hid hown2
           have HE4 := Lib.hid e4'
           have HR4 := Lib.hid ho4
           have HB7 := Lib.hid b7
           have hn2 : w.heap.size ≤ w2.heap.size := Nat.le_trans HB.out.size hg2.size
           clear hg2 hown2 b1 b2 b3 b6 b7 e4 e4' ho4 hk4 c6 c7 f7 hub2 u0 u1)
        | (gi_at_builtin; refine wpListIn_append_own _ rfl _ _ 22 rfl w.heap.size 39 i0 _ 2 24 Try.underlying22 hi hz0 hz1 hz2 rfl (by decide) v4 (firsts pre).length ((firsts pre).flatMap De.cells) rfl (HR4.out.alloc _) ⟨w2.heap.size, 0, none⟩ 1 1 [.string x.p, .int .i64 x.ar] rfl rfl (two_new _ _ _ _) (by simp [Value.oneCell']) (by unfold maxLen; omega) (by omega) (by simp; omega) ?_; intro v' w3 hown3 hg3 _
           obtain ⟨g', cap', rfl⟩ := ownsRow_succ hown3
           have s4 := (HE4.out.appended (by decide) HR4.out hn2 (Nat.le_add_right _ _) hown3 hg3).1
           have s7 := (HB7.out.alloc (.cells #[.string x.p, .int .i64 x.ar] 39)).kept hg3 (HB7.out.not_row (by decide) HR4.out)
           have t4 := s4.cell
           have t5 := s4.frozen
           have t6 := s7.cell
           have t7 := s7.frozen
           have HM := Lib.hid (HS.out.more hcl.out hfi.out HB.out.size HG2.out HO2.out (readsD_put HR.out HD.out.isMap HUX.out.1 hf0.out) HE4.out HR4.out hg3 hown3)
           clear s4 s7 hown3 hg3 HG2 HO2 HE4 HR4 HB7 c4 y0 y1))
      exact ⟨HM.out.2.2 _ (by omega), HM.out.2.1, HM.out.1, HB.out.trans HM.out.2.1.bel⟩
  case done =>
    intro D W hD hi hDm
    obtain ⟨hS, hB⟩ := hi
    obtain ⟨v, hv, ho⟩ := hS.lst
    have d2 := hS.r2.cell
    have d3 := hS.r3.cell
    have d4 := hS.r4.cell
    have d5 := hv.cell
    have g2 := hS.r2.frozen
    have g3 := hS.r3.frozen
    have g4 := hS.r4.frozen
    have HS := Lib.hid hS
    have HB := Lib.hid hB
    have HO := Lib.hid ho
    have HD := Lib.hid hDm
    have hsW : w.heap.size ≤ W.heap.size := hB.size
    obtain ⟨ao, cap, hv'⟩ : ∃ ao cap, v = .slice ao (firsts L).length cap := by
      rcases ho.2 with ⟨rfl, hn⟩ | ⟨g', cap, cur, rfl, _⟩
      · exact ⟨none, 0, by rw [hn]⟩
      · exact ⟨_, _, rfl⟩
    have HV := Lib.hid hv'
    rw [hv'] at d5
    clear hS hB hv ho hDm hB1 hS1 hbox hv'
    gi_wp2
    have HA : Hid (OfAll w.heap.size (.slice ao (firsts L).length cap) 0 0 ((firsts L).flatMap De.cells) (firsts L).length w (((W.setCell ⟨w.heap.size + 1, 0, none⟩ (.slice ao (firsts L).length cap)).setCell ⟨w.heap.size + 2, 0, none⟩ (.int .i64 0)).setCell ⟨w.heap.size + 3, 0, none⟩ (.int .i64 0))) := by
      have := HS.out.close (v := .slice ao (firsts L).length cap) HO.out (by rw [← HV.out]; exact HO.out) HB.out
      exact this
    refine leaves_marks (B := w1.heap.size) (fun W'' => OfAll w.heap.size (.slice ao (firsts L).length cap) 0 0 ((firsts L).flatMap De.cells) (firsts L).length w W'') (OfAll.own (by omega)) (fun w3 h3 => ?_) [D] _ ⟨by simp, fun E hE => ?_⟩ HA.out
    · obtain ⟨e2, e3, e4, e5, e6⟩ := h3
      have e2 := e2.cell
      have e3 := e3.cell
      have e4 := e4.cell
      refine ⟨.tuple #[.slice ao (firsts L).length cap, .int .i64 0, .int .i64 0], by simp [results, Try.f10, go_sem, e2, e3, e4], .slice ao (firsts L).length cap, ?_, ?_, e6⟩
      · rw [told_fine HS.out.fine]; rfl
      · rw [told_fine HS.out.fine]; exact e5
    · obtain rfl : E = D := by simpa using hE
      exact ⟨hD, ((KeepsOthers.setCell _ _ _).same E _ ((KeepsOthers.setCell _ _ _).same E _ ((KeepsOthers.setCell _ _ _).same E _ HD.out rfl) rfl) rfl)⟩
  case stop =>
    intro D c pre W hD hpre hx hDm
    obtain ⟨⟨rfl, hx⟩, hB⟩ := hx
    have HX := Lib.hid hx
    have HB := Lib.hid hB
    have HD := Lib.hid hDm
    have HP := Lib.hid hpre
    clear hx hB hDm hpre hB1 hS1 hbox
    gi_wp2
    refine leaves_marks (B := w1.heap.size) (fun W'' => OfBad w.heap.size pre W'' ∧ Below w.heap.size w W'') (OwnFrom.and (fun s X Y row hs hg hr => hs.kept hg (fun r e => by have := (hr r e).1; omega)) (ownFrom_below (Nat.le_refl _) (by omega))) (fun w3 h3 => ?_) [D] _ ⟨by simp, fun E hE => ?_⟩ ⟨HX.out, HB.out⟩
    · obtain ⟨⟨p, x, rfl, h4, h5, e2, e3, e4⟩, e6⟩ := h3
      have e2 := e2.cell
      have e3 := e3.cell
      have e4 := e4.cell
      obtain ⟨rest, hr⟩ := HP.out
      rw [List.append_assoc] at hr
      refine ⟨.tuple #[.slice none 0 0, .int .i64 (p.length : Nat), .int .i64 5], by simp [results, Try.f10, go_sem, e2, e3, e4], .slice none 0 0, ?_, ?_, e6⟩
      · rw [← hr]; simp only [List.singleton_append, told_bad h4 h5]; rfl
      · rw [← hr]; simp only [List.singleton_append, told_bad h4 h5]; exact World.ownsRow_nil _ _ _ _
    · obtain rfl : E = D := by simpa using hE
      exact ⟨hD, HD.out⟩
end Go.Proofs.Ytadccjcmiajdeaa
