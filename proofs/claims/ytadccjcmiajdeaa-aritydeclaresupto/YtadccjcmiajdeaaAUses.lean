/-
  Contracts of arity.uses, and of what it hands back: it tells a program's uses in turn.
-/
import Derived.Test.YtadccjcmiajdeaaAIter
namespace Go.Proofs.Ytadccjcmiajdeaa
set_option linter.unusedSimpArgs false
set_option linter.unusedVariables false
set_option linter.unusedSectionVars false
set_option maxRecDepth 100000
open Go.RowKit Go.Shelf
attribute [local go_sem] Oper.semAt_some

set_option maxHeartbeats 1000000 in
theorem uses_any (x y : Value) (w : World) :
    Calls Try.prog 17 #[.agg #[x, y]] w fun e w' => e = .returned (.func (.func 18) #[] #[.pointer (some ⟨w.heap.size, 0, none⟩)]) ∧ w' = w.alloc (.cells #[x, y] 25) := by
  go_enter Try.func17, Try.ntmps17
  go_wp2
  go_ret
  exact ⟨rfl, rfl⟩

theorem marks_own {β : Type} {B C : Nat} {Ds : List Nat} (h : ∀ D ∈ Ds, D < C) : OwnFrom C (fun (_ : β) W => Marks B Ds W) := fun _ X Y row hs hg hr =>
  ⟨hs.1, fun D hD => ⟨(hs.2 D hD).1, (hg.block D (hs.lt D hD) (fun e => by have := (hr D e.symm).1; have := h D hD; omega)).trans (hs.2 D hD).2⟩⟩
theorem at_own {β : Type} {C : Nat} {J : List De → World → Prop} (h : OwnFrom C J) (f : β → List De) : OwnFrom C (fun s W => J (f s) W) := fun s X Y row hs hg hr => h (f s) X Y row hs hg hr

set_option maxHeartbeats 8000000 in
/-- What uses hands back. -/
theorem uses_iter {W0 : World} (g : Pr) (x y : Value) (hx : Des W0 x g.decls) (hy : Rus W0 y g.rules) {w : World} (h0 : Below W0.heap.size W0 w) (Bx : Nat)
    (hbox : w.heap[Bx]? = some (.cells #[x, y] 25 (0, 0))) :
    Iter Try.prog 18 #[.pointer (some ⟨Bx, 0, none⟩)] encDe (KpH W0.heap.size) (usesL g) w := by
  intro l J Jx W hW hJ hJx hY hJ0 n
  obtain ⟨decls, rules⟩ := g
  simp only at hx hy
  have hbW : W.heap[Bx]? = some (.cells #[x, y] 25 (0, 0)) := (hW.block Bx (Array.getElem?_eq_some_iff.1 hbox).1).trans hbox
  have hK0 : KpH W0.heap.size W0 W := KpH.below (h0.trans (hW.mono h0.size)) (Nat.le_refl _)
  obtain ⟨xo, xc, rfl, hxc, hxm⟩ := hx.form
  obtain ⟨yo, yc, rfl, hyc, hym⟩ := hy.form
  simp only [maxLen] at hxm hym
  have HY := Lib.hid hY
  have HXL := Lib.hid hx
  have HYL := Lib.hid hy
  have HJ := Lib.hid hJ
  have HJX := Lib.hid hJx
  have HK0 := Lib.hid hK0
  have HB := Lib.hid hbW
  have HJ0 := Lib.hid hJ0
  have HWS := Lib.hid (show W0.heap.size ≤ W.heap.size from hK0.bel.size)
  obtain ⟨V, hV⟩ : ∃ V, V = W.alloc (.cells #[.func (.yield l) #[] #[]] 59) := ⟨_, rfl⟩
  have HVK : Hid (KpH W0.heap.size W V) := by rw [hV]; exact KpH.alloc W _ HWS.out
  have HVJ : Hid (J [] V) := by rw [hV]; exact own_below hJ hJ0 (al_bel _ _)
  have HVB : Hid (V.heap[W.heap.size]? = some (.cells #[.func (.yield l) #[] #[]] 59 (0, 0))) := by rw [hV]; exact Blk.new _ _ _
  have HVP : Hid (V.heap[Bx]? = some (.cells #[.slice xo decls.length xc, .slice yo rules.length yc] 25 (0, 0))) := HVK.out.held _ _ _ _ hbW (.inl rfl)
  have c0 : V.cell? ⟨Bx, 0, none⟩ = some (.slice xo decls.length xc) := by rw [cell_of_row V Bx 0 _ _ _ HVP.out]; rfl
  clear hY hx hy hJ hJx hK0 hJ0 h0 hbox hW hbW
  refine callsIn_of_wp_marks Try.func18 rfl trivial ?_ rfl
  simp only [Try.ntmps18, List.size_toArray, List.length_cons, List.length_nil, Nat.reduceAdd, Nat.reduceSub, Array.replicate_succ, Array.replicate_zero, List.push_toArray, List.append_toArray, List.nil_append, List.cons_append]
  rw [hV] at c0
  gi_wp2
  rw [← hV]
  rw [← hV] at c0
  have HV := Lib.hid hV
  clear hV c0
  gi_loopw [11] (fun i wr => ∃ k : Nat, i = .int .i64 (k : Int) ∧ Hid (k ≤ decls.length ∧ KpH W0.heap.size V wr ∧ J (decls.take k) wr))
    (fun i _ => decls.length - (intOf i).toNat)
  case atStart =>
    exact ⟨0, rfl, Lib.hid ⟨by omega, KpH.refl _ _, HVJ.out⟩⟩
  case round =>
    obtain ⟨k, rfl, HH⟩ := hrel
    have hkm : k ≤ decls.length := HH.out.1
    by_cases hk : k < decls.length
    · have e1 : (k : Int) < (decls.length : Int) := by omega
      have hxr : Des wr (.slice xo decls.length xc) decls := HXL.out.below stayDe (HK0.out.trans (HVK.out.trans HH.out.2.1)).bel
      obtain ⟨b, off, cs, rfl, hbl, hR, hcell⟩ := hxr.at k hk
      obtain rfl : cs = _ := hR
      have q0 := hcell 0 _ rfl
      have q1 := hcell 1 _ rfl
      simp only [Nat.add_zero] at q0
      have HS : Hid (decls ++ rulesU rules = decls.take k ++ decls[k]'hk :: (decls.drop (k + 1) ++ rulesU rules)) := by
        show _ = _
        rw [← List.cons_append, ← List.append_assoc, List.getElem_cons_drop, List.take_append_drop]
      have HT1 : Hid (decls.take (k + 1) = decls.take k ++ [decls[k]'hk]) := by show _ = _; rw [List.take_succ_eq_append_getElem hk]
      clear hcell hxr
      obtain ⟨d, hd⟩ : ∃ d, d = decls[k]'hk := ⟨_, rfl⟩
      rw [← hd] at q0 q1 HS HT1
      clear hd
      have HP := Lib.hid (show W0.heap.size ≤ wr.heap.size from (HK0.out.trans (HVK.out.trans HH.out.2.1)).bel.size)
      have z0 : wr.cell? ⟨W.heap.size, 0, none⟩ = some (.func (.yield l) #[] #[]) := by
        rw [cell_of_row wr _ 0 _ _ _ (HH.out.2.1.held _ _ _ _ HVB.out (.inr (.inr rfl)))]; rfl
      have z1 : W.heap.size < wr.heap.size := lt_of_cell z0
      obtain ⟨dp, dar⟩ := d
      simp only [De.cells] at q0 q1
      obtain ⟨fn, tmps, assign, body', hy1, hR⟩ := HY.out _ _ _ _ (wr.alloc (.cells #[.string dp, .int .i64 dar] 39)) (n - 1) HS.out rfl (own_below HJ.out HH.out.2.2 (al_bel wr _))
      gi_wp2_with (refine ⟨fun h => (by cases h), hR.mono ?_⟩; clear hR; rintro e w2 ⟨-, (⟨rfl, hJ2, hk2⟩ | ⟨rfl, hJx2⟩)⟩)
      · have HJ4 := Lib.hid hJ2
        have HK4 := Lib.hid (HH.out.2.1.trans ((KpH.alloc wr _ HP.out).trans hk2))
        rw [← HT1.out] at HJ4
        clear hJ2 hk2 hy1
        gi_wp2
        go_roundw
        case rel => exact ⟨k + 1, by simp, Lib.hid ⟨by omega, HK4.out, HJ4.out⟩⟩
        case measure => simp [intOf]; omega
      · gi_wp2
        exact ⟨_, results_none rfl _ _ _, ⟨_, rfl⟩, .inr ⟨_, ⟨decls.drop (k + 1) ++ rulesU rules, by have := HS.out; simp only [usesL]; rw [this]; simp⟩, hJx2⟩⟩
    · have e1 : ¬ (k : Int) < (decls.length : Int) := by omega
      obtain rfl : k = decls.length := by omega
      have c1 : wr.cell? ⟨Bx, 1, none⟩ = some (.slice yo rules.length yc) := by
        rw [cell_of_row wr Bx 1 _ _ _ (HH.out.2.1.held _ _ _ _ HVP.out (.inl rfl))]; rfl
      gi_wp2
      refine wpIn_loop (fun a' w' => ∃ (k : Nat) (Ds : List Nat) (v6 v7 v24 v25 v26 v27 v28 v29 v30 v31 v32 v33 v34 v35 v36 v37 v38 v39 : Value), Hid (k ≤ rules.length ∧ KpH W0.heap.size V w' ∧ J (decls ++ rulesU (rules.take k)) w' ∧ Marks W.heap.size Ds w') ∧ a' = { tmps := #[.func (.yield l) #[] #[], .pointer (some ⟨Bx, 0, none⟩), .pointer (some ⟨W.heap.size, 0, none⟩), undef, u4, undef, v6, v7, .pointer (some ⟨Bx, 0, none⟩), .slice xo decls.length xc, .int .i64 (decls.length : Int), .int .i64 (decls.length : Int), .bool false, u13, u14, u15, u16, u17, u18, u19, .pointer (some ⟨Bx, 1, none⟩), .slice yo rules.length yc, .int .i64 (rules.length : Int), .int .i64 (k : Int), v24, v25, v26, v27, v28, v29, v30, v31, v32, v33, v34, v35, v36, v37, v38, v39], defers := Ds.map markAt })
        (fun a' _ => rules.length - (intOf (a'.tmps.getD 23 undef)).toNat) ?_ ?_
      · exact ⟨0, [], undef, undef, undef, undef, undef, undef, undef, undef, undef, undef, undef, undef, undef, undef, undef, undef, undef, undef, Lib.hid ⟨by omega, HH.out.2.1, by have := HH.out.2.2; rw [List.take_length] at this; simpa [rulesU] using this, List.nodup_nil, fun D hD => by simp at hD⟩, rfl⟩
      · clear HH c1 hkm e1 hk
        generalize wr = wr0
        rintro a' wr ⟨k, Ds, v6, v7, v24, v25, v26, v27, v28, v29, v30, v31, v32, v33, v34, v35, v36, v37, v38, v39, HH, rfl⟩
        have hkm : k ≤ rules.length := HH.out.1
        by_cases hk : k < rules.length
        · have e1 : (k : Int) < (rules.length : Int) := by omega
          have hyr : Rus W0 (.slice yo rules.length yc) rules := HYL.out
          obtain ⟨b, off, cs, rfl, hbl, ⟨xa, ya, rfl, hxa, hya⟩, hcell⟩ := hyr.at k hk
          obtain ⟨xao, xac, rfl, -⟩ := hxa.form
          obtain ⟨yao, yac, rfl, -⟩ := hya.form
          have hbw : Below W0.heap.size W0 wr := (HK0.out.trans (HVK.out.trans HH.out.2.1)).bel
          have q0 := (hbw.cell (p := ⟨b, _, none⟩) hbl).trans (hcell 0 _ rfl)
          have q1 := (hbw.cell (p := ⟨b, _, none⟩) hbl).trans (hcell 1 _ rfl)
          have q2 := (hbw.cell (p := ⟨b, _, none⟩) hbl).trans (hcell 2 _ rfl)
          simp only [Nat.add_zero] at q0
          have HS : Hid (usesL ⟨decls, rules⟩ = decls ++ rulesU (rules.take k) ++ (atomsL (rules[k]'hk)).map useOf ++ rulesU (rules.drop (k + 1))) := by
            show _ = _
            rw [usesL, rulesU_take hk]
            simp
          have HT1 : Hid (rulesU (rules.take (k + 1)) = rulesU (rules.take k) ++ (atomsL (rules[k]'hk)).map useOf) := rulesU_snoc hk
          clear hcell hyr
          obtain ⟨r, hr⟩ : ∃ r, r = rules[k]'hk := ⟨_, rfl⟩
          rw [← hr] at q0 q1 q2 HS HT1 hxa hya
          clear hr
          have HP := Lib.hid (show W0.heap.size ≤ wr.heap.size from hbw.size)
          have z0 : wr.cell? ⟨W.heap.size, 0, none⟩ = some (.func (.yield l) #[] #[]) := by
            rw [cell_of_row wr _ 0 _ _ _ (HH.out.2.1.held _ _ _ _ HVB.out (.inr (.inr rfl)))]; rfl
          have z1 : W.heap.size < wr.heap.size := lt_of_cell z0
          have HXA := Lib.hid hxa
          have HYA := Lib.hid hya
          clear hxa hya hbw
          gi_wp2_with (refine ⟨trivial, fun h => (by cases h), ?_⟩; gi_at_call 19; refine (callsIn_wide.2 (atoms_any _ _ _ _)).mono ?_; rintro e w1 ⟨rfl, hw1⟩)
          have hB4 : Below wr.heap.size wr w1 := by rw [hw1]; exact (al_bel wr _).trans ((al_bel _ _).mono (by simp))
          have hbox4 : w1.heap[wr.heap.size + 1]? = some (.cells #[.string r.head.p, .slice xao r.head.args.length xac, .slice yao r.body.length yac] 46 (0, 0)) := by
            rw [hw1]
            have := Blk.new (wr.alloc (.cells #[.string r.head.p, .slice xao r.head.args.length xac, .slice yao r.body.length yac] 46)) #[.string r.head.p, .slice xao r.head.args.length xac, .slice yao r.body.length yac] 46
            rw [World.size_alloc] at this
            exact this
          rw [← hw1]
          clear hw1
          have hs4 : wr.heap.size ≤ w1.heap.size := hB4.size
          have hDs : ∀ D ∈ Ds, D < w1.heap.size := fun D hD => Nat.lt_of_lt_of_le (HH.out.2.2.2.lt D hD) hs4
          have hp4 : W0.heap.size ≤ w1.heap.size := Nat.le_trans HP.out hs4
          have hv4 : W0.heap.size ≤ V.heap.size := (HK0.out.trans HVK.out).bel.size
          have hj4 : W.heap.size ≤ w1.heap.size := by omega
          obtain ⟨PRE, hPRE⟩ : ∃ PRE, PRE = decls ++ rulesU (rules.take k) := ⟨_, rfl⟩
          rw [← hPRE] at HS
          have HPRE := Lib.hid hPRE
          have HH4 : Hid (KpH W0.heap.size V w1 ∧ J PRE w1 ∧ Marks W.heap.size Ds w1) := ⟨HH.out.2.1.trans (KpH.below hB4 HP.out), by rw [hPRE]; exact own_below HJ.out HH.out.2.2.1 hB4, own_below (I := fun (_ : Unit) W' => Marks W.heap.size Ds W') (s := ()) (marks_own hDs) HH.out.2.2.2 hB4⟩
          clear hPRE HH
          refine iter_loop (gf := 20) (lb := #[.pointer (some ⟨wr.heap.size + 1, 0, none⟩)]) rfl (enters_of Try.func20 (by kernel_rfl) rfl)
            (atoms_iter (W0 := W0) r _ _ HXA.out HYA.out (w := w1) (HK0.out.trans (HVK.out.trans HH4.out.1)).bel (wr.heap.size + 1) hbox4) (fun _ _ _ h k => h.trans k) (fun X l o o' hl h hc => KpH.put X l o o' (Nat.le_trans hp4 hl) h hc) (fun x args he => by obtain ⟨ao, cap, rfl, -⟩ := he; rfl)
            (fun pre W' => (KpH W0.heap.size V W' ∧ J (PRE ++ pre.map useOf) W') ∧ Marks W.heap.size Ds W')
            (fun c pre W' => (c = .ret ∧ Jx (PRE ++ pre.map useOf) W') ∧ Marks W.heap.size Ds W')
            (OwnFrom.and (OwnFrom.and (kpH_own hv4 hp4) (at_own (ownFrom_mono HJ.out hj4) _)) (marks_own hDs))
            (fun c => OwnFrom.and (OwnFrom.and (ownFrom_pure _ _) (at_own (ownFrom_mono HJX.out hj4) _)) (marks_own hDs))
            ⟨⟨HH4.out.1, by simpa using HH4.out.2.1⟩, HH4.out.2.2⟩
            (fun x args a' W' => ∃ (ab : Nat) (v : Value) (ao : Option Addr) (cap : Nat), W'.heap[ab]? = some (.cells #[.string x.p, .slice ao x.args.length cap] 43 (0, 0)) ∧ x.args.length ≤ cap ∧ a' = { tmps := #[.func (.yield l) #[] #[], .pointer (some ⟨Bx, 0, none⟩), .pointer (some ⟨W.heap.size, 0, none⟩), undef, u4, undef, .pointer (some ⟨wr.heap.size, 0, none⟩), .pointer (some ⟨ab, 0, none⟩), .pointer (some ⟨Bx, 0, none⟩), .slice xo decls.length xc, .int .i64 (decls.length : Int), .int .i64 (decls.length : Int), .bool false, u13, u14, u15, u16, u17, u18, u19, .pointer (some ⟨Bx, 1, none⟩), .slice (some ⟨b, off, none⟩) rules.length yc, .int .i64 (rules.length : Int), .int .i64 (k : Int), .bool true, .pointer (some ⟨b, off + k * 3, none⟩), .agg #[.string r.head.p, .slice xao r.head.args.length xac, .slice yao r.body.length yac], .agg #[.string r.head.p, .slice xao r.head.args.length xac, .slice yao r.body.length yac], .func (.func 20) #[] #[.pointer (some ⟨wr.heap.size + 1, 0, none⟩)], v, v30, v31, v32, v33, v34, v35, v36, v37, v38, v39], defers := [] })
            (fun x args a' _ X Y row hs hg hr => by obtain ⟨ab, v, ao, cap, h1, h2⟩ := hs; exact ⟨ab, v, ao, cap, (hg.block ab (Array.getElem?_eq_some_iff.1 h1).1 (fun e => by obtain ⟨o, ho, hc⟩ := (hr ab e.symm).2; rw [h1] at ho; cases ho; cases hc)).trans h1, h2⟩)
            ?assign ?body ?done ?stop
          case assign =>
            intro l2 m pre x args W' K he hi hs hK
            obtain ⟨ao, cap, rfl, hcap⟩ := he
            have HI := Lib.hid hi
            have HK := Lib.hid hK
            have HC := Lib.hid hcap
            clear hi hK hcap
            gi_wp2
            exact HK.out _ _ ((KeepsOthers.alloc _ _).from _) (KpH.alloc _ _ (Nat.le_trans hp4 hs)) ⟨⟨HI.out.1.1.trans (KpH.alloc _ _ (Nat.le_trans hp4 hs)), own_below HJ.out HI.out.1.2 (al_bel _ _)⟩, HI.out.2.keeps ((KeepsOthers.alloc _ _).from _)⟩ ⟨W'.heap.size, _, ao, cap, Blk.new _ _ _, HC.out, rfl⟩
          case body =>
            intro l2 m pre x rest args a' W' hL he hi hax hs
            obtain ⟨ab, v, ao, cap, hab, hcap, rfl⟩ := hax
            have HI := Lib.hid hi
            have z0 : W'.cell? ⟨W.heap.size, 0, none⟩ = some (.func (.yield l) #[] #[]) := by
              rw [cell_of_row W' _ 0 _ _ _ (hi.1.1.held _ _ _ _ HVB.out (.inr (.inr rfl)))]; rfl
            have a0 : W'.cell? ⟨ab, 0, none⟩ = some (.string x.p) := by rw [cell_of_row W' ab 0 _ _ _ hab]; rfl
            have a1 : W'.cell? ⟨ab, 1, none⟩ = some (.slice ao x.args.length cap) := by rw [cell_of_row W' ab 1 _ _ _ hab]; rfl
            have HS4 : Hid (usesL ⟨decls, rules⟩ = (PRE ++ pre.map useOf) ++ useOf x :: (rest.map useOf ++ rulesU (rules.drop (k + 1)))) := by
              show _ = _
              rw [HS.out, hL]
              simp
            obtain ⟨fn, tmps, assign, body', hy1, hR⟩ := HY.out _ _ _ _ W' (m - 1) HS4.out rfl hi.1.2
            simp only [useOf] at hy1 hR
            clear hi hab hL
            gi_wp2_with (refine ⟨fun h => (by cases h), ?_⟩; refine (show RoundIn (Fence.wide.inRound l2) _ _ _ _ _ _ _ _ _ from hR).mono ?_; clear hR; rintro e w2 ⟨hkf, (⟨rfl, hJ2, hk2⟩ | ⟨rfl, hJx2⟩)⟩)
            · exact ⟨keeps_mono hkf hj4, hk2, ⟨HI.out.1.1.trans hk2, by simpa [useOf] using hJ2⟩, HI.out.2.keeps hkf⟩
            · exact ⟨keeps_mono hkf hj4, ⟨rfl, by simpa [useOf] using hJx2⟩, HI.out.2.keeps hkf⟩
          case done =>
            intro D W' hD hi hDm
            have HI := Lib.hid hi
            have HD := Lib.hid hDm
            clear hi hDm
            gi_wp2
            refine ⟨⟨k + 1, D :: Ds, _, _, _, _, _, _, _, _, _, _, _, _, _, _, _, _, _, _, Lib.hid ⟨by omega, HI.out.1.1, ?_, HI.out.2.cons (fun h => by have := hDs D h; omega) (Nat.le_trans hj4 hD) HD.out⟩, rfl⟩, ?_⟩
            · have := HI.out.1.2
              rw [HPRE.out, List.append_assoc, ← HT1.out] at this
              exact this
            · simp [intOf]; omega
          case stop =>
            intro D c pre W' hD hpre hx hDm
            obtain ⟨⟨rfl, hjx⟩, hM⟩ := hx
            have HX := Lib.hid hjx
            have HM := Lib.hid (hM.cons (fun h => by have := hDs D h; omega) (Nat.le_trans hj4 hD) hDm)
            have HPX := Lib.hid hpre
            clear hjx hM hDm hpre
            gi_wp2
            refine leaves_marks (B := W.heap.size) (fun W'' => Jx (PRE ++ pre.map useOf) W'') (at_own HJX.out _) (fun w3 h3 => ⟨_, results_none rfl _ _ _, ⟨_, rfl⟩, .inr ⟨_, ?_, h3⟩⟩) (D :: Ds) W' HM.out HX.out
            obtain ⟨q, hq⟩ := HPX.out
            refine ⟨q.map useOf ++ rulesU (rules.drop (k + 1)), ?_⟩
            have := HS.out
            rw [← hq] at this
            rw [this]
            simp
        · have e1 : ¬ (k : Int) < (rules.length : Int) := by omega
          obtain rfl : k = rules.length := by omega
          gi_wp2
          refine leaves_marks (B := W.heap.size) (fun W'' => J (decls ++ rulesU rules) W'') (at_own HJ.out (fun _ => _)) (fun w3 h3 => ⟨_, results_none rfl _ _ _, ⟨_, rfl⟩, .inl h3⟩) Ds wr HH.out.2.2.2 (by have := HH.out.2.2.1; rw [List.take_length] at this; exact this)
end Go.Proofs.Ytadccjcmiajdeaa
