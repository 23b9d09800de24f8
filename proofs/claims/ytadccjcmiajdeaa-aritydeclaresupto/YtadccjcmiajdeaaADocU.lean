/-
  Contract of the document's Uses: the uses of a program in turn.
-/
import Derived.Test.YtadccjcmiajdeaaQCopy
import Derived.Test.YtadccjcmiajdeaaADoc
import Derived.Deep.RegionHeld3
namespace Go.Proofs.Ytadccjcmiajdeaa
set_option linter.unusedSimpArgs false
set_option linter.unusedVariables false
set_option linter.unusedSectionVars false
set_option maxRecDepth 100000
open Go.RowKit Go.Maps

theorem heap2W (w : World) (a b : Obj) : ((w.alloc a).alloc b).heap[w.heap.size + 1]? = some b := by
  have := (MapKept.heap_alloc (w.alloc a) b).1
  rwa [World.size_alloc] at this
theorem heap1W (w : World) (a b : Obj) : ((w.alloc a).alloc b).heap[w.heap.size]? = some a := by
  rw [Below.heap_alloc _ _ _ (by simp)]; exact (MapKept.heap_alloc w a).1
theorem cellW_de (w0 : World) (d : De) : CellW DeI 2 w0 d [.string d.p, .int .i64 d.ar] := ⟨rfl, by simp [Value.oneCell'], rfl⟩
theorem ru_in {R : List Ru} {k : Nat} (hk : k < R.length) : rulesU (R.take k) ++ useOf (R[k]'hk).head :: (bodyAts (R[k]'hk).body).map useOf = rulesU (R.take (k + 1)) := by
  rw [rulesU_snoc hk]; rfl

set_option maxHeartbeats 8000000 in
theorem ruses_any (g : Pr) (x y : Value) (w : World) (hx : Des w x g.decls) (hy : Rus w y g.rules) (hl : (usesL g).length ≤ 1000000000) :
    Calls Try.prog 15 #[.agg #[x, y]] w fun e w' => ∃ v, e = .returned v ∧ OwnW DeI 39 2 w w' (w.heap.size + 1) v (usesL g) ∧ Below w.heap.size w w' := by
  obtain ⟨decls, rules⟩ := g
  simp only at hx hy
  obtain ⟨xo, xc, rfl, hxc, hxm⟩ := hx.form
  obtain ⟨yo, yc, rfl, hyc, hym⟩ := hy.form
  unfold maxLen at hxm hym
  have HX := Lib.hid hx
  have HY := Lib.hid hy
  have HL := Lib.hid hl
  have hdl : decls.length ≤ 1000000000 := by have := hl; simp [usesL] at this; omega
  clear hx hy hl
  go_enter Try.func15, Try.ntmps15
  go_wp2_with (at_builtin; refine wpList_append_all rfl _ _ 22 rfl elDe cellRDe (w.heap.size + 1) _ [] rfl (OwnW.made (by simp) (heap2W _ _ _)) _ decls rfl HX.out (((Below.refl _ w).alloc (Nat.le_refl _) _).alloc (by simp) _) (by unfold maxLen; simp; omega) (by simp; omega) (by simp) ?_; intro v1 w1 h1 hb1 hg1 hl1; clear hl1)
  obtain ⟨o1, c1, rfl⟩ := h1.form
  simp only [List.nil_append] at h1
  have hbx1 : w1.heap[w.heap.size]? = some (Obj.cells #[.slice xo decls.length xc, .slice yo rules.length yc] 25 (0, 0)) := (hb1.block _ (Nat.lt_succ_self _)).trans (heap1W _ _ _)
  have HS1 : Hid (OwnW DeI 39 2 w w1 (w.heap.size + 1) (.slice o1 decls.length c1) (decls ++ rulesU (rules.take 0)) ∧ Below w.heap.size w w1 ∧ w1.heap[w.heap.size]? = some (Obj.cells #[.slice xo decls.length xc, .slice yo rules.length yc] 25 (0, 0))) :=
    ⟨by simpa [rulesU] using h1, (((Below.refl _ w).alloc (Nat.le_refl _) _).alloc (by simp) _).trans (hb1.mono (Nat.le_succ _)), hbx1⟩
  clear h1 hb1 hg1 hbx1
  go_loopw [3, 4] (fun v i wr => ∃ (k n : Nat) (o : Option Addr) (c : Nat), k ≤ rules.length ∧ i = .int .i64 (k : Int) ∧ v = .slice o n c ∧ Hid (n = (decls ++ rulesU (rules.take k)).length) ∧ Hid (OwnW DeI 39 2 w wr (w.heap.size + 1) (.slice o n c) (decls ++ rulesU (rules.take k)) ∧ Below w.heap.size w wr ∧ wr.heap[w.heap.size]? = some (Obj.cells #[.slice xo decls.length xc, .slice yo rules.length yc] 25 (0, 0))))
    (fun _ i _ => rules.length - (intOf i).toNat)
  case atStart => exact ⟨0, decls.length, o1, c1, Nat.zero_le _, rfl, rfl, by show _ = _; simp [rulesU], HS1⟩
  case round =>
    clear HS1
    obtain ⟨k, n, o, c, hk, rfl, rfl, HNL, HS⟩ := hrel
    have b1 : wr.cell? ⟨w.heap.size, 1, none⟩ = some (.slice yo rules.length yc) := by rw [cell_of_row wr _ 1 _ _ _ HS.out.2.2]; rfl
    by_cases hlt : k < rules.length
    · have hltI : (k : Int) < (rules.length : Int) := by omega
      obtain ⟨b, off, cs, rfl, hbl, ⟨xa, ya, rfl, hxa, hya⟩, hcell⟩ := HY.out.at k hlt
      obtain ⟨xao, xac, rfl, hxac, hxam⟩ := hxa.form
      obtain ⟨yao, yac, rfl, hyac, hyam⟩ := hya.form
      have q0 := (HS.out.2.1.cell (p := ⟨b, _, none⟩) hbl).trans (hcell 0 _ rfl)
      have q1 := (HS.out.2.1.cell (p := ⟨b, _, none⟩) hbl).trans (hcell 1 _ rfl)
      have q2 := (HS.out.2.1.cell (p := ⟨b, _, none⟩) hbl).trans (hcell 2 _ rfl)
      simp only [Nat.add_zero] at q0
      have HT := Lib.hid (ru_in hlt)
      have HLn : Hid (decls.length + (rulesU (rules.take k)).length + 1 + (bodyAts (rules[k]'hlt).body).length ≤ 1000000000) := by
        have h1 := HL.out
        have h2 := ru_in hlt
        have h3 : (rulesU (rules.take (k + 1))).length ≤ (rulesU rules).length := by
          have := rulesU_take hlt
          rw [rulesU_snoc hlt, this]
          simp
        rw [← h2] at h3
        simp [usesL] at h1 h3
        show _ ≤ _
        omega
      clear hcell hxa
      obtain ⟨r, hr⟩ : ∃ r, r = rules[k]'hlt := ⟨_, rfl⟩
      rw [← hr] at q0 q1 q2 HT HLn hya hxac hxam hyac hyam
      clear hr
      have HYA := Lib.hid hya
      obtain ⟨⟨rp, rargs⟩, rbody⟩ := r
      simp only [useOf] at q0 q1 q2 HT HLn HYA hxac hxam hyac hyam
      have hblw : b < wr.heap.size := lt_of_cell q0
      unfold maxLen at hxam hyam
      clear hya
      obtain ⟨A, hA⟩ : ∃ A, A = decls ++ rulesU (rules.take k) := ⟨_, rfl⟩
      rw [← hA] at HS HNL
      have HA := Lib.hid hA
      have HLn2 : Hid (A.length + 1 + (bodyAts rbody).length ≤ 1000000000) := by
        have := HLn.out
        rw [hA, List.length_append]
        exact this
      clear hA HLn
      go_wp2_with (at_builtin; refine wpList_append_one rfl _ _ 22 rfl elDe (w.heap.size + 1) (.slice o n c) A rfl ((HS.out.1.below (al_bel _ _)).below (al_bel _ _)) (b := wr.heap.size + 1) (cap := 1) rfl ⟨rp, (rargs.length : Nat)⟩ _ (cellW_de _ _) (heap2W _ _ _) rfl (by have := HLn2.out; unfold maxLen; omega) (by have := HLn2.out; omega) (by have := HS.out.2.1.size; simp; omega) ?_; intro v2 w2 h2 hb2 hg2 hl2)
      obtain ⟨o2, n2, c2, rfl, hn2⟩ := h2.formN
      obtain ⟨rb, hrb⟩ : ∃ rb, rb = wr.heap.size := ⟨_, rfl⟩
      have hfar := app_farW hg2 hl2 rb _ (by rw [hrb]; exact heap1W _ _ _) (fun e => by have := (HS.out.1.lt _ e).2; omega)
      have HS2 : Hid (OwnW DeI 39 2 w w2 (w.heap.size + 1) (Value.slice o2 n2 c2) (A ++ (⟨rp, (rargs.length : Nat)⟩ : De) :: (bodyAts (rbody.take 0)).map useOf) ∧ Below w.heap.size w w2 ∧ w2.heap[w.heap.size]? = some (Obj.cells #[.slice xo decls.length xc, .slice (some ⟨b, off, none⟩) rules.length yc] 25 (0, 0)) ∧ w2.heap[rb]? = some (Obj.cells #[.string rp, .slice xao rargs.length xac, .slice yao rbody.length yac] 46 (0, 0)) ∧ (Value.slice o2 n2 c2).ownBlock ≠ some rb) :=
        ⟨by simpa [bodyAts] using h2, HS.out.2.1.trans ((((Below.refl _ wr).alloc (Nat.le_refl _) _).alloc (by simp) _).mono HS.out.2.1.size |>.trans (hb2.mono (Nat.le_succ _))), (hb2.block _ (Nat.lt_succ_self _)).trans ((Below.heap_alloc _ _ _ (by have := HS.out.2.1.size; have := (Array.getElem?_eq_some_iff.1 HS.out.2.2).1; simp; omega)).trans ((Below.heap_alloc _ _ _ (Array.getElem?_eq_some_iff.1 HS.out.2.2).1).trans HS.out.2.2)), hfar⟩
      have HN2 : Hid (n2 = (A ++ (⟨rp, (rargs.length : Nat)⟩ : De) :: (bodyAts (rbody.take 0)).map useOf).length) := by show _ = _; rw [hn2]; simp [bodyAts]
      have hrbI : rb < w2.heap.size := (Array.getElem?_eq_some_iff.1 HS2.out.2.2.2.1).1
      clear h2 hb2 hg2 hl2 hfar q0 q1 q2 b1 hn2
      rw [← hrb]
      clear hrb
      generalize wr = wo at *
      go_loopw [3, 6] (fun v i wr => ∃ (m n : Nat) (o : Option Addr) (c : Nat), m ≤ rbody.length ∧ i = .int .i64 (m : Int) ∧ v = .slice o n c ∧ Hid (n = (A ++ (⟨rp, (rargs.length : Nat)⟩ : De) :: (bodyAts (rbody.take m)).map useOf).length) ∧ Hid (OwnW DeI 39 2 w wr (w.heap.size + 1) (Value.slice o n c) (A ++ (⟨rp, (rargs.length : Nat)⟩ : De) :: (bodyAts (rbody.take m)).map useOf) ∧ Below w.heap.size w wr ∧ wr.heap[w.heap.size]? = some (Obj.cells #[.slice xo decls.length xc, .slice (some ⟨b, off, none⟩) rules.length yc] 25 (0, 0)) ∧ wr.heap[rb]? = some (Obj.cells #[.string rp, .slice xao rargs.length xac, .slice yao rbody.length yac] 46 (0, 0)) ∧ (Value.slice o n c).ownBlock ≠ some rb))
        (fun _ i _ => rbody.length - (intOf i).toNat)
      case atStart => exact ⟨0, _, o2, c2, Nat.zero_le _, rfl, rfl, HN2, HS2⟩
      case round =>
        clear HS2 hrbI HN2
        obtain ⟨m, n3, o3, c3, hm, rfl, rfl, HNL3, HS3⟩ := hrel
        have d0 : wr.cell? ⟨rb, 0, none⟩ = some (.string rp) := by rw [cell_of_row wr _ 0 _ _ _ HS3.out.2.2.2.1]; rfl
        have d1 : wr.cell? ⟨rb, 1, none⟩ = some (.slice xao rargs.length xac) := by rw [cell_of_row wr _ 1 _ _ _ HS3.out.2.2.2.1]; rfl
        have d2 : wr.cell? ⟨rb, 2, none⟩ = some (.slice yao rbody.length yac) := by rw [cell_of_row wr _ 2 _ _ _ HS3.out.2.2.2.1]; rfl
        have hrb3 : rb < wr.heap.size := lt_of_cell d0
        by_cases hlt2 : m < rbody.length
        · have hltI2 : (m : Int) < (rbody.length : Int) := by omega
          obtain ⟨b2, off2, cs, rfl, hbl2, ⟨za, rfl, hza⟩, hcell2⟩ := (show Lts wr (.slice yao rbody.length yac) rbody from HYA.out.below stayLt HS3.out.2.1).at m hlt2
          have p0 := hcell2 0 _ rfl
          have p1 := hcell2 1 _ rfl
          have p2 := hcell2 2 _ rfl
          have p3 := hcell2 3 _ rfl
          have p4 := hcell2 4 _ rfl
          have p5 := hcell2 5 _ rfl
          have p6 := hcell2 6 _ rfl
          have p7 := hcell2 7 _ rfl
          have p8 := hcell2 8 _ rfl
          have p9 := hcell2 9 _ rfl
          have p10 := hcell2 10 _ rfl
          have p11 := hcell2 11 _ rfl
          have p12 := hcell2 12 _ rfl
          have p13 := hcell2 13 _ rfl
          simp only [Nat.add_zero] at p0
          obtain ⟨zo, zc, rfl, hzc, hzm⟩ := hza.form
          have HTY : Hid (isAt (rbody[m]'hlt2) = true → (bodyAts (rbody.take m)).map useOf ++ [useOf (rbody[m]'hlt2).atom] = (bodyAts (rbody.take (m + 1))).map useOf) := fun h => by
            rw [List.take_succ_eq_append_getElem hlt2, bodyAts_snoc_yes _ h]; simp
          have HTN : Hid (isAt (rbody[m]'hlt2) = false → bodyAts (rbody.take (m + 1)) = bodyAts (rbody.take m)) := fun h => by
            rw [List.take_succ_eq_append_getElem hlt2, bodyAts_snoc_no _ h]
          obtain ⟨EL, hEL⟩ : ∃ EL, EL = (A ++ (⟨rp, (rargs.length : Nat)⟩ : De) :: (bodyAts (rbody.take m)).map useOf) := ⟨_, rfl⟩
          have HLE0 : Hid (isAt (rbody[m]'hlt2) = true → EL.length + 1 ≤ 1000000000) := fun h => by
            obtain ⟨rest, e⟩ := bodyAts_take hlt2 h
            have := HLn2.out
            rw [e] at this
            rw [hEL]
            simp at this ⊢
            omega
          rw [← hEL] at HS3 HNL3
          have HEL := Lib.hid hEL
          obtain ⟨t, ht⟩ : ∃ t, t = rbody[m]'hlt2 := ⟨_, rfl⟩
          rw [← ht] at p0 p1 p2 p3 p4 p5 p6 p7 p8 p9 p10 p11 p12 p13 HTY HTN HLE0 hzc hzm
          clear ht hcell2 hza hEL
          unfold maxLen at hzm
          obtain ⟨tkind, ⟨tp, targs⟩, top, ⟨lv, lname, lk, ls, ln⟩, ⟨rv, rname, rk, rs, rn⟩⟩ := t
          simp only [useOf] at p0 p1 p2 p3 p4 p5 p6 p7 p8 p9 p10 p11 p12 p13 HTY HTN HLE0 hzc hzm
          by_cases hk1 : tkind = 1
          · subst hk1
            have HTB := Lib.hid (HTY.out rfl)
            have HLE := Lib.hid (HLE0.out rfl)
            clear HTY HTN HLE0
            go_wp2_with (at_builtin; refine wpList_append_one rfl _ _ 22 rfl elDe (w.heap.size + 1) (.slice o3 n3 c3) EL rfl ((HS3.out.1.below (al_bel _ _)).below (al_bel _ _)) (b := wr.heap.size + 1) (cap := 1) rfl ⟨tp, (targs.length : Nat)⟩ _ (cellW_de _ _) (heap2W _ _ _) rfl (by have := HLE.out; unfold maxLen; omega) (by have := HLE.out; omega) (by have := HS3.out.2.1.size; simp; omega) ?_; intro v2 w2 h2 hb2 hg2 hl2)
            obtain ⟨o4, n4, c4, rfl, hn4⟩ := h2.formN
            have HN4 := Lib.hid hn4
            have hfar := app_farW hg2 hl2 rb _ ((Below.heap_alloc _ _ _ (by simp; omega)).trans ((Below.heap_alloc _ _ _ hrb3).trans HS3.out.2.2.2.1)) HS3.out.2.2.2.2
            have HN2 : Hid (OwnW DeI 39 2 w w2 (w.heap.size + 1) (Value.slice o4 n4 c4) (EL ++ [(⟨tp, (targs.length : Nat)⟩ : De)]) ∧ Below w.heap.size w w2 ∧ w2.heap[w.heap.size]? = some (Obj.cells #[.slice xo decls.length xc, .slice (some ⟨b, off, none⟩) rules.length yc] 25 (0, 0)) ∧ w2.heap[rb]? = some (Obj.cells #[.string rp, .slice xao rargs.length xac, .slice (some ⟨b2, off2, none⟩) rbody.length yac] 46 (0, 0)) ∧ (Value.slice o4 n4 c4).ownBlock ≠ some rb) :=
              ⟨h2, HS3.out.2.1.trans ((((Below.refl _ wr).alloc (Nat.le_refl _) _).alloc (by simp) _).mono HS3.out.2.1.size |>.trans (hb2.mono (Nat.le_succ _))), (hb2.block _ (Nat.lt_succ_self _)).trans ((Below.heap_alloc _ _ _ (by have := (Array.getElem?_eq_some_iff.1 HS3.out.2.2.1).1; simp; omega)).trans ((Below.heap_alloc _ _ _ (Array.getElem?_eq_some_iff.1 HS3.out.2.2.1).1).trans HS3.out.2.2.1)), hfar⟩
            clear h2 hb2 hg2 hl2 hfar hn4
            go_wp2
            go_roundw
            case rel =>
              have h5 := HN2.out
              have h6 := HN4.out
              rw [HEL.out, List.append_assoc, List.cons_append, HTB.out] at h5 h6
              exact ⟨m + 1, n4, o4, c4, by omega, by simp, rfl, h6, h5⟩
            case measure => simp [intOf]; omega
          · by_cases hk2 : tkind = 2
            · subst hk2
              have HTB := Lib.hid (HTY.out rfl)
              have HLE := Lib.hid (HLE0.out rfl)
              clear HTY HTN HLE0
              go_wp2_with (at_builtin; refine wpList_append_one rfl _ _ 22 rfl elDe (w.heap.size + 1) (.slice o3 n3 c3) EL rfl ((HS3.out.1.below (al_bel _ _)).below (al_bel _ _)) (b := wr.heap.size + 1) (cap := 1) rfl ⟨tp, (targs.length : Nat)⟩ _ (cellW_de _ _) (heap2W _ _ _) rfl (by have := HLE.out; unfold maxLen; omega) (by have := HLE.out; omega) (by have := HS3.out.2.1.size; simp; omega) ?_; intro v2 w2 h2 hb2 hg2 hl2)
              obtain ⟨o4, n4, c4, rfl, hn4⟩ := h2.formN
              have HN4 := Lib.hid hn4
              have hfar := app_farW hg2 hl2 rb _ ((Below.heap_alloc _ _ _ (by simp; omega)).trans ((Below.heap_alloc _ _ _ hrb3).trans HS3.out.2.2.2.1)) HS3.out.2.2.2.2
              have HN2 : Hid (OwnW DeI 39 2 w w2 (w.heap.size + 1) (Value.slice o4 n4 c4) (EL ++ [(⟨tp, (targs.length : Nat)⟩ : De)]) ∧ Below w.heap.size w w2 ∧ w2.heap[w.heap.size]? = some (Obj.cells #[.slice xo decls.length xc, .slice (some ⟨b, off, none⟩) rules.length yc] 25 (0, 0)) ∧ w2.heap[rb]? = some (Obj.cells #[.string rp, .slice xao rargs.length xac, .slice (some ⟨b2, off2, none⟩) rbody.length yac] 46 (0, 0)) ∧ (Value.slice o4 n4 c4).ownBlock ≠ some rb) :=
                ⟨h2, HS3.out.2.1.trans ((((Below.refl _ wr).alloc (Nat.le_refl _) _).alloc (by simp) _).mono HS3.out.2.1.size |>.trans (hb2.mono (Nat.le_succ _))), (hb2.block _ (Nat.lt_succ_self _)).trans ((Below.heap_alloc _ _ _ (by have := (Array.getElem?_eq_some_iff.1 HS3.out.2.2.1).1; simp; omega)).trans ((Below.heap_alloc _ _ _ (Array.getElem?_eq_some_iff.1 HS3.out.2.2.1).1).trans HS3.out.2.2.1)), hfar⟩
              clear h2 hb2 hg2 hl2 hfar hn4
              go_wp2
              go_roundw
              case rel =>
                have h5 := HN2.out
                have h6 := HN4.out
                rw [HEL.out, List.append_assoc, List.cons_append, HTB.out] at h5 h6
                exact ⟨m + 1, n4, o4, c4, by omega, by simp, rfl, h6, h5⟩
              case measure => simp [intOf]; omega
            · have e1 : (tkind == 1) = false := beq_eq_false_iff_ne.2 hk1
              have e2 : (tkind == 2) = false := beq_eq_false_iff_ne.2 hk2
              have HTB := Lib.hid (HTN.out (by simp [isAt, e1, e2]))
              clear HTY HTN HLE0 hk1 hk2
              have HN2 := Lib.hid (show Below wr.heap.size wr (wr.alloc (.cells #[.int .i64 tkind, .string tp, .slice zo targs.length zc, .string top, .bool lv, .string lname, .bool lk, .string ls, .int .i64 ln, .bool rv, .string rname, .bool rk, .string rs, .int .i64 rn] 54)) from al_bel _ _)
              go_wp2
              go_roundw
              case rel =>
                have h5 := HS3.out
                have h6 := HNL3.out
                rw [HEL.out] at h5 h6
                rw [← HTB.out] at h5 h6
                exact ⟨m + 1, _, _, _, by omega, by simp, rfl, h6, h5.1.below HN2.out, h5.2.1.trans (HN2.out.mono h5.2.1.size), (HN2.out.block _ (Array.getElem?_eq_some_iff.1 h5.2.2.1).1).trans h5.2.2.1, (HN2.out.block _ hrb3).trans h5.2.2.2.1, h5.2.2.2.2⟩
              case measure => simp [intOf]; omega
        · have hltI2 : ¬ (m : Int) < (rbody.length : Int) := by omega
          obtain rfl : m = rbody.length := by omega
          go_wp2
          go_roundw
          case rel =>
            have h5 := HS3.out
            have h6 := HNL3.out
            rw [List.take_length] at h5 h6
            rw [HA.out, List.append_assoc, HT.out] at h5 h6
            exact ⟨k + 1, by omega, by simp, _, _, _, ⟨rfl, rfl, rfl⟩, by show _ = _; rw [h6, List.length_append], h5.1, h5.2.1, h5.2.2.1⟩
          case measure => simp [intOf]; omega
    · have hltI : ¬ (k : Int) < (rules.length : Int) := by omega
      obtain rfl : k = rules.length := by omega
      go_wp2
      go_ret
      exact ⟨_, rfl, by have := HS.out.1; rw [List.take_length] at this; exact this, HS.out.2.1⟩
end Go.Proofs.Ytadccjcmiajdeaa
