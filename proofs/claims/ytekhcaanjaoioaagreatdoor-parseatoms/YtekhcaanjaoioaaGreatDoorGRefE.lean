/-
  Contracts of the document's Atom, and of its SameAtom of atoms that are the same (lambrequinref06).
-/
import Derived.Test.YtekhcaanjaoioaaGreatDoorGRefC
import Derived.Test.YtekhcaanjaoioaaGreatDoorKRefH
import Derived.Test.YtekhcaanjaoioaaGreatDoorGFacts
namespace Go.Proofs.YtekhcaanjaoioaaGreatDoor
set_option linter.unusedSimpArgs false
set_option linter.unusedVariables false
set_option linter.unusedSectionVars false
set_option maxRecDepth 100000
open Go.RowKit

theorem ratom_any {ao : Option Addr} {cap : Nat} {T : List Tk} {w : World} (hx : Tks w (.slice ao T.length cap) T) (hT : T.length ≤ 65536) (hW : Ws T) (i : Nat) (hi : i ≤ 65536) (en : Int) :
    Calls Tryz.prog 12 #[.agg #[.slice ao T.length cap, .int .i64 en], .int .i64 (i : Int)] w fun e w' => RAtomOut T en (atomP en (T.drop i)) w e w' := by
  cases hn : isNm (atT en T i)
  · exact ratom_no hx hT hW i hi en hn
  · cases hm : isMk [40] (atT en T (i + 1))
    · exact ratom_bare hx hT hW i hi en hn hm
    · exact ratom_args hx hT hW i hi en hn hm
theorem ratom0 {ao : Option Addr} {cap : Nat} {T : List Tk} {w : World} (hx : Tks w (.slice ao T.length cap) T) (hT : T.length ≤ 65536) (hW : Ws T) (en : Int) (W : World) (hb : Below w.heap.size w W) :
    Calls Tryz.prog 12 #[.agg #[.slice ao T.length cap, .int .i64 en], .int .i64 0] W fun e w' => RAtomOut T en (atomP en T) W e w' := by
  have h := ratom_any (hx.below hb) hT hW 0 (by omega) en
  rw [List.drop_zero] at h
  exact h

theorem below_drewR {B : Nat} {a w : World} (h : Below B a w) : Below B a w.drew := h.trans ⟨rfl, rfl, rfl, Nat.le_refl _, fun _ _ => rfl⟩
/-- The tokens of the call's own lie behind what was there. -/
theorem far_toks {w : World} {B : Nat} {v : Value} {T : List Tk} (h : TkOwn w B v T) : ∀ b off, (match v with | .slice a _ _ => a | _ => none) = some ⟨b, off, none⟩ → B ≤ b := by
  intro b off e
  rcases h.2 with ⟨rfl, -⟩ | ⟨g, cap, cur, rfl, hB, -⟩
  · cases e
  · cases e; exact hB

set_option maxHeartbeats 8000000 in
theorem rAtom_any (s : ByteArray) (w : World) (hsz : s.size ≤ maxLen) :
    Calls Tryz.prog 6 #[.string s] w fun e w' => ParseAOut w (atomR s) e w' := by
  have HR0 := Lib.hid (Blk.new w #[.string ⟨#[]⟩, .slice none 0 0] 25)
  have HB0 := Lib.hid (al_below w (.cells #[.string ⟨#[]⟩, .slice none 0 0] 25))
  have HSC := Lib.hid (fun W => rscan_any s W)
  unfold ScanOut at HSC
  unfold maxLen at hsz
  have hWS : Ws (scanR s).toks := fun t ht => scanR_w ht
  have hLN : (scanR s).toks.length ≤ 65536 := scanR_len s
  obtain ⟨r, hr⟩ : ∃ r, r = atomR s := ⟨_, rfl⟩
  rw [← hr]
  unfold atomR at hr
  obtain ⟨q, hq⟩ : ∃ q, q = scanR s := ⟨_, rfl⟩
  rw [← hq] at hr HSC hWS hLN
  obtain ⟨bd, pl, T⟩ := q
  simp only at hr HSC hWS hLN
  have HLN : Hid (T.length ≤ 65536) := hLN
  have HWS : Hid (Ws T) := hWS
  have hTI : (T.length : Int) ≤ 65536 := by omega
  clear hq hWS hLN
  by_cases hbd : bd = 0
  · subst hbd
    rw [if_pos rfl] at hr
    unfold atomL at hr
    obtain ⟨m, hm⟩ : ∃ m, m = atomP (s.size : Int) T := ⟨_, rfl⟩
    have HAT := Lib.hid (fun (ao : Option Addr) (cap : Nat) w' (hx : Tks w' (.slice ao T.length cap) T) => ratom0 hx HLN.out HWS.out (s.size : Int))
    rw [← hm] at hr HAT
    clear hm
    obtain ⟨qb, ⟨nm, A⟩, M⟩ := m
    simp only at hr HAT
    by_cases hqb : qb = 0
    · subst hqb
      rw [if_pos rfl] at hr
      have HR := Lib.hid hr
      clear hr
      go_enter Tryz.func6, Tryz.ntmps6
      go_wp2_with (go_at_call 11; refine (HSC.out _).mono ?_; rintro e w1 ⟨v, rfl, hb1, ho1⟩; have hx1 := ho1.tks (by have := HLN.out; unfold maxLen; omega); have hfar := far_toks ho1; obtain ⟨ao, cap, rfl, -⟩ := hx1.form; have HX1 := Lib.hid hx1; have HFAR := Lib.hid hfar; have HR1 := Lib.hid (HR0.out.below hb1); have HB1 := Lib.hid (HB0.out.trans (hb1.mono HB0.out.size)); have hw1 : w.heap.size < w1.heap.size := HR1.out.lt; clear hb1 ho1 hx1 hfar HSC)
      refine (HAT.out _ _ _ HX1.out _ (Below.refl _ _)).mono ?_
      rintro e w2 ⟨p, o, n, c, J, at0, rfl, hb2, hg2, -⟩
      obtain ⟨rfl, rfl, hown2, hrest', hJ⟩ := hg2 rfl
      have hrest : M = T.drop J := hrest'
      clear hrest'
      have HO2 := Lib.hid hown2
      have HR2 := Lib.hid (fun o o' => ((HR1.out.below hb2).below (al_below w2 o)).below (al_below _ o'))
      have HB2 := Lib.hid (fun o o' => ((HB1.out.trans (hb2.mono HB1.out.size)).alloc (by have := hb2.size; omega) o).alloc (by have := hb2.size; simp; omega) o')
      have HX2 := Lib.hid (fun o o' => ((HX1.out.below hb2).below (al_below w2 o)).below (al_below _ o'))
      have hw2 : w1.heap.size ≤ w2.heap.size := hb2.size
      clear hown2 hb2 hg2 HAT
      by_cases hJT : J < T.length
      · have hJI : (J : Int) < (T.length : Int) := by omega
        have hne : ¬ M = [] := by
          rw [hrest]; intro h
          have := congrArg List.length h
          simp at this
          omega
        have HRR : Hid (r = ⟨2, (atT (s.size : Int) T J).pl, Am.zero⟩) := by show r = _; rw [HR.out, if_neg hne, hrest, atT_drop]; rfl
        obtain ⟨W2, hW2⟩ : ∃ W2, W2 = (w2.alloc (.cells #[.string p, .slice o A.length c] 25)).alloc (.cells #[.int .i64 (J : Int), .int .i64 0, .int .i64 at0] 56) := ⟨_, rfl⟩
        obtain ⟨gn, hgn⟩ : ∃ gn, gn = w2.heap.size + 1 := ⟨_, rfl⟩
        have HR3 : Hid (Blk W2 w.heap.size #[.string ⟨#[]⟩, .slice none 0 0] 25) := by show Blk _ _ _ _; rw [hW2]; exact HR2.out _ _
        have HB3 : Hid (Below w.heap.size w W2) := by show Below _ _ _; rw [hW2]; exact HB2.out _ _
        have HN3 : Hid (Blk W2 gn #[.int .i64 (J : Int), .int .i64 0, .int .i64 at0] 56) := by show Blk _ _ _ _; rw [hW2, hgn]; exact Blk.second _ _ _ _
        have HX3 : Hid (Tks W2 (.slice ao T.length cap) T) := by show Tks _ _ _; rw [hW2]; exact HX2.out _ _
        obtain ⟨b, off, hao, hbl, -, -, -, -, d4⟩ := HX3.out.token (s.size : Int) hJT
        have hbf := HFAR.out b off hao
        simp at hbf
        subst hao
        obtain ⟨pp, hpp⟩ : ∃ pp, pp = (atT (s.size : Int) T J).pl := ⟨_, rfl⟩
        rw [← hpp] at d4 HRR
        have m1 : ¬ b = w.heap.size := by omega
        have m2 : ¬ w.heap.size = b := by omega
        have m3 : ¬ gn = w.heap.size := by omega
        have m4 : ¬ w.heap.size = gn := by omega
        have r0 := HR3.out.cell 0
        have r1 := HR3.out.cell 1
        have k0 := HR3.out.frozen 0
        have k1 := HR3.out.frozen 1
        have z0 := HN3.out.cell 0
        simp at r0 r1 z0
        clear hJT hrest HR HR2 HB2 HX2 HO2 hpp hJ hne HX3 HX1
        go_wp2_with fail
        rw [← hW2, ← hgn]
        clear hW2 hgn
        go_region
        all_goals
          go_wp2
          have hz := heap_set (o := 1) (heap_set (o := 0) HR3.out (.string ⟨#[]⟩)) (.slice none 0 0)
          exact bodyPost_ret (ret_cell3 Tryz.results6 rfl rfl rfl (show Blk _ _ _ _ from hz) Tryz.underlying25 (by kernel_rfl)) rfl (ParseAOut.fail HRR.out rfl (below_drewR ((HB3.out.setCell (Nat.le_refl _) _).setCell (Nat.le_refl _) _)))
      · have hJI : ¬ (J : Int) < (T.length : Int) := by omega
        have hne : M = [] := by rw [hrest]; exact List.drop_of_length_le (by omega)
        have HRR : Hid (r = ⟨0, 0, ⟨p, A⟩⟩) := by show r = _; rw [HR.out, if_pos hne]
        clear hJT hrest HR HX2 hJ hne
        go_wp2_with (refine wpList_store_row rfl 25 _ _ rfl w.heap.size #[.string p, .slice o A.length c] rfl rfl 25 _ (HR2.out _ _) (by kernel_rfl) rfl (by simp [Value.oneCell']) ?_)
        refine bodyPost_ret (ret_cell3 Tryz.results6 rfl rfl rfl ((HR2.out _ _).lay _) Tryz.underlying25 (by kernel_rfl)) rfl ?_
        rw [HRR.out]
        exact ⟨_, rfl, below_lay (HB2.out _ _) (Nat.le_refl _) _, ((((HO2.out.below keepTm (al_below w2 _)).below keepTm (al_below _ _)).turns keepTm (Turns.laid _ w.heap.size _) hw1).mono keepTm (Nat.le_of_lt hw1))⟩
    · rw [if_neg hqb] at hr
      have hbdI : ¬ (qb : Int) = 0 := by omega
      have hbdB : ((qb : Int) == 0) = false := by simpa using hbdI
      have hbdN : ((qb : Int) != 0) = true := by simp [bne, hbdB]
      have HR := Lib.hid hr
      clear hr
      go_enter Tryz.func6, Tryz.ntmps6
      go_wp2_with (go_at_call 11; refine (HSC.out _).mono ?_; rintro e w1 ⟨v, rfl, hb1, ho1⟩; have hx1 := ho1.tks (by have := HLN.out; unfold maxLen; omega); have hfar := far_toks ho1; obtain ⟨ao, cap, rfl, -⟩ := hx1.form; have HX1 := Lib.hid hx1; have HFAR := Lib.hid hfar; have HR1 := Lib.hid (HR0.out.below hb1); have HB1 := Lib.hid (HB0.out.trans (hb1.mono HB0.out.size)); have hw1 : w.heap.size < w1.heap.size := HR1.out.lt; clear hb1 ho1 hx1 hfar HSC)
      refine (HAT.out _ _ _ HX1.out _ (Below.refl _ _)).mono ?_
      rintro e w2 ⟨p, o, n, c, J, at0, rfl, hb2, -, hg2⟩
      have hat := hg2 hqb
      simp only at hat
      rw [← hat] at HR
      obtain ⟨W2, hW2⟩ : ∃ W2, W2 = (w2.alloc (.cells #[.string p, .slice o n c] 25)).alloc (.cells #[.int .i64 (J : Int), .int .i64 (qb : Int), .int .i64 at0] 56) := ⟨_, rfl⟩
      obtain ⟨gn, hgn⟩ : ∃ gn, gn = w2.heap.size + 1 := ⟨_, rfl⟩
      have hw2 : w1.heap.size ≤ w2.heap.size := hb2.size
      have HR3 : Hid (Blk W2 w.heap.size #[.string ⟨#[]⟩, .slice none 0 0] 25) := by show Blk _ _ _ _; rw [hW2]; exact ((HR1.out.below hb2).below (al_below _ _)).below (al_below _ _)
      have HB3 : Hid (Below w.heap.size w W2) := by show Below _ _ _; rw [hW2]; exact ((HB1.out.trans (hb2.mono HB1.out.size)).alloc (by omega) _).alloc (by simp; omega) _
      have HN3 : Hid (Blk W2 gn #[.int .i64 (J : Int), .int .i64 (qb : Int), .int .i64 at0] 56) := by show Blk _ _ _ _; rw [hW2, hgn]; exact Blk.second _ _ _ _
      have m3 : ¬ gn = w.heap.size := by omega
      have m4 : ¬ w.heap.size = gn := by omega
      have r0 := HR3.out.cell 0
      have r1 := HR3.out.cell 1
      have k0 := HR3.out.frozen 0
      have k1 := HR3.out.frozen 1
      have z1 := HN3.out.cell 1
      have z2 := HN3.out.cell 2
      simp at r0 r1 z1 z2
      clear hb2 hg2 hat HAT HX1
      go_wp2_with fail
      rw [← hW2, ← hgn]
      clear hW2 hgn
      go_region
      all_goals
        go_wp2
        have hz := heap_set (o := 1) (heap_set (o := 0) HR3.out (.string ⟨#[]⟩)) (.slice none 0 0)
        exact bodyPost_ret (ret_cell3 Tryz.results6 rfl rfl rfl (show Blk _ _ _ _ from hz) Tryz.underlying25 (by kernel_rfl)) rfl (ParseAOut.fail HR.out rfl (below_drewR ((HB3.out.setCell (Nat.le_refl _) _).setCell (Nat.le_refl _) _)))
  · have hbdI : ¬ (bd : Int) = 0 := by omega
    have hbdB : ((bd : Int) == 0) = false := by simpa using hbdI
    have hbdN : ((bd : Int) != 0) = true := by simp [bne, hbdB]
    rw [if_neg hbd] at hr
    have HR := Lib.hid hr
    clear hr
    go_enter Tryz.func6, Tryz.ntmps6
    go_wp2_with (first
      | (go_at_call 11; refine (HSC.out _).mono ?_; rintro e w1 ⟨v, rfl, hb1, -⟩; have HR1 := Lib.hid (HR0.out.below hb1); have HB1 := Lib.hid (HB0.out.trans (hb1.mono HB0.out.size)); clear hb1)
      | (refine wpList_store_row rfl 25 _ _ rfl w.heap.size #[.string ⟨#[]⟩, .slice none 0 0] rfl rfl 25 _ HR1.out (by kernel_rfl) rfl (by simp [Value.oneCell']) ?_))
    exact bodyPost_ret (ret_cell3 Tryz.results6 rfl rfl rfl (HR1.out.lay _) Tryz.underlying25 (by kernel_rfl)) rfl (ParseAOut.fail HR.out rfl (below_lay HB1.out (Nat.le_refl _) _))
end Go.Proofs.YtekhcaanjaoioaaGreatDoor

/-
  Contract of the document's SameAtom (lambrequinref06), where two atoms are the same; ParseAtoms' walk.
-/
namespace Go.Proofs.YtekhcaanjaoioaaGreatDoor
set_option linter.unusedSimpArgs false
set_option linter.unusedVariables false
set_option linter.unusedSectionVars false
set_option maxRecDepth 100000
open Go.RowKit

theorem at_offR {α : Type} {R : RelM α} {ty : TypeId} {k : Nat} {w : World} {B : Nat} {ao : Option Addr} {n cap : Nat} {L : List α} (h : OwnL R ty k w B (.slice ao n cap) L) (i : Nat) (hi : i < L.length) :
    ∃ b off c, ao = some ⟨b, off, none⟩ ∧ b < w.heap.size ∧ R w B L[i] c ∧ ∀ j u, c[j]? = some u → w.cell? ⟨b, off + i * k + j, none⟩ = some u := by
  obtain ⟨ao', cap', e, -, h2⟩ := h.cells
  cases e
  obtain ⟨g, c, rfl, -, hl, hR, hc⟩ := h2 i hi
  exact ⟨g, 0, c, rfl, hl, hR, fun j u hj => by rw [Nat.zero_add]; exact hc j u hj⟩
theorem tms_atR {w : World} {B : Nat} {ao : Option Addr} {n cap : Nat} {L : List Tm} (h : TmsO w B (.slice ao n cap) L) (i : Nat) (hi : i < L.length) :
    ∃ b off, ao = some ⟨b, off, none⟩ ∧ b < w.heap.size ∧ w.cell? ⟨b, off + i * 5, none⟩ = some (.bool L[i].v) ∧ w.cell? ⟨b, off + i * 5 + 1, none⟩ = some (.string L[i].name) ∧ w.cell? ⟨b, off + i * 5 + 2, none⟩ = some (.bool L[i].k) ∧ w.cell? ⟨b, off + i * 5 + 3, none⟩ = some (.string L[i].s) ∧ w.cell? ⟨b, off + i * 5 + 4, none⟩ = some (.int .i64 L[i].n) := by
  obtain ⟨b, off, c, e, hl, rfl, hc⟩ := at_offR h i hi
  exact ⟨b, off, e, hl, hc 0 _ rfl, hc 1 _ rfl, hc 2 _ rfl, hc 3 _ rfl, hc 4 _ rfl⟩

set_option maxHeartbeats 4000000 in
theorem rsameA_any {p : ByteArray} {A : List Tm} {o o2 : Option Addr} {c c2 B B2 : Nat} {w : World} (hx : TmsO w B (.slice o A.length c) A) (hy : TmsO w B2 (.slice o2 A.length c2) A) (hA : ∀ x ∈ A, TmW x) (h6 : A.length ≤ 6) :
    Calls Tryz.prog 7 #[.agg #[.string p, .slice o A.length c], .agg #[.string p, .slice o2 A.length c2]] w fun e w' => e = .returned (.bool true) ∧ Below w.heap.size w w' := by
  have hcx : A.length ≤ c := by obtain ⟨_, _, e, h, -⟩ := hx.cells; cases e; exact h
  have hcy : A.length ≤ c2 := by obtain ⟨_, _, e, h, -⟩ := hy.cells; cases e; exact h
  obtain ⟨W0, hW0⟩ : ∃ W0, W0 = (w.alloc (.cells #[.string p, .slice o A.length c] 25)).alloc (.cells #[.string p, .slice o2 A.length c2] 25) := ⟨_, rfl⟩
  have hb0 : Below w.heap.size w W0 := by rw [hW0]; exact (al_below w _).alloc (by simp) _
  have HX := Lib.hid (hx.below keepTm hb0)
  have HY := Lib.hid (hy.below keepTm hb0)
  have HK1 : Hid (Blk W0 w.heap.size #[.string p, .slice o A.length c] 25) := by show Blk _ _ _ _; rw [hW0]; exact (Blk.new w _ _).below (al_below _ _)
  have HK2 : Hid (Blk W0 (w.heap.size + 1) #[.string p, .slice o2 A.length c2] 25) := by show Blk _ _ _ _; rw [hW0]; exact Blk.second w _ _ _
  have HB0 := Lib.hid hb0
  have HW0 := Lib.hid hW0
  have HA := Lib.hid hA
  have h6I : (A.length : Int) ≤ 6 := by omega
  have hpp : (p.toList != p.toList) = false := by simp
  clear hx hy hA hb0 hW0
  go_enter Tryz.func7, Tryz.ntmps7
  go_wp2_with fail
  rw [← HW0.out]
  clear HW0
  go_loopw [5] (fun i wr => ∃ k : Nat, (k : Int) ≤ (A.length : Int) ∧ i = .int .i64 (k : Int) ∧ Hid (Below W0.heap.size W0 wr)) (fun i _ => A.length - (intOf i).toNat)
  case atStart => exact ⟨0, by omega, rfl, Below.refl _ _⟩
  case round =>
    obtain ⟨k, hk, rfl, HB⟩ := hrel
    have hq1 := (HK1.out.below HB.out).cell 0
    have hq2 := (HK1.out.below HB.out).cell 1
    have hq3 := (HK2.out.below HB.out).cell 0
    have hq4 := (HK2.out.below HB.out).cell 1
    simp at hq1 hq2 hq3 hq4
    by_cases hlt : k < A.length
    · have hltI : (k : Int) < (A.length : Int) := by omega
      obtain ⟨b, off, rfl, hbl, x0, x1, x2, x3, x4⟩ := tms_atR (HX.out.below keepTm HB.out) k hlt
      obtain ⟨b2, off2, rfl, hbl2, y0, y1, y2, y3, y4⟩ := tms_atR (HY.out.below keepTm HB.out) k hlt
      have hw := HA.out _ (List.getElem_mem hlt)
      have HLT : Hid (k + 1 ≤ A.length) := hlt
      obtain ⟨t, ht⟩ : ∃ t, t = A[k]'hlt := ⟨_, rfl⟩
      rw [← ht] at x0 x1 x2 x3 x4 y0 y1 y2 y3 y4 hw
      have hne : ∀ nq, _ := fun nq => neq_term hw (wr.drewN nq)
      clear ht hlt hw
      go_wp2_with fail
      go_quiet (fail)
      go_wp2
      go_roundw
      case rel => exact ⟨k + 1, by have := HLT.out; omega, by go_num, HB.out.trans ⟨rfl, rfl, rfl, Nat.le_refl _, fun _ _ => rfl⟩⟩
      case measure => simp [intOf]; have := HLT.out; omega
    · have hltI : ¬ (k : Int) < (A.length : Int) := by omega
      go_wp2
      go_ret
      exact ⟨rfl, HB0.out.trans (HB.out.mono HB0.out.size)⟩

set_option maxHeartbeats 8000000 in
theorem atoms_walk (s : ByteArray) (w : World) (hs : s.size ≤ maxLen) (hE : PEnv w) :
    Calls Tryz.prog 3 #[.string s] w fun e w' => e = .returned (.bool true) ∧ Below w.heap.size w w' := by
  have HE := Lib.hid hE
  have HPA := Lib.hid (fun W (hW : PEnv W) => parseA_any s W hW hs)
  have HRA := Lib.hid (fun W => rAtom_any s W hs)
  obtain ⟨hw, h6⟩ := atomR_w s
  obtain ⟨r, hr⟩ : ∃ r, r = atomR s := ⟨_, rfl⟩
  rw [← hr] at HPA HRA hw h6
  simp only [ParseAOut] at HPA HRA
  obtain ⟨bd, pl, ⟨p, A⟩⟩ := r
  simp only at HPA HRA hw h6
  have HSA := Lib.hid (fun o c B o2 c2 B2 W (hx : TmsO W B (.slice o A.length c) A) (hy : TmsO W B2 (.slice o2 A.length c2) A) => rsameA_any (p := p) hx hy hw h6)
  clear hE hr hs hw h6
  go_enter Tryz.func3, Tryz.ntmps3
  go_wp2_with (first
    | (go_at_call 4; refine (shown_any _ HE.out).mono ?_; rintro e w1 ⟨rfl, hb1⟩; have HB1 := Lib.hid hb1; clear hb1)
    | (go_at_call 5; refine (HPA.out _ (HE.out.below HB1.out)).mono ?_; rintro e w2 ⟨x, rfl, hb2, hd⟩; obtain ⟨xo, xc, hx, -⟩ := hd.cells; subst hx; have HB2 := Lib.hid ((HB1.out.trans (hb2.mono HB1.out.size)).alloc (by have := HB1.out.size; have := hb2.size; omega) (.cells #[.string p, .slice xo A.length xc] 25)); have HD2 := Lib.hid (hd.below keepTm (al_below w2 (.cells #[.string p, .slice xo A.length xc] 25))); have HK2 := Lib.hid (Blk.new w2 #[.string p, .slice xo A.length xc] 25); clear hb2 hd HPA)
    | (go_at_call 6; refine (HRA.out _).mono ?_; rintro e w3 ⟨y, rfl, hb3, hd3⟩; obtain ⟨yo, yc, hy, -⟩ := hd3.cells; subst hy; have HB3 := Lib.hid ((HB2.out.trans (hb3.mono HB2.out.size)).alloc (by have := HB2.out.size; have := hb3.size; omega) (.cells #[.string p, .slice yo A.length yc] 25)); have HD3 := Lib.hid ((HD2.out.below keepTm hb3).below keepTm (al_below w3 (.cells #[.string p, .slice yo A.length yc] 25))); have HY3 := Lib.hid (hd3.below keepTm (al_below w3 (.cells #[.string p, .slice yo A.length yc] 25))); have HK3 := Lib.hid ((HK2.out.below hb3).below (al_below w3 (.cells #[.string p, .slice yo A.length yc] 25))); have k0 := HK3.out.cell 0; have k1 := HK3.out.cell 1; simp at k0 k1; clear hb3 hd3 HRA)
    | (go_at_call 7; refine (HSA.out _ _ _ _ _ _ _ HD3.out HY3.out).mono ?_; rintro e w4 ⟨rfl, hb4⟩; have HB4 := Lib.hid (HB3.out.trans (hb4.mono HB3.out.size)); clear hb4 HSA))
  go_ret
  exact ⟨by first | rfl | simp, HB4.out⟩
end Go.Proofs.YtekhcaanjaoioaaGreatDoor
