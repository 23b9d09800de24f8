/-
  PrinterAgain's walk.
-/
import Derived.Test.YtddioikfhabjpaaGreatDoorPBackW
namespace Go.Proofs.YtddioikfhabjpaaGreatDoor
set_option linter.unusedSimpArgs false
set_option linter.unusedVariables false
set_option linter.unusedSectionVars false
set_option maxRecDepth 100000
open Go.RowKit Go.Maps

theorem parse_long {s : ByteArray} (h : 65536 < s.size) : (parseR s).bad = 4 := by
  have hs : scanR s = ⟨4, 0, []⟩ := by unfold scanR; rw [if_pos h]
  unfold parseR
  rw [hs, if_neg (by decide)]

set_option maxHeartbeats 8000000 in
theorem again_walk (s : ByteArray) (w : World) (hs : s.size ≤ maxLen) (hE : PEnv w) (hT : Tab w) :
    Calls Tryz.prog 6 #[.string s] w fun e w' => e = .returned (.bool true) ∧ Below w.heap.size w w' := by
  have HSH := Lib.hid (fun W (hb : Below w.heap.size w W) => shownP_any W (hE.below hb) (hT.on hb))
  unfold maxLen at hs
  by_cases h8 : s.size ≤ 8000
  · have h8I : ¬ (8000 : Int) < (s.size : Int) := by omega
    have HPA := Lib.hid (fun W (hb : Below w.heap.size w W) => read_any s W (hE.below hb) (by unfold maxLen; omega))
    have hmay := parseR_may s
    obtain ⟨hI, hz⟩ := zzPr_in (parseR_zs s)
    obtain ⟨r, hr⟩ : ∃ r, r = parseR s := ⟨_, rfl⟩
    rw [← hr] at HPA hmay hI hz
    obtain ⟨bd, pl, g⟩ := r
    simp only at HPA hmay hI hz
    clear hr
    by_cases hbd : bd = 0
    · subst hbd
      have hV := prV_of hI (by omega)
      have hmb : mayPrB g = true := (mayPr_iff hI).2 hmay
      have hle := progTx_le hI
      have HMY : Hid (∀ W x y, Des W x g.decls → Rus W y g.rules → Calls Tryz.prog 13 #[.agg #[x, y]] W fun e w' => e = .returned (.bool true) ∧ Below W.heap.size W w') := fun W x y h1 h2 => by
        have := pmay_any g x y W h1 h2 hI (by omega)
        rw [hmb] at this
        exact this
      obtain ⟨S, hS⟩ : ∃ S : ByteArray, S = ⟨(progTx g).toArray⟩ := ⟨_, rfl⟩
      have hSd : S.data.toList = progTx g := by rw [hS]
      have HPG : Hid (∀ W (_ : Below w.heap.size w W) x y, Des W x g.decls → Rus W y g.rules → Calls Tryz.prog 11 #[.agg #[x, y]] W fun e w' => e = .returned (.string S) ∧ Below W.heap.size W w') := fun W hb x y h1 h2 => by
        rw [hS]
        exact pprog_any g x y W h1 h2 hI (by omega) (hT.on hb)
      have hSz : S.data.toList.length = S.size := by simp
      rw [hSd] at hSz
      have hSmax : S.size ≤ maxLen := by unfold maxLen; omega
      have HSM : Hid (∀ W xo xc yo yc xo2 xc2 yo2 yc2, Des W (.slice xo g.decls.length xc) g.decls → Rus W (.slice yo g.rules.length yc) g.rules → Des W (.slice xo2 g.decls.length xc2) g.decls → Rus W (.slice yo2 g.rules.length yc2) g.rules → Calls Tryz.prog 26 #[.agg #[.slice xo g.decls.length xc, .slice yo g.rules.length yc], .agg #[.slice xo2 g.decls.length xc2, .slice yo2 g.rules.length yc2]] W fun e w' => e = .returned (.bool true) ∧ Below W.heap.size W w') :=
        fun W xo xc yo yc xo2 xc2 yo2 yc2 h1 h2 h3 h4 => same_any2 h1 h3 h2 h4 hV
      have hss : (S.toList == S.toList) = true := by simp
      by_cases h65 : S.size ≤ 65536
      · have HPB : Hid (∀ W, Below w.heap.size w W → Calls Tryz.prog 25 #[.string S] W fun e w' => ReadOut W 0 0 g e w') := fun W hb => by
          have := read_any S W (hE.below hb) hSmax
          rw [prog_back hmay hSd h65] at this
          exact this
        obtain ⟨GD, GR⟩ := g
        simp only at HPA HMY HPG HSM HPB
        clear hmay hI hz hV hmb hle hS hSd hSz hSmax h65 hE hT hs h8
        go_enter Tryz.func6, Tryz.ntmps6
        go_wp2_with (go_at_call 9; refine (HSH.out _ (Below.refl _ _)).mono ?_; rintro e w1 ⟨rfl, hb1⟩; have HB1 := Lib.hid hb1; clear hb1)
        refine (HPA.out _ HB1.out).mono ?_
        rintro e w2 ⟨xo, xc, yo, yc, rfl, hb2, hd2, hu2⟩
        have HB2 := Lib.hid (HB1.out.trans (hb2.mono HB1.out.size))
        have HD2 := Lib.hid (hd2.below stayDe (al_below w2 (.cells #[.slice xo GD.length xc, .slice yo GR.length yc] 25)))
        have HU2 := Lib.hid (hu2.below stayRu (al_below w2 (.cells #[.slice xo GD.length xc, .slice yo GR.length yc] 25)))
        have HB3 := Lib.hid (HB2.out.trans ((al_below w2 (.cells #[.slice xo GD.length xc, .slice yo GR.length yc] 25)).mono HB2.out.size))
        have HBK := Lib.hid (Blk.new w2 #[.slice xo GD.length xc, .slice yo GR.length yc] 25)
        clear hb2 hd2 hu2
        go_wp2_with (go_at_call 11; refine (HPG.out _ HB3.out _ _ HD2.out HU2.out).mono ?_; rintro e w4 ⟨rfl, hb4⟩; have HB4 := Lib.hid hb4; clear hb4)
        refine (HPB.out _ (HB3.out.trans (HB4.out.mono HB3.out.size))).mono ?_
        rintro e w5 ⟨xo2, xc2, yo2, yc2, rfl, hb5, hd5, hu5⟩
        have HB5 := Lib.hid (HB4.out.trans (hb5.mono HB4.out.size))
        have HZ : Hid (∀ W', Below (w5.alloc (.cells #[.slice xo2 GD.length xc2, .slice yo2 GR.length yc2] 25)).heap.size (w5.alloc (.cells #[.slice xo2 GD.length xc2, .slice yo2 GR.length yc2] 25)) W' →
            Below w.heap.size w W' ∧ Des W' (.slice xo GD.length xc) GD ∧ Rus W' (.slice yo GR.length yc) GR ∧ Des W' (.slice xo2 GD.length xc2) GD ∧ Rus W' (.slice yo2 GR.length yc2) GR ∧ W'.cell? ⟨w2.heap.size, 0, none⟩ = some (.slice xo GD.length xc) ∧ W'.cell? ⟨w2.heap.size, 1, none⟩ = some (.slice yo GR.length yc) ∧ W'.cell? ⟨w5.heap.size, 0, none⟩ = some (.slice xo2 GD.length xc2) ∧ W'.cell? ⟨w5.heap.size, 1, none⟩ = some (.slice yo2 GR.length yc2)) := fun W' hb => by
          have ha := al_below w5 (.cells #[.slice xo2 GD.length xc2, .slice yo2 GR.length yc2] 25)
          have hb2 := HB5.out.trans (ha.mono HB5.out.size)
          have hb3 := hb2.trans (hb.mono hb2.size)
          have hK := HBK.out.below hb3
          have hK2 := (Blk.new w5 #[.slice xo2 GD.length xc2, .slice yo2 GR.length yc2] 25).below hb
          exact ⟨HB3.out.trans (hb3.mono HB3.out.size), HD2.out.below stayDe hb3, HU2.out.below stayRu hb3, (hd5.below stayDe ha).below stayDe hb, (hu5.below stayRu ha).below stayRu hb, hK.cell 0, hK.cell 1, hK2.cell 0, hK2.cell 1⟩
        have hq0 := (HBK.out.below HB5.out).cell 0
        have hq1 := (HBK.out.below HB5.out).cell 1
        simp at hq0 hq1
        have hql := (HBK.out.below HB5.out).lt
        obtain ⟨z1, z2, z3, z4, z5, -⟩ := HZ.out _ (Below.refl _ _)
        have Z2 := Lib.hid z2
        have Z3 := Lib.hid z3
        clear hb5 hd5 hu5 z1 z2 z3 z4 z5 HPA HPB
        go_wp2_with (first
          | (go_at_call 13; refine (HMY.out _ _ _ Z2.out Z3.out).mono ?_; rintro e w6 ⟨rfl, hb6⟩; have HB6 := Lib.hid hb6; clear hb6; obtain ⟨k1, k2, k3, k4, k5, k6, k7, k8, k9⟩ := HZ.out _ HB6.out; have K2 := Lib.hid k2; have K3 := Lib.hid k3; have K4 := Lib.hid k4; have K5 := Lib.hid k5; clear k1 k2 k3 k4 k5)
          | (go_at_call 26; refine (HSM.out _ _ _ _ _ _ _ _ _ K2.out K3.out K4.out K5.out).mono ?_; rintro e w7 ⟨rfl, hb7⟩; have HB7 := Lib.hid (HB6.out.trans (hb7.mono HB6.out.size)); clear hb7; obtain ⟨m1, m2, m3, m4, m5, m6, m7, m8, m9⟩ := HZ.out _ HB7.out; have M1 := Lib.hid m1; have M4 := Lib.hid m4; have M5 := Lib.hid m5; clear m1 m2 m3 m4 m5)
          | (go_at_call 11; refine (HPG.out _ M1.out _ _ M4.out M5.out).mono ?_; rintro e w8 ⟨rfl, hb8⟩; have HB8 := Lib.hid (M1.out.trans (hb8.mono M1.out.size)); clear hb8))
        go_ret
        exact ⟨by first | rfl | simp, HB8.out⟩
      · have h6I : (60000 : Int) < (S.size : Int) := by omega
        have hlong := parse_long (s := S) (by omega)
        have HPB : Hid (∀ W, Below w.heap.size w W → Calls Tryz.prog 25 #[.string S] W fun e w' => ∃ pl g', ReadOut W 4 pl g' e w') := fun W hb => (read_any S W (hE.below hb) hSmax).mono fun e w' h => ⟨_, _, by rw [hlong] at h; exact h⟩
        obtain ⟨GD, GR⟩ := g
        simp only at HPA HMY HPG HSM HPB
        clear hmay hI hz hV hmb hle hS hSd hSz hSmax h65 hE hT hs h8 hlong HSM
        go_enter Tryz.func6, Tryz.ntmps6
        go_wp2_with (go_at_call 9; refine (HSH.out _ (Below.refl _ _)).mono ?_; rintro e w1 ⟨rfl, hb1⟩; have HB1 := Lib.hid hb1; clear hb1)
        refine (HPA.out _ HB1.out).mono ?_
        rintro e w2 ⟨xo, xc, yo, yc, rfl, hb2, hd2, hu2⟩
        have HB2 := Lib.hid (HB1.out.trans (hb2.mono HB1.out.size))
        have HD2 := Lib.hid (hd2.below stayDe (al_below w2 (.cells #[.slice xo GD.length xc, .slice yo GR.length yc] 25)))
        have HU2 := Lib.hid (hu2.below stayRu (al_below w2 (.cells #[.slice xo GD.length xc, .slice yo GR.length yc] 25)))
        have HB3 := Lib.hid (HB2.out.trans ((al_below w2 (.cells #[.slice xo GD.length xc, .slice yo GR.length yc] 25)).mono HB2.out.size))
        have HBK := Lib.hid (Blk.new w2 #[.slice xo GD.length xc, .slice yo GR.length yc] 25)
        clear hb2 hd2 hu2
        go_wp2_with (go_at_call 11; refine (HPG.out _ HB3.out _ _ HD2.out HU2.out).mono ?_; rintro e w4 ⟨rfl, hb4⟩; have HB4 := Lib.hid hb4; clear hb4)
        refine (HPB.out _ (HB3.out.trans (HB4.out.mono HB3.out.size))).mono ?_
        rintro e w5 ⟨pl5, ⟨GD2, GR2⟩, xo2, xc2, yo2, yc2, rfl, hb5, -, -⟩
        simp only
        have HB5 := Lib.hid (HB4.out.trans (hb5.mono HB4.out.size))
        have ha := al_below w5 (.cells #[.slice xo2 GD2.length xc2, .slice yo2 GR2.length yc2] 25)
        have hb25 := HB5.out.trans (ha.mono HB5.out.size)
        have Z1 := Lib.hid (HB3.out.trans (hb25.mono HB3.out.size))
        have Z2 := Lib.hid (HD2.out.below stayDe hb25)
        have Z3 := Lib.hid (HU2.out.below stayRu hb25)
        have hq0 := (HBK.out.below HB5.out).cell 0
        have hq1 := (HBK.out.below HB5.out).cell 1
        simp at hq0 hq1
        have hql := (HBK.out.below HB5.out).lt
        clear hb5 ha hb25 HPA HPB
        go_wp2_with (go_at_call 13; refine (HMY.out _ _ _ Z2.out Z3.out).mono ?_; rintro e w6 ⟨rfl, hb6⟩; have HB6 := Lib.hid (Z1.out.trans (hb6.mono Z1.out.size)); clear hb6)
        go_ret
        exact ⟨by first | rfl | simp, HB6.out⟩
    · have hbdI : ¬ (bd : Int) = 0 := by omega
      have hbdB : ((bd : Int) == 0) = false := by simpa using hbdI
      have hbdN : ((bd : Int) != 0) = true := by simp [bne, hbdB]
      clear hmay hI hz hE hT hs h8 hbd
      go_enter Tryz.func6, Tryz.ntmps6
      go_wp2_with (first
        | (go_at_call 9; refine (HSH.out _ (Below.refl _ _)).mono ?_; rintro e w1 ⟨rfl, hb1⟩; have HB1 := Lib.hid hb1; clear hb1)
        | (go_at_call 25; refine (HPA.out _ HB1.out).mono ?_; rintro e w2 ⟨xo, xc, yo, yc, rfl, hb2, hd2, hu2⟩; have HB2 := Lib.hid (HB1.out.trans (hb2.mono HB1.out.size)); clear hb2 hd2 hu2))
      go_ret
      exact ⟨rfl, HB2.out.trans ((al_below w2 _).mono HB2.out.size)⟩
  · have h8I : (8000 : Int) < (s.size : Int) := by omega
    clear hE hT hs h8
    go_enter Tryz.func6, Tryz.ntmps6
    go_wp2_with (go_at_call 9; refine (HSH.out _ (Below.refl _ _)).mono ?_; rintro e w1 ⟨rfl, hb1⟩)
    go_ret
    exact ⟨rfl, hb1⟩
end Go.Proofs.YtddioikfhabjpaaGreatDoor
