/-
  PrinterBack's walk.
-/
import Derived.Test.YtddioikfhabjpaaGreatDoorPD
import Derived.Test.YtddioikfhabjpaaGreatDoorPA
namespace Go.Proofs.YtddioikfhabjpaaGreatDoor
set_option linter.unusedSimpArgs false
set_option linter.unusedVariables false
set_option linter.unusedSectionVars false
set_option maxRecDepth 100000
open Go.RowKit Go.Maps

/-- What Parse leaves, as it can be read. -/
def ReadOut (w : World) (bad : Nat) (pl : Int) (g : Pr) (e : Ending) (w' : World) : Prop :=
  ∃ xo xc yo yc, e = .returned (.tuple #[.agg #[.slice xo g.decls.length xc, .slice yo g.rules.length yc], .int .i64 pl, .int .i64 (bad : Int)]) ∧ Below w.heap.size w w' ∧ Des w' (.slice xo g.decls.length xc) g.decls ∧ Rus w' (.slice yo g.rules.length yc) g.rules
theorem read_any (s : ByteArray) (w : World) (hE : PEnv w) (hs : s.size ≤ maxLen) : Calls Tryz.prog 25 #[.string s] w fun e w' => ReadOut w (parseR s).bad (parseR s).pl (parseR s).g e w' := by
  refine (parse_any s w hE hs).mono ?_
  rintro e w' ⟨x, y, rfl, hb, hd, hu⟩
  have hz := parseR_zs s
  have hd' := zz_des hz hd
  have hu' := zz_rus hz hu
  obtain ⟨xo, xc, rfl, -⟩ := hd'.form
  obtain ⟨yo, yc, rfl, -⟩ := hu'.form
  exact ⟨xo, xc, yo, yc, rfl, hb, hd', hu'⟩

set_option maxHeartbeats 8000000 in
theorem pback_walk (g : Pr) (x y : Value) (w : World) (hx : Des w x g.decls) (hy : Rus w y g.rules) (hI : InPr g) (hs : szPr g ≤ 1048576) (hE : PEnv w) (hT : Tab w) :
    Calls Tryz.prog 5 #[.agg #[x, y]] w fun e w' => e = .returned (.bool true) ∧ Below w.heap.size w w' := by
  obtain ⟨xo, xc, rfl, -⟩ := hx.form
  obtain ⟨yo, yc, rfl, -⟩ := hy.form
  have hle := progTx_le hI
  have HSH := Lib.hid (fun W (hb : Below w.heap.size w W) => shownP_any W (hE.below hb) (hT.on hb))
  have HFW := Lib.hid (fun W (hb : Below w.heap.size w W) => few_any g _ _ W (hx.below stayDe hb) (hy.below stayRu hb) (by omega))
  have HMY := Lib.hid (fun W (hb : Below w.heap.size w W) => pmay_any g _ _ W (hx.below stayDe hb) (hy.below stayRu hb) hI (by omega))
  have HPG := Lib.hid (fun W (hb : Below w.heap.size w W) => pprog_any g _ _ W (hx.below stayDe hb) (hy.below stayRu hb) hI (by omega) (hT.on hb))
  have hV := prV_of hI (by omega)
  have HSM : Hid (∀ W (_ : Below w.heap.size w W) xo2 xc2 yo2 yc2, Des W (.slice xo2 g.decls.length xc2) g.decls → Rus W (.slice yo2 g.rules.length yc2) g.rules → Calls Tryz.prog 26 #[.agg #[.slice xo g.decls.length xc, .slice yo g.rules.length yc], .agg #[.slice xo2 g.decls.length xc2, .slice yo2 g.rules.length yc2]] W fun e w' => e = .returned (.bool true) ∧ Below W.heap.size W w') :=
    fun W hb xo2 xc2 yo2 yc2 h1 h2 => same_any2 (hx.below stayDe hb) h1 (hy.below stayRu hb) h2 hV
  obtain ⟨S, hS⟩ : ∃ S : ByteArray, S = ⟨(progTx g).toArray⟩ := ⟨_, rfl⟩
  have hSd : S.data.toList = progTx g := by rw [hS]
  have HPS : Hid (mayPrB g = true → S.size ≤ 60000 → ∀ W, Below w.heap.size w W → Calls Tryz.prog 25 #[.string S] W fun e w' => ReadOut W 0 0 g e w') := fun hm hsz W hb => by
    have := read_any S W (hE.below hb) (by unfold maxLen; omega)
    rw [prog_back ((mayPr_iff hI).1 hm) hSd (by omega)] at this
    exact this
  rw [← hS] at HPG
  obtain ⟨mb, hmb⟩ : ∃ mb, mb = mayPrB g := ⟨_, rfl⟩
  rw [← hmb] at HMY HPS
  obtain ⟨GD, GR⟩ := g
  simp only at HFW HMY HPG HPS HSM
  obtain ⟨W, hW⟩ : ∃ W, W = w.alloc (.cells #[.slice xo GD.length xc, .slice yo GR.length yc] 25) := ⟨_, rfl⟩
  have hbW : Below w.heap.size w W := by rw [hW]; exact al_below _ _
  have HB0 := Lib.hid hbW
  have HK : Hid (∀ W', Below W.heap.size W W' → W'.cell? ⟨w.heap.size, 0, none⟩ = some (.slice xo GD.length xc) ∧ W'.cell? ⟨w.heap.size, 1, none⟩ = some (.slice yo GR.length yc) ∧ w.heap.size < W'.heap.size ∧ Below w.heap.size w W') := fun W' hb => by
    have hB : Blk W w.heap.size #[.slice xo GD.length xc, .slice yo GR.length yc] 25 := by rw [hW]; exact Blk.new _ _ _
    exact ⟨(hB.below hb).cell 0, (hB.below hb).cell 1, (hB.below hb).lt, hbW.trans (hb.mono hbW.size)⟩
  have HW := Lib.hid hW
  clear hx hy hI hs hle hV hS hSd hmb hbW hW hE hT
  go_enter Tryz.func5, Tryz.ntmps5
  go_wp2_with (go_at_call 9; rw [← HW.out]; refine (HSH.out _ HB0.out).mono ?_; rintro e w1 ⟨rfl, hb1⟩; have HB1 : Hid (Below W.heap.size W w1) := hb1; clear hb1; obtain ⟨p0, p1, p2, p3⟩ := HK.out _ HB1.out)
  refine (HFW.out _ (HK.out _ HB1.out).2.2.2).mono ?_
  rintro e w2 ⟨fb, rfl, hb2⟩
  have HB2 : Hid (Below W.heap.size W w2) := HB1.out.trans (hb2.mono HB1.out.size)
  clear hb2 p0 p1 p2 p3
  obtain ⟨q0, q1, q2, q3⟩ := HK.out _ HB2.out
  cases fb
  · go_wp2
    go_ret
    exact ⟨rfl, (HK.out _ HB2.out).2.2.2⟩
  cases mb
  · go_wp2_with (go_at_call 13; refine (HMY.out _ (HK.out _ HB2.out).2.2.2).mono ?_; rintro e w3 ⟨rfl, hb3⟩; have HB3 : Hid (Below W.heap.size W w3) := HB2.out.trans (hb3.mono HB2.out.size); clear hb3)
    go_ret
    exact ⟨rfl, (HK.out _ HB3.out).2.2.2⟩
  by_cases h6 : S.size ≤ 60000
  · have h6I : ¬ (60000 : Int) < (S.size : Int) := by omega
    have HP := Lib.hid (HPS.out rfl h6)
    clear h6 HPS
    go_wp2_with (first
      | (go_at_call 13; refine (HMY.out _ (HK.out _ HB2.out).2.2.2).mono ?_; rintro e w3 ⟨rfl, hb3⟩; have HB3 : Hid (Below W.heap.size W w3) := HB2.out.trans (hb3.mono HB2.out.size); clear hb3; obtain ⟨r0, r1, r2, r3⟩ := HK.out _ HB3.out)
      | (go_at_call 11; refine (HPG.out _ (HK.out _ HB3.out).2.2.2).mono ?_; rintro e w4 ⟨rfl, hb4⟩; have HB4 : Hid (Below W.heap.size W w4) := HB3.out.trans (hb4.mono HB3.out.size); clear hb4)
      | (go_at_call 25; refine (HP.out _ (HK.out _ HB4.out).2.2.2).mono ?_; rintro e w5 ⟨xo2, xc2, yo2, yc2, rfl, hb5, hd5, hu5⟩; have HB5 : Hid (Below W.heap.size W w5) := HB4.out.trans (hb5.mono HB4.out.size); have HD5 := Lib.hid hd5; have HU5 := Lib.hid hu5; clear hb5 hd5 hu5; obtain ⟨s0, s1, s2, s3⟩ := HK.out _ HB5.out)
      | (go_at_call 26; refine (HSM.out _ (s3.trans ((al_below w5 _).mono s3.size)) _ _ _ _ (HD5.out.below stayDe (al_below w5 _)) (HU5.out.below stayRu (al_below w5 _))).mono ?_; rintro e w6 ⟨rfl, hb6⟩; have HB6 : Hid (Below w.heap.size w w6) := (s3.trans ((al_below w5 _).mono s3.size)).trans (hb6.mono (by have := s3.size; simp; omega)); clear hb6))
    go_ret
    exact ⟨rfl, HB6.out⟩
  · have h6I : (60000 : Int) < (S.size : Int) := by omega
    clear h6 HPS
    go_wp2_with (first
      | (go_at_call 13; refine (HMY.out _ (HK.out _ HB2.out).2.2.2).mono ?_; rintro e w3 ⟨rfl, hb3⟩; have HB3 : Hid (Below W.heap.size W w3) := HB2.out.trans (hb3.mono HB2.out.size); clear hb3; obtain ⟨r0, r1, r2, r3⟩ := HK.out _ HB3.out)
      | (go_at_call 11; refine (HPG.out _ (HK.out _ HB3.out).2.2.2).mono ?_; rintro e w4 ⟨rfl, hb4⟩; have HB4 : Hid (Below W.heap.size W w4) := HB3.out.trans (hb4.mono HB3.out.size); clear hb4))
    go_ret
    exact ⟨rfl, (HK.out _ HB4.out).2.2.2⟩
end Go.Proofs.YtddioikfhabjpaaGreatDoor
