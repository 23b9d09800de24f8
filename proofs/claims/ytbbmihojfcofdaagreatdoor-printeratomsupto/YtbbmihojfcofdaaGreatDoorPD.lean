/-
  The document's example, which all statements of printer ask first; few.
  Contract of the seventh law's few: some answer of yes or no.
  The document's SameAtom, SameRule (lambrequinref06) of what is the same.
  The document's Same (lambrequinref06) of programs that are the same.
-/
import Derived.Test.YtbbmihojfcofdaaGreatDoorGParse
import Derived.Test.YtbbmihojfcofdaaGreatDoorPB
import Derived.Test.YtbbmihojfcofdaaGreatDoorPC
import Derived.Test.YtbbmihojfcofdaaGreatDoorPA
import Derived.Test.YtbbmihojfcofdaaGreatDoorKText
import Derived.BigQuiet
import Derived.Deep.DeepBigQuietO
import Derived.Deep.RegionHeld3
namespace Go.Proofs.YtbbmihojfcofdaaGreatDoor
set_option linter.unusedSimpArgs false
set_option linter.unusedVariables false
set_option linter.unusedSectionVars false
set_option maxRecDepth 100000
open Go.RowKit Go.Maps

def pxT : Tm := ⟨true, ⟨#[88]⟩, false, ⟨#[]⟩, 0⟩
def shownPS : ByteArray := ⟨#[112, 40, 88, 44, 32, 39, 65, 39, 41, 32, 58, 45, 32, 113, 40, 88, 41, 44, 32, 110, 111, 116, 32, 114, 44, 32, 88, 32, 33, 61, 32, 51, 46]⟩
def shownPR : Ru := ⟨⟨⟨#[112]⟩, [pxT, ⟨false, ⟨#[]⟩, true, ⟨#[65]⟩, 0⟩]⟩, [⟨1, ⟨⟨#[113]⟩, [pxT]⟩, ⟨#[]⟩, Tm.zero, Tm.zero⟩, ⟨2, ⟨⟨#[114]⟩, []⟩, ⟨#[]⟩, Tm.zero, Tm.zero⟩, ⟨3, Am.zero, ⟨#[33, 61]⟩, pxT, ⟨false, ⟨#[]⟩, false, ⟨#[]⟩, 3⟩⟩]⟩
def shownPG : Pr := ⟨[], [shownPR]⟩
theorem shownP_parse : parseR shownPS = ⟨0, 0, shownPG⟩ := by kernel_rfl
theorem shownP_rule : ruleTx shownPR = shownPS.data.toList := by kernel_rfl
theorem shownP_prog : progTx shownPG = (⟨#[112, 40, 88, 44, 32, 39, 65, 39, 41, 32, 58, 45, 32, 113, 40, 88, 41, 44, 32, 110, 111, 116, 32, 114, 44, 32, 88, 32, 33, 61, 32, 51, 46, 10]⟩ : ByteArray).data.toList := by kernel_rfl
theorem shownP_may : mayPrB shownPG = true := by kernel_rfl
theorem inR_small {n : Int} (h : (decide (-100 ≤ n) && decide (n ≤ 100)) = true) : InR n := by
  simp at h
  exact ⟨by omega, by omega⟩
def inTmB (t : Tm) : Bool := decide (-100 ≤ t.n) && decide (t.n ≤ 100)
def inAmB (a : Am) : Bool := a.args.all inTmB
def inRuB (r : Ru) : Bool := inAmB r.head && r.body.all fun l => inAmB l.atom && inTmB l.l && inTmB l.r
theorem inAm_of {a : Am} (h : inAmB a = true) : InAm a := fun t ht => inR_small (List.all_eq_true.1 h t ht)
theorem inRu_of {r : Ru} (h : inRuB r = true) : InRu r := by
  unfold inRuB at h
  rw [Bool.and_eq_true] at h
  refine ⟨inAm_of h.1, fun l hl => ?_⟩
  have := List.all_eq_true.1 h.2 l hl
  simp only [Bool.and_eq_true] at this
  exact ⟨inAm_of this.1.1, inR_small this.1.2, inR_small this.2⟩
theorem shownP_in : InPr shownPG := ⟨fun d hd => by simp [shownPG] at hd, fun r hr => by
  have : r = shownPR := by simpa [shownPG] using hr
  rw [this]
  exact inRu_of (by kernel_rfl)⟩
theorem shownP_sz : szPr shownPG ≤ 1000000000000 := of_decide_eq_true (by kernel_rfl)
theorem shownP_szR : szRu shownPR ≤ 1000000000000 := of_decide_eq_true (by kernel_rfl)
theorem shownP_rus {w : World} {B : Nat} {y : Value} (h : RusO w B y shownPG.rules) : Rus w y shownPG.rules :=
  RusO.rd h (by decide) (fun r hr => by
    have : r = shownPR := by simpa [shownPG] using hr
    rw [this]
    refine ⟨by decide, by decide, fun l hl => ?_⟩
    have : ∀ l ∈ shownPR.body, l.atom.args.length ≤ 1 := by decide +kernel
    have := this l hl
    unfold maxLen
    omega)

set_option maxHeartbeats 4000000 in
theorem shownP_any (w : World) (hE : PEnv w) (hT : Tab w) : Calls Tryz.prog 9 #[] w fun e w' => e = .returned (.bool true) ∧ Below w.heap.size w w' := by
  have HE := Lib.hid hE
  have HT := Lib.hid hT
  clear hE hT
  go_enter Tryz.func9, Tryz.ntmps9
  go_wp2_with fail
  have hp := parse_any shownPS w HE.out (by decide)
  unfold shownPS at hp
  refine hp.mono ?_
  rintro e w1 ⟨x, y, rfl, hb1, hd, hu⟩
  have hsp : parseR ⟨#[112, 40, 88, 44, 32, 39, 65, 39, 41, 32, 58, 45, 32, 113, 40, 88, 41, 44, 32, 110, 111, 116, 32, 114, 44, 32, 88, 32, 33, 61, 32, 51, 46]⟩ = ⟨0, 0, shownPG⟩ := shownP_parse
  rw [hsp] at hd hu ⊢
  have hd' := DesO.rd hd (by decide)
  have hu' := shownP_rus hu
  obtain ⟨xo, xc, hx1, -⟩ := hd'.form
  obtain ⟨yo, yc, hy1, -⟩ := hu'.form
  subst hx1 hy1
  have HB1 := Lib.hid (hb1.trans ((al_below w1 (.cells #[.slice xo shownPG.decls.length xc, .slice yo shownPG.rules.length yc] 25)).mono hb1.size))
  obtain ⟨W, hW⟩ : ∃ W, W = w1.alloc (.cells #[.slice xo shownPG.decls.length xc, .slice yo shownPG.rules.length yc] 25) := ⟨_, rfl⟩
  have hbW : Below w1.heap.size w1 W := by rw [hW]; exact al_below _ _
  have HBK : Hid (Blk W w1.heap.size #[.slice xo shownPG.decls.length xc, .slice yo shownPG.rules.length yc] 25) := by show Blk _ _ _ _; rw [hW]; exact Blk.new _ _ _
  have HD := Lib.hid (hd'.below stayDe hbW)
  have HU := Lib.hid (hu'.below stayRu hbW)
  rw [← hW] at HB1
  have HTW := Lib.hid (HT.out.on HB1.out)
  obtain ⟨b, off, cs, hyo, hbl, ⟨xa, ya, hcs, hxa, hya⟩, hc⟩ := hu'.at 0 (by decide)
  subst hcs
  have c0 := hc 0 _ rfl
  have c1 := hc 1 _ rfl
  have c2 := hc 2 _ rfl
  obtain ⟨xo2, xc2, hx2, -⟩ := hxa.form
  obtain ⟨yo2, yc2, hy2, -⟩ := hya.form
  subst hx2 hy2 hyo
  have HRU := Lib.hid (prule_any shownPR _ _ W (hxa.below stayTm hbW) (hya.below stayLt hbW) (shownP_in.2 _ (by simp [shownPG])) shownP_szR HTW.out)
  rw [shownP_rule] at HRU
  have e1 : (⟨shownPS.data.toList.toArray⟩ : ByteArray) = ⟨#[112, 40, 88, 44, 32, 39, 65, 39, 41, 32, 58, 45, 32, 113, 40, 88, 41, 44, 32, 110, 111, 116, 32, 114, 44, 32, 88, 32, 33, 61, 32, 51, 46]⟩ := rfl
  rw [e1] at HRU
  have HPG : Hid (∀ W', Below W.heap.size W W' → Calls Tryz.prog 11 #[.agg #[.slice xo shownPG.decls.length xc, .slice (some ⟨b, off, none⟩) shownPG.rules.length yc]] W' fun e w' => e = .returned (.string ⟨#[112, 40, 88, 44, 32, 39, 65, 39, 41, 32, 58, 45, 32, 113, 40, 88, 41, 44, 32, 110, 111, 116, 32, 114, 44, 32, 88, 32, 33, 61, 32, 51, 46, 10]⟩) ∧ Below W'.heap.size W' w') := fun W' hb => by
    have := pprog_any shownPG _ _ W' (HD.out.below stayDe hb) (HU.out.below stayRu hb) shownP_in shownP_sz (HTW.out.on hb)
    rw [shownP_prog] at this
    exact this
  have HPM : Hid (∀ W', Below W.heap.size W W' → Calls Tryz.prog 13 #[.agg #[.slice xo shownPG.decls.length xc, .slice (some ⟨b, off, none⟩) shownPG.rules.length yc]] W' fun e w' => e = .returned (.bool true) ∧ Below W'.heap.size W' w') := fun W' hb => by
    have := pmay_any shownPG _ _ W' (HD.out.below stayDe hb) (HU.out.below stayRu hb) shownP_in shownP_sz
    rw [shownP_may] at this
    exact this
  have hl1 : (1 : Int) ≤ (yc : Int) := by
    obtain ⟨_, _, e, h, -⟩ := HU.out.form
    cases e
    have : shownPG.rules.length = 1 := rfl
    omega
  have HCE : Hid (∀ W', Below W.heap.size W W' → W'.cell? ⟨w1.heap.size, 0, none⟩ = some (.slice xo shownPG.decls.length xc) ∧ W'.cell? ⟨w1.heap.size, 1, none⟩ = some (.slice (some ⟨b, off, none⟩) shownPG.rules.length yc)) := fun W' hb => ⟨(HBK.out.below hb).cell 0, (HBK.out.below hb).cell 1⟩
  have hlen1 : shownPG.rules.length = 1 := rfl
  have HSE : Hid (∀ W', Below W.heap.size W W' → Below w.heap.size w W') := fun W' hb => HB1.out.trans (hb.mono HB1.out.size)
  have hcat : ((⟨#[112, 40, 88, 44, 32, 39, 65, 39, 41, 32, 58, 45, 32, 113, 40, 88, 41, 44, 32, 110, 111, 116, 32, 114, 44, 32, 88, 32, 33, 61, 32, 51, 46]⟩ : ByteArray) ++ ⟨#[10]⟩).toList = [112, 40, 88, 44, 32, 39, 65, 39, 41, 32, 58, 45, 32, 113, 40, 88, 41, 44, 32, 110, 111, 116, 32, 114, 44, 32, 88, 32, 33, 61, 32, 51, 46, 10] := by rw [toList_data]; rfl
  obtain ⟨D, hD⟩ : ∃ D, D = shownPG.decls.length := ⟨_, rfl⟩
  rw [hlen1] at HPG HPM HCE HBK hW
  rw [← hD] at HPG HPM HCE HBK hW
  simp only [hlen1, ← hD]
  clear hb1 hd hu hd' hu' hbW hc hxa hya HT HE hsp hp HD HU e1 HBK HB1 hlen1 hD HTW
  subst hW
  simp only [Nat.add_zero] at c0
  go_wp2_with (first
    | (go_at_call 21; refine (HRU.out).mono ?_; rintro e w2 ⟨rfl, hb2⟩; have HB2 := Lib.hid hb2; clear hb2 HRU; obtain ⟨g0, g1⟩ := HCE.out _ HB2.out)
    | (go_at_call 11; refine (HPG.out _ HB2.out).mono ?_; rintro e w3 ⟨rfl, hb3⟩; have HB3 := Lib.hid (HB2.out.trans (hb3.mono HB2.out.size)); clear hb3 HPG; obtain ⟨k0, k1⟩ := HCE.out _ HB3.out)
    | (go_at_call 13; refine (HPM.out _ HB3.out).mono ?_; rintro e w4 ⟨rfl, hb4⟩; have HB4 := Lib.hid (HB3.out.trans (hb4.mono HB3.out.size)); clear hb4 HPM))
  go_ret
  exact ⟨by first | rfl | simp, HSE.out _ HB4.out⟩
end Go.Proofs.YtbbmihojfcofdaaGreatDoor

namespace Go.Proofs.YtbbmihojfcofdaaGreatDoor
set_option linter.unusedSimpArgs false
set_option linter.unusedVariables false
set_option linter.unusedSectionVars false
set_option maxRecDepth 100000
open Go.RowKit

/-- Some answer of yes or no. -/
def FewOut (w : World) (e : Ending) (w' : World) : Prop := ∃ b, e = .returned (.bool b) ∧ Below w.heap.size w w'

set_option maxHeartbeats 8000000 in
theorem few_any (g : Pr) (x y : Value) (w : World) (hx : Des w x g.decls) (hy : Rus w y g.rules) (hs : szPr g ≤ 1000000000000) :
    Calls Tryz.prog 10 #[.agg #[x, y]] w fun e w' => FewOut w e w' := by
  obtain ⟨xo, xc, rfl, -, hmx⟩ := hx.form
  obtain ⟨yo, yc, rfl, -, hmy⟩ := hy.form
  have hlr : 2 * g.rules.length ≤ szRus g.rules := sum_len szRu 2 (fun t => by unfold szRu szAm; omega) _
  have HBL : Hid (∀ r ∈ g.rules, r.body.length ≤ 1000000000000) := fun r hr => by
    have h1 := sum_mem szRu hr
    have h2 : 2 * r.body.length ≤ szLts r.body := sum_len szLt 2 (fun t => by unfold szLt; omega) _
    unfold szPr szRus at hs
    have h3 : szAm r.head + szLts r.body + 1 ≤ (g.rules.map szRu).sum := h1
    omega
  obtain ⟨GD, G⟩ := g
  simp only at hx hy hlr HBL
  have hlI : (G.length : Int) ≤ 1000000000000 := by unfold szPr at hs; simp only at hs; omega
  obtain ⟨nd, hnd⟩ : ∃ nd, nd = GD.length := ⟨_, rfl⟩
  simp only [← hnd]
  obtain ⟨W, hW⟩ : ∃ W, W = w.alloc (.cells #[.slice xo nd xc, .slice yo G.length yc] 25) := ⟨_, rfl⟩
  have hbW : Below w.heap.size w W := by rw [hW]; exact al_below _ _
  have HB0 := Lib.hid hbW
  have HX := Lib.hid (hy.below stayRu hbW)
  have HK : Hid (∀ W', Below W.heap.size W W' → W'.cell? ⟨w.heap.size, 0, none⟩ = some (.slice xo nd xc) ∧ W'.cell? ⟨w.heap.size, 1, none⟩ = some (.slice yo G.length yc)) := fun W' hb => by
    have hB : Blk W w.heap.size #[.slice xo nd xc, .slice yo G.length yc] 25 := by rw [hW]; exact Blk.new _ _ _
    exact ⟨(hB.below hb).cell 0, (hB.below hb).cell 1⟩
  have HW := Lib.hid hW
  clear hx hy hs hlr hmx hmy hbW hnd hW
  go_enter Tryz.func10, Tryz.ntmps10
  go_wp2_with fail
  rw [← HW.out]
  clear HW
  go_loopw [3] (fun i wr => ∃ k : Nat, (k : Int) ≤ (G.length : Int) ∧ i = .int .i64 k ∧ Hid (Below W.heap.size W wr)) (fun i _ => G.length - (intOf i).toNat)
  case atStart => exact ⟨0, by omega, rfl, Below.refl _ _⟩
  case round =>
    obtain ⟨k, hk, rfl, HB⟩ := hrel
    obtain ⟨q0, q1⟩ := HK.out wr HB.out
    by_cases hlt : k < G.length
    · have hltI : (k : Int) < (G.length : Int) := by omega
      by_cases h61 : k < 61
      · have h61I : (k : Int) < 61 := by omega
        obtain ⟨b, off, cs, rfl, hbl, hR, hc⟩ := (HX.out.below stayRu HB.out).at k hlt
        obtain ⟨xa, ya, rfl, hxa, hya⟩ := hR
        obtain ⟨xo2, xc2, rfl, -⟩ := hxa.form
        obtain ⟨yo2, yc2, rfl, -, hym⟩ := hya.form
        have c0 := hc 0 _ rfl
        have c1 := hc 1 _ rfl
        have c2 := hc 2 _ rfl
        simp only [Nat.add_zero] at c0
        have hbn := HBL.out _ (List.getElem_mem hlt)
        have HLT : Hid (k + 1 ≤ G.length) := hlt
        obtain ⟨t, ht⟩ : ∃ t, t = G[k]'hlt := ⟨_, rfl⟩
        rw [← ht] at c0 c1 c2 hbn hya
        clear ht hc hxa
        obtain ⟨⟨tp, targs⟩, tb⟩ := t
        simp only at c0 c1 c2 hbn hya
        obtain ⟨na, hna⟩ : ∃ na, na = targs.length := ⟨_, rfl⟩
        rw [← hna] at c1
        have HYA := Lib.hid (hya.below stayLt (al_below wr (.cells #[.string tp, .slice xo2 na xc2, .slice yo2 tb.length yc2] 40)))
        have hbnI : (tb.length : Int) ≤ 1000000000000 := by omega
        obtain ⟨wo, hwo⟩ : ∃ wo, wo = wr := ⟨_, rfl⟩
        subst hwo
        have HBR := Lib.hid (Blk.new wo #[.string tp, .slice xo2 na xc2, .slice yo2 tb.length yc2] 40)
        have HAL := Lib.hid (al_below wo (.cells #[.string tp, .slice xo2 na xc2, .slice yo2 tb.length yc2] 40))
        clear hya hna hlt h61 hbn hym
        by_cases h20 : tb.length > 20
        · have h20I : (20 : Int) < (tb.length : Int) := by omega
          clear h20
          go_wp2
          go_ret
          exact ⟨_, rfl, HB0.out.trans ((HB.out.trans (HAL.out.mono HB.out.size)).mono HB0.out.size)⟩
        have h20I : ¬ (20 : Int) < (tb.length : Int) := by omega
        by_cases h21 : na > 20
        · have h21I : (20 : Int) < (na : Int) := by omega
          clear h20 h21
          go_wp2
          go_ret
          exact ⟨_, rfl, HB0.out.trans ((HB.out.trans (HAL.out.mono HB.out.size)).mono HB0.out.size)⟩
        have h21I : ¬ (20 : Int) < (na : Int) := by omega
        clear h20 h21
        go_wp2_with fail
        obtain ⟨V, hV⟩ : ∃ V, V = wo.alloc (.cells #[.string tp, .slice xo2 na xc2, .slice yo2 tb.length yc2] 40) := ⟨_, rfl⟩
        rw [← hV] at HYA HBR HAL ⊢
        clear hV
        go_loopw [5] (fun i wr => ∃ m : Nat, (m : Int) ≤ (tb.length : Int) ∧ i = .int .i64 m ∧ Hid (Below V.heap.size V wr)) (fun i _ => tb.length - (intOf i).toNat)
        case atStart => exact ⟨0, by omega, rfl, Below.refl _ _⟩
        case round =>
          obtain ⟨m, hm, rfl, HI⟩ := hrel
          have r2 := (HBR.out.below HI.out).cell 2
          simp at r2
          by_cases hlt2 : m < tb.length
          · have hlt2I : (m : Int) < (tb.length : Int) := by omega
            obtain ⟨b2, off2, cs2, rfl, hbl2, hR2, hc2⟩ := (HYA.out.below stayLt HI.out).at m hlt2
            obtain ⟨xb, rfl, hxb⟩ := hR2
            obtain ⟨xo3, xc3, rfl, -⟩ := hxb.form
            have d2 := hc2 2 _ rfl
            have HLT2 : Hid (m + 1 ≤ tb.length) := hlt2
            obtain ⟨n3, hn3⟩ : ∃ n3, n3 = (tb[m]'hlt2).atom.args.length := ⟨_, rfl⟩
            rw [← hn3] at d2
            clear hn3 hc2 hxb hlt2
            by_cases h22 : n3 > 20
            · have h22I : (20 : Int) < (n3 : Int) := by omega
              clear h22
              go_wp2
              go_ret
              exact ⟨_, rfl, HB0.out.trans ((HB.out.trans ((HAL.out.trans (HI.out.mono HAL.out.size)).mono HB.out.size)).mono HB0.out.size)⟩
            · have h22I : ¬ (20 : Int) < (n3 : Int) := by omega
              clear h22
              go_wp2
              go_roundw
              case rel => exact ⟨m + 1, by have := HLT2.out; omega, by go_num, HI.out⟩
              case measure => simp [intOf]; have := HLT2.out; omega
          · have hlt2I : ¬ (m : Int) < (tb.length : Int) := by omega
            go_wp2
            go_roundw
            case rel => exact ⟨k + 1, by have := HLT.out; omega, by go_num, HB.out.trans ((HAL.out.trans (HI.out.mono HAL.out.size)).mono HB.out.size)⟩
            case measure => simp [intOf]; have := HLT.out; omega
      · have h61I : ¬ (k : Int) < 61 := by omega
        go_wp2
        all_goals
          go_ret
          exact ⟨_, rfl, HB0.out.trans (HB.out.mono HB0.out.size)⟩
    · have hltI : ¬ (k : Int) < (G.length : Int) := by omega
      go_wp2
      all_goals
        go_ret
        exact ⟨_, rfl, HB0.out.trans (HB.out.mono HB0.out.size)⟩
end Go.Proofs.YtbbmihojfcofdaaGreatDoor

namespace Go.Proofs.YtbbmihojfcofdaaGreatDoor
set_option linter.unusedSimpArgs false
set_option linter.unusedVariables false
set_option linter.unusedSectionVars false
set_option maxRecDepth 100000
open Go.RowKit

theorem neq_tmP {x : Tm} (h : TmV x) (w : World) : (binOp .neq 35 (.agg #[.bool x.v, .string x.name, .bool x.k, .string x.s, .int .i64 x.n]) (.agg #[.bool x.v, .string x.name, .bool x.k, .string x.s, .int .i64 x.n])).run Tryz.prog w = .ok (.bool false) w := by
  obtain ⟨l, hl⟩ := keyTm h
  obtain ⟨r, hr, hiff⟩ := run_equal_deep (P := Tryz.prog) w (m := 4) (by omega) (k := 35) keyTypeAtTm wideTermP hl hl
  have : r = true := hiff.2 rfl
  subst this
  simp [binOp, hr, Result.andThen]
theorem wideDeclP : (match Tryz.prog.underlying 63 with | some (.array _ _) | some (.struct _) => true | _ => false) = true := by kernel_rfl
theorem keyTypeDeclP : Tryz.prog.keyType 63 = true := by kernel_rfl
theorem cellsDeQ : Tryz.prog.cellsOf 63 = 2 := by kernel_rfl
theorem cellsNQ : Tryz.prog.cellsOf 3 = 1 := by kernel_rfl
theorem keyTypeAtDe : Tryz.prog.keyTypeAt 3 63 = true := by kernel_rfl
theorem keyOf_twoP {P : Program} {t : TypeId} {f0 f1 : Field} (ht : P.underlying t = some (.struct #[f0, f1])) (hk : P.keyType t = true) (ct : P.cellsOf t = 2) (hm : ∃ m, P.types.size = m + 1)
    (o0 : f0.offset = 0) (o1 : f1.offset = 1) (c0 : P.cellsOf f0.type = 1) (c1 : P.cellsOf f1.type = 1) (n0 : f0.name ≠ "_") (n1 : f1.name ≠ "_")
    (u0 : P.underlying f0.type = some .string) (u1 : P.underlying f1.type = some (.int .i64)) {d : De} (h1 : d.p.size ≤ maxLen) (h2 : InR d.ar) :
    ∃ l, keyOf P t (.agg #[.string d.p, .int .i64 d.ar]) = some l := by
  obtain ⟨m, hm⟩ := hm
  have hw : (Lit.int .i64 d.ar).wf = true := WalkArith.wf_i64 ⟨h2.1, h2.2⟩
  simp [keyOf, ht, hk, Value.formed, ct, hm, Program.keyLits, o0, o1, c0, c1, n0, n1, u0, u1, Value.cells, h1, hw]
theorem keyDe {d : De} (h1 : d.p.size ≤ maxLen) (h2 : InR d.ar) : ∃ l, keyOf Tryz.prog 63 (.agg #[.string d.p, .int .i64 d.ar]) = some l :=
  keyOf_twoP Tryz.underlying63 keyTypeDeclP cellsDeQ ⟨_, (show Tryz.prog.types.size = (Tryz.prog.types.size - 1) + 1 by kernel_rfl)⟩ rfl rfl cellsSR cellsNQ (by decide) (by decide) Tryz.underlying9 Tryz.underlying3 h1 h2
theorem neq_deP {d : De} (h1 : d.p.size ≤ maxLen) (h2 : InR d.ar) (w : World) : (binOp .neq 63 (.agg #[.string d.p, .int .i64 d.ar]) (.agg #[.string d.p, .int .i64 d.ar])).run Tryz.prog w = .ok (.bool false) w := by
  obtain ⟨l, hl⟩ := keyDe h1 h2
  obtain ⟨r, hr, hiff⟩ := run_equal_deep (P := Tryz.prog) w (m := 3) (by omega) (k := 63) keyTypeAtDe wideDeclP hl hl
  have : r = true := hiff.2 rfl
  subst this
  simp [binOp, hr, Result.andThen]
theorem blk2 (w : World) (cs ds : Array Value) (ty tz : TypeId) : Blk ((w.alloc (.cells cs ty)).alloc (.cells ds tz)) (w.heap.size + 1) ds tz := by
  have := Blk.new (w.alloc (.cells cs ty)) ds tz
  have e : (w.alloc (.cells cs ty)).heap.size = w.heap.size + 1 := by simp
  rw [e] at this
  exact this

set_option maxHeartbeats 4000000 in
theorem sameA_any {p : ByteArray} {A : List Tm} {o o2 : Option Addr} {c c2 : Nat} {w : World} (hx : Tms w (.slice o A.length c) A) (hy : Tms w (.slice o2 A.length c2) A) (hA : ∀ x ∈ A, TmV x) (hl : A.length ≤ 1000000000000) :
    Calls Tryz.prog 28 #[.agg #[.string p, .slice o A.length c], .agg #[.string p, .slice o2 A.length c2]] w fun e w' => e = .returned (.bool true) ∧ Below w.heap.size w w' := by
  have hcx : A.length ≤ c := by obtain ⟨_, _, e, h, -⟩ := hx.form; cases e; exact h
  have hcy : A.length ≤ c2 := by obtain ⟨_, _, e, h, -⟩ := hy.form; cases e; exact h
  obtain ⟨W0, hW0⟩ : ∃ W0, W0 = (w.alloc (.cells #[.string p, .slice o A.length c] 31)).alloc (.cells #[.string p, .slice o2 A.length c2] 31) := ⟨_, rfl⟩
  have hb0 : Below w.heap.size w W0 := by rw [hW0]; exact (al_below w _).alloc (by simp) _
  have HX := Lib.hid (hx.below stayTm hb0)
  have HY := Lib.hid (hy.below stayTm hb0)
  have HK1 : Hid (Blk W0 w.heap.size #[.string p, .slice o A.length c] 31) := by show Blk _ _ _ _; rw [hW0]; exact (Blk.new w _ _).below (al_below _ _)
  have HK2 : Hid (Blk W0 (w.heap.size + 1) #[.string p, .slice o2 A.length c2] 31) := by show Blk _ _ _ _; rw [hW0]; exact blk2 _ _ _ _ _
  have HB0 := Lib.hid hb0
  have HW0 := Lib.hid hW0
  have HA := Lib.hid hA
  have h6I : (A.length : Int) ≤ 1000000000000 := by omega
  have hpp : (p.toList != p.toList) = false := by simp
  clear hx hy hA hb0 hW0 hl
  go_enter Tryz.func28, Tryz.ntmps28
  go_wp2_with fail
  rw [← HW0.out]
  clear HW0
  go_loopw [5] (fun i wr => ∃ k : Nat, (k : Int) ≤ (A.length : Int) ∧ i = .int .i64 (k : Int) ∧ Hid (Below W0.heap.size W0 wr)) (fun i _ => A.length - (intOf i).toNat)
  case atStart => exact ⟨0, by omega, rfl, Below.refl _ _⟩
  case round =>
    obtain ⟨k, hk, rfl, HB⟩ := hrel
    have hq1 := (HK1.out.below HB.out).cell 0
    have hq2 := (HK1.out.below HB.out).cell 1
    have hq3 := (HK2.out.below HB.out).cell 0
    have hq4 := (HK2.out.below HB.out).cell 1
    simp at hq1 hq2 hq3 hq4
    by_cases hlt : k < A.length
    · have hltI : (k : Int) < (A.length : Int) := by omega
      obtain ⟨b, off, cs, rfl, hbl, hR, hc⟩ := (HX.out.below stayTm HB.out).at k hlt
      obtain rfl : cs = _ := hR
      obtain ⟨b2, off2, cs2, rfl, hbl2, hR2, hc2⟩ := (HY.out.below stayTm HB.out).at k hlt
      obtain rfl : cs2 = _ := hR2
      have x0 := hc 0 _ rfl
      have x1 := hc 1 _ rfl
      have x2 := hc 2 _ rfl
      have x3 := hc 3 _ rfl
      have x4 := hc 4 _ rfl
      have y0 := hc2 0 _ rfl
      have y1 := hc2 1 _ rfl
      have y2 := hc2 2 _ rfl
      have y3 := hc2 3 _ rfl
      have y4 := hc2 4 _ rfl
      simp only [Nat.add_zero] at x0 y0
      have hw := HA.out _ (List.getElem_mem hlt)
      have HLT : Hid (k + 1 ≤ A.length) := hlt
      obtain ⟨t, ht⟩ : ∃ t, t = A[k]'hlt := ⟨_, rfl⟩
      rw [← ht] at x0 x1 x2 x3 x4 y0 y1 y2 y3 y4 hw
      have hne : ∀ nq, _ := fun nq => neq_tmP hw (wr.drewN nq)
      clear ht hlt hw hc hc2
      go_wp2_with fail
      go_quiet (fail)
      go_wp2
      go_roundw
      case rel => exact ⟨k + 1, by have := HLT.out; omega, by go_num, HB.out.trans ⟨rfl, rfl, rfl, Nat.le_refl _, fun _ _ => rfl⟩⟩
      case measure => simp [intOf]; have := HLT.out; omega
    · have hltI : ¬ (k : Int) < (A.length : Int) := by omega
      go_wp2
      go_ret
      exact ⟨rfl, HB0.out.trans (HB.out.mono HB0.out.size)⟩

/-- What a literal, a rule can be held against. -/
def LtV (l : Lt) : Prop := (∀ x ∈ l.atom.args, TmV x) ∧ l.atom.args.length ≤ 1000000000000 ∧ TmV l.l ∧ TmV l.r
def RuV (r : Ru) : Prop := (∀ x ∈ r.head.args, TmV x) ∧ r.head.args.length ≤ 1000000000000 ∧ r.body.length ≤ 1000000000000 ∧ ∀ l ∈ r.body, LtV l

set_option maxHeartbeats 8000000 in
theorem sameR_any {r : Ru} {o o2 q q2 : Option Addr} {c c2 d d2 : Nat} {w : World} (hx : Tms w (.slice o r.head.args.length c) r.head.args) (hy : Tms w (.slice o2 r.head.args.length c2) r.head.args)
    (kx : Lts w (.slice q r.body.length d) r.body) (ky : Lts w (.slice q2 r.body.length d2) r.body) (hV : RuV r) :
    Calls Tryz.prog 51 #[.agg #[.string r.head.p, .slice o r.head.args.length c, .slice q r.body.length d], .agg #[.string r.head.p, .slice o2 r.head.args.length c2, .slice q2 r.body.length d2]] w fun e w' => e = .returned (.bool true) ∧ Below w.heap.size w w' := by
  obtain ⟨⟨p, A⟩, bd⟩ := r
  obtain ⟨hA, hlA, hlB, hL⟩ := hV
  simp only at hx hy kx ky hA hlA hlB hL ⊢
  obtain ⟨W0, hW0⟩ : ∃ W0, W0 = (w.alloc (.cells #[.string p, .slice o A.length c, .slice q bd.length d] 40)).alloc (.cells #[.string p, .slice o2 A.length c2, .slice q2 bd.length d2] 40) := ⟨_, rfl⟩
  have hb0 : Below w.heap.size w W0 := by rw [hW0]; exact (al_below w _).alloc (by simp) _
  have HSA := Lib.hid (sameA_any (p := p) (hx.below stayTm hb0) (hy.below stayTm hb0) hA hlA)
  have HX := Lib.hid (kx.below stayLt hb0)
  have HY := Lib.hid (ky.below stayLt hb0)
  have HK1 : Hid (Blk W0 w.heap.size #[.string p, .slice o A.length c, .slice q bd.length d] 40) := by show Blk _ _ _ _; rw [hW0]; exact (Blk.new w _ _).below (al_below _ _)
  have HK2 : Hid (Blk W0 (w.heap.size + 1) #[.string p, .slice o2 A.length c2, .slice q2 bd.length d2] 40) := by show Blk _ _ _ _; rw [hW0]; exact blk2 _ _ _ _ _
  have HB0 := Lib.hid hb0
  have HW0 := Lib.hid hW0
  have HL := Lib.hid hL
  obtain ⟨nA, hnA⟩ : ∃ nA, nA = A.length := ⟨_, rfl⟩
  rw [← hnA] at HSA HK1 HK2 HW0 ⊢
  have hbI : (bd.length : Int) ≤ 1000000000000 := by omega
  clear hx hy kx ky hA hlA hlB hL hb0 hW0 hnA
  go_enter Tryz.func51, Tryz.ntmps51
  go_wp2_with (go_at_call 28; rw [← HW0.out]; refine (HSA.out).mono ?_; rintro e w1 ⟨rfl, hb1⟩; have HB1 := Lib.hid hb1; clear hb1; have hq1 := (HK1.out.below HB1.out).cell 2; have hq2 := (HK2.out.below HB1.out).cell 2; simp at hq1 hq2)
  clear hq1 hq2 HW0 HSA
  go_loopw [5] (fun i wr => ∃ k : Nat, (k : Int) ≤ (bd.length : Int) ∧ i = .int .i64 (k : Int) ∧ Hid (Below W0.heap.size W0 wr)) (fun i _ => bd.length - (intOf i).toNat)
  case atStart => exact ⟨0, by omega, rfl, HB1.out⟩
  case round =>
    clear HB1
    obtain ⟨k, hk, rfl, HB⟩ := hrel
    have hq2 := (HK1.out.below HB.out).cell 2
    have hq4 := (HK2.out.below HB.out).cell 2
    simp at hq2 hq4
    have hl1 := (HK1.out.below HB.out).lt
    have hl2 := (HK2.out.below HB.out).lt
    by_cases hlt : k < bd.length
    · have hltI : (k : Int) < (bd.length : Int) := by omega
      obtain ⟨b, off, cs, rfl, hbl, hR, hc⟩ := (HX.out.below stayLt HB.out).at k hlt
      obtain ⟨xa, rfl, hxa⟩ := hR
      obtain ⟨xo, xcap, rfl, -⟩ := hxa.form
      obtain ⟨b2, off2, cs2, rfl, hbl2, hR2, hc2⟩ := (HY.out.below stayLt HB.out).at k hlt
      obtain ⟨ya, rfl, hya⟩ := hR2
      obtain ⟨yo, ycap, rfl, -⟩ := hya.form
      have x0 := hc 0 _ rfl
      have y0 := hc2 0 _ rfl
      have x1 := hc 1 _ rfl
      have y1 := hc2 1 _ rfl
      have x2 := hc 2 _ rfl
      have y2 := hc2 2 _ rfl
      have x3 := hc 3 _ rfl
      have y3 := hc2 3 _ rfl
      have x4 := hc 4 _ rfl
      have y4 := hc2 4 _ rfl
      have x5 := hc 5 _ rfl
      have y5 := hc2 5 _ rfl
      have x6 := hc 6 _ rfl
      have y6 := hc2 6 _ rfl
      have x7 := hc 7 _ rfl
      have y7 := hc2 7 _ rfl
      have x8 := hc 8 _ rfl
      have y8 := hc2 8 _ rfl
      have x9 := hc 9 _ rfl
      have y9 := hc2 9 _ rfl
      have x10 := hc 10 _ rfl
      have y10 := hc2 10 _ rfl
      have x11 := hc 11 _ rfl
      have y11 := hc2 11 _ rfl
      have x12 := hc 12 _ rfl
      have y12 := hc2 12 _ rfl
      have x13 := hc 13 _ rfl
      have y13 := hc2 13 _ rfl
      simp only [Nat.add_zero] at x0 y0
      have hw := HL.out _ (List.getElem_mem hlt)
      have HLT : Hid (k + 1 ≤ bd.length) := hlt
      obtain ⟨t, ht⟩ : ∃ t, t = bd[k]'hlt := ⟨_, rfl⟩
      rw [← ht] at x0 y0 x1 y1 x2 y2 x3 y3 x4 y4 x5 y5 x6 y6 x7 y7 x8 y8 x9 y9 x10 y10 x11 y11 x12 y12 x13 y13 hw hxa hya
      clear ht hlt hc hc2
      obtain ⟨tkind, ⟨tp, targs⟩, top, tl, tr⟩ := t
      obtain ⟨w1, w2, w3, w4⟩ := hw
      simp only at x0 y0 x1 y1 x2 y2 x3 y3 x4 y4 x5 y5 x6 y6 x7 y7 x8 y8 x9 y9 x10 y10 x11 y11 x12 y12 x13 y13 w1 w2 w3 w4 hxa hya
      have hb3 : Below wr.heap.size wr ((wr.alloc (.cells #[.int .i64 tkind, .string tp, .slice xo targs.length xcap, .string top, .bool tl.v, .string tl.name, .bool tl.k, .string tl.s, .int .i64 tl.n, .bool tr.v, .string tr.name, .bool tr.k, .string tr.s, .int .i64 tr.n] 37)).alloc (.cells #[.int .i64 tkind, .string tp, .slice yo targs.length ycap, .string top, .bool tl.v, .string tl.name, .bool tl.k, .string tl.s, .int .i64 tl.n, .bool tr.v, .string tr.name, .bool tr.k, .string tr.s, .int .i64 tr.n] 37)) := (al_below wr _).alloc (by simp) _
      have HB3 := Lib.hid hb3
      have HS := Lib.hid (sameA_any (p := tp) (hxa.below stayTm hb3) (hya.below stayTm hb3) w1 w2)
      have hne : ∀ W : World, _ := fun W => neq_tmP w3 W
      have hne2 : ∀ W : World, _ := fun W => neq_tmP w4 W
      have hoo : (top.toList != top.toList) = false := by simp
      clear w1 w2 w3 w4 hxa hya hb3
      go_wp2_with (go_at_call 28; refine (HS.out).mono ?_; rintro e w3 ⟨rfl, hb4⟩)
      go_roundw
      case rel => exact ⟨k + 1, by have := HLT.out; omega, by go_num, HB.out.trans ((HB3.out.trans (hb4.mono HB3.out.size)).mono HB.out.size)⟩
      case measure => simp [intOf]; have := HLT.out; omega
    · have hltI : ¬ (k : Int) < (bd.length : Int) := by omega
      go_wp2
      go_ret
      exact ⟨rfl, HB0.out.trans (HB.out.mono HB0.out.size)⟩
end Go.Proofs.YtbbmihojfcofdaaGreatDoor

namespace Go.Proofs.YtbbmihojfcofdaaGreatDoor
set_option linter.unusedSimpArgs false
set_option linter.unusedVariables false
set_option linter.unusedSectionVars false
set_option maxRecDepth 100000
open Go.RowKit

/-- What a program can be held against. -/
def PrV (g : Pr) : Prop := g.decls.length ≤ 1000000000000 ∧ g.rules.length ≤ 1000000000000 ∧ (∀ d ∈ g.decls, d.p.size ≤ maxLen ∧ InR d.ar) ∧ ∀ r ∈ g.rules, RuV r
theorem TmV.of {t : Tm} (h : InTm t) (hs : szTm t ≤ 1000000000000) : TmV t := ⟨by unfold szTm at hs; unfold maxLen; omega, by unfold szTm at hs; unfold maxLen; omega, h⟩
theorem amV_of {a : Am} (h : InAm a) (hs : szAm a ≤ 1000000000000) : (∀ x ∈ a.args, TmV x) ∧ a.args.length ≤ 1000000000000 := by
  unfold szAm szTms at hs
  have hl : 6 * a.args.length ≤ (a.args.map szTm).sum := sum_len szTm 6 (fun t => by unfold szTm; omega) _
  exact ⟨fun x hx => TmV.of (h x hx) (by have := sum_mem szTm hx; omega), by omega⟩
theorem ruV_of {r : Ru} (h : InRu r) (hs : szRu r ≤ 1000000000000) : RuV r := by
  unfold szRu szLts at hs
  have hl : 2 * r.body.length ≤ (r.body.map szLt).sum := sum_len szLt 2 (fun t => by unfold szLt; omega) _
  obtain ⟨h1, h2⟩ := amV_of h.1 (by omega)
  refine ⟨h1, h2, by omega, fun l hl => ?_⟩
  have hm := sum_mem szLt hl
  have hI := h.2 l hl
  have h3 : szLt l ≤ 1000000000000 := by omega
  unfold szLt at h3
  obtain ⟨h4, h5⟩ := amV_of hI.1 (by omega)
  exact ⟨h4, h5, TmV.of hI.2.1 (by omega), TmV.of hI.2.2 (by omega)⟩
theorem prV_of {g : Pr} (h : InPr g) (hs : szPr g ≤ 1000000000000) : PrV g := by
  unfold szPr szDes szRus at hs
  have hd : 3 * g.decls.length ≤ (g.decls.map szDe).sum := sum_len szDe 3 (fun t => by unfold szDe; omega) _
  have hr : 2 * g.rules.length ≤ (g.rules.map szRu).sum := sum_len szRu 2 (fun t => by unfold szRu szAm; omega) _
  refine ⟨by omega, by omega, fun d hd => ⟨?_, h.1 d hd⟩, fun r hr => ruV_of (h.2 r hr) ?_⟩
  · have := sum_mem szDe hd
    have h3 : szDe d ≤ 1000000000000 := by omega
    unfold szDe at h3
    unfold maxLen
    omega
  · have := sum_mem szRu hr; omega
theorem two_keepS {w W w' : World} {B1 B2 b b2 : Nat} {e1 e2 c0 c1 c2 d0 d1 d2 : Value} {p q : Nat}
    (h : W.cell? ⟨B1, 1, none⟩ = some e1 ∧ W.cell? ⟨B2, 1, none⟩ = some e2 ∧ W.cell? ⟨b, p, none⟩ = some c0 ∧ W.cell? ⟨b, p + 1, none⟩ = some c1 ∧ W.cell? ⟨b, p + 2, none⟩ = some c2 ∧ W.cell? ⟨b2, q, none⟩ = some d0 ∧ W.cell? ⟨b2, q + 1, none⟩ = some d1 ∧ W.cell? ⟨b2, q + 2, none⟩ = some d2 ∧ B1 < W.heap.size ∧ B2 < W.heap.size ∧ b < W.heap.size ∧ b2 < W.heap.size ∧ Below w.heap.size w W) (hb : Below W.heap.size W w') :
    w'.cell? ⟨B1, 1, none⟩ = some e1 ∧ w'.cell? ⟨B2, 1, none⟩ = some e2 ∧ w'.cell? ⟨b, p, none⟩ = some c0 ∧ w'.cell? ⟨b, p + 1, none⟩ = some c1 ∧ w'.cell? ⟨b, p + 2, none⟩ = some c2 ∧ w'.cell? ⟨b2, q, none⟩ = some d0 ∧ w'.cell? ⟨b2, q + 1, none⟩ = some d1 ∧ w'.cell? ⟨b2, q + 2, none⟩ = some d2 ∧ B1 < w'.heap.size ∧ B2 < w'.heap.size ∧ b < w'.heap.size ∧ b2 < w'.heap.size ∧ Below w.heap.size w w' := by
  obtain ⟨h1, h2, h3, h4, h5, h6, h7, h8, l1, l2, l3, l4, hB⟩ := h
  have hs := hb.size
  exact ⟨(hb.cell (p := ⟨B1, _, none⟩) l1).trans h1, (hb.cell (p := ⟨B2, _, none⟩) l2).trans h2, (hb.cell (p := ⟨b, _, none⟩) l3).trans h3, (hb.cell (p := ⟨b, _, none⟩) l3).trans h4, (hb.cell (p := ⟨b, _, none⟩) l3).trans h5, (hb.cell (p := ⟨b2, _, none⟩) l4).trans h6, (hb.cell (p := ⟨b2, _, none⟩) l4).trans h7, (hb.cell (p := ⟨b2, _, none⟩) l4).trans h8, by omega, by omega, by omega, by omega, hB.trans (hb.mono hB.size)⟩

set_option maxHeartbeats 8000000 in
theorem same_any2 {g : Pr} {o o2 q q2 : Option Addr} {c c2 d d2 : Nat} {w : World} (hx : Des w (.slice o g.decls.length c) g.decls) (hy : Des w (.slice o2 g.decls.length c2) g.decls)
    (kx : Rus w (.slice q g.rules.length d) g.rules) (ky : Rus w (.slice q2 g.rules.length d2) g.rules) (hV : PrV g) :
    Calls Tryz.prog 26 #[.agg #[.slice o g.decls.length c, .slice q g.rules.length d], .agg #[.slice o2 g.decls.length c2, .slice q2 g.rules.length d2]] w fun e w' => e = .returned (.bool true) ∧ Below w.heap.size w w' := by
  obtain ⟨GD, G⟩ := g
  obtain ⟨hlD, hlR, hDV, hRV⟩ := hV
  simp only at hx hy kx ky hlD hlR hDV hRV ⊢
  obtain ⟨W0, hW0⟩ : ∃ W0, W0 = (w.alloc (.cells #[.slice o GD.length c, .slice q G.length d] 25)).alloc (.cells #[.slice o2 GD.length c2, .slice q2 G.length d2] 25) := ⟨_, rfl⟩
  have hb0 : Below w.heap.size w W0 := by rw [hW0]; exact (al_below w _).alloc (by simp) _
  have HX := Lib.hid (hx.below stayDe hb0)
  have HY := Lib.hid (hy.below stayDe hb0)
  have KX := Lib.hid (kx.below stayRu hb0)
  have KY := Lib.hid (ky.below stayRu hb0)
  have HK1 : Hid (Blk W0 w.heap.size #[.slice o GD.length c, .slice q G.length d] 25) := by show Blk _ _ _ _; rw [hW0]; exact (Blk.new w _ _).below (al_below _ _)
  have HK2 : Hid (Blk W0 (w.heap.size + 1) #[.slice o2 GD.length c2, .slice q2 G.length d2] 25) := by show Blk _ _ _ _; rw [hW0]; exact blk2 _ _ _ _ _
  have HB0 := Lib.hid hb0
  have HW0 := Lib.hid hW0
  have HDV := Lib.hid hDV
  have HRV := Lib.hid hRV
  have hdI : (GD.length : Int) ≤ 1000000000000 := by omega
  have hrI : (G.length : Int) ≤ 1000000000000 := by omega
  clear hx hy kx ky hlD hlR hDV hRV hb0 hW0
  go_enter Tryz.func26, Tryz.ntmps26
  go_wp2_with fail
  rw [← HW0.out]
  clear HW0
  go_loopw [5] (fun i wr => ∃ k : Nat, (k : Int) ≤ (GD.length : Int) ∧ i = .int .i64 (k : Int) ∧ Hid (Below W0.heap.size W0 wr)) (fun i _ => GD.length - (intOf i).toNat)
  case atStart => exact ⟨0, by omega, rfl, Below.refl _ _⟩
  case round =>
    obtain ⟨k, hk, rfl, HB⟩ := hrel
    have hq1 := (HK1.out.below HB.out).cell 0
    have hq3 := (HK2.out.below HB.out).cell 0
    simp at hq1 hq3
    by_cases hlt : k < GD.length
    · have hltI : (k : Int) < (GD.length : Int) := by omega
      obtain ⟨b, off, cs, rfl, hbl, hR, hc⟩ := (HX.out.below stayDe HB.out).at k hlt
      obtain rfl : cs = _ := hR
      obtain ⟨b2, off2, cs2, rfl, hbl2, hR2, hc2⟩ := (HY.out.below stayDe HB.out).at k hlt
      obtain rfl : cs2 = _ := hR2
      have x0 := hc 0 _ rfl
      have x1 := hc 1 _ rfl
      have y0 := hc2 0 _ rfl
      have y1 := hc2 1 _ rfl
      simp only [Nat.add_zero] at x0 y0
      have hw := HDV.out _ (List.getElem_mem hlt)
      have HLT : Hid (k + 1 ≤ GD.length) := hlt
      obtain ⟨t, ht⟩ : ∃ t, t = GD[k]'hlt := ⟨_, rfl⟩
      rw [← ht] at x0 x1 y0 y1 hw
      have hne : ∀ nq, _ := fun nq => neq_deP hw.1 hw.2 (wr.drewN nq)
      clear ht hlt hw hc hc2
      go_wp2_with fail
      go_quiet (fail)
      go_wp2
      go_roundw
      case rel => exact ⟨k + 1, by have := HLT.out; omega, by go_num, HB.out.trans ⟨rfl, rfl, rfl, Nat.le_refl _, fun _ _ => rfl⟩⟩
      case measure => simp [intOf]; have := HLT.out; omega
    · have hltI : ¬ (k : Int) < (GD.length : Int) := by omega
      obtain ⟨wo, hwo⟩ : ∃ wo, wo = wr := ⟨_, rfl⟩
      subst hwo
      clear hq1 hq3
      have hq1 := (HK1.out.below HB.out).cell 0
      simp at hq1
      go_wp2_with fail
      clear hq1
      go_loopw [6] (fun i wr => ∃ k : Nat, (k : Int) ≤ (G.length : Int) ∧ i = .int .i64 (k : Int) ∧ Hid (Below W0.heap.size W0 wr)) (fun i _ => G.length - (intOf i).toNat)
      case atStart => exact ⟨0, by omega, rfl, HB.out⟩
      case round =>
        clear hltI hlt hk HB
        obtain ⟨m, hm, rfl, HI⟩ := hrel
        have hq1 := (HK1.out.below HI.out).cell 1
        have hq3 := (HK2.out.below HI.out).cell 1
        simp at hq1 hq3
        have hl1 := (HK1.out.below HI.out).lt
        have hl2 := (HK2.out.below HI.out).lt
        by_cases hlt : m < G.length
        · have hltI : (m : Int) < (G.length : Int) := by omega
          obtain ⟨b, off, cs, rfl, hbl, hR, hc⟩ := (KX.out.below stayRu HI.out).at m hlt
          obtain ⟨xa, ya, rfl, hxa, hya⟩ := hR
          obtain ⟨xo, xcap, rfl, -⟩ := hxa.form
          obtain ⟨yo, ycap, rfl, -⟩ := hya.form
          obtain ⟨b2, off2, cs2, rfl, hbl2, hR2, hc2⟩ := (KY.out.below stayRu HI.out).at m hlt
          obtain ⟨xb, yb, rfl, hxb, hyb⟩ := hR2
          obtain ⟨xo2, xcap2, rfl, -⟩ := hxb.form
          obtain ⟨yo2, ycap2, rfl, -⟩ := hyb.form
          have x0 := hc 0 _ rfl
          have x1 := hc 1 _ rfl
          have x2 := hc 2 _ rfl
          have y0 := hc2 0 _ rfl
          have y1 := hc2 1 _ rfl
          have y2 := hc2 2 _ rfl
          simp only [Nat.add_zero] at x0 y0
          have hw := HRV.out _ (List.getElem_mem hlt)
          have HLT : Hid (m + 1 ≤ G.length) := hlt
          have HSR := Lib.hid (fun W (hb : Below wr.heap.size wr W) => sameR_any (hxa.below stayTm hb) (hxb.below stayTm hb) (hya.below stayLt hb) (hyb.below stayLt hb) hw)
          obtain ⟨t, ht⟩ : ∃ t, t = G[m]'hlt := ⟨_, rfl⟩
          rw [← ht] at x0 x1 x2 y0 y1 y2 HSR
          clear ht hlt hw hc hc2 hxa hya hxb hyb
          obtain ⟨⟨tp, targs⟩, tb⟩ := t
          simp only at x0 x1 x2 y0 y1 y2 HSR
          go_wp2_with fail
          go_region_held3 (fun w' => w'.cell? ⟨w.heap.size, 1, none⟩ = some (.slice (some ⟨b, off, none⟩) G.length d) ∧ w'.cell? ⟨w.heap.size + 1, 1, none⟩ = some (.slice (some ⟨b2, off2, none⟩) G.length d2) ∧ w'.cell? ⟨b, off + m * 3, none⟩ = some (.string tp) ∧ w'.cell? ⟨b, off + m * 3 + 1, none⟩ = some (.slice xo targs.length xcap) ∧ w'.cell? ⟨b, off + m * 3 + 2, none⟩ = some (.slice yo tb.length ycap) ∧ w'.cell? ⟨b2, off2 + m * 3, none⟩ = some (.string tp) ∧ w'.cell? ⟨b2, off2 + m * 3 + 1, none⟩ = some (.slice xo2 targs.length xcap2) ∧ w'.cell? ⟨b2, off2 + m * 3 + 2, none⟩ = some (.slice yo2 tb.length ycap2) ∧ w.heap.size < w'.heap.size ∧ w.heap.size + 1 < w'.heap.size ∧ b < w'.heap.size ∧ b2 < w'.heap.size ∧ Below wr.heap.size wr w')
            (first | assumption | exact two_keepS (by assumption) hbN | exact ⟨hq1, hq3, x0, x1, x2, y0, y1, y2, hl1, hl2, hbl, hbl2, (Below.refl _ _).drew⟩)
            (first
              | (go_at_call 51; refine (HSR.out _ (by go_split_ands; assumption)).mono ?_; rintro e w' ⟨rfl, hbN⟩))
          all_goals
            go_split_ands
            rename_i hbE
            have HBE := Lib.hid hbE
            go_wp2
            go_roundw
            case rel => exact ⟨m + 1, by have := HLT.out; omega, by go_num, HI.out.trans (HBE.out.mono HI.out.size)⟩
            case measure => simp [intOf]; have := HLT.out; omega
        · have hltI : ¬ (m : Int) < (G.length : Int) := by omega
          go_wp2
          go_ret
          exact ⟨rfl, HB0.out.trans (HI.out.mono HB0.out.size)⟩
end Go.Proofs.YtbbmihojfcofdaaGreatDoor
