/-
  The document's Program (lambrequinref07): as the program's.
  The document's May (lambrequinref07): as the program's.
  PrinterPrints' walk.
-/
import Derived.Test.YtddioikfhabjpaaGreatDoorPF
import Derived.Test.YtddioikfhabjpaaGreatDoorPM
namespace Go.Proofs.YtddioikfhabjpaaGreatDoor
set_option linter.unusedSimpArgs false
set_option linter.unusedVariables false
set_option linter.unusedSectionVars false
set_option maxRecDepth 100000
open Go.RowKit

theorem flat_take {α : Type} (f : α → List UInt8) (L : List α) (k : Nat) (hk : k < L.length) : (L.take (k + 1)).flatMap f = (L.take k).flatMap f ++ f L[k] := by
  rw [List.take_succ_eq_append_getElem hk, List.flatMap_append]
  simp
theorem flat_take_le {α : Type} (f : α → List UInt8) (L : List α) (k : Nat) : ((L.take k).flatMap f).length ≤ (L.flatMap f).length := by
  have e : L.flatMap f = (L.take k).flatMap f ++ (L.drop k).flatMap f := by rw [← List.flatMap_append, List.take_append_drop]
  rw [e, List.length_append]; omega
/-- What a round of the first loop reads, and what has been since. -/
theorem dec_keep {w W w' : World} {B b o : Nat} {e0 c0 c1 : Value} (h : W.cell? ⟨B, 0, none⟩ = some e0 ∧ W.cell? ⟨b, o, none⟩ = some c0 ∧ W.cell? ⟨b, o + 1, none⟩ = some c1 ∧ B < W.heap.size ∧ b < W.heap.size ∧ Below w.heap.size w W) (hb : Below W.heap.size W w') :
    w'.cell? ⟨B, 0, none⟩ = some e0 ∧ w'.cell? ⟨b, o, none⟩ = some c0 ∧ w'.cell? ⟨b, o + 1, none⟩ = some c1 ∧ B < w'.heap.size ∧ b < w'.heap.size ∧ Below w.heap.size w w' := by
  obtain ⟨h0, h1, h2, h3, h4, h5⟩ := h
  have hs := hb.size
  exact ⟨(hb.cell (p := ⟨B, _, none⟩) h3).trans h0, (hb.cell (p := ⟨b, _, none⟩) h4).trans h1, (hb.cell (p := ⟨b, _, none⟩) h4).trans h2, by omega, by omega, h5.trans (hb.mono h5.size)⟩

set_option maxHeartbeats 16000000 in
theorem rprog_any (g : Pr) (x y : Value) (w : World) (hx : Des w x g.decls) (hy : Rus w y g.rules) (hI : InPr g) (hs : szPr g ≤ 1000000000000) :
    Calls Tryz.prog 12 #[.agg #[x, y]] w fun e w' => e = .returned (.string ⟨(progTx g).toArray⟩) ∧ Below w.heap.size w w' := by
  have hle := progTx_le hI
  obtain ⟨xo, xc, rfl, hxc, hxm⟩ := hx.form
  obtain ⟨yo, yc, rfl, hyc, hym⟩ := hy.form
  have hLE : Hid ((progTx g).length ≤ 8000000000000) := by show _ ≤ _; omega
  have hld : 3 * g.decls.length ≤ szDes g.decls := sum_len szDe 3 (fun t => by unfold szDe; omega) _
  have hlr : 2 * g.rules.length ≤ szRus g.rules := sum_len szRu 2 (fun t => by unfold szRu szAm; omega) _
  have hdI : (g.decls.length : Int) ≤ 1000000000000 := by unfold szPr at hs; omega
  have hrI : (g.rules.length : Int) ≤ 1000000000000 := by unfold szPr at hs; omega
  have HFG : Hid (∀ d ∈ g.decls, ∀ W, Calls Tryz.prog 34 #[.int .i64 d.ar] W fun e w' => e = .returned (.string ⟨(Lib.itoa d.ar).toArray⟩) ∧ Below W.heap.size W w') := fun d hd W => figures_any d.ar (hI.1 d hd).1 (hI.1 d hd).2 W
  have HRU : Hid (∀ r ∈ g.rules, ∀ W xa ya, Tms W xa r.head.args → Lts W ya r.body → Calls Tryz.prog 22 #[.agg #[.string r.head.p, xa, ya]] W fun e w' => e = .returned (.string ⟨(ruleTx r).toArray⟩) ∧ Below W.heap.size W w') := fun r hr W xa ya h1 h2 => rrule_any r xa ya W h1 h2 (hI.2 r hr) (by have := sum_mem szRu hr; unfold szPr szRus at hs; omega)
  obtain ⟨W0, hW0⟩ : ∃ W0, W0 = w.alloc (.cells #[.slice xo g.decls.length xc, .slice yo g.rules.length yc] 25) := ⟨_, rfl⟩
  have hb0 : Below w.heap.size w W0 := by rw [hW0]; exact al_below _ _
  have HX := Lib.hid (hx.below stayDe hb0)
  have HY := Lib.hid (hy.below stayRu hb0)
  have HB0 := Lib.hid hb0
  have HK : Hid (Blk W0 w.heap.size #[.slice xo g.decls.length xc, .slice yo g.rules.length yc] 25) := by show Blk _ _ _ _; rw [hW0]; exact Blk.new _ _ _
  have HW0 := Lib.hid hW0
  have hPT : progTx g = g.decls.flatMap (fun d => declTx d ++ [10]) ++ g.rules.flatMap (fun r => ruleTx r ++ [10]) := rfl
  obtain ⟨P, hP⟩ : ∃ P, P = progTx g := ⟨_, rfl⟩
  rw [← hP] at hPT hLE ⊢
  obtain ⟨GD, GR⟩ := g
  simp only at hPT HFG HRU HX HY HK HW0 hdI hrI
  have HPT := Lib.hid hPT
  clear hx hy hI hs hle hxc hxm hyc hym hld hlr hb0 hW0 hPT hP
  go_enter Tryz.func12, Tryz.ntmps12
  go_wp2_with fail
  rw [← HW0.out]
  clear HW0
  go_loopw [3, 4] (fun ov i wr => ∃ (k : Nat) (o : ByteArray), (k : Int) ≤ (GD.length : Int) ∧ i = .int .i64 k ∧ ov = .string o ∧ Hid (o.data.toList = (GD.take k).flatMap (fun d => declTx d ++ [10])) ∧ Hid (Below W0.heap.size W0 wr)) (fun _ i _ => GD.length - (intOf i).toNat)
  case atStart => exact ⟨0, ⟨#[]⟩, by omega, rfl, rfl, by simp [Hid], Below.refl _ _⟩
  case round =>
    obtain ⟨k, o, hk, rfl, rfl, HA, HB⟩ := hrel
    have hq := (HK.out.below HB.out).cell 0
    simp at hq
    have hql := (HK.out.below HB.out).lt
    by_cases hlt : k < GD.length
    · have hltI : (k : Int) < (GD.length : Int) := by omega
      have hk0 : (0 : Int) ≤ (k : Int) := by omega
      obtain ⟨b, off, cs, rfl, hbl, hR, hc⟩ := (HX.out.below stayDe HB.out).at k hlt
      obtain rfl : cs = _ := hR
      have x0 := hc 0 _ rfl
      have x1 := hc 1 _ rfl
      simp only [Nat.add_zero] at x0
      have HCK := Lib.hid (HFG.out _ (List.getElem_mem hlt))
      obtain ⟨z, hz⟩ : ∃ z : ByteArray, z = ⟨(Lib.itoa (GD[k]'hlt).ar).toArray⟩ := ⟨_, rfl⟩
      have hzl : z.data.toList = Lib.itoa (GD[k]'hlt).ar := by rw [hz]
      rw [← hz] at HCK
      have HN : Hid ((GD.take (k + 1)).flatMap (fun d => declTx d ++ [10]) = o.data.toList ++ (GD[k]'hlt).p.data.toList ++ [47] ++ z.data.toList ++ [46, 10]) := by
        show _ = _
        rw [flat_take _ _ _ hlt, HA.out, hzl]
        unfold declTx
        simp
      have HLT : Hid (k + 1 ≤ GD.length) := hlt
      have hroom : o.size + (GD[k]'hlt).p.size + 1 + z.size + 2 ≤ 8000000000000 := by
        have h1 := congrArg List.length HN.out
        have h2 := flat_take_le (fun d => declTx d ++ [10]) GD (k + 1)
        have h3 := hLE.out
        rw [HPT.out, List.length_append] at h3
        simp only [List.length_append, List.length_cons, List.length_nil] at h1
        have e1 : o.data.toList.length = o.size := by simp
        have e2 : z.data.toList.length = z.size := by simp
        have e3 : (GD[k]'hlt).p.data.toList.length = (GD[k]'hlt).p.size := by simp
        omega
      obtain ⟨t, ht⟩ : ∃ t, t = (GD[k]'hlt) := ⟨_, rfl⟩
      rw [← ht] at x0 x1 HCK HN hroom
      clear ht hz hzl hc hlt
      obtain ⟨tp, tar⟩ := t
      simp only at x0 x1 HCK HN hroom
      have f1 : ¬ 9223372036854775807 < o.size + tp.size := by omega
      have f2 : ¬ 9223372036854775807 < o.size + tp.size + 1 := by omega
      have f3 : ¬ 9223372036854775807 < o.size + tp.size + 1 + z.size := by omega
      have f4 : ¬ 9223372036854775807 < o.size + tp.size + 1 + z.size + 2 := by omega
      clear hroom
      go_wp2_with fail
      go_region_held3 (fun w' => w'.cell? ⟨w.heap.size, 0, none⟩ = some (.slice (some ⟨b, off, none⟩) GD.length xc) ∧ w'.cell? ⟨b, off + k * 2, none⟩ = some (.string tp) ∧ w'.cell? ⟨b, off + k * 2 + 1, none⟩ = some (.int .i64 tar) ∧ w.heap.size < w'.heap.size ∧ b < w'.heap.size ∧ Below wr.heap.size wr w')
        (first | assumption | exact dec_keep (by assumption) hbN | exact ⟨hq, x0, x1, hql, hbl, (Below.refl _ _).drew⟩)
        (first
          | (go_at_call 34; refine (HCK.out _).mono ?_; rintro e w' ⟨rfl, hbN⟩))
      all_goals
        go_split_ands
        rename_i hbE
        have HBE := Lib.hid hbE
        go_wp2
        go_roundw
        case rel => exact ⟨k + 1, _, by have := HLT.out; omega, by go_num, rfl, by rw [HN.out]; simp [Hid, Go.Joins.data_append], HB.out.trans (HBE.out.mono HB.out.size)⟩
        case measure => simp [intOf]; have := HLT.out; omega
    · have hltI : ¬ (k : Int) < (GD.length : Int) := by omega
      have HA1 : Hid (o.data.toList = GD.flatMap (fun d => declTx d ++ [10])) := by
        have := HA.out
        rw [List.take_of_length_le (by omega)] at this
        exact this
      obtain ⟨wo, hwo⟩ : ∃ wo, wo = wr := ⟨_, rfl⟩
      subst hwo
      clear HA hql
      go_wp2_with fail
      clear hq
      go_loopw [3, 5] (fun ov i wr => ∃ (m : Nat) (u : ByteArray), (m : Int) ≤ (GR.length : Int) ∧ i = .int .i64 m ∧ ov = .string u ∧ Hid (u.data.toList = o.data.toList ++ (GR.take m).flatMap (fun r => ruleTx r ++ [10])) ∧ Hid (Below W0.heap.size W0 wr)) (fun _ i _ => GR.length - (intOf i).toNat)
      case atStart => exact ⟨0, o, by omega, rfl, rfl, by simp [Hid], HB.out⟩
      case round =>
        clear HB hltI hlt hk
        obtain ⟨m, u, hm, rfl, rfl, HU, HI⟩ := hrel
        have hq := (HK.out.below HI.out).cell 1
        simp at hq
        by_cases hlt : m < GR.length
        · have hltI : (m : Int) < (GR.length : Int) := by omega
          obtain ⟨b, off, cs, rfl, hbl, hR, hc⟩ := (HY.out.below stayRu HI.out).at m hlt
          obtain ⟨xa, ya, rfl, hxa, hya⟩ := hR
          obtain ⟨xo2, xc2, rfl, -⟩ := hxa.form
          obtain ⟨yo2, yc2, rfl, -⟩ := hya.form
          have x0 := hc 0 _ rfl
          have x1 := hc 1 _ rfl
          have x2 := hc 2 _ rfl
          simp only [Nat.add_zero] at x0
          have HCK := Lib.hid (HRU.out _ (List.getElem_mem hlt) wr _ _ hxa hya)
          obtain ⟨z, hz⟩ : ∃ z : ByteArray, z = ⟨(ruleTx (GR[m]'hlt)).toArray⟩ := ⟨_, rfl⟩
          have hzl : z.data.toList = ruleTx (GR[m]'hlt) := by rw [hz]
          rw [← hz] at HCK
          have HN : Hid (o.data.toList ++ (GR.take (m + 1)).flatMap (fun r => ruleTx r ++ [10]) = u.data.toList ++ z.data.toList ++ [10]) := by
            show _ = _
            rw [flat_take _ _ _ hlt, HU.out, hzl]
            simp
          have HLT : Hid (m + 1 ≤ GR.length) := hlt
          have hroomI : (u.size : Int) + (z.size : Int) + 4 ≤ 140737488355328 := by
            have h1 := congrArg List.length HN.out
            have h2 := flat_take_le (fun r => ruleTx r ++ [10]) GR (m + 1)
            have h3 := hLE.out
            rw [HPT.out, ← HA1.out, List.length_append] at h3
            simp only [List.length_append, List.length_cons, List.length_nil] at h1 h2 h3
            have e1 : u.data.toList.length = u.size := by simp
            have e2 : z.data.toList.length = z.size := by simp
            omega
          obtain ⟨t, ht⟩ : ∃ t, t = (GR[m]'hlt) := ⟨_, rfl⟩
          rw [← ht] at x0 x1 x2 HCK
          clear ht hz hzl hc hlt hxa hya
          obtain ⟨⟨tp, targs⟩, tb⟩ := t
          simp only at x0 x1 x2 HCK
          go_wp2_with (go_at_call 22; refine (HCK.out).mono ?_; rintro e w1 ⟨rfl, hb1⟩)
          go_roundw
          case rel => exact ⟨m + 1, _, by have := HLT.out; omega, by go_num, rfl, by rw [HN.out]; simp [Hid, Go.Joins.data_append], HI.out.trans (hb1.mono HI.out.size)⟩
          case measure => simp [intOf]; have := HLT.out; omega
        · have hltI : ¬ (m : Int) < (GR.length : Int) := by omega
          have HE : Hid (u.data.toList = P) := by
            have := HU.out
            rw [List.take_of_length_le (by omega), HA1.out, ← HPT.out] at this
            exact this
          clear HU
          go_wp2
          go_ret
          exact ⟨ret_ba (by rw [HE.out]), HB0.out.trans (HI.out.mono HB0.out.size)⟩
end Go.Proofs.YtddioikfhabjpaaGreatDoor

namespace Go.Proofs.YtddioikfhabjpaaGreatDoor
set_option linter.unusedSimpArgs false
set_option linter.unusedVariables false
set_option linter.unusedSectionVars false
set_option maxRecDepth 100000
open Go.RowKit

theorem all_bad {α : Type} {f : α → Bool} {L : List α} {k : Nat} (hk : k < L.length) (h : f (L[k]'hk) = false) : L.all f = false := by
  rw [List.all_eq_false]; exact ⟨_, List.getElem_mem hk, by simp [h]⟩
theorem all_next {α : Type} {f : α → Bool} {L : List α} {k : Nat} (hk : k < L.length) (ha : (L.take k).all f = true) (h : f (L[k]'hk) = true) : (L.take (k + 1)).all f = true := by
  rw [List.take_succ_eq_append_getElem hk, List.all_append, ha]; simp [h]
theorem all_end {α : Type} {f : α → Bool} {L : List α} {k : Nat} (hk : L.length ≤ k) (ha : (L.take k).all f = true) : L.all f = true := by
  rw [List.take_of_length_le hk] at ha; exact ha

set_option maxHeartbeats 32000000 in
theorem rmay_any (g : Pr) (x y : Value) (w : World) (hx : Des w x g.decls) (hy : Rus w y g.rules) (hI : InPr g) (hs : szPr g ≤ 1000000000000) :
    Calls Tryz.prog 14 #[.agg #[x, y]] w fun e w' => e = .returned (.bool (mayPrB g)) ∧ Below w.heap.size w w' := by
  obtain ⟨xo, xc, rfl, -⟩ := hx.form
  obtain ⟨yo, yc, rfl, -⟩ := hy.form
  have hld : 3 * g.decls.length ≤ szDes g.decls := sum_len szDe 3 (fun t => by unfold szDe; omega) _
  have hlr : 2 * g.rules.length ≤ szRus g.rules := sum_len szRu 2 (fun t => by unfold szRu szAm; omega) _
  have hdI : (g.decls.length : Int) ≤ 1000000000000 := by unfold szPr at hs; omega
  have hrI : (g.rules.length : Int) ≤ 1000000000000 := by unfold szPr at hs; omega
  have HPL : Hid (∀ d ∈ g.decls, ∀ W, Calls Tryz.prog 39 #[.string d.p] W fun e w' => e = .returned (.bool (plainL d.p.data.toList)) ∧ w' = W) := fun d hd W => refPlain_any d.p W (by
    have h1 := sum_mem szDe hd
    have h2 : szDe d = d.p.size + 3 := rfl
    unfold szPr szDes at hs
    unfold maxLen
    omega)
  have HSR : Hid (∀ r ∈ g.rules, szAm r.head ≤ 1000000000000 ∧ (∀ l ∈ r.body, szLt l ≤ 1000000000000) ∧ r.body.length ≤ 1000000000000 ∧ InRu r) := fun r hr => by
    have h1 := sum_mem szRu hr
    have h2 : szRu r = szAm r.head + szLts r.body + 1 := rfl
    have h3 : 2 * r.body.length ≤ szLts r.body := sum_len szLt 2 (fun t => by unfold szLt; omega) _
    unfold szPr szRus at hs
    refine ⟨by omega, fun l hl => ?_, by omega, hI.2 r hr⟩
    have := sum_mem szLt hl
    unfold szLts at h2
    omega
  have HSD : Hid (∀ d ∈ g.decls, d.p.size ≤ 1000000000000) := fun d hd => by
    have h1 := sum_mem szDe hd
    have h2 : szDe d = d.p.size + 3 := rfl
    unfold szPr szDes at hs
    omega
  obtain ⟨W0, hW0⟩ : ∃ W0, W0 = w.alloc (.cells #[.slice xo g.decls.length xc, .slice yo g.rules.length yc] 25) := ⟨_, rfl⟩
  have hb0 : Below w.heap.size w W0 := by rw [hW0]; exact al_below _ _
  have HB0 := Lib.hid hb0
  have HX := Lib.hid (hx.below stayDe hb0)
  have HY := Lib.hid (hy.below stayRu hb0)
  have HK : Hid (Blk W0 w.heap.size #[.slice xo g.decls.length xc, .slice yo g.rules.length yc] 25) := by show Blk _ _ _ _; rw [hW0]; exact Blk.new _ _ _
  have HW0 := Lib.hid hW0
  have hZZ : mayPrB g = ((decide (g.decls.length ≤ 400) && g.decls.all mayDeB) && (decide (g.rules.length ≤ 400) && g.rules.all mayRuB)) := rfl
  obtain ⟨Z, hZ⟩ : ∃ Z, Z = mayPrB g := ⟨_, rfl⟩
  rw [← hZ] at hZZ ⊢
  obtain ⟨GD, GR⟩ := g
  simp only at HPL HSR HSD HX HY HK HW0 hZZ hdI hrI
  have HZZ := Lib.hid hZZ
  clear hx hy hI hs hld hlr hb0 hW0 hZ hZZ
  by_cases h4 : GD.length ≤ 400
  · have h4I : ¬ (400 : Int) < (GD.length : Int) := by omega
    by_cases h5 : GR.length ≤ 400
    · have h5I : ¬ (400 : Int) < (GR.length : Int) := by omega
      have HZ2 : Hid (Z = (GD.all mayDeB && GR.all mayRuB)) := by show _ = _; rw [HZZ.out, decide_eq_true h4, decide_eq_true h5]; simp
      clear HZZ h4 h5
      go_enter Tryz.func14, Tryz.ntmps14
      go_wp2_with fail
      rw [← HW0.out]
      clear HW0
      go_loopw [3] (fun i wr => ∃ k : Nat, (k : Int) ≤ (GD.length : Int) ∧ i = .int .i64 k ∧ Hid ((GD.take k).all mayDeB = true) ∧ Hid (Below W0.heap.size W0 wr)) (fun i _ => GD.length - (intOf i).toNat)
      case atStart => exact ⟨0, by omega, rfl, by simp [Hid], Below.refl _ _⟩
      case round =>
        obtain ⟨k, hk, rfl, HA, HB⟩ := hrel
        have hq := (HK.out.below HB.out).cell 0
        simp at hq
        by_cases hlt : k < GD.length
        · have hltI : (k : Int) < (GD.length : Int) := by omega
          have HLT : Hid (k + 1 ≤ GD.length) := hlt
          obtain ⟨b, off, cs, rfl, hbl, hR, hc⟩ := (HX.out.below stayDe HB.out).at k hlt
          obtain rfl : cs = _ := hR
          have x0 := hc 0 _ rfl
          have x1 := hc 1 _ rfl
          simp only [Nat.add_zero] at x0
          have HCK := Lib.hid (HPL.out _ (List.getElem_mem hlt))
          have hpz := HSD.out _ (List.getElem_mem hlt)
          have HT : Hid (mayDeB (GD[k]'hlt) = true → (GD.take (k + 1)).all mayDeB = true) := fun h => all_next hlt HA.out h
          have HF : Hid (mayDeB (GD[k]'hlt) = false → Z = false) := fun h => by rw [HZ2.out, all_bad hlt h]; rfl
          obtain ⟨t, ht⟩ : ∃ t, t = (GD[k]'hlt) := ⟨_, rfl⟩
          rw [← ht] at x0 x1 HCK hpz HT HF
          clear ht hc hlt HA
          obtain ⟨tp, tar⟩ := t
          simp only at x0 x1 HCK hpz
          have hpI : (tp.size : Int) ≤ 1000000000000 := by omega
          have hML : mayDeB ⟨tp, tar⟩ = ((decide (tp.size ≤ 32) && plainL tp.data.toList) && decide (0 ≤ tar) && decide (tar ≤ 6)) := by
            have e : tp.data.toList.length = tp.size := by simp
            unfold mayDeB shortPlain
            simp only [e]
          obtain ⟨bp, hbp⟩ : ∃ b, b = plainL tp.data.toList := ⟨_, rfl⟩
          rw [← hbp] at HCK hML
          rw [hML] at HT HF
          clear hML hbp hpz
          have HAL := Lib.hid (al_below wr (.cells #[.string tp, .int .i64 tar] 63))
          cases bp
          · have HE : Hid (Z = false) := HF.out (by simp)
            go_wp2_with (go_at_call 39; refine (HCK.out _).mono ?_; rintro e w1 ⟨rfl, rfl⟩)
            go_ret
            exact ⟨ret_bool HE.out.symm, HB0.out.trans ((HB.out.trans (HAL.out.mono HB.out.size)).mono HB0.out.size)⟩
          by_cases h32 : tp.size ≤ 32
          · have h32I : ¬ (32 : Int) < (tp.size : Int) := by omega
            by_cases ha0 : 0 ≤ tar
            · have ha0I : ¬ tar < 0 := by omega
              by_cases ha6 : tar ≤ 6
              · have ha6I : ¬ (6 : Int) < tar := by omega
                have HE : Hid ((GD.take (k + 1)).all mayDeB = true) := HT.out (by simp [h32, ha0, ha6])
                clear h32 ha0 ha6 HT HF
                go_wp2_with (go_at_call 39; refine (HCK.out _).mono ?_; rintro e w1 ⟨rfl, rfl⟩)
                go_roundw
                case rel => exact ⟨k + 1, by have := HLT.out; omega, by go_num, HE.out, HB.out.trans (HAL.out.mono HB.out.size)⟩
                case measure => simp [intOf]; have := HLT.out; omega
              · have ha6I : (6 : Int) < tar := by omega
                have HE : Hid (Z = false) := HF.out (by simp [ha6])
                clear h32 ha0 ha6 HT HF
                go_wp2_with (go_at_call 39; refine (HCK.out _).mono ?_; rintro e w1 ⟨rfl, rfl⟩)
                go_ret
                exact ⟨ret_bool HE.out.symm, HB0.out.trans ((HB.out.trans (HAL.out.mono HB.out.size)).mono HB0.out.size)⟩
            · have ha0I : tar < 0 := by omega
              have HE : Hid (Z = false) := HF.out (by simp [ha0])
              clear h32 ha0 HT HF
              go_wp2_with (go_at_call 39; refine (HCK.out _).mono ?_; rintro e w1 ⟨rfl, rfl⟩)
              go_ret
              exact ⟨ret_bool HE.out.symm, HB0.out.trans ((HB.out.trans (HAL.out.mono HB.out.size)).mono HB0.out.size)⟩
          · have h32I : (32 : Int) < (tp.size : Int) := by omega
            have HE : Hid (Z = false) := HF.out (by simp [h32])
            clear h32 HT HF
            go_wp2_with (go_at_call 39; refine (HCK.out _).mono ?_; rintro e w1 ⟨rfl, rfl⟩)
            go_ret
            exact ⟨ret_bool HE.out.symm, HB0.out.trans ((HB.out.trans (HAL.out.mono HB.out.size)).mono HB0.out.size)⟩
        · have hltI : ¬ (k : Int) < (GD.length : Int) := by omega
          have HZ3 : Hid (Z = GR.all mayRuB) := by show _ = _; rw [HZ2.out, all_end (by omega) HA.out]; rfl
          obtain ⟨wo, hwo⟩ : ∃ wo, wo = wr := ⟨_, rfl⟩
          subst hwo
          clear HA HZ2
          go_wp2_with fail
          clear hq
          go_loopw [5] (fun i wr => ∃ m : Nat, (m : Int) ≤ (GR.length : Int) ∧ i = .int .i64 m ∧ Hid ((GR.take m).all mayRuB = true) ∧ Hid (Below W0.heap.size W0 wr)) (fun i _ => GR.length - (intOf i).toNat)
          case atStart => exact ⟨0, by omega, rfl, by simp [Hid], HB.out⟩
          case round =>
            clear HB hltI hlt hk
            obtain ⟨m, hm, rfl, HA, HI⟩ := hrel
            have hq := (HK.out.below HI.out).cell 1
            simp at hq
            by_cases hlt : m < GR.length
            · have hltI : (m : Int) < (GR.length : Int) := by omega
              have HLT : Hid (m + 1 ≤ GR.length) := hlt
              obtain ⟨b, off, cs, rfl, hbl, hR, hc⟩ := (HY.out.below stayRu HI.out).at m hlt
              obtain ⟨xa, ya, rfl, hxa, hya⟩ := hR
              obtain ⟨xo2, xc2, rfl, -⟩ := hxa.form
              obtain ⟨yo2, yc2, rfl, -⟩ := hya.form
              have x0 := hc 0 _ rfl
              have x1 := hc 1 _ rfl
              have x2 := hc 2 _ rfl
              simp only [Nat.add_zero] at x0
              obtain ⟨hs1, hs2, hs3, hI1⟩ := HSR.out _ (List.getElem_mem hlt)
              have HT : Hid (mayRuB (GR[m]'hlt) = true → (GR.take (m + 1)).all mayRuB = true) := fun h => all_next hlt HA.out h
              have HF : Hid (mayRuB (GR[m]'hlt) = false → Z = false) := fun h => by rw [HZ3.out, all_bad hlt h]
              obtain ⟨t, ht⟩ : ∃ t, t = (GR[m]'hlt) := ⟨_, rfl⟩
              rw [← ht] at x0 x1 x2 hs1 hs2 hs3 hI1 HT HF hxa hya
              clear ht hc hlt HA
              obtain ⟨⟨tp, targs⟩, tb⟩ := t
              simp only at x0 x1 x2 hs1 hs2 hs3 hxa hya
              obtain ⟨V, hV⟩ : ∃ V, V = wr.alloc (.cells #[.string tp, .slice xo2 targs.length xc2, .slice yo2 tb.length yc2] 40) := ⟨_, rfl⟩
              have hbV : Below wr.heap.size wr V := by rw [hV]; exact al_below _ _
              have HBV := Lib.hid hbV
              have HKR : Hid (Blk V wr.heap.size #[.string tp, .slice xo2 targs.length xc2, .slice yo2 tb.length yc2] 40) := by show Blk _ _ _ _; rw [hV]; exact Blk.new _ _ _
              have HMA := Lib.hid (rmayAm_any ⟨tp, targs⟩ _ V (hxa.below stayTm hbV) hs1)
              have HYV := Lib.hid (hya.below stayLt hbV)
              have HLC : Hid (∀ l ∈ tb, ∀ W xa, Tms W xa l.atom.args → Calls Tryz.prog 41 #[.agg #[.int .i64 l.kind, .string l.atom.p, xa, .string l.op, .bool l.l.v, .string l.l.name, .bool l.l.k, .string l.l.s, .int .i64 l.l.n, .bool l.r.v, .string l.r.name, .bool l.r.k, .string l.r.s, .int .i64 l.r.n]] W fun e w' => e = .returned (.bool (mayLtB l)) ∧ Below W.heap.size W w') := fun l hl W xa hxa => rmayLt_any l xa W hxa (hI1.2 l hl) (hs2 l hl)
              have hML : mayRuB ⟨⟨tp, targs⟩, tb⟩ = (mayAmB ⟨tp, targs⟩ && (decide (tb.length ≤ 8) && tb.all mayLtB)) := rfl
              obtain ⟨ba, hba⟩ : ∃ b, b = mayAmB ⟨tp, targs⟩ := ⟨_, rfl⟩
              rw [← hba] at HMA hML
              rw [hML] at HT HF
              simp only at HMA
              obtain ⟨nA, hnA⟩ : ∃ nA, nA = targs.length := ⟨_, rfl⟩
              rw [← hnA] at x1 hV HKR HMA
              have HV := Lib.hid hV
              have hbI : (tb.length : Int) ≤ 1000000000000 := by omega
              clear hML hba hs1 hs2 hs3 hI1 hxa hya hbV hnA hV
              obtain ⟨wm, hwm⟩ : ∃ wm, wm = wr := ⟨_, rfl⟩
              subst hwm
              cases ba
              · have HE : Hid (Z = false) := HF.out (by simp)
                go_wp2_with (go_at_call 40; rw [← HV.out]; refine (HMA.out).mono ?_; rintro e w1 ⟨rfl, hb1⟩; have HB1 := Lib.hid (HBV.out.trans (hb1.mono HBV.out.size)); clear hb1)
                go_ret
                exact ⟨ret_bool HE.out.symm, HB0.out.trans ((HI.out.trans (HB1.out.mono HI.out.size)).mono HB0.out.size)⟩
              by_cases h8 : tb.length ≤ 8
              · have h8I : ¬ (8 : Int) < (tb.length : Int) := by omega
                rw [decide_eq_true h8, Bool.true_and, Bool.true_and] at HT HF
                clear h8
                go_wp2_with (go_at_call 40; rw [← HV.out]; refine (HMA.out).mono ?_; rintro e w1 ⟨rfl, hb1⟩; have HB1 := Lib.hid hb1; clear hb1; have c2 := (HKR.out.below HB1.out).cell 2; simp at c2)
                clear c2 HV HMA
                go_loopw [7] (fun i wr => ∃ j : Nat, (j : Int) ≤ (tb.length : Int) ∧ i = .int .i64 j ∧ Hid ((tb.take j).all mayLtB = true) ∧ Hid (Below V.heap.size V wr)) (fun i _ => tb.length - (intOf i).toNat)
                case atStart => exact ⟨0, by omega, rfl, by simp [Hid], HB1.out⟩
                case round =>
                  clear HB1
                  obtain ⟨j, hj, rfl, HJ, HN⟩ := hrel
                  have c2 := (HKR.out.below HN.out).cell 2
                  simp at c2
                  by_cases hlt2 : j < tb.length
                  · have hlt2I : (j : Int) < (tb.length : Int) := by omega
                    have HLT2 : Hid (j + 1 ≤ tb.length) := hlt2
                    obtain ⟨b2, off2, cs2, rfl, hbl2, hR2, hc2⟩ := (HYV.out.below stayLt HN.out).at j hlt2
                    obtain ⟨xb, rfl, hxb⟩ := hR2
                    obtain ⟨xo3, xc3, rfl, -⟩ := hxb.form
                    have d0 := hc2 0 _ rfl
                    have d1 := hc2 1 _ rfl
                    have d2 := hc2 2 _ rfl
                    have d3 := hc2 3 _ rfl
                    have d4 := hc2 4 _ rfl
                    have d5 := hc2 5 _ rfl
                    have d6 := hc2 6 _ rfl
                    have d7 := hc2 7 _ rfl
                    have d8 := hc2 8 _ rfl
                    have d9 := hc2 9 _ rfl
                    have d10 := hc2 10 _ rfl
                    have d11 := hc2 11 _ rfl
                    have d12 := hc2 12 _ rfl
                    have d13 := hc2 13 _ rfl
                    simp only [Nat.add_zero] at d0
                    have HCK := Lib.hid (HLC.out _ (List.getElem_mem hlt2) wr _ hxb)
                    have HT2 : Hid (mayLtB (tb[j]'hlt2) = true → (tb.take (j + 1)).all mayLtB = true) := fun h => all_next hlt2 HJ.out h
                    have HF2 : Hid (mayLtB (tb[j]'hlt2) = false → Z = false) := fun h => HF.out (all_bad hlt2 h)
                    obtain ⟨bl, hbl3⟩ : ∃ b, b = mayLtB (tb[j]'hlt2) := ⟨_, rfl⟩
                    rw [← hbl3] at HCK HT2 HF2
                    obtain ⟨t, ht⟩ : ∃ t, t = (tb[j]'hlt2) := ⟨_, rfl⟩
                    rw [← ht] at d0 d1 d2 d3 d4 d5 d6 d7 d8 d9 d10 d11 d12 d13 HCK
                    clear ht hbl3 hc2 hxb hlt2 HJ
                    obtain ⟨tkind, ⟨tp2, targs2⟩, top, ⟨lv, lname, lk, ls, ln⟩, ⟨rv, rname, rk, rs, rn⟩⟩ := t
                    simp only at d0 d1 d2 d3 d4 d5 d6 d7 d8 d9 d10 d11 d12 d13 HCK
                    cases bl
                    · have HE : Hid (Z = false) := HF2.out rfl
                      go_wp2_with (go_at_call 41; refine (HCK.out).mono ?_; rintro e w2 ⟨rfl, hb2⟩; have HB2 := Lib.hid (HBV.out.trans ((HN.out.trans (hb2.mono HN.out.size)).mono HBV.out.size)); clear hb2)
                      go_ret
                      exact ⟨ret_bool HE.out.symm, HB0.out.trans ((HI.out.trans (HB2.out.mono HI.out.size)).mono HB0.out.size)⟩
                    · have HE := Lib.hid (HT2.out rfl)
                      go_wp2_with (go_at_call 41; refine (HCK.out).mono ?_; rintro e w2 ⟨rfl, hb2⟩; have HB2 := Lib.hid (HN.out.trans (hb2.mono HN.out.size)); clear hb2)
                      go_roundw
                      case rel => exact ⟨j + 1, by have := HLT2.out; omega, by go_num, HE.out, HB2.out⟩
                      case measure => simp [intOf]; have := HLT2.out; omega
                  · have hlt2I : ¬ (j : Int) < (tb.length : Int) := by omega
                    have HE : Hid ((GR.take (m + 1)).all mayRuB = true) := HT.out (all_end (by omega) HJ.out)
                    clear HJ
                    go_wp2
                    go_roundw
                    case rel => exact ⟨m + 1, by have := HLT.out; omega, by go_num, HE.out, HI.out.trans ((HBV.out.trans (HN.out.mono HBV.out.size)).mono HI.out.size)⟩
                    case measure => simp [intOf]; have := HLT.out; omega
              · have h8I : (8 : Int) < (tb.length : Int) := by omega
                have HE : Hid (Z = false) := HF.out (by simp [h8])
                clear h8
                go_wp2_with (go_at_call 40; rw [← HV.out]; refine (HMA.out).mono ?_; rintro e w1 ⟨rfl, hb1⟩; have HB1 := Lib.hid hb1; clear hb1; have c2 := (HKR.out.below HB1.out).cell 2; simp at c2)
                go_ret
                exact ⟨ret_bool HE.out.symm, HB0.out.trans ((HI.out.trans ((HBV.out.trans (HB1.out.mono HBV.out.size)).mono HI.out.size)).mono HB0.out.size)⟩
            · have hltI : ¬ (m : Int) < (GR.length : Int) := by omega
              have HE : Hid (Z = true) := by show _ = _; rw [HZ3.out, all_end (by omega) HA.out]
              clear HA
              go_wp2
              go_ret
              exact ⟨ret_bool HE.out.symm, HB0.out.trans (HI.out.mono HB0.out.size)⟩
    · have h5I : (400 : Int) < (GR.length : Int) := by omega
      have HE : Hid (Z = false) := by show _ = _; rw [HZZ.out, decide_eq_false h5]; simp
      clear h4 h5
      go_enter Tryz.func14, Tryz.ntmps14
      go_wp2
      go_ret
      exact ⟨ret_bool HE.out.symm, by have := HB0.out; rw [HW0.out] at this; exact this⟩
  · have h4I : (400 : Int) < (GD.length : Int) := by omega
    have HE : Hid (Z = false) := by show _ = _; rw [HZZ.out, decide_eq_false h4]; simp
    clear h4
    go_enter Tryz.func14, Tryz.ntmps14
    go_wp2
    go_ret
    exact ⟨ret_bool HE.out.symm, by have := HB0.out; rw [HW0.out] at this; exact this⟩
end Go.Proofs.YtddioikfhabjpaaGreatDoor

namespace Go.Proofs.YtddioikfhabjpaaGreatDoor
set_option linter.unusedSimpArgs false
set_option linter.unusedVariables false
set_option linter.unusedSectionVars false
set_option maxRecDepth 100000
open Go.RowKit Go.Maps

set_option maxHeartbeats 16000000 in
theorem prints_walk (g : Pr) (x y : Value) (w : World) (hx : Des w x g.decls) (hy : Rus w y g.rules) (hI : InPr g) (hs : szPr g ≤ 1048576) (hE : PEnv w) (hT : Tab w) :
    Calls Tryz.prog 3 #[.agg #[x, y]] w fun e w' => e = .returned (.bool true) ∧ Below w.heap.size w w' := by
  obtain ⟨xo, xc, rfl, -⟩ := hx.form
  obtain ⟨yo, yc, rfl, -⟩ := hy.form
  have HSH := Lib.hid (fun W (hb : Below w.heap.size w W) => shownP_any W (hE.below hb) (hT.on hb))
  have HFW := Lib.hid (fun W (hb : Below w.heap.size w W) => few_any g _ _ W (hx.below stayDe hb) (hy.below stayRu hb) (by omega))
  have HM1 := Lib.hid (fun W (hb : Below w.heap.size w W) => pmay_any g _ _ W (hx.below stayDe hb) (hy.below stayRu hb) hI (by omega))
  have HM2 := Lib.hid (fun W (hb : Below w.heap.size w W) => rmay_any g _ _ W (hx.below stayDe hb) (hy.below stayRu hb) hI (by omega))
  have HP1 := Lib.hid (fun W (hb : Below w.heap.size w W) => pprog_any g _ _ W (hx.below stayDe hb) (hy.below stayRu hb) hI (by omega) (hT.on hb))
  have HP2 := Lib.hid (fun W (hb : Below w.heap.size w W) => rprog_any g _ _ W (hx.below stayDe hb) (hy.below stayRu hb) hI (by omega))
  obtain ⟨S, hS⟩ : ∃ S : ByteArray, S = ⟨(progTx g).toArray⟩ := ⟨_, rfl⟩
  rw [← hS] at HP1 HP2
  obtain ⟨mb, hmb⟩ : ∃ mb, mb = mayPrB g := ⟨_, rfl⟩
  rw [← hmb] at HM1 HM2
  have e1 : (S.toList == S.toList) = true := by simp
  have e2 : (mb == mb) = true := by simp
  obtain ⟨GD, GR⟩ := g
  simp only at HFW HM1 HM2 HP1 HP2
  obtain ⟨W, hW⟩ : ∃ W, W = w.alloc (.cells #[.slice xo GD.length xc, .slice yo GR.length yc] 25) := ⟨_, rfl⟩
  have hbW : Below w.heap.size w W := by rw [hW]; exact al_below _ _
  have HB0 := Lib.hid hbW
  have HK : Hid (∀ W', Below W.heap.size W W' → W'.cell? ⟨w.heap.size, 0, none⟩ = some (.slice xo GD.length xc) ∧ W'.cell? ⟨w.heap.size, 1, none⟩ = some (.slice yo GR.length yc) ∧ w.heap.size < W'.heap.size ∧ Below w.heap.size w W') := fun W' hb => by
    have hB : Blk W w.heap.size #[.slice xo GD.length xc, .slice yo GR.length yc] 25 := by rw [hW]; exact Blk.new _ _ _
    exact ⟨(hB.below hb).cell 0, (hB.below hb).cell 1, (hB.below hb).lt, hbW.trans (hb.mono hbW.size)⟩
  have HW := Lib.hid hW
  clear hx hy hI hs hS hmb hbW hW hE hT
  go_enter Tryz.func3, Tryz.ntmps3
  go_wp2_with (go_at_call 9; rw [← HW.out]; refine (HSH.out _ HB0.out).mono ?_; rintro e w1 ⟨rfl, hb1⟩; have HB1 : Hid (Below W.heap.size W w1) := hb1; clear hb1; obtain ⟨p0, p1, p2, p3⟩ := HK.out _ HB1.out)
  refine (HFW.out _ (HK.out _ HB1.out).2.2.2).mono ?_
  rintro e w2 ⟨fb, rfl, hb2⟩
  have HB2 : Hid (Below W.heap.size W w2) := HB1.out.trans (hb2.mono HB1.out.size)
  clear hb2 p0 p1 p2 p3
  cases fb
  · go_wp2
    go_ret
    exact ⟨rfl, (HK.out _ HB2.out).2.2.2⟩
  have HC := Lib.hid (HK.out _ HB2.out)
  go_wp2_with fail
  go_region_held3 (fun w' => w'.cell? ⟨w.heap.size, 0, none⟩ = some (.slice xo GD.length xc) ∧ w'.cell? ⟨w.heap.size, 1, none⟩ = some (.slice yo GR.length yc) ∧ w.heap.size < w'.heap.size ∧ Below w.heap.size w w')
    (first | assumption | exact box2_keep (by assumption) hbN | exact box2_keep HC.out ((Below.refl _ _).drew))
    (first
      | (go_at_call 11; refine (HP1.out _ (by go_split_ands; assumption)).mono ?_; rintro e w' ⟨rfl, hbN⟩)
      | (go_at_call 12; refine (HP2.out _ (by go_split_ands; assumption)).mono ?_; rintro e w' ⟨rfl, hbN⟩)
      | (go_at_call 13; refine (HM1.out _ (by go_split_ands; assumption)).mono ?_; rintro e w' ⟨rfl, hbN⟩)
      | (go_at_call 14; refine (HM2.out _ (by go_split_ands; assumption)).mono ?_; rintro e w' ⟨rfl, hbN⟩))
  all_goals
    go_wp2
    go_ret
    go_split_ands
    exact ⟨by first | rfl | simp, by assumption⟩
end Go.Proofs.YtddioikfhabjpaaGreatDoor
