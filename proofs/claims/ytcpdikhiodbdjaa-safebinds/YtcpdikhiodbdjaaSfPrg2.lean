/-
  Contracts of safe.Check, safe.All and the document's All.
-/
import Derived.Test.YtcpdikhiodbdjaaSfPrg1
namespace Go.Proofs.Ytcpdikhiodbdjaa
set_option linter.unusedSimpArgs false
set_option linter.unusedVariables false
set_option linter.unusedSectionVars false
set_option maxRecDepth 100000
open Go.RowKit Go.Maps

theorem loose_congr {N M : List ByteArray} (h : ∀ s, s ∈ N ↔ s ∈ M) (A : List Tm) : looseT N A = looseT M A := by
  have : ∀ s, inN N s = inN M s := fun s => by
    cases hm : inN M s with
    | true => exact (inN_iff _ _).2 ((h s).2 ((inN_iff _ _).1 hm))
    | false => exact (inN_no _ _).2 (fun k => (inN_no _ _).1 hm ((h s).1 k))
  unfold looseT
  simp only [this]
theorem bnd_len {r : Ru} (h : SmRu r) : (bndR r).length ≤ 10000000 := by
  have h1 := sort_len (posN r.body)
  have h2 := h.pos
  unfold bndR
  omega
theorem asks_ok {l : Lt} (h : OkLt l) : ∀ t ∈ asks l, t.name.size ≤ maxLen := by
  intro t ht
  unfold asks at ht
  split at ht
  · exact (h.1 t ht).2
  · split at ht
    · simp at ht
      rcases ht with rfl | rfl
      · exact h.2.1.2
      · exact h.2.2.2
    · simp at ht
theorem asks_len {l : Lt} (h : l.atom.args.length ≤ 5000) : (asks l).length ≤ 10000000 := by
  unfold asks
  split
  · omega
  · split <;> simp

set_option maxHeartbeats 4000000 in
theorem check_any {r : Ru} {x y : Value} {w : World} (hx : Tms w x r.head.args) (hy : Lts w y r.body) (hS : SmRu r) (hO : OkRu r) :
    Calls Try.prog 11 #[.agg #[.string r.head.p, x, y]] w fun e w' => e = .returned (chkV (checkR r)) ∧ Below w.heap.size w w' := by
  obtain ⟨xo, xc, rfl, -⟩ := hx.form
  obtain ⟨yo, yc, rfl, -, hym⟩ := hy.form
  unfold maxLen at hym
  have HX := Lib.hid hx
  have HY := Lib.hid hy
  have HE := Lib.hid hS.each
  have HO := Lib.hid hO
  have hb0 := BoxS.new w #[.string r.head.p, .slice xo r.head.args.length xc, .slice yo r.body.length yc] 27
  have HB0 := Lib.hid hb0
  have HQ0 := Lib.hid (bound_any (hx.below stayTm hb0.1) (hy.below stayLt hb0.1) hS hO)
  have HL : Hid (∀ (v z : Value) (A : List Tm) (W : World), Nms W v (bndR r) → Tms W z A → A.length ≤ 10000000 → (∀ t ∈ A, t.name.size ≤ maxLen) → Calls Try.prog 23 #[v, z] W fun e w' => e = .returned (looV (looseT (posN r.body) A)) ∧ Below W.heap.size W w') :=
    fun v z A W hv hz hl hs => by
      have := free_any hv (bnd_len hS) (sort_rising _) hz hl hs
      rw [loose_congr (bnd_mem r)] at this
      exact this
  have HBL : Hid ((bndR r).length ≤ maxLen) := by show _ ≤ _; have := bnd_len hS; unfold maxLen; omega
  have HHL : Hid (r.head.args.length ≤ 10000000) := by show _ ≤ _; have := hS.head; omega
  clear hx hy hS hO hb0
  cases hh : looseT (posN r.body) r.head.args with
  | some s =>
    have HC : Hid (checkR r = some (s, -1)) := check_head hh
    have HHH := Lib.hid hh
    clear hh
    go_enter Try.func11, Try.ntmps11
    go_wp2_with (first
      | (go_at_call 18; refine HQ0.out.mono ?_; clear HQ0; rintro e w1 ⟨v, rfl, h1, hb1⟩; obtain ⟨vo, vc, rfl⟩ := h1.form; have HV1 := Lib.hid (OwnNm.rd h1 hb1 HBL.out); have HB1 := Lib.hid (HB0.out.below hb1); obtain ⟨b0, b1, b2, blt⟩ := box3 HB1.out.2; clear h1 hb1)
      | (go_at_call 23; refine (HL.out _ _ r.head.args _ HV1.out (HX.out.below stayTm HB1.out.1) HHL.out (fun t ht => (HO.out.1 t ht).2)).mono ?_; clear HL; rintro e w2 ⟨rfl, hb2⟩; have HB2 := Lib.hid (HB1.out.below hb2); clear hb2; rw [HHH.out]; simp only [looV]))
    go_ret3
    rw [HC.out]
    exact ⟨rfl, HB2.out.1⟩
  | none =>
    have HH := Lib.hid hh
    clear hh
    go_enter Try.func11, Try.ntmps11
    go_wp2_with (first
      | (go_at_call 18; refine HQ0.out.mono ?_; clear HQ0; rintro e w1 ⟨v, rfl, h1, hb1⟩; obtain ⟨vo, vc, rfl⟩ := h1.form; have HV1 := Lib.hid (OwnNm.rd h1 hb1 HBL.out); have HB1 := Lib.hid (HB0.out.below hb1); obtain ⟨b0, b1, b2, blt⟩ := box3 HB1.out.2; clear h1 hb1)
      | (go_at_call 23; refine (HL.out _ _ r.head.args _ HV1.out (HX.out.below stayTm HB1.out.1) HHL.out (fun t ht => (HO.out.1 t ht).2)).mono ?_; rintro e w2 ⟨rfl, hb2⟩; have HB2 := Lib.hid (HB1.out.below hb2); obtain ⟨d0, d1, d2, dlt⟩ := box3 HB2.out.2; have HV2 : Hid (Nms w2 _ (bndR r)) := RdL.below stayNm HV1.out hb2; clear hb2 b0 b1 b2; rw [HH.out]; simp only [looV]))
    go_loopw [27] (fun i wr => ∃ k : Nat, k ≤ r.body.length ∧ i = .int .i64 (k : Int) ∧ Hid (∀ l ∈ r.body.take k, looseT (posN r.body) (asks l) = none) ∧ Hid (Below w2.heap.size w2 wr)) (fun i _ => r.body.length - (intOf i).toNat)
    case atStart => exact ⟨0, Nat.zero_le _, rfl, Lib.hid (fun l hl => by simp at hl), Below.refl _ _⟩
    case round =>
      clear HB0 d0 d1 d2
      obtain ⟨k, hk, rfl, HF, HB⟩ := hrel
      by_cases hlt : k < r.body.length
      · have hltI : (k : Int) < (r.body.length : Int) := by omega
        obtain ⟨b, off, cs, rfl, hbl, ⟨xa, rfl, hxa⟩, hcell⟩ := (show Lts wr (.slice yo r.body.length yc) r.body from HY.out.below stayLt (HB2.out.1.trans (HB.out.mono HB2.out.1.size))).at k hlt
        have q0 := hcell 0 _ rfl
        have q1 := hcell 1 _ rfl
        have q2 := hcell 2 _ rfl
        have q3 := hcell 3 _ rfl
        have q4 := hcell 4 _ rfl
        have q5 := hcell 5 _ rfl
        have q6 := hcell 6 _ rfl
        have q7 := hcell 7 _ rfl
        have q8 := hcell 8 _ rfl
        have q9 := hcell 9 _ rfl
        have q10 := hcell 10 _ rfl
        have q11 := hcell 11 _ rfl
        have q12 := hcell 12 _ rfl
        have q13 := hcell 13 _ rfl
        simp only [Nat.add_zero] at q0
        have HH2 : Hid (∀ s, looseT (posN r.body) (asks (r.body[k]'hlt)) = some s → checkR r = some (s, (k : Int))) := fun s h => check_hit hlt HH.out HF.out h
        have HG : Hid (looseT (posN r.body) (asks (r.body[k]'hlt)) = none → ∀ l ∈ r.body.take (k + 1), looseT (posN r.body) (asks l) = none) := fun h => pre_next hlt HF.out h
        have HAO := Lib.hid (asks_ok (HO.out.2 _ (List.getElem_mem hlt)))
        have HAL := Lib.hid (asks_len (HE.out _ (List.getElem_mem hlt)))
        have HU := Lib.hid (fun W => users_any (r.body[k]'hlt) xa W)
        clear hcell
        obtain ⟨l, hl⟩ : ∃ l, l = r.body[k]'hlt := ⟨_, rfl⟩
        rw [← hl] at q0 q1 q3 q4 q5 q6 q7 q8 q9 q10 q11 q12 q13 HH2 HG HAO HAL HU hxa
        clear hl
        obtain ⟨AL, hAL⟩ : ∃ AL, AL = asks l := ⟨_, rfl⟩
        rw [← hAL] at HH2 HG HAO HAL HU
        obtain ⟨kind, ⟨lp, la⟩, lop, ⟨lv, ln, lk, ls, lN⟩, ⟨rv, rn, rk, rs, rN⟩⟩ := l
        simp only [LtC] at q0 q1 q3 q4 q5 q6 q7 q8 q9 q10 q11 q12 q13 hxa HU
        obtain ⟨ao, ac, rfl, -⟩ := hxa.form
        have HXA := Lib.hid hxa
        clear hxa hAL
        have hzw := HB.out.size
        cases hc : looseT (posN r.body) AL with
        | some s =>
          have HC := Lib.hid (HH2.out s hc)
          have HCC := Lib.hid hc
          clear HH2 HG hc
          go_wp2_with (first
            | (go_at_call 24; refine (HU.out _ (HXA.out.below stayTm (al_bel _ _))).mono ?_; clear HU; rintro e w3 ⟨u, rfl, hu, hb3⟩; have HU3 := Lib.hid hu; have HB3 := Lib.hid ((HB.out.alloc hzw _).trans (hb3.mono (by simp; omega))); clear hu hb3)
            | (go_at_call 23; refine (HL.out _ _ AL _ (RdL.below stayNm HV2.out HB3.out) HU3.out HAL.out HAO.out).mono ?_; clear HL; rintro e w4 ⟨rfl, hb4⟩; have HB4 := Lib.hid (HB2.out.1.trans ((HB3.out.trans (hb4.mono HB3.out.size)).mono HB2.out.1.size)); clear hb4; rw [HCC.out]; simp only [looV]))
          go_ret3
          rw [HC.out]
          exact ⟨rfl, HB4.out⟩
        | none =>
          have HG2 := Lib.hid (HG.out hc)
          have HCC := Lib.hid hc
          clear HH2 HG hc
          go_wp2_with (first
            | (go_at_call 24; refine (HU.out _ (HXA.out.below stayTm (al_bel _ _))).mono ?_; clear HU; rintro e w3 ⟨u, rfl, hu, hb3⟩; have HU3 := Lib.hid hu; have HB3 := Lib.hid ((HB.out.alloc hzw _).trans (hb3.mono (by simp; omega))); clear hu hb3)
            | (go_at_call 23; refine (HL.out _ _ AL _ (RdL.below stayNm HV2.out HB3.out) HU3.out HAL.out HAO.out).mono ?_; clear HL; rintro e w4 ⟨rfl, hb4⟩; have HB4 := Lib.hid (HB3.out.trans (hb4.mono HB3.out.size)); clear hb4; rw [HCC.out]; simp only [looV]))
          go_roundw
          case rel => exact ⟨k + 1, by omega, by simp, HG2, HB4⟩
          case measure => simp [intOf]; omega
      · have hltI : ¬ (k : Int) < (r.body.length : Int) := by omega
        obtain rfl : k = r.body.length := by omega
        have HC : Hid (checkR r = none) := check_end HH.out (by have := HF.out; rw [List.take_length] at this; exact this)
        go_wp2
        go_ret3
        rw [HC.out]
        exact ⟨rfl, HB2.out.1.trans (HB.out.mono HB2.out.1.size)⟩
end Go.Proofs.Ytcpdikhiodbdjaa
