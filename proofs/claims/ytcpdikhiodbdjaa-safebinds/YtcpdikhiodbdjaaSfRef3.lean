/-
  Contracts of the document's Check and All.
-/
import Derived.Test.YtcpdikhiodbdjaaSfRef2
namespace Go.Proofs.Ytcpdikhiodbdjaa
set_option linter.unusedSimpArgs false
set_option linter.unusedVariables false
set_option linter.unusedSectionVars false
set_option maxRecDepth 100000
open Go.RowKit Go.Maps

theorem tm_len (t : Tm) : t.cells.length = 5 := rfl
/-- Two terms in a block of their own. -/
theorem two_terms {W : World} {b : Nat} {t u : Tm} {cs : Array Value} (hb : W.heap[b]? = some (.cells cs 51 (0, 0))) (hc : cs.toList = t.cells ++ u.cells) : Tms W (.slice (some ⟨b, 0, none⟩) 2 2) [t, u] := by
  refine RdL.laid (L := [t, u]) (CS := [t.cells, u.cells]) ⟨⟨rfl, by simp [Tm.cells, Value.oneCell'], rfl⟩, ⟨rfl, by simp [Tm.cells, Value.oneCell'], rfl⟩, trivial⟩ hb (by simpa using hc) (by simp) (by simp [maxLen])

set_option maxHeartbeats 4000000 in
theorem rcheck_any {r : Ru} {x y : Value} {w : World} (hx : Tms w x r.head.args) (hy : Lts w y r.body) (hS : SmRu r) :
    Calls Try.prog 12 #[.agg #[.string r.head.p, x, y]] w fun e w' => e = .returned (chkV (checkR r)) ∧ Below w.heap.size w w' := by
  obtain ⟨xo, xc, rfl, -⟩ := hx.form
  obtain ⟨yo, yc, rfl, -, hym⟩ := hy.form
  unfold maxLen at hym
  have HX := Lib.hid hx
  have HY := Lib.hid hy
  have HE := Lib.hid hS.each
  have HL : Hid (∀ (z : Value) (A : List Tm) (W : World), Below w.heap.size w W → Tms W z A → Calls Try.prog 25 #[.agg #[.string r.head.p, .slice xo r.head.args.length xc, .slice yo r.body.length yc], z] W fun e w' => e = .returned (looV (looseT (posN r.body) A)) ∧ Below W.heap.size W w') :=
    fun z A W hW hz => rloose_any (hx.below stayTm hW) (hy.below stayLt hW) hS hz
  obtain ⟨N, hN⟩ : ∃ N, N = posN r.body := ⟨_, rfl⟩
  rw [← hN] at HL
  have HN := Lib.hid hN
  clear hx hy hS hN
  have hb0 := BoxS.new w #[.string r.head.p, .slice xo r.head.args.length xc, .slice yo r.body.length yc] 27
  have HB0 := Lib.hid hb0
  have HQ0 := Lib.hid (HL.out _ r.head.args _ hb0.1 (HX.out.below stayTm hb0.1))
  clear hb0
  cases hh : looseT N r.head.args with
  | some s =>
    rw [hh] at HQ0
    have HC : Hid (checkR r = some (s, -1)) := check_head (by rw [← HN.out]; exact hh)
    clear hh HL
    go_enter Try.func12, Try.ntmps12
    go_wp2_with (go_at_call 25; refine HQ0.out.mono ?_; clear HQ0; rintro e w1 ⟨rfl, hb1⟩; have HB1 := Lib.hid (HB0.out.below hb1); clear hb1; simp only [looV])
    go_ret3
    rw [HC.out]
    exact ⟨rfl, HB1.out.1⟩
  | none =>
    rw [hh] at HQ0
    have HH : Hid (looseT (posN r.body) r.head.args = none) := by show _ = _; rw [← HN.out]; exact hh
    clear hh
    go_enter Try.func12, Try.ntmps12
    go_wp2_with (go_at_call 25; refine HQ0.out.mono ?_; clear HQ0; rintro e w1 ⟨rfl, hb1⟩; have HB1 := Lib.hid (HB0.out.below hb1); clear hb1; simp only [looV])
    go_loopw [7] (fun i wr => ∃ k : Nat, k ≤ r.body.length ∧ i = .int .i64 (k : Int) ∧ Hid (∀ l ∈ r.body.take k, looseT (posN r.body) (asks l) = none) ∧ Hid (BoxS w wr (.cells #[.string r.head.p, .slice xo r.head.args.length xc, .slice yo r.body.length yc] 27 (0, 0)))) (fun i _ => r.body.length - (intOf i).toNat)
    case atStart => exact ⟨0, Nat.zero_le _, rfl, Lib.hid (fun l hl => by simp at hl), HB1⟩
    case round =>
      clear HB1 HB0
      obtain ⟨k, hk, rfl, HF, HB⟩ := hrel
      obtain ⟨b0, b1, b2, blt⟩ := box3 HB.out.2
      by_cases hlt : k < r.body.length
      · have hltI : (k : Int) < (r.body.length : Int) := by omega
        obtain ⟨b, off, cs, rfl, hbl, ⟨xa, rfl, hxa⟩, hcell⟩ := (show Lts wr (.slice yo r.body.length yc) r.body from HY.out.below stayLt HB.out.1).at k hlt
        have q0 := hcell 0 _ rfl
        have q1 := hcell 1 _ rfl
        have q2 := hcell 2 _ rfl
        have q3 := hcell 3 _ rfl
        have q4 := hcell 4 _ rfl
        have q5 := hcell 5 _ rfl
        have q6 := hcell 6 _ rfl
        have q7 := hcell 7 _ rfl
        have q8 := hcell 8 _ rfl
        have q9 := hcell 9 _ rfl
        have q10 := hcell 10 _ rfl
        have q11 := hcell 11 _ rfl
        have q12 := hcell 12 _ rfl
        have q13 := hcell 13 _ rfl
        simp only [Nat.add_zero] at q0
        have HH2 : Hid (∀ s, looseT N (asks (r.body[k]'hlt)) = some s → checkR r = some (s, (k : Int))) := fun s h => check_hit hlt HH.out HF.out (by rw [← HN.out]; exact h)
        have HG : Hid (looseT N (asks (r.body[k]'hlt)) = none → ∀ l ∈ r.body.take (k + 1), looseT (posN r.body) (asks l) = none) := fun h => pre_next hlt HF.out (by rw [← HN.out]; exact h)
        clear hcell
        obtain ⟨l, hl⟩ : ∃ l, l = r.body[k]'hlt := ⟨_, rfl⟩
        rw [← hl] at q0 q1 q3 q4 q5 q6 q7 q8 q9 q10 q11 q12 q13 HH2 HG hxa
        clear hl
        obtain ⟨kind, ⟨lp, la⟩, lop, ⟨lv, ln, lk, ls, lN⟩, ⟨rv, rn, rk, rs, rN⟩⟩ := l
        simp only at q0 q1 q3 q4 q5 q6 q7 q8 q9 q10 q11 q12 q13 hxa
        obtain ⟨ao, ac, rfl, -⟩ := hxa.form
        have HXA := Lib.hid hxa
        clear hxa
        by_cases h2 : kind = 2
        · subst h2
          have ea : asks (⟨2, ⟨lp, la⟩, lop, ⟨lv, ln, lk, ls, lN⟩, ⟨rv, rn, rk, rs, rN⟩⟩ : Lt) = la := asks_two rfl
          rw [ea] at HH2 HG
          have HQ : Hid (∀ W, Below wr.heap.size wr W → Calls Try.prog 25 #[.agg #[.string r.head.p, .slice xo r.head.args.length xc, .slice (some ⟨b, off, none⟩) r.body.length yc], .slice ao la.length ac] W fun e w' => e = .returned (looV (looseT N la)) ∧ Below wr.heap.size wr w') := fun W hW =>
            (HL.out _ la W (HB.out.1.trans (hW.mono HB.out.1.size)) (HXA.out.below stayTm hW)).mono fun e w' ⟨h, hb⟩ => ⟨h, hW.trans (hb.mono hW.size)⟩
          clear HL ea
          cases hc : looseT N la with
          | some s =>
            rw [hc] at HQ
            have HC := Lib.hid (HH2.out s hc)
            clear HH2 HG hc
            go_wp2_with (go_at_call 25; refine (HQ.out _ (((al_bel wr _).alloc (by simp) _))).mono ?_; clear HQ; rintro e w1 ⟨rfl, hb1⟩; have HB1 := Lib.hid (HB.out.below hb1); clear hb1; simp only [looV])
            go_ret3
            rw [HC.out]
            exact ⟨rfl, HB1.out.1⟩
          | none =>
            rw [hc] at HQ
            have HG2 := Lib.hid (HG.out hc)
            clear HH2 HG hc
            go_wp2_with (go_at_call 25; refine (HQ.out _ (((al_bel wr _).alloc (by simp) _))).mono ?_; clear HQ; rintro e w1 ⟨rfl, hb1⟩; have HB1 := Lib.hid (HB.out.below hb1); clear hb1; simp only [looV])
            go_roundw
            case rel => exact ⟨k + 1, by omega, by simp, HG2, HB1⟩
            case measure => simp [intOf]; omega
        · have e2 : (kind == 2) = false := beq_eq_false_iff_ne.2 h2
          by_cases h3 : kind = 3
          · subst h3
            have ea : asks (⟨3, ⟨lp, la⟩, lop, ⟨lv, ln, lk, ls, lN⟩, ⟨rv, rn, rk, rs, rN⟩⟩ : Lt) = [⟨lv, ln, lk, ls, lN⟩, ⟨rv, rn, rk, rs, rN⟩] := asks_three rfl
            rw [ea] at HH2 HG
            have HQ : Hid (∀ W z, Below wr.heap.size wr W → Tms W z [⟨lv, ln, lk, ls, lN⟩, ⟨rv, rn, rk, rs, rN⟩] → Calls Try.prog 25 #[.agg #[.string r.head.p, .slice xo r.head.args.length xc, .slice (some ⟨b, off, none⟩) r.body.length yc], z] W fun e w' => e = .returned (looV (looseT N [⟨lv, ln, lk, ls, lN⟩, ⟨rv, rn, rk, rs, rN⟩])) ∧ Below wr.heap.size wr w') := fun W z hW hz =>
              (HL.out z _ W (HB.out.1.trans (hW.mono HB.out.1.size)) hz).mono fun e w' ⟨h, hb⟩ => ⟨h, hW.trans (hb.mono hW.size)⟩
            clear HL ea h2
            cases hc : looseT N [⟨lv, ln, lk, ls, lN⟩, ⟨rv, rn, rk, rs, rN⟩] with
            | some s =>
              rw [hc] at HQ
              have HC := Lib.hid (HH2.out s hc)
              clear HH2 HG hc
              go_wp2_with (go_at_call 25; refine (HQ.out _ _ (((al_bel wr _).alloc (by simp) _)) (two_terms (heap2L _ _ _) rfl)).mono ?_; clear HQ; rintro e w1 ⟨rfl, hb1⟩; have HB1 := Lib.hid (HB.out.below hb1); clear hb1; simp only [looV])
              go_ret3
              rw [HC.out]
              exact ⟨rfl, HB1.out.1⟩
            | none =>
              rw [hc] at HQ
              have HG2 := Lib.hid (HG.out hc)
              clear HH2 HG hc
              go_wp2_with (go_at_call 25; refine (HQ.out _ _ (((al_bel wr _).alloc (by simp) _)) (two_terms (heap2L _ _ _) rfl)).mono ?_; clear HQ; rintro e w1 ⟨rfl, hb1⟩; have HB1 := Lib.hid (HB.out.below hb1); clear hb1; simp only [looV])
              go_roundw
              case rel => exact ⟨k + 1, by omega, by simp, HG2, HB1⟩
              case measure => simp [intOf]; omega
          · have e3 : (kind == 3) = false := beq_eq_false_iff_ne.2 h3
            have ea : asks (⟨kind, ⟨lp, la⟩, lop, ⟨lv, ln, lk, ls, lN⟩, ⟨rv, rn, rk, rs, rN⟩⟩ : Lt) = [] := asks_none h2 h3
            rw [ea] at HG
            have HG2 := Lib.hid (HG.out rfl)
            have n2 : (kind != 2) = true := bne_iff_ne.2 h2
            have n3 : (kind != 3) = true := bne_iff_ne.2 h3
            clear HH2 HG HL ea
            go_wp2
            go_roundw
            case rel => exact ⟨k + 1, by omega, by simp, HG2, HB.out.below ((al_bel wr _).alloc (by simp) _)⟩
            case measure => simp [intOf]; omega
      · have hltI : ¬ (k : Int) < (r.body.length : Int) := by omega
        obtain rfl : k = r.body.length := by omega
        have HC : Hid (checkR r = none) := check_end HH.out (by have := HF.out; rw [List.take_length] at this; exact this)
        go_wp2
        go_ret3
        rw [HC.out]
        exact ⟨rfl, HB.out.1⟩
end Go.Proofs.Ytcpdikhiodbdjaa
