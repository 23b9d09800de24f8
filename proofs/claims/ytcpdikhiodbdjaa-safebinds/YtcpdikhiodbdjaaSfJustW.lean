/-
  SafeJust's walk.
-/
import Derived.Test.YtcpdikhiodbdjaaSfPack
namespace Go.Proofs.Ytcpdikhiodbdjaa
set_option linter.unusedSimpArgs false
set_option linter.unusedVariables false
set_option linter.unusedSectionVars false
set_option maxRecDepth 100000
open Go.RowKit Go.Maps

/-- A list of terms of the call's own speaks of no memory but its own. -/
theorem OwnTm.base {w0 w1 W : World} {B B' : Nat} {v : Value} {L : List Tm} (h : OwnW TmI 51 5 w0 W B v L) (hB : B' ≤ B) : OwnW TmI 51 5 w1 W B' v L := by
  obtain ⟨cs, h1, h2⟩ := h
  exact ⟨cs, h1.imp (fun _ _ h => h), owns_keep h2 hB (fun _ _ _ => rfl)⟩
theorem uses_take {h : Am} {B : List Lt} {k : Nat} (hk : k < B.length) : usesR ⟨h, B.take (k + 1)⟩ = usesR ⟨h, B.take k⟩ ++ asks (B[k]'hk) := by
  unfold usesR
  simp only
  rw [List.take_succ_eq_append_getElem hk, List.flatMap_append, List.append_assoc]
  simp
theorem flat_len (n : Nat) : ∀ (B : List Lt), (∀ l ∈ B, (asks l).length ≤ n) → (B.flatMap asks).length ≤ B.length * n
  | [], _ => by simp
  | l :: B, h => by
    have h1 := flat_len n B (fun x hx => h x (by simp [hx]))
    have h2 := h l (by simp)
    rw [List.flatMap_cons, List.length_append, List.length_cons, Nat.succ_mul]
    omega
theorem asks_len2 {l : Lt} (h : l.atom.args.length ≤ 5000) : (asks l).length ≤ 5000 := by
  unfold asks
  split
  · omega
  · split <;> simp
theorem uses_len {r : Ru} (h : SmRu r) (k : Nat) : (usesR ⟨r.head, r.body.take k⟩).length ≤ 6000000 := by
  have h1 := flat_len 5000 (r.body.take k) (fun l hl => asks_len2 (h.each l (List.mem_of_mem_take hl)))
  have h2 := h.head
  have h3 := h.body
  have h4 : (r.body.take k).length * 5000 ≤ 1000 * 5000 := Nat.mul_le_mul_right _ (by simp; omega)
  unfold usesR
  simp only [List.length_append]
  omega
/-- Is each variable of these terms bound? -/
def fineT (N : List ByteArray) (A : List Tm) : Bool := A.all (fun t => !t.v || inN N t.name)
theorem fine_take {N : List ByteArray} {A : List Tm} {k : Nat} (hk : k < A.length) : fineT N (A.take (k + 1)) = (fineT N (A.take k) && (!(A[k]'hk).v || inN N (A[k]'hk).name)) := by
  unfold fineT
  rw [List.take_succ_eq_append_getElem hk, List.all_append]
  simp
theorem fine_err (r : Ru) : (errC (checkR r) == 0) = fineT (posN r.body) (usesR r) := by
  cases hf : fineT (posN r.body) (usesR r) with
  | true =>
    have : checkR r = none := (check_none r).2 (fun t ht hv => by
      have := List.all_eq_true.1 hf t ht
      simp [hv] at this
      exact (inN_iff _ _).1 this)
    rw [this]; rfl
  | false =>
    cases hc : checkR r with
    | some q => rfl
    | none =>
      have h := (check_none r).1 hc
      have : fineT (posN r.body) (usesR r) = true := List.all_eq_true.2 (fun t ht => by
        cases hv : t.v with
        | false => simp
        | true => simp [(inN_iff _ _).2 (h t ht hv)])
      rw [this] at hf
      cases hf

set_option maxHeartbeats 16000000 in
theorem just_walk {r : Ru} {x y : Value} {w : World} (hx : Tms w x r.head.args) (hy : Lts w y r.body) (hO : OkRu r) :
    Calls Try.prog 4 #[.agg #[.string r.head.p, x, y]] w fun e w' => e = .returned (.bool true) ∧ Below w.heap.size w w' := by
  obtain ⟨xo, xc, rfl, -⟩ := hx.form
  obtain ⟨yo, yc, rfl, hycap, hym⟩ := hy.form
  unfold maxLen at hym
  obtain ⟨W0, hW0⟩ : ∃ W0, W0 = w.alloc (.cells #[.string r.head.p, .slice xo r.head.args.length xc, .slice yo r.body.length yc] 27) := ⟨_, rfl⟩
  have HW : Hid (Below w.heap.size w W0) := by rw [hW0]; exact al_bel _ _
  have HX := Lib.hid (hx.below stayTm HW.out)
  have HY := Lib.hid (hy.below stayLt HW.out)
  have HBR : Hid (W0.heap[w.heap.size]? = some (.cells #[.string r.head.p, .slice xo r.head.args.length xc, .slice yo r.body.length yc] 27 (0, 0))) := by rw [hW0]; exact heap1L _ _
  have HSH := Lib.hid (shown_any W0)
  rw [hW0] at HSH
  have HO := Lib.hid hO
  have HC : Hid (∀ W, Below W0.heap.size W0 W → W.cell? ⟨w.heap.size, 0, none⟩ = some (.string r.head.p) ∧ W.cell? ⟨w.heap.size, 1, none⟩ = some (.slice xo r.head.args.length xc) ∧ W.cell? ⟨w.heap.size, 2, none⟩ = some (.slice yo r.body.length yc) ∧ w.heap.size < W.heap.size) := fun W hW => three_keep HBR.out hW
  clear hx hy hO
  by_cases hf : Few r
  · have HFW : Hid (∀ W, Below W0.heap.size W0 W → Calls Try.prog 10 #[.agg #[.string r.head.p, .slice xo r.head.args.length xc, .slice yo r.body.length yc]] W fun e w' => e = .returned (.bool true) ∧ Below W.heap.size W w') := fun W hW => few_is ⟨fun _ => hf, fun _ => rfl⟩ (HX.out.below stayTm hW) (HY.out.below stayLt hW)
    have HSM := Lib.hid hf.sm
    have hB30 : r.body.length ≤ 30 := hf.body
    have hH30 : r.head.args.length ≤ 30 := hf.head
    clear hf
    go_enter Try.func4, Try.ntmps4
    go_wp2_with (first
      | (go_at_call 9; refine HSH.out.mono ?_; clear HSH; rintro e w1 ⟨rfl, hb1⟩; rw [← hW0] at hb1; have HB1 := Lib.hid hb1; clear hb1; obtain ⟨r0, r1, r2, rlt⟩ := HC.out _ HB1.out)
      | (go_at_call 10; refine (HFW.out _ HB1.out).mono ?_; clear HFW; rintro e w2 ⟨rfl, hb2⟩; have HB2 := Lib.hid (below_to HB1.out hb2 (Nat.le_refl _)); clear hb2 r0 r1 r2 rlt; obtain ⟨r0, r1, r2, rlt⟩ := HC.out _ HB2.out)
      | (at_builtin; refine wpList_append_all rfl _ _ 22 rfl elTm cellRTm w2.heap.size (.slice (some ⟨_, 0, none⟩) 0 0) [] rfl (OwnW.made (Nat.le_refl _) (heap1L _ _)) _ r.head.args rfl (HX.out.below stayTm HB2.out) (al_bel _ _) (by unfold maxLen; simp; omega) (by simp; omega) (by simp) ?_; intro v3 w3 h3 hb3 hg3 hl3; obtain ⟨o3, n3, c3, rfl, hn3⟩ := h3.formN; have HN3 := Lib.hid hn3; have HO3 := Lib.hid h3; have HB3 := Lib.hid ((al_bel w2 _).trans hb3); clear h3 hb3 hg3 hl3 hn3))
    go_loopw [4, 5] (fun v i wr => ∃ (k n : Nat) (o : Option Addr) (c : Nat), k ≤ r.body.length ∧ i = .int .i64 (k : Int) ∧ v = .slice o n c ∧ Hid (n = (usesR ⟨r.head, r.body.take k⟩).length) ∧ Hid (OwnW TmI 51 5 w2 wr w2.heap.size (.slice o n c) (usesR ⟨r.head, r.body.take k⟩) ∧ Below w2.heap.size w2 wr))
      (fun _ i _ => r.body.length - (intOf i).toNat)
    case atStart => exact ⟨0, n3, o3, c3, Nat.zero_le _, rfl, rfl, by show _ = _; rw [HN3.out]; simp [usesR], by have := HO3.out; simpa [usesR] using this, HB3.out⟩
    case round =>
      clear HO3 HB3 HN3 r0 r1 r2 rlt
      obtain ⟨k, n, o, c, hk, rfl, rfl, HN, HS⟩ := hrel
      have HBW := Lib.hid (below_to HB2.out HS.out.2 (Nat.le_refl _))
      obtain ⟨r0, r1, r2, rlt⟩ := HC.out _ HBW.out
      by_cases hlt : k < r.body.length
      · have hltI : (k : Int) < (r.body.length : Int) := by omega
        obtain ⟨b, off, cs, rfl, hbl, ⟨xa, rfl, hxa⟩, hcell⟩ := (show Lts wr (.slice yo r.body.length yc) r.body from HY.out.below stayLt HBW.out).at k hlt
        have q0 := hcell 0 _ rfl
        have q1 := hcell 1 _ rfl
        have q2 := hcell 2 _ rfl
        have q3 := hcell 3 _ rfl
        have q4 := hcell 4 _ rfl
        have q5 := hcell 5 _ rfl
        have q6 := hcell 6 _ rfl
        have q7 := hcell 7 _ rfl
        have q8 := hcell 8 _ rfl
        have q9 := hcell 9 _ rfl
        have q10 := hcell 10 _ rfl
        have q11 := hcell 11 _ rfl
        have q12 := hcell 12 _ rfl
        have q13 := hcell 13 _ rfl
        simp only [Nat.add_zero] at q0
        have HT := Lib.hid (uses_take (h := r.head) hlt)
        have HLE0 := Lib.hid (uses_len HSM.out (k + 1))
        have HZ := Lib.hid HS.out.2.size
        clear hcell
        obtain ⟨l, hl⟩ : ∃ l, l = r.body[k]'hlt := ⟨_, rfl⟩
        rw [← hl] at q0 q1 q3 q4 q5 q6 q7 q8 q9 q10 q11 q12 q13 HT hxa
        clear hl
        obtain ⟨kind, ⟨lp, la⟩, lop, ⟨lv, ln, lk, ls, lN⟩, ⟨rv, rn, rk, rs, rN⟩⟩ := l
        simp only at q0 q1 q3 q4 q5 q6 q7 q8 q9 q10 q11 q12 q13 hxa
        obtain ⟨ao, ac, rfl, -⟩ := hxa.form
        have HXA := Lib.hid hxa
        clear hxa
        obtain ⟨L, hL⟩ : ∃ L, L = usesR ⟨r.head, r.body.take k⟩ := ⟨_, rfl⟩
        rw [← hL] at HT HS HN
        clear hL
        by_cases h2 : kind = 2
        · subst h2
          have ea : asks (⟨2, ⟨lp, la⟩, lop, ⟨lv, ln, lk, ls, lN⟩, ⟨rv, rn, rk, rs, rN⟩⟩ : Lt) = la := asks_two rfl
          rw [ea] at HT
          have HLE : Hid (L.length + la.length ≤ 6000000) := by have := HLE0.out; rw [HT.out, List.length_append] at this; exact this
          clear ea HLE0
          go_wp2_with (at_builtin; refine wpList_append_all rfl _ _ 22 rfl elTm cellRTm w2.heap.size (.slice o n c) L rfl (OwnTm.base (HS.out.1.below (al_bel _ _)) (Nat.le_refl _)) _ la rfl (HXA.out.below stayTm (al_bel _ _)) (Below.refl _ _) (by have := HLE.out; unfold maxLen; omega) (by have := HLE.out; omega) (by have := HZ.out; simp; omega) ?_; intro v4 w4 h4 hb4 hg4 hl4; obtain ⟨o4, n4, c4, rfl, hn4⟩ := h4.formN; have HN4 := Lib.hid hn4; have HO4 := Lib.hid h4; have HB4 := Lib.hid ((HS.out.2.alloc HZ.out _).trans hb4); have hk4 := (app_farW hg4 hl4 wr.heap.size _ (heap1L wr _) (fun e => by have := (HS.out.1.lt _ e).2; omega)).1; have k4 : w4.cell? ⟨wr.heap.size, 0, none⟩ = some (.int .i64 2) := (by rw [cell_of_row w4 _ 0 _ _ _ hk4]; rfl); have k5 := lt_of_cell k4; clear h4 hb4 hg4 hl4 hn4 hk4)
          go_roundw
          case rel => exact ⟨k + 1, n4, o4, c4, by omega, by simp, rfl, by rw [HT.out]; exact HN4, by rw [HT.out]; exact ⟨OwnTm.base HO4.out (Nat.le_refl _), HB4.out⟩⟩
          case measure => simp [intOf]; omega
        · have e2 : (kind == 2) = false := beq_eq_false_iff_ne.2 h2
          by_cases h3 : kind = 3
          · subst h3
            have ea : asks (⟨3, ⟨lp, la⟩, lop, ⟨lv, ln, lk, ls, lN⟩, ⟨rv, rn, rk, rs, rN⟩⟩ : Lt) = [⟨lv, ln, lk, ls, lN⟩, ⟨rv, rn, rk, rs, rN⟩] := asks_three rfl
            rw [ea] at HT
            have HLE : Hid (L.length + 2 ≤ 6000000) := by have := HLE0.out; rw [HT.out, List.length_append] at this; exact this
            clear ea HLE0 h2
            go_wp2_with (at_builtin; refine wpList_append_all rfl _ _ 22 rfl elTm cellRTm w2.heap.size (.slice o n c) L rfl (OwnTm.base ((HS.out.1.below (al_bel _ _)).below (al_bel _ _)) (Nat.le_refl _)) _ [⟨lv, ln, lk, ls, lN⟩, ⟨rv, rn, rk, rs, rN⟩] rfl (two_terms (heap2L _ _ _) rfl) (Below.refl _ _) (by have := HLE.out; unfold maxLen; simp; omega) (by have := HLE.out; simp; omega) (by have := HZ.out; simp; omega) ?_; intro v4 w4 h4 hb4 hg4 hl4; obtain ⟨o4, n4, c4, rfl, hn4⟩ := h4.formN; have HN4 := Lib.hid hn4; have HO4 := Lib.hid h4; have HB4 := Lib.hid (((HS.out.2.alloc HZ.out _).alloc (by have := HZ.out; simp; omega) _).trans hb4); clear h4 hb4 hg4 hl4 hn4)
            go_roundw
            case rel => exact ⟨k + 1, n4, o4, c4, by omega, by simp, rfl, by rw [HT.out]; exact HN4, by rw [HT.out]; exact ⟨OwnTm.base HO4.out (Nat.le_refl _), HB4.out⟩⟩
            case measure => simp [intOf]; omega
          · have e3 : (kind == 3) = false := beq_eq_false_iff_ne.2 h3
            have ea : asks (⟨kind, ⟨lp, la⟩, lop, ⟨lv, ln, lk, ls, lN⟩, ⟨rv, rn, rk, rs, rN⟩⟩ : Lt) = [] := asks_none h2 h3
            rw [ea, List.append_nil] at HT
            clear ea h2 h3
            go_wp2
            go_roundw
            case rel => exact ⟨k + 1, n, o, c, by omega, by simp, rfl, by rw [HT.out]; exact HN, by rw [HT.out]; exact ⟨HS.out.1.below (al_bel _ _), HS.out.2.alloc HZ.out _⟩⟩
            case measure => simp [intOf]; omega
      · have hltI : ¬ (k : Int) < (r.body.length : Int) := by omega
        have HE := Lib.hid (uses_len HSM.out r.body.length)
        rw [List.take_length] at HE
        rw [List.take_of_length_le (by omega)] at HS HN
        have HU : Hid (Tms wr (.slice o n c) (usesR r)) := HS.out.1.rd stayTm HS.out.2 (by have := HE.out; unfold maxLen; exact Nat.le_trans this (by omega))
        obtain ⟨s1, p1, hv1⟩ := chkV_err (checkR r)
        obtain ⟨e1, he1⟩ : ∃ e1, e1 = errC (checkR r) := ⟨_, rfl⟩
        rw [← he1] at hv1
        obtain ⟨E, hE⟩ : ∃ E, E = usesR r := ⟨_, rfl⟩
        have HFE : Hid ((e1 == 0) = fineT (posN r.body) E) := by show _ = _; rw [he1, hE]; exact fine_err r
        have hnE : n = E.length := by rw [hE]; exact HN.out
        have hn6 : n ≤ 6000000 := by rw [hnE, hE]; exact HE.out
        rw [← hE] at HU
        clear hE he1 HN HE
        have HQC : Hid (∀ W, Below W0.heap.size W0 W → Calls Try.prog 11 #[.agg #[.string r.head.p, .slice xo r.head.args.length xc, .slice yo r.body.length yc]] W fun e w' => e = .returned (.tuple #[.string s1, .int .i64 p1, .int .i64 e1]) ∧ Below W.heap.size W w') := fun W hW => by
          have := check_any (HX.out.below stayTm hW) (HY.out.below stayLt hW) HSM.out HO.out
          rw [hv1] at this; exact this
        have HNE := Lib.hid hnE
        clear hv1 hnE
        obtain ⟨N, hN⟩ : ∃ N, N = posN r.body := ⟨_, rfl⟩
        have HQB : Hid (∀ s W, Below W0.heap.size W0 W → Calls Try.prog 20 #[.agg #[.string r.head.p, .slice xo r.head.args.length xc, .slice yo r.body.length yc], .string s] W fun e w' => e = .returned (.bool (inN N s)) ∧ Below W.heap.size W w') := fun s W hW => by
          rw [hN]
          exact rbinds_any (HX.out.below stayTm hW) (HY.out.below stayLt hW) HSM.out s
        rw [← hN] at HFE
        clear hN HS
        go_wp2
        obtain ⟨wo, hwo⟩ : ∃ wo, wo = wr := ⟨_, rfl⟩
        rw [← hwo] at HU HBW ⊢
        clear hwo r0 r1 r2 rlt
        go_loopw [7, 8] (fun v i wr => ∃ k : Nat, k ≤ n ∧ i = .int .i64 (k : Int) ∧ v = .bool (fineT N (E.take k)) ∧ Hid (Below wo.heap.size wo wr)) (fun _ i _ => n - (intOf i).toNat)
        case atStart => exact ⟨0, Nat.zero_le _, rfl, by simp [fineT], Below.refl _ _⟩
        case round =>
          obtain ⟨m, hm, rfl, rfl, HB⟩ := hrel
          have HBX := Lib.hid (below_to HBW.out HB.out (Nat.le_refl _))
          obtain ⟨r0, r1, r2, rlt⟩ := HC.out _ HBX.out
          obtain ⟨F, hF⟩ : ∃ F, F = fineT N (E.take m) := ⟨_, rfl⟩
          rw [← hF]
          by_cases hlt2 : m < n
          · have hltI2 : (m : Int) < (n : Int) := by omega
            have hlE : m < E.length := by have := HNE.out; omega
            have hHU := HU.out
            rw [HNE.out] at hHU
            obtain ⟨b, off, cs, rfl, hbl, hR, hcell⟩ := (show Tms wr (.slice o E.length c) E from RdL.below stayTm hHU HB.out).at m hlE
            obtain rfl : cs = _ := hR
            have q0 := hcell 0 _ rfl
            have q1 := hcell 1 _ rfl
            simp only [Nat.add_zero] at q0
            have hnc : n ≤ c := by obtain ⟨ao, cap, e, h1, -⟩ := HU.out; cases e; rw [HNE.out]; exact h1.1
            have HT := Lib.hid (fine_take (N := N) hlE)
            rw [← hF] at HT
            clear hcell hHU hF
            obtain ⟨t, ht⟩ : ∃ t, t = E[m]'hlE := ⟨_, rfl⟩
            rw [← ht] at q0 q1 HT
            clear ht hlE
            obtain ⟨tv, tn, tk, ts, tN⟩ := t
            simp only at q0 q1 HT
            cases F
            · have HT2 : Hid (fineT N (E.take (m + 1)) = false) := by show _ = _; rw [HT.out]; rfl
              clear HT
              go_wp2
              go_quiet (fail)
              go_wp2
              go_roundw
              case rel => exact ⟨m + 1, by omega, by simp, by rw [HT2.out], bel_drewN HB.out _⟩
              case measure => simp [intOf]; omega
            · cases tv
              · have HT2 : Hid (fineT N (E.take (m + 1)) = true) := by show _ = _; rw [HT.out]; rfl
                clear HT
                go_wp2
                go_quiet (fail)
                go_wp2
                go_roundw
                case rel => exact ⟨m + 1, by omega, by simp, by rw [HT2.out], bel_drewN HB.out _⟩
                case measure => simp [intOf]; omega
              · have HT2 : Hid (fineT N (E.take (m + 1)) = inN N tn) := by show _ = _; rw [HT.out]; rfl
                have HK : Hid (∀ W, Below wr.heap.size wr W → W.cell? ⟨w.heap.size, 0, none⟩ = some (.string r.head.p) ∧ W.cell? ⟨w.heap.size, 1, none⟩ = some (.slice xo r.head.args.length xc) ∧ W.cell? ⟨w.heap.size, 2, none⟩ = some (.slice yo r.body.length yc) ∧ W.cell? ⟨b, off + m * 5, none⟩ = some (.bool true) ∧ W.cell? ⟨b, off + m * 5 + 1, none⟩ = some (.string tn) ∧ Below wr.heap.size wr W) := fun W hW => five_keep r0 r1 r2 q0 q1 hW
                have HQ : Hid (∀ W, Below wr.heap.size wr W → Calls Try.prog 20 #[.agg #[.string r.head.p, .slice xo r.head.args.length xc, .slice yo r.body.length yc], .string tn] W fun e w' => e = .returned (.bool (inN N tn)) ∧ Below wr.heap.size wr w') := fun W hW =>
                  (HQB.out tn W (below_to HBX.out hW (Nat.le_refl _))).mono fun e w' ⟨h, hb⟩ => ⟨h, below_to hW hb (Nat.le_refl _)⟩
                obtain ⟨f2, hf2⟩ : ∃ f2, f2 = inN N tn := ⟨_, rfl⟩
                rw [← hf2] at HQ HT2
                clear HT hf2
                go_wp2
                go_region_held3 (fun W => W.cell? ⟨w.heap.size, 0, none⟩ = some (.string r.head.p) ∧ W.cell? ⟨w.heap.size, 1, none⟩ = some (.slice xo r.head.args.length xc) ∧ W.cell? ⟨w.heap.size, 2, none⟩ = some (.slice yo r.body.length yc) ∧ W.cell? ⟨b, off + m * 5, none⟩ = some (.bool true) ∧ W.cell? ⟨b, off + m * 5 + 1, none⟩ = some (.string tn) ∧ Below wr.heap.size wr W)
                  (first | assumption | exact HK.out _ hbN | exact HK.out _ (Below.refl _ _).drew)
                  (first | (go_at_call 20; refine (HQ.out _ (by go_split_ands; assumption)).mono ?_; rintro e w7 ⟨rfl, hbN⟩))
                go_split_ands
                go_wp2
                go_roundw
                case rel => exact ⟨m + 1, by omega, by simp, by rw [HT2.out], below_to HB.out (by assumption) (Nat.le_refl _)⟩
                case measure => simp [intOf]; omega
          · have hltI2 : ¬ (m : Int) < (n : Int) := by omega
            have HFF : Hid ((e1 == 0) = F) := by
              show _ = _
              rw [hF, HFE.out, List.take_of_length_le (by have := HNE.out; omega)]
            clear hF
            cases F
            · have hff : (e1 == 0) = false := HFF.out
              go_wp2_with (go_at_call 11; refine (HQC.out _ HBX.out).mono ?_; clear HQC; rintro e w8 ⟨rfl, hb8⟩; have HB8 := Lib.hid (below_to HBX.out hb8 (Nat.le_refl _)); clear hb8)
              go_ret
              exact ⟨rfl, below_to HW.out HB8.out (Nat.le_refl _)⟩
            · have hff : (e1 == 0) = true := HFF.out
              go_wp2_with (go_at_call 11; refine (HQC.out _ HBX.out).mono ?_; clear HQC; rintro e w8 ⟨rfl, hb8⟩; have HB8 := Lib.hid (below_to HBX.out hb8 (Nat.le_refl _)); clear hb8)
              go_ret
              exact ⟨rfl, below_to HW.out HB8.out (Nat.le_refl _)⟩
  · have HFW : Hid (∀ W, Below W0.heap.size W0 W → Calls Try.prog 10 #[.agg #[.string r.head.p, .slice xo r.head.args.length xc, .slice yo r.body.length yc]] W fun e w' => e = .returned (.bool false) ∧ Below W.heap.size W w') := fun W hW => few_is ⟨fun h => by (cases h), fun h => absurd h hf⟩ (HX.out.below stayTm hW) (HY.out.below stayLt hW)
    clear hf
    go_enter Try.func4, Try.ntmps4
    go_wp2_with (first
      | (go_at_call 9; refine HSH.out.mono ?_; clear HSH; rintro e w1 ⟨rfl, hb1⟩; rw [← hW0] at hb1; have HB1 := Lib.hid hb1; clear hb1; obtain ⟨r0, r1, r2, rlt⟩ := HC.out _ HB1.out)
      | (go_at_call 10; refine (HFW.out _ HB1.out).mono ?_; clear HFW; rintro e w2 ⟨rfl, hb2⟩; have HB2 := Lib.hid (below_to HB1.out hb2 (Nat.le_refl _)); clear hb2))
    go_ret
    exact ⟨rfl, below_to HW.out HB2.out (Nat.le_refl _)⟩
end Go.Proofs.Ytcpdikhiodbdjaa
