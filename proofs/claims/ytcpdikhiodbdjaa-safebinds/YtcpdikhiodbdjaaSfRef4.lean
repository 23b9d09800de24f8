/-
  Contracts of the document's Sorted and Bound.
-/
import Derived.Test.YtcpdikhiodbdjaaSfAll
namespace Go.Proofs.Ytcpdikhiodbdjaa
set_option linter.unusedSimpArgs false
set_option linter.unusedVariables false
set_option linter.unusedSectionVars false
set_option maxRecDepth 100000
open Go.RowKit Go.Maps

/-- A cut as a step of a walk. -/
theorem wpList_cut_to {P : Program} {ops : Array Oper} {rest : List Oper} {o : Oper} {a : Act} {Q : Exit → Act → World → Prop} {w : World} (hg : o.guard = none) (s x : Operand) (t : TypeId) (ht : P.underlying t = some (.slice (P.elem t))) {sv xv v : Value} (ho : o.op = .slice t s none (some x) none) (hs : a.eval s = sv) (hx : a.eval x = xv)
    (hrun : (Instr.slice t sv none (some xv) none).run P w = .ok v w) (h : wpList P ops Q rest (a.put o.dst v) w) : wpList P ops Q (o :: rest) a w := by
  refine wpList_plain hg fun K hK => ?_
  have e : (Instr.sliceAt t sv none (some xv) none).run P w = .ok v w := by simp [Instr.sliceAt, run_underlying ht]; exact hrun
  unfold Oper.wp
  simp [execOp, ho, hs, hx, e, Result.andThen]
  exact hK _ _ h
theorem wpList_cut_from {P : Program} {ops : Array Oper} {rest : List Oper} {o : Oper} {a : Act} {Q : Exit → Act → World → Prop} {w : World} (hg : o.guard = none) (s x : Operand) (t : TypeId) (ht : P.underlying t = some (.slice (P.elem t))) {sv xv v : Value} (ho : o.op = .slice t s (some x) none none) (hs : a.eval s = sv) (hx : a.eval x = xv)
    (hrun : (Instr.slice t sv (some xv) none none).run P w = .ok v w) (h : wpList P ops Q rest (a.put o.dst v) w) : wpList P ops Q (o :: rest) a w := by
  refine wpList_plain hg fun K hK => ?_
  have e : (Instr.sliceAt t sv (some xv) none none).run P w = .ok v w := by simp [Instr.sliceAt, run_underlying ht]; exact hrun
  unfold Oper.wp
  simp [execOp, ho, hs, hx, e, Result.andThen]
  exact hK _ _ h
theorem place_of : ∀ {L : List ByteArray} {s : ByteArray} {j : Nat}, Rising L → j ≤ L.length → (∀ x ∈ L.drop j, bLt s x) → (∀ h : 0 < j, ∀ h2 : j - 1 < L.length, ¬ bLt s (L[j - 1]'h2)) → placeN L s = j := by
  intro L s j hR hj hd hs
  have hlow : ∀ x ∈ L.take j, (fun x => !bLtB s x) x = true := by
    intro x hx
    obtain ⟨i, hi, rfl⟩ := List.mem_iff_getElem.1 hx
    have hi2 : i < j := by simp at hi; omega
    rw [List.getElem_take]
    have h2 : j - 1 < L.length := by omega
    have h3 := hs (by omega) h2
    have h4 : ¬ bLt s (L[i]'(by omega)) := by
      rcases Nat.lt_or_ge i (j - 1) with h | h
      · intro hb
        exact h3 (bLt_trans hb (List.pairwise_iff_getElem.1 hR _ _ (by omega) h2 h))
      · have : i = j - 1 := by omega
        subst this
        exact h3
    simp [bLtB_no h4]
  have hhi : (L.drop j).takeWhile (fun x => !bLtB s x) = [] := by
    cases hL : L.drop j with
    | nil => rfl
    | cons y M =>
      rw [List.takeWhile_cons, if_neg]
      simp [bLtB_iff.2 (hd y (by rw [hL]; simp))]
  unfold placeN
  have e : L = L.take j ++ L.drop j := (List.take_append_drop _ _).symm
  rw [e, List.takeWhile_append_of_pos hlow, hhi, List.append_nil]
  simp
  omega
theorem sort_take_old {M : List ByteArray} {k : Nat} (hk : k < M.length) (h : inN (sortN (M.take k)) (M[k]'hk) = true) : sortN (M.take (k + 1)) = sortN (M.take k) := by
  rw [List.take_succ_eq_append_getElem hk, sort_snoc, h]; rfl
theorem sort_take_new {M : List ByteArray} {k : Nat} (hk : k < M.length) (h : inN (sortN (M.take k)) (M[k]'hk) = false) : sortN (M.take (k + 1)) = insN (sortN (M.take k)) (M[k]'hk) := by
  rw [List.take_succ_eq_append_getElem hk, sort_snoc, h]; rfl
theorem OwnNm.cap {w0 W : World} {B n c : Nat} {o : Option Addr} {L : List ByteArray} (h : OwnNm w0 W B (.slice o n c) L) : c ≤ maxLen := by
  obtain ⟨cs, -, -, h2⟩ := h
  rcases h2 with ⟨e, -⟩ | ⟨g, cap, cur, e, -, -, -, h3, -⟩
  · cases e; exact Nat.zero_le _
  · cases e; exact h3

set_option maxHeartbeats 8000000 in
theorem rsorted_any {x : Value} {M : List ByteArray} {w : World} (hx : Nms w x M) (hl : M.length ≤ 5000000) :
    Calls Try.prog 28 #[x] w fun e w' => ∃ v, e = .returned v ∧ OwnNm w w' w.heap.size v (sortN M) ∧ Below w.heap.size w w' := by
  obtain ⟨xo, xc, rfl, -⟩ := hx.form
  have hmI : (M.length : Int) ≤ 5000000 := by omega
  have HX := Lib.hid hx
  clear hx
  go_enter Try.func28, Try.ntmps28
  go_wp2
  go_loopw [3, 4] (fun v i wr => ∃ (k n : Nat) (o : Option Addr) (c : Nat), k ≤ M.length ∧ i = .int .i64 (k : Int) ∧ v = .slice o n c ∧ Hid (n = (sortN (M.take k)).length) ∧ Hid (OwnNm w wr w.heap.size (.slice o n c) (sortN (M.take k)) ∧ Below w.heap.size w wr))
    (fun _ i _ => M.length - (intOf i).toNat)
  case atStart => exact ⟨0, 0, none, 0, Nat.zero_le _, rfl, rfl, rfl, OwnW.nil _ _ _, Below.refl _ _⟩
  case round =>
    obtain ⟨k, n, o, c, hk, rfl, rfl, HN, HS⟩ := hrel
    by_cases hlt : k < M.length
    · have hltI : (k : Int) < (M.length : Int) := by omega
      obtain ⟨b, off, rfl, hbl, q0⟩ := Nms.at (RdL.below stayNm HX.out HS.out.2) k hlt
      have HLL : Hid ((sortN (M.take k)).length ≤ 5000000) := by show _ ≤ _; have := sort_len (M.take k); simp at this; omega
      have HSO : Hid (inN (sortN (M.take k)) (M[k]'hlt) = true → sortN (M.take (k + 1)) = sortN (M.take k)) := fun h => sort_take_old hlt h
      have HSN : Hid (inN (sortN (M.take k)) (M[k]'hlt) = false → sortN (M.take (k + 1)) = insN (sortN (M.take k)) (M[k]'hlt)) := fun h => sort_take_new hlt h
      have HRI := Lib.hid (sort_rising (M.take k))
      obtain ⟨s, hs⟩ : ∃ s, s = M[k]'hlt := ⟨_, rfl⟩
      rw [← hs] at q0 HSO HSN
      clear hs
      obtain ⟨L, hL⟩ : ∃ L, L = sortN (M.take k) := ⟨_, rfl⟩
      rw [← hL] at HLL HSO HSN HRI HN HS
      clear hL
      have HQ := Lib.hid (rin_any (HS.out.1.rd HS.out.2 (by have := HLL.out; unfold maxLen; omega)) s)
      cases hi : inN L s
      · rw [hi] at HQ
        have HT := Lib.hid (HSN.out hi)
        clear HSO HSN hi
        have hnI : (n : Int) ≤ 5000000 := by have := HLL.out; have := HN.out; omega
        go_wp2_with (go_at_call 21; refine HQ.out.mono ?_; clear HQ; rintro e w1 ⟨rfl, hw1⟩; obtain rfl : wr = w1 := hw1.symm)
        obtain ⟨wo, hwo⟩ : ∃ wo, wo = wr := ⟨_, rfl⟩
        rw [← hwo] at HS q0 ⊢
        clear hwo
        go_loopw [5] (fun jv wr => ∃ j : Nat, j ≤ n ∧ jv = .int .i64 (j : Int) ∧ Hid (∀ x ∈ L.drop j, bLt s x) ∧ Hid (Below wo.heap.size wo wr)) (fun jv _ => (intOf jv).toNat)
        case atStart => exact ⟨n, Nat.le_refl _, rfl, Lib.hid (fun x hx => by rw [List.drop_of_length_le (by have := HN.out; omega)] at hx; simp at hx), Below.refl _ _⟩
        case round =>
          obtain ⟨j, hj, rfl, HJ, HW⟩ := hrel
          have p0 : wr.cell? ⟨b, off + k, none⟩ = some (.string s) := (HW.out.cell (p := ⟨b, off + k, none⟩) (lt_of_cell q0)).trans q0
          have hpl := lt_of_cell p0
          have hjL : j ≤ L.length := by have := HN.out; omega
          have hjI : (j : Int) ≤ (n : Int) := by omega
          have hrd : ∀ q, Nms (wr.drewN q) (.slice o n c) L := fun q => (HS.out.1.rd HS.out.2 (by have := HLL.out; unfold maxLen; omega)).below stayNm (bel_drewN HW.out q)
          have hnc : n ≤ c := by obtain ⟨ao, cap, e, h1, -⟩ := hrd 0; cases e; rw [HN.out]; exact h1.1
          have hcm := HS.out.1.cap
          have hrun1 : ∀ W, (Instr.slice 44 (.slice o n c) none (some (.int .i64 (j : Int))) none).run Try.prog W = .ok (sliced o 0 j c 1) W := fun W => cut_to elNm o n c j (by omega) hcm W
          have hrun2 : ∀ W, (Instr.slice 44 (.slice o n c) (some (.int .i64 (j : Int))) none none).run Try.prog W = .ok (sliced o j n c 1) W := fun W => cut_from elNm o n c j (by omega) W
          have HP9 : Hid (∀ q W, Below (wr.drewN q).heap.size (wr.drewN q) W → W.cell? ⟨b, off + k, none⟩ = some (.string s) ∧ b < W.heap.size) := fun q W hW => ⟨(hW.cell (p := ⟨b, off + k, none⟩) hpl).trans p0, Nat.lt_of_lt_of_le hpl hW.size⟩
          have HX9 : Hid (∀ q, Nms (wr.drewN q) (sliced o 0 j c 1) (L.take j) ∧ Nms (wr.drewN q) (sliced o j n c 1) (L.drop j) ∧ Below w.heap.size w (wr.drewN q) ∧ w.heap.size ≤ (wr.drewN q).heap.size) := fun q => by
            have h := hrd q
            have h0 : Below w.heap.size w (wr.drewN q) := HS.out.2.trans ((bel_drewN HW.out q).mono HS.out.2.size)
            rw [HN.out] at h ⊢
            have h1 := (h.sliced (i := 0) (j := j) (Nat.zero_le _) hjL).1
            have h2 := (h.sliced (i := j) (j := L.length) hjL (Nat.le_refl _)).1
            rw [List.drop_zero] at h1
            rw [List.take_length] at h2
            exact ⟨h1, h2, h0, h0.size⟩
          obtain ⟨y1, hy1⟩ : ∃ y1, y1 = sliced o 0 j c 1 := ⟨_, rfl⟩
          obtain ⟨y2, hy2⟩ : ∃ y2, y2 = sliced o j n c 1 := ⟨_, rfl⟩
          rw [← hy1] at hrun1 HX9
          rw [← hy2] at hrun2 HX9
          clear hy1 hy2
          have HPL : Hid ((∀ h : 0 < j, ∀ h2 : j - 1 < L.length, ¬ bLt s (L[j - 1]'h2)) → sortN (M.take (k + 1)) = (([] ++ L.take j) ++ [s]) ++ L.drop j) := fun h => by
            rw [HT.out, insN, place_of HRI.out hjL HJ.out h]; simp
          by_cases hz : j = 0
          · subst hz
            have HT2 := Lib.hid (HPL.out (fun h => absurd h (by omega)))
            clear HPL HJ hrd p0 hcm
            have g0 : decide (0 < (0 : Int)) = false := by decide
            go_wp2
            go_quiet (fail)
            go_wp2_with (first
              | (refine wpList_cut_to rfl _ _ 44 (sizeOf_el elNm w).2 rfl rfl rfl (hrun1 _) ?_)
              | (refine wpList_cut_from rfl _ _ 44 (sizeOf_el elNm w).2 rfl rfl rfl (hrun2 _) ?_)
              | (at_builtin; refine wpList_append_all rfl _ _ 44 rfl elNm cellRNm _ (.slice (some ⟨_, 0, none⟩) 0 0) [] rfl (OwnW.made (Nat.le_refl _) (heap1L _ _)) y1 (L.take 0) rfl (HX9.out _).1 (al_bel _ _) (by have := HLL.out; unfold maxLen; first | (simp; omega) | simp) (by have := HLL.out; first | (simp; omega) | simp) (by simp) ?_; intro v4 w4 h4 hb4 hg4 hl4; obtain ⟨p4, p5⟩ := HP9.out _ w4 ((al_bel _ _).trans hb4); have HO4 := Lib.hid h4; have HB4 := Lib.hid ((al_bel _ _).trans hb4); clear h4 hb4 hg4 hl4)
              | (at_builtin; refine wpList_append_one rfl _ _ 44 rfl elNm _ v4 ([] ++ L.take 0) rfl (HO4.out.below (al_bel _ _)) (b := w4.heap.size) (cap := 1) rfl s _ (cellW_nm _ _) (Blk.new _ _ _) rfl (by have := HLL.out; unfold maxLen; first | (simp; omega) | simp) (by have := HLL.out; first | (simp; omega) | simp) (by have := HB4.out.size; simp at this ⊢; omega) ?_; intro v5 w5 h5 hb5 hg5 hl5; have HO5 := Lib.hid h5; have HB5 := Lib.hid ((HB4.out.alloc HB4.out.size _).trans hb5); clear h5 hb5 hg5 hl5)
              | (at_builtin; refine wpList_append_all rfl _ _ 44 rfl elNm cellRNm _ v5 (([] ++ L.take 0) ++ [s]) rfl HO5.out y2 (L.drop 0) rfl (HX9.out _).2.1 HB5.out (by have := HLL.out; unfold maxLen; first | (simp; omega) | simp) (by have := HLL.out; first | (simp; omega) | simp) (by have := HB5.out.size; simp at this ⊢; omega) ?_; intro v6 w6 h6 hb6 hg6 hl6; obtain ⟨o6, n6, c6, rfl, hn6⟩ := h6.formN; have HO6 := Lib.hid h6; have HN6 := Lib.hid hn6; have HB6 := Lib.hid (HB5.out.trans hb6); clear h6 hb6 hg6 hl6 hn6))
            go_roundw
            case rel => exact ⟨k + 1, n6, o6, c6, by omega, by simp, rfl, by rw [HT2.out]; exact HN6, by rw [HT2.out]; exact ⟨OwnNm.base HO6.out (HX9.out _).2.2.2, (HX9.out _).2.2.1.trans (HB6.out.mono (HX9.out _).2.2.2)⟩⟩
            case measure => simp [intOf]; omega
          · obtain ⟨j1, rfl⟩ : ∃ j1, j = j1 + 1 := ⟨j - 1, by omega⟩
            have hj1L : j1 < L.length := by omega
            obtain ⟨bo, oo, rfl, hbo9, d9⟩ := Nms.at (hrd 0) j1 hj1L
            have d0 : wr.cell? ⟨bo, oo + j1, none⟩ = some (.string (L[j1]'hj1L)) := d9
            have hbo : bo < wr.heap.size := lt_of_cell d0
            clear d9 hbo9
            have HDR : Hid (bLt s (L[j1]'hj1L) → ∀ x ∈ L.drop j1, bLt s x) := fun h x hx => by
              rw [← List.getElem_cons_drop hj1L] at hx
              rcases List.mem_cons.1 hx with rfl | hx
              · exact h
              · exact HJ.out x hx
            have HPL2 : Hid (¬ bLt s (L[j1]'hj1L) → sortN (M.take (k + 1)) = (([] ++ L.take (j1 + 1)) ++ [s]) ++ L.drop (j1 + 1)) := fun h => HPL.out (fun _ h2 => h)
            obtain ⟨d, hd⟩ : ∃ d, d = L[j1]'hj1L := ⟨_, rfl⟩
            rw [← hd] at d0 HDR HPL2
            clear hd HPL HJ hrd hj1L
            have g0 : decide (0 < ((j1 + 1 : Nat) : Int)) = true := decide_eq_true (by omega)
            have g1 : decide (0 < j1 + 1) = true := decide_eq_true (by omega)
            have w0 : IntKind.i64.wrap (((j1 + 1 : Nat) : Int) - 1) = (j1 : Int) := by rw [IntKind.wrap_i64]; omega
            have w1 : IntKind.i64.wrap ((j1 : Int) + 1 - 1) = (j1 : Int) := by rw [IntKind.wrap_i64]; omega
            have w2 : IntKind.i64.wrap (j1 : Int) = (j1 : Int) := by rw [IntKind.wrap_i64]; omega
            have hj1I : (j1 : Int) < (n : Int) := by omega
            have hj1I2 : (j1 : Int) + 1 ≤ (n : Int) := by omega
            have htri : bLt s d ∨ ¬ bLt s d := Classical.em _
            rcases htri with hB | hB
            · have HDR2 := Lib.hid (HDR.out hB)
              have hb1 : Op.bytesLess d.toList s.toList = false := by rw [less_bLt]; exact bLtB_no (bLt_asymm hB)
              have hb2 : (d.toList == s.toList) = false := by rw [strBeq]; exact decide_eq_false (fun e => bLt_irrefl s (by rw [e] at hB; exact hB))
              clear HPL2 HDR hB
              go_wp2
              go_quiet (fail)
              go_wp2
              go_roundw
              case rel => exact ⟨j1, by omega, by simp, HDR2, bel_drewN HW.out _⟩
              case measure => simp [intOf]
            · have HT2 := Lib.hid (HPL2.out hB)
              by_cases hlt9 : bLt d s
              · have hb1 : Op.bytesLess d.toList s.toList = true := by rw [less_bLt]; exact bLtB_iff.2 hlt9
                clear HPL2 HDR hB hlt9
                go_wp2
                go_quiet (fail)
                go_wp2_with (first
                  | (refine wpList_cut_to rfl _ _ 44 (sizeOf_el elNm w).2 rfl rfl rfl (hrun1 _) ?_)
                  | (refine wpList_cut_from rfl _ _ 44 (sizeOf_el elNm w).2 rfl rfl rfl (hrun2 _) ?_)
                  | (at_builtin; refine wpList_append_all rfl _ _ 44 rfl elNm cellRNm _ (.slice (some ⟨_, 0, none⟩) 0 0) [] rfl (OwnW.made (Nat.le_refl _) (heap1L _ _)) y1 (L.take (j1 + 1)) rfl (HX9.out _).1 (al_bel _ _) (by have := HLL.out; unfold maxLen; first | (simp; omega) | simp) (by have := HLL.out; first | (simp; omega) | simp) (by simp) ?_; intro v4 w4 h4 hb4 hg4 hl4; obtain ⟨p4, p5⟩ := HP9.out _ w4 ((al_bel _ _).trans hb4); have HO4 := Lib.hid h4; have HB4 := Lib.hid ((al_bel _ _).trans hb4); clear h4 hb4 hg4 hl4)
                  | (at_builtin; refine wpList_append_one rfl _ _ 44 rfl elNm _ v4 ([] ++ L.take (j1 + 1)) rfl (HO4.out.below (al_bel _ _)) (b := w4.heap.size) (cap := 1) rfl s _ (cellW_nm _ _) (Blk.new _ _ _) rfl (by have := HLL.out; unfold maxLen; first | (simp; omega) | simp) (by have := HLL.out; first | (simp; omega) | simp) (by have := HB4.out.size; simp at this ⊢; omega) ?_; intro v5 w5 h5 hb5 hg5 hl5; have HO5 := Lib.hid h5; have HB5 := Lib.hid ((HB4.out.alloc HB4.out.size _).trans hb5); clear h5 hb5 hg5 hl5)
                  | (at_builtin; refine wpList_append_all rfl _ _ 44 rfl elNm cellRNm _ v5 (([] ++ L.take (j1 + 1)) ++ [s]) rfl HO5.out y2 (L.drop (j1 + 1)) rfl (HX9.out _).2.1 HB5.out (by have := HLL.out; unfold maxLen; first | (simp; omega) | simp) (by have := HLL.out; first | (simp; omega) | simp) (by have := HB5.out.size; simp at this ⊢; omega) ?_; intro v6 w6 h6 hb6 hg6 hl6; obtain ⟨o6, n6, c6, rfl, hn6⟩ := h6.formN; have HO6 := Lib.hid h6; have HN6 := Lib.hid hn6; have HB6 := Lib.hid (HB5.out.trans hb6); clear h6 hb6 hg6 hl6 hn6))
                go_roundw
                case rel => exact ⟨k + 1, n6, o6, c6, by omega, by simp, rfl, by rw [HT2.out]; exact HN6, by rw [HT2.out]; exact ⟨OwnNm.base HO6.out (HX9.out _).2.2.2, (HX9.out _).2.2.1.trans (HB6.out.mono (HX9.out _).2.2.2)⟩⟩
                case measure => simp [intOf]; omega
              · have hb1 : Op.bytesLess d.toList s.toList = false := by rw [less_bLt]; exact bLtB_no hlt9
                have hb2 : (d.toList == s.toList) = true := by rw [strBeq]; exact decide_eq_true (bLt_total hlt9 hB)
                clear HPL2 HDR hB hlt9
                go_wp2
                go_quiet (fail)
                go_wp2_with (first
                  | (refine wpList_cut_to rfl _ _ 44 (sizeOf_el elNm w).2 rfl rfl rfl (hrun1 _) ?_)
                  | (refine wpList_cut_from rfl _ _ 44 (sizeOf_el elNm w).2 rfl rfl rfl (hrun2 _) ?_)
                  | (at_builtin; refine wpList_append_all rfl _ _ 44 rfl elNm cellRNm _ (.slice (some ⟨_, 0, none⟩) 0 0) [] rfl (OwnW.made (Nat.le_refl _) (heap1L _ _)) y1 (L.take (j1 + 1)) rfl (HX9.out _).1 (al_bel _ _) (by have := HLL.out; unfold maxLen; first | (simp; omega) | simp) (by have := HLL.out; first | (simp; omega) | simp) (by simp) ?_; intro v4 w4 h4 hb4 hg4 hl4; obtain ⟨p4, p5⟩ := HP9.out _ w4 ((al_bel _ _).trans hb4); have HO4 := Lib.hid h4; have HB4 := Lib.hid ((al_bel _ _).trans hb4); clear h4 hb4 hg4 hl4)
                  | (at_builtin; refine wpList_append_one rfl _ _ 44 rfl elNm _ v4 ([] ++ L.take (j1 + 1)) rfl (HO4.out.below (al_bel _ _)) (b := w4.heap.size) (cap := 1) rfl s _ (cellW_nm _ _) (Blk.new _ _ _) rfl (by have := HLL.out; unfold maxLen; first | (simp; omega) | simp) (by have := HLL.out; first | (simp; omega) | simp) (by have := HB4.out.size; simp at this ⊢; omega) ?_; intro v5 w5 h5 hb5 hg5 hl5; have HO5 := Lib.hid h5; have HB5 := Lib.hid ((HB4.out.alloc HB4.out.size _).trans hb5); clear h5 hb5 hg5 hl5)
                  | (at_builtin; refine wpList_append_all rfl _ _ 44 rfl elNm cellRNm _ v5 (([] ++ L.take (j1 + 1)) ++ [s]) rfl HO5.out y2 (L.drop (j1 + 1)) rfl (HX9.out _).2.1 HB5.out (by have := HLL.out; unfold maxLen; first | (simp; omega) | simp) (by have := HLL.out; first | (simp; omega) | simp) (by have := HB5.out.size; simp at this ⊢; omega) ?_; intro v6 w6 h6 hb6 hg6 hl6; obtain ⟨o6, n6, c6, rfl, hn6⟩ := h6.formN; have HO6 := Lib.hid h6; have HN6 := Lib.hid hn6; have HB6 := Lib.hid (HB5.out.trans hb6); clear h6 hb6 hg6 hl6 hn6))
                go_roundw
                case rel => exact ⟨k + 1, n6, o6, c6, by omega, by simp, rfl, by rw [HT2.out]; exact HN6, by rw [HT2.out]; exact ⟨OwnNm.base HO6.out (HX9.out _).2.2.2, (HX9.out _).2.2.1.trans (HB6.out.mono (HX9.out _).2.2.2)⟩⟩
                case measure => simp [intOf]; omega
      · rw [hi] at HQ
        have HT := Lib.hid (HSO.out hi)
        clear HSO HSN hi
        go_wp2_with (go_at_call 21; refine HQ.out.mono ?_; clear HQ; rintro e w1 ⟨rfl, hw1⟩; obtain rfl : wr = w1 := hw1.symm)
        go_roundw
        case rel => exact ⟨k + 1, n, o, c, by omega, by simp, rfl, by rw [HT.out]; exact HN, by rw [HT.out]; exact HS⟩
        case measure => simp [intOf]; omega
    · have hltI : ¬ (k : Int) < (M.length : Int) := by omega
      obtain rfl : k = M.length := by omega
      go_wp2
      go_ret
      have := HS.out
      rw [List.take_length] at this
      exact ⟨_, rfl, this.1, this.2⟩

set_option maxHeartbeats 4000000 in
theorem rbound_any {r : Ru} {x y : Value} {w : World} (hx : Tms w x r.head.args) (hy : Lts w y r.body) (hS : SmRu r) :
    Calls Try.prog 19 #[.agg #[.string r.head.p, x, y]] w fun e w' => ∃ v, e = .returned v ∧ OwnNm w w' w.heap.size v (bndR r) ∧ Below w.heap.size w w' := by
  have HBL := Lib.hid hS.pos
  have HBT := Lib.hid (fun k => hS.pos_take k)
  have HE := Lib.hid hS.each
  have HBN : Hid (bndR r = sortN (posN r.body)) := rfl
  rw [HBN.out]
  clear HBN
  obtain ⟨xo, xc, rfl, -⟩ := hx.form
  obtain ⟨yo, yc, rfl, -, hym⟩ := hy.form
  unfold maxLen at hym
  have HY := Lib.hid hy
  clear hx hy hS
  go_enter Try.func19, Try.ntmps19
  go_wp2
  go_loopw [3, 4] (fun v i wr => ∃ (k n : Nat) (o : Option Addr) (c : Nat), k ≤ r.body.length ∧ i = .int .i64 (k : Int) ∧ v = .slice o n c ∧ Hid (n = (posN (r.body.take k)).length) ∧ Hid (VarS w wr (.slice o n c) (posN (r.body.take k)) (.cells #[.string r.head.p, .slice xo r.head.args.length xc, .slice yo r.body.length yc] 27)))
    (fun _ i _ => r.body.length - (intOf i).toNat)
  case atStart => exact ⟨0, 0, none, 0, Nat.zero_le _, rfl, rfl, rfl, OwnW.nil _ _ _, al_bel _ _, Blk.new _ _ _⟩
  case round =>
    obtain ⟨k, n, o, c, hk, rfl, rfl, HN, HS⟩ := hrel
    obtain ⟨b0, b1, b2, blt⟩ := box3 HS.out.2.2
    by_cases hlt : k < r.body.length
    · have hltI : (k : Int) < (r.body.length : Int) := by omega
      obtain ⟨b, off, cs, rfl, hbl, ⟨xa, rfl, hxa⟩, hcell⟩ := (show Lts wr (.slice yo r.body.length yc) r.body from HY.out.below stayLt HS.out.2.1).at k hlt
      have q0 := hcell 0 _ rfl
      have q1 := hcell 1 _ rfl
      have q2 := hcell 2 _ rfl
      simp only [Nat.add_zero] at q0
      have HT := Lib.hid (pos_take hlt)
      have HLEN := Lib.hid (HBT.out k)
      have HLEN2 := Lib.hid (HBT.out (k + 1))
      have hel := HE.out _ (List.getElem_mem hlt)
      clear hcell
      obtain ⟨l, hl⟩ : ∃ l, l = r.body[k]'hlt := ⟨_, rfl⟩
      rw [← hl] at q0 q1 HT hxa hel
      clear hl
      obtain ⟨kind, ⟨lp, la⟩, lop, ll, lr⟩ := l
      simp only at q0 q1 HT hxa hel
      obtain ⟨ao, ac, rfl, -⟩ := hxa.form
      have HXA := Lib.hid hxa
      have HEL := Lib.hid hel
      clear hxa hel
      obtain ⟨L, hL⟩ : ∃ L, L = posN (r.body.take k) := ⟨_, rfl⟩
      rw [← hL] at HT HLEN HS HN
      clear hL
      by_cases h1 : kind = 1
      · subst h1
        have HT2 : Hid (posN (r.body.take (k + 1)) = L ++ varsA la) := by show _ = _; rw [HT.out, if_pos rfl]
        have HLE : Hid (L.length + (varsA la).length ≤ 5000000) := by have := HLEN2.out; rw [HT2.out, List.length_append] at this; exact this
        have HQ := Lib.hid (rvars_any (a := ⟨lp, la⟩) HXA.out (by have := HEL.out; simp; omega))
        clear HT
        go_wp2_with (first
          | (go_at_call 17; refine HQ.out.mono ?_; clear HQ; rintro e w1 ⟨v1, rfl, h1, hb1⟩; have HR1 := Lib.hid (OwnNm.rd h1 hb1 (by have := HLE.out; unfold maxLen; omega)); have HB1 := Lib.hid hb1; clear h1 hb1)
          | (at_builtin; refine wpList_append_all (w0 := w1) rfl _ _ 44 rfl elNm cellRNm (w.heap.size + 1) (.slice o n c) L rfl ((HS.out.below HB1.out).1.base (Nat.le_refl _)) v1 (varsA la) rfl HR1.out (Below.refl _ _) (by have := HLE.out; unfold maxLen; omega) (by have := HLE.out; omega) (by have := HS.out.lt; have := HB1.out.size; omega) ?_; intro v2 w2 h2 hb2 hg2 hl2; obtain ⟨o2, n2, c2, rfl, hn2⟩ := h2.formN; have HN2 := Lib.hid hn2; have HO2 := Lib.hid h2; have HG2 := Lib.hid hg2; clear h2 hb2 hg2 hl2 hn2))
        go_roundw
        case rel => exact ⟨k + 1, n2, o2, c2, by omega, by simp, rfl, by rw [HT2.out]; exact HN2, by rw [HT2.out]; exact (HS.out.below HB1.out).grown (OwnNm.base HO2.out (Nat.le_refl _)) HG2.out⟩
        case measure => simp [intOf]; omega
      · have e1 : (kind == 1) = false := beq_eq_false_iff_ne.2 h1
        have HT2 : Hid (posN (r.body.take (k + 1)) = L) := by show _ = _; rw [HT.out, if_neg h1, List.append_nil]
        clear HT h1
        go_wp2
        go_roundw
        case rel => exact ⟨k + 1, n, o, c, by omega, by simp, rfl, by rw [HT2.out]; exact HN, by rw [HT2.out]; exact HS⟩
        case measure => simp [intOf]; omega
    · have hltI : ¬ (k : Int) < (r.body.length : Int) := by omega
      obtain rfl : k = r.body.length := by omega
      rw [List.take_length] at HS HN
      have HQ := Lib.hid (rsorted_any (HS.out.1.rd HS.out.2.1 (by have := HBL.out; unfold maxLen; omega)) HBL.out)
      go_wp2_with (go_at_call 28; refine HQ.out.mono ?_; clear HQ; rintro e w1 ⟨v1, rfl, h1, hb1⟩; obtain ⟨o1, c1, rfl⟩ := h1.form; have HO1 := Lib.hid h1; have HB1 := Lib.hid hb1; clear h1 hb1)
      go_ret
      exact ⟨_, rfl, HO1.out.base HS.out.2.1.size, HS.out.2.1.trans (HB1.out.mono HS.out.2.1.size)⟩
end Go.Proofs.Ytcpdikhiodbdjaa
