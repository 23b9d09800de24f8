/-
  SafeVars's walk.
-/
import Derived.Test.YtcpdikhiodbdjaaSfShown
namespace Go.Proofs.Ytcpdikhiodbdjaa
set_option linter.unusedSimpArgs false
set_option linter.unusedVariables false
set_option linter.unusedSectionVars false
set_option maxRecDepth 100000
open Go.RowKit Go.Maps

theorem nodup_take {V : List ByteArray} (h : V.Nodup) {k : Nat} (hk : k < V.length) : inN (V.take k) (V[k]'hk) = false := by
  refine (inN_no _ _).2 (fun hm => ?_)
  obtain ⟨i, hi, e⟩ := List.mem_iff_getElem.1 hm
  rw [List.getElem_take] at e
  have hi2 : i < k := by simp at hi; omega
  have := (List.pairwise_iff_getElem.1 h) i k (by omega) hk hi2
  exact this e
theorem cellW_varT (w0 : World) (s : ByteArray) : CellW TmI 5 w0 (varT s) [.bool true, .string s, .bool false, .string ⟨#[]⟩, .int .i64 0] := ⟨rfl, by simp [Value.oneCell'], rfl⟩

set_option maxHeartbeats 8000000 in
theorem vars_walk {a : Am} {x : Value} {w : World} (hx : Tms w x a.args) (hO : OkAm a) :
    Calls Try.prog 7 #[.agg #[.string a.p, x]] w fun e w' => e = .returned (.bool true) ∧ Below w.heap.size w w' := by
  obtain ⟨p, A⟩ := a
  simp only at hx
  obtain ⟨xo, xc, rfl, -, hxm⟩ := hx.form
  unfold maxLen at hxm
  have HW := Lib.hid (al_bel w (.cells #[.string p, .slice xo A.length xc] 24))
  have HX := Lib.hid (hx.below stayTm HW.out)
  have HO := Lib.hid hO
  obtain ⟨W0, hW0⟩ : ∃ W0, W0 = w.alloc (.cells #[.string p, .slice xo A.length xc] 24) := ⟨_, rfl⟩
  have hbx : W0.heap[w.heap.size]? = some (.cells #[.string p, .slice xo A.length xc] 24 (0, 0)) := by rw [hW0]; exact Blk.new _ _ _
  have HBX := Lib.hid hbx
  rw [← hW0] at HW HX
  have HSH := Lib.hid (shown_any W0)
  rw [hW0] at HSH
  clear hx hO hbx
  by_cases hlen : A.length ≤ 100
  · have hlI : ¬ (100 : Int) < (A.length : Int) := by omega
    have HNO := Lib.hid (vars_nodup A)
    have HVL := Lib.hid (vars_len A)
    have HVM : Hid (∀ t ∈ A, t.v = true → inN (varsA A) t.name = true) := fun t ht hv => (inN_iff _ _).2 ((mem_vars _ _).2 ⟨t, ht, hv, rfl⟩)
    have HVO : Hid (OkAm ⟨⟨#[]⟩, (varsA A).map varT⟩) := fun t ht => by
      obtain ⟨s, hs, rfl⟩ := List.mem_map.1 ht
      obtain ⟨u, hu, -, rfl⟩ := (mem_vars _ _).1 hs
      exact ⟨by simp [varT, InR], (HO.out u hu).2⟩
    have HVN := Lib.hid (vars_names (varsA A) (vars_nodup A))
    go_enter Try.func7, Try.ntmps7
    go_wp2_with (first
      | (go_at_call 9; refine HSH.out.mono ?_; clear HSH; rintro e w1 ⟨rfl, hb1⟩; rw [← hW0] at hb1; have hc1 := (hb1.block _ (Array.getElem?_eq_some_iff.1 HBX.out).1).trans HBX.out; obtain ⟨c0, c1, clt⟩ := box2c hc1; have HB1 := Lib.hid hb1; have HC1 := Lib.hid hc1; clear hb1 hc1)
      | (go_at_call 16; refine (vars_any (a := ⟨p, A⟩) (HX.out.below stayTm HB1.out) (by simp; omega) HO.out).mono ?_; rintro e w2 ⟨v, rfl, h2, hb2⟩; have hc2 := (hb2.block _ (Array.getElem?_eq_some_iff.1 HC1.out).1).trans HC1.out; obtain ⟨d0, d1, dlt⟩ := box2c hc2; obtain ⟨vo, vn, vc, rfl, hvn⟩ := h2.formN; have HO2 := Lib.hid h2; have HN2 := Lib.hid hvn; have HB2 := Lib.hid (HB1.out.trans (hb2.mono HB1.out.size)); have HBL2 := Lib.hid hb2; have HC2 := Lib.hid hc2; clear h2 hb2 hc2 hvn c0 c1))
    clear clt
    have HV2 : Hid (Nms w2 (.slice vo vn vc) (varsA A)) := HO2.out.rd HBL2.out (by have := HVL.out; unfold maxLen; omega)
    have hvm : vn ≤ 100 := by have := HN2.out; have := HVL.out; omega
    have hvc := HO2.out.cap
    have hnc : vn ≤ vc := by obtain ⟨ao, cap, e, h1, -⟩ := HV2.out; cases e; rw [HN2.out]; exact h1.1
    have hvnI : (vn : Int) ≤ (A.length : Int) := by have := HN2.out; have := HVL.out; omega
    have hvmI : (vn : Int) ≤ 100 := by omega
    obtain ⟨V, hV⟩ : ∃ V, V = varsA A := ⟨_, rfl⟩
    rw [← hV] at HV2 HO2 HN2 HNO HVM HVO HVN
    clear hV
    clear HO2
    go_loopw [5, 6] (fun v i wr => ∃ (k n : Nat) (o : Option Addr) (c : Nat), k ≤ vn ∧ i = .int .i64 (k : Int) ∧ v = .slice o n c ∧ Hid (n = k) ∧ Hid (OwnW TmI 51 5 w2 wr w2.heap.size (.slice o n c) ((V.take k).map varT) ∧ Below w2.heap.size w2 wr))
      (fun _ i _ => vn - (intOf i).toNat)
    case atStart => exact ⟨0, 0, none, 0, Nat.zero_le _, rfl, rfl, rfl, OwnW.nil _ _ _, Below.refl _ _⟩
    case round =>
      obtain ⟨k, n, o, c, hk, rfl, rfl, HN, HS⟩ := hrel
      by_cases hlt : k < vn
      · have hltI : (k : Int) < (vn : Int) := by omega
        have hlV : k < V.length := by have := HN2.out; omega
        have hHV := HV2.out
        rw [HN2.out] at hHV
        have hrd : Nms wr (.slice vo V.length vc) V := RdL.below stayNm hHV HS.out.2
        have hrunT : ∀ W, (Instr.slice 44 (.slice vo vn vc) none (some (.int .i64 (k : Int))) none).run Try.prog W = .ok (sliced vo 0 k vc 1) W := fun W => cut_to elNm vo vn vc k (by omega) hvc W
        have hcut := (hrd.sliced (i := 0) (j := k) (Nat.zero_le _) (by omega)).1
        rw [List.drop_zero] at hcut
        obtain ⟨b, off, rfl, hbl, q0⟩ := Nms.at hrd k hlV
        obtain ⟨y1, hy1⟩ : ∃ y1, y1 = sliced (some ⟨b, off, none⟩) 0 k vc 1 := ⟨_, rfl⟩
        rw [← hy1] at hrunT hcut
        have HQ : Hid (∀ q, Calls Try.prog 21 #[y1, .string (V[k]'hlV)] (wr.drewN q) fun e w' => e = .returned (.bool false) ∧ w' = wr.drewN q) := fun q => by
          have := rin_any (RdL.below stayNm hcut (bel_drewN (Below.refl _ _) q)) (V[k]'hlV)
          rw [nodup_take HNO.out hlV] at this
          exact this
        have HT : Hid ((V.take (k + 1)).map varT = (V.take k).map varT ++ [varT (V[k]'hlV)]) := by show _ = _; rw [List.take_succ_eq_append_getElem hlV, List.map_append]; rfl
        have HLE : Hid (((V.take k).map varT).length = k) := by show _ = _; simp; omega
        obtain ⟨d, hd⟩ : ∃ d, d = V[k]'hlV := ⟨_, rfl⟩
        rw [← hd] at q0 HQ HT
        have hsz := HS.out.2.size
        clear hd hHV hrd hcut hy1
        go_wp2
        go_quiet ((go_at_call 21; refine Calls.quiet_of_same (HQ.out _)))
        go_wp2_with (first
          | (go_at_call 22; refine (v_any d _).mono ?_; rintro e w4 ⟨rfl, hb4⟩; have HB4 : Hid (Below wr.heap.size wr w4) := ⟨hb4.os, hb4.tape, hb4.output, hb4.size, hb4.block⟩; clear hb4)
          | (at_builtin; refine wpList_append_one rfl _ _ 22 rfl elTm w2.heap.size (.slice o n c) ((V.take k).map varT) rfl ((HS.out.1.below HB4.out).below (al_bel _ _)) (b := w4.heap.size) (cap := 1) rfl (varT d) _ (cellW_varT _ _) (Blk.new _ _ _) rfl (by have := HLE.out; unfold maxLen; omega) (by have := HLE.out; omega) (by have := HB4.out.size; simp; omega) ?_; intro v5 w5 h5 hb5 hg5 hl5; obtain ⟨o5, n5, c5, rfl, hn5⟩ := h5.formN; have HO5 := Lib.hid h5; have HN5 := Lib.hid hn5; have HB5 := Lib.hid ((HS.out.2.trans (HB4.out.mono hsz)).trans (((al_bel w4 _).mono (by have := HB4.out.size; omega)).trans hb5)); clear h5 hb5 hg5 hl5 hn5))
        go_roundw
        case rel => exact ⟨k + 1, n5, o5, c5, by omega, by simp, rfl, by have := HN5.out; have h2 := HLE.out; show n5 = k + 1; rw [this]; simp only [List.length_append, h2]; rfl, by rw [HT.out]; exact ⟨HO5.out, HB5.out⟩⟩
        case measure => simp [intOf]; omega
      · have hltI : ¬ (k : Int) < (vn : Int) := by omega
        obtain rfl : k = vn := by omega
        have HTM : Hid (Tms wr (.slice o n c) (V.map varT)) := by
          have := HS.out.1.rd stayTm HS.out.2 (by simp [maxLen]; omega)
          rw [List.take_of_length_le (by have := HN2.out; omega)] at this
          exact this
        have HB3 := Lib.hid HS.out.2
        clear HS HN
        go_wp2
        obtain ⟨wo, hwo⟩ : ∃ wo, wo = wr := ⟨_, rfl⟩
        rw [← hwo] at HTM HB3 ⊢
        clear hwo
        go_loopw [7] (fun i wr => ∃ k : Nat, k ≤ A.length ∧ i = .int .i64 (k : Int) ∧ Hid (Below wo.heap.size wo wr)) (fun i _ => A.length - (intOf i).toNat)
        case atStart => exact ⟨0, Nat.zero_le _, rfl, Below.refl _ _⟩
        case round =>
          obtain ⟨m, hm, rfl, HB⟩ := hrel
          have hb2 : Below w2.heap.size w2 wr := HB3.out.trans (HB.out.mono HB3.out.size)
          have HBW := Lib.hid hb2
          obtain ⟨e0, e1, elt⟩ := box2c ((hb2.block _ dlt).trans HC2.out)
          have HVW : Hid (Nms wr (.slice vo k vc) V) := RdL.below stayNm HV2.out hb2
          clear hb2
          by_cases hlt2 : m < A.length
          · have hltI2 : (m : Int) < (A.length : Int) := by omega
            obtain ⟨b, off, cs, rfl, hbl, hR, hcell⟩ := (show Tms wr (.slice xo A.length xc) A from (HX.out.below stayTm HB2.out).below stayTm HBW.out).at m hlt2
            obtain rfl : cs = _ := hR
            have q0 := hcell 0 _ rfl
            have q1 := hcell 1 _ rfl
            simp only [Nat.add_zero] at q0
            have HVM2 := Lib.hid (HVM.out _ (List.getElem_mem hlt2))
            clear hcell
            obtain ⟨t, ht⟩ : ∃ t, t = A[m]'hlt2 := ⟨_, rfl⟩
            rw [← ht] at q0 q1 HVM2
            clear ht
            obtain ⟨tv, tn, tk, ts, tN⟩ := t
            simp only at q0 q1 HVM2
            cases tv
            · go_wp2
              go_roundw
              case rel => exact ⟨m + 1, by omega, by simp, HB⟩
              case measure => simp [intOf]; omega
            · have HI := Lib.hid (HVM2.out rfl)
              go_wp2_with (go_at_call 21; refine (rin_any HVW.out tn).mono ?_; rintro e w5 ⟨rfl, hw5⟩; obtain rfl : wr = w5 := hw5.symm; rw [HI.out])
              go_roundw
              case rel => exact ⟨m + 1, by omega, by simp, HB⟩
              case measure => simp [intOf]; omega
          · have hltI2 : ¬ (m : Int) < (A.length : Int) := by omega
            have HTW : Hid (Tms wr (.slice o n c) (V.map varT)) := HTM.out.below stayTm HB.out
            go_wp2_with (first
              | (go_at_call 16; refine (vars_any (a := ⟨⟨#[]⟩, V.map varT⟩) HTW.out (by have := HN2.out; simp; omega) HVO.out).mono ?_; rintro e w5 ⟨v, rfl, h5, hb5⟩; simp only [HVN.out] at h5; have HV5 := Lib.hid (OwnNm.rd h5 hb5 (by have := HN2.out; unfold maxLen; omega)); have HB5 := Lib.hid hb5; have hc5 := (hb5.block _ elt).trans ((HBW.out.block _ dlt).trans HC2.out); obtain ⟨g0, g1, glt⟩ := box2c hc5; obtain ⟨o5, c5, rfl⟩ := h5.form; clear h5 hb5 hc5)
              | (go_at_call 15; refine (rsame_any HV5.out (RdL.below stayNm HVW.out HB5.out)).mono ?_; rintro e w6 ⟨rfl, hb6⟩; have HB6 := Lib.hid hb6; obtain ⟨i0, i1, ilt⟩ := box2c ((hb6.block _ glt).trans ((HB5.out.block _ elt).trans ((HBW.out.block _ dlt).trans HC2.out))); clear hb6))
            go_ret
            exact ⟨rfl, HW.out.trans ((HB2.out.trans ((HBW.out.trans ((HB5.out.trans (HB6.out.mono HB5.out.size)).mono HBW.out.size)).mono HB2.out.size)).mono HW.out.size)⟩
  · have hlI : (100 : Int) < (A.length : Int) := by omega
    go_enter Try.func7, Try.ntmps7
    go_wp2_with (go_at_call 9; refine HSH.out.mono ?_; clear HSH; rintro e w1 ⟨rfl, hb1⟩; rw [← hW0] at hb1; have hc1 := (hb1.block _ (Array.getElem?_eq_some_iff.1 HBX.out).1).trans HBX.out; obtain ⟨c0, c1, clt⟩ := box2c hc1; have HB1 := Lib.hid hb1; clear hb1 hc1)
    go_ret
    exact ⟨rfl, HW.out.trans (HB1.out.mono HW.out.size)⟩
end Go.Proofs.Ytcpdikhiodbdjaa
