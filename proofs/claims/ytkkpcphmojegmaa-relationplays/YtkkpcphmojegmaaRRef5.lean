/-
  Contract of the document's Match of a relation (lambrequinref04).
-/
import Derived.Test.YtkkpcphmojegmaaRRef4
namespace Go.Proofs.Ytkkpcphmojegmaa
set_option linter.unusedSimpArgs false
set_option linter.unusedVariables false
set_option linter.unusedSectionVars false
set_option maxRecDepth 100000
open Go.RowKit Go.Maps
variable [DecidableEq V]

theorem empty_second (w : World) (o : Obj) : OwnG ((w.alloc o).alloc (.cells #[] 30)) (w.heap.size + 1) (.slice (some ⟨w.heap.size + 1, 0, none⟩) 0 0) [] := by
  have hs : (w.alloc o).heap.size = w.heap.size + 1 := by simp
  have := OwnG.empty (w := w.alloc o) (B := w.heap.size + 1) (by simp)
  rwa [hs] at this

set_option maxHeartbeats 8000000 in
theorem refMatch_any {w : World} {ar : Nat} {xn xd xf x y : Value} {N D F : List (List V)} {cols : List Int} {vs : List V} {only : Bool} (hR : RRel w xn xd xf N D F) (hrow : ∀ r ∈ D ++ F, r.length = ar ∧ ∀ v ∈ r, v.bare = v) (hx : Ints w x cols) (hy : Vals w y vs) (har : ar ≤ 6) (hl : D.length + F.length ≤ 1000000) :
    Calls Try.prog 13 #[.agg #[.int .i64 (ar : Int), xn, xd, xf], x, y, .bool only] w fun e w' => RMatchOut w ar cols vs (D ++ (if only then [] else F)) e w' := by
  obtain ⟨no, nc, rfl, -⟩ := hR.n.form
  obtain ⟨⟨DN, gn, nn, rfl⟩, ⟨DD, gd, nd, rfl⟩, ⟨DF, gf, nf, rfl⟩⟩ := hR
  obtain ⟨eo, ec, rfl, -⟩ := gd.len
  obtain ⟨fo, fc, rfl, -⟩ := gf.len
  obtain ⟨ao, cap, rfl, hm⟩ := hx.len
  unfold maxLen at hm
  obtain ⟨bo, bc, hye, -⟩ := hy.len
  subst hye
  simp only [List.length_map] at *
  have e0 : DD.map R.vs ++ (if only then [] else DF.map R.vs) = (DD ++ (if only then [] else DF)).map R.vs := by cases only <;> simp
  rw [e0]
  by_cases hlen : cols.length = vs.length
  case neg =>
    have hlb : ((cols.length : Int) != (vs.length : Int)) = true := by simp; omega
    have HO : Hid (∀ W, Below w.heap.size w W → RMatchOut w ar cols vs ((DD ++ (if only then [] else DF)).map R.vs) (.returned (.tuple #[.slice none 0 0, .int .i64 1])) W) := fun W hb => .inl ⟨fun h => hlen h.1, rfl, hb⟩
    generalize (DD ++ (if only then [] else DF)).map R.vs = LQ at *
    clear hx hy hlen gn gd gf nn nd nf hrow
    go_enter Try.func13, Try.ntmps13
    go_wp2
    go_ret2
    exact HO.out _ ((Below.refl _ _).alloc (Nat.le_refl _) _)
  have hgr : ∀ r ∈ DD ++ (if only then [] else DF), (Vals w r.hv r.vs ∧ NilCap r.hv) ∧ (r.vs.length = ar ∧ ∀ v ∈ r.vs, v.bare = v) := fun r hr => by
    rcases List.mem_append.1 hr with hr | hr
    · exact ⟨gd.vals r hr, hrow _ (List.mem_append_left _ (List.mem_map_of_mem hr))⟩
    · cases only
      · exact ⟨gf.vals r (by simpa using hr), hrow _ (List.mem_append_right _ (List.mem_map_of_mem (by simpa using hr)))⟩
      · simp at hr
  have HRW : Hid (Rws w ar (DD ++ (if only then [] else DF))) := ⟨fun r hr => (hgr r hr).1, fun r hr => (hgr r hr).2.1, fun r hr => (hgr r hr).2.2⟩
  have HG : Hid (Grid w (.slice eo DD.length ec) DD ∧ NilCap (.slice eo DD.length ec)) := ⟨gd, nd⟩
  have HGF : Hid (Grid w (.slice fo DF.length fc) DF ∧ NilCap (.slice fo DF.length fc)) := ⟨gf, nf⟩
  have HX := Lib.hid hx
  have HY : Hid (Vals w (.slice bo cols.length bc) vs) := by show Vals _ _ _; rw [hlen]; exact hy
  have HLEN := Lib.hid hlen
  have HL0 := Lib.hid hl
  rw [← hlen]
  have HBAD : Hid (∀ W, Below w.heap.size w W → ¬ Placed ar cols → RMatchOut w ar cols vs ((DD ++ (if only then [] else DF)).map R.vs) (.returned (.tuple #[.slice none 0 0, .int .i64 1])) W) := fun W hb hn => .inl ⟨fun h => hn h.2, rfl, hb⟩
  have HGOOD : Hid (∀ W x2 w', Below w.heap.size w W → Placed ar cols → SortOut W (((DD ++ (if only then [] else DF)).map R.vs).filter (holdI cols vs cols.length)) (.returned x2) w' → RMatchOut w ar cols vs ((DD ++ (if only then [] else DF)).map R.vs) (.returned (.tuple #[x2, .int .i64 0])) w') := fun W x2 w' hb hp hS => .inr ⟨⟨HLEN.out, hp⟩, x2, rfl, hS.past hb⟩
  have a9 : (ar : Int) ≤ 6 := by omega
  have d9 : (DD.length : Int) ≤ 1000000 := by omega
  have HL : Hid ((DD ++ (if only then [] else DF)).length ≤ 1000000) := by show _ ≤ _; cases only <;> simp <;> omega
  obtain ⟨L0, hL0⟩ : ∃ L0, L0 = DD ++ (if only then [] else DF) := ⟨_, rfl⟩
  rw [← hL0] at HRW HBAD HGOOD HL ⊢
  have HEQ := Lib.hid hL0
  clear hx hy hlen gn gd gf nn nd nf hrow hl hgr e0 hL0
  have hbE : Below w.heap.size w ((w.alloc (.cells #[.int .i64 (ar : Int), .slice no DN.length nc, .slice eo DD.length ec, .slice fo DF.length fc] 29)).alloc (.cells #[] 30)) := ((Below.refl _ _).alloc (Nat.le_refl _) _).alloc (by simp) _
  have HQ0 : Hid (∀ W, Below (w.heap.size + 1) ((w.alloc (.cells #[.int .i64 (ar : Int), .slice no DN.length nc, .slice eo DD.length ec, .slice fo DF.length fc] 29)).alloc (.cells #[] 30)) W → W.cell? ⟨w.heap.size, 0, none⟩ = some (.int .i64 (ar : Int)) ∧ W.cell? ⟨w.heap.size, 3, none⟩ = some (.slice fo DF.length fc) ∧ w.heap.size < W.heap.size ∧ Below w.heap.size w W) := fun W hb => by
    have hs := hb.size
    refine ⟨(hb.cell (p := ⟨w.heap.size, 0, none⟩) (by simp)).trans ?_, (hb.cell (p := ⟨w.heap.size, 3, none⟩) (by simp)).trans ?_, by simp at hs; omega, hbE.trans (hb.mono (by omega))⟩
    · simp
    · simp
  have HBE := Lib.hid hbE
  clear hbE
  cases only
  · have HLL0 : Hid (L0 = DD ++ DF) := HEQ.out
    go_enter Try.func13, Try.ntmps13
    go_wp2_with (first
      | (at_builtin; refine wpList_append_rows rfl (.tmp 19) (.tmp 21) rfl (w.heap.size + 1) _ [] rfl (empty_second w _) (.slice eo DD.length ec) DD rfl (HG.out.1.below HBE.out) HG.out.2 (fit_old (W := w) (empty_second w _) HG.out.1 (by omega) HBE.out) (by have := HL0.out; simp; omega) (by simp) ?_; intro v1 w1 hO1 hb1; obtain ⟨q0, q3, q1, q2⟩ := HQ0.out w1 hb1; have HB0 := Lib.hid hb1; have HO1 := Lib.hid hO1; have HB1 := Lib.hid q2; clear hO1 hb1 q2)
      | (at_builtin; refine wpList_append_rows rfl (.tmp 25) (.tmp 27) rfl (w.heap.size + 1) v1 ([] ++ DD) rfl HO1.out (.slice fo DF.length fc) DF rfl (HGF.out.1.below HB1.out) HGF.out.2 (fit_old (W := w) HO1.out HGF.out.1 (by omega) HB1.out) (by have := HL0.out; simp; omega) q1 ?_; intro vX wX hO2 hb2; obtain ⟨qX0, -, qX1, q2⟩ := HQ0.out wX (HB0.out.trans hb2); have HOX := Lib.hid hO2; have HBX := Lib.hid q2; clear hO2 hb2 q2))
    have HLL : Hid (([] ++ DD) ++ DF = L0) := by show _ = _; rw [HLL0.out]; rfl
    obtain ⟨l0, lc, hle⟩ : ∃ l0 lc, vX = .slice l0 (([] ++ DD) ++ DF).length lc := by obtain ⟨a, b, e, -⟩ := HOX.out.grid.len; exact ⟨a, b, e⟩
    subst hle
    go_loopw [10, 11] (fun v i wr => ∃ (k : Nat) (E : List R) (la : Option Addr) (lc : Nat), k ≤ cols.length ∧ i = .int .i64 (k : Int) ∧ v = .slice la E.length lc ∧ Hid (Grid wr (.slice la E.length lc) E ∧ NilCap (.slice la E.length lc) ∧ (∀ r ∈ E, r ∈ L0) ∧ E.map R.vs = (L0.map R.vs).filter (holdI cols vs k)) ∧ Hid (Placed ar (cols.take k)) ∧ Hid (Below wX.heap.size wX wr)) (fun _ i _ => cols.length - (intOf i).toNat)
    case atStart => exact ⟨0, ([] ++ DD) ++ DF, l0, lc, Nat.zero_le _, rfl, rfl, ⟨HOX.out.grid, HOX.out.nilcap, fun r hr => by rw [HLL.out] at hr; exact hr, by rw [HLL.out]; exact (List.filter_eq_self.2 (fun r _ => holdI_zero _ _ _)).symm⟩, fun z hz => by simp at hz, Below.refl _ _⟩
    case round =>
      obtain ⟨k, E, la, lc', hk, rfl, rfl, HE, HP, HB⟩ := hrel
      have hwr := HB.out.size
      have HBw : Hid (Below w.heap.size w wr) := HBX.out.trans (HB.out.mono HBX.out.size)
      have q0r : wr.cell? ⟨w.heap.size, 0, none⟩ = some (.int .i64 (ar : Int)) := (HB.out.cell (p := ⟨w.heap.size, 0, none⟩) qX1).trans qX0
      have q1r : w.heap.size < wr.heap.size := by omega
      have hEl : E.length ≤ L0.length := by have := congrArg List.length HE.out.2.2.2; rw [List.length_map] at this; rw [this]; refine Nat.le_trans (List.length_filter_le _ _) (by simp)
      have E9 : (E.length : Int) ≤ 1000000 := by have := HL.out; omega
      by_cases hlt : k < cols.length
      · have h1I : (k : Int) < (cols.length : Int) := by omega
        obtain ⟨bk', ok', rfl, cz, hbz⟩ := HX.out.at HBw.out k hlt
        have hbz2 : bk' < wr.heap.size := by have := HBw.out.size; omega
        have HPN : Hid (0 ≤ cols[k] ∧ cols[k] < (ar : Int) → Placed ar (cols.take (k + 1))) := fun h z hz => by
          rw [List.take_succ_eq_append_getElem hlt] at hz
          rcases List.mem_append.1 hz with hz | hz
          · exact HP.out z hz
          · rw [List.mem_singleton.1 hz]; exact h
        have HNO : Hid (¬ (0 ≤ cols[k] ∧ cols[k] < (ar : Int)) → ¬ Placed ar cols) := fun h hp => h (hp _ (List.getElem_mem hlt))
        obtain ⟨cz', hcz⟩ : ∃ z, cols[k] = z := ⟨_, rfl⟩
        rw [hcz] at cz HPN HNO
        by_cases h0 : cz' < 0
        · have HBd := Lib.hid (fun nq => HBAD.out (wr.drewN nq) (below_drewN' HBw.out nq) (HNO.out (by omega)))
          clear hcz
          go_wp2_with fail
          go_quiet (fail)
          go_wp2
          go_ret2
          exact HBd.out _
        · by_cases ha : cz' ≥ (ar : Int)
          · have HBd := Lib.hid (fun nq => HBAD.out (wr.drewN nq) (below_drewN' HBw.out nq) (HNO.out (by omega)))
            clear hcz
            go_wp2_with fail
            go_quiet (fail)
            go_wp2
            go_ret2
            exact HBd.out _
          · have HPK := Lib.hid (HPN.out (by omega))
            obtain ⟨pn, hpn⟩ : ∃ pn : Nat, cz' = (pn : Int) := ⟨cz'.toNat, by omega⟩
            subst hpn
            have hp6 : (pn : Int) < (ar : Int) := by omega
            have HCZ := Lib.hid hcz
            have HE9 : Hid (∀ q, Grid (wr.drewN q) (.slice la E.length lc') E ∧ Below w.heap.size w (wr.drewN q) ∧ Below wX.heap.size wX (wr.drewN q)) := fun q => ⟨HE.out.1.below (below_drewN' (Below.refl _ _) q), below_drewN' HBw.out q, below_drewN' HB.out q⟩
            clear hcz HPN HNO
            go_wp2_with fail
            go_quiet (fail)
            go_wp2_with fail
            obtain ⟨wo, hwo⟩ : ∃ wo, wo = wr.drewN nq := ⟨_, rfl⟩
            have hE9 := HE9.out nq
            rw [← hwo] at hE9 ⊢
            have HEO := Lib.hid hE9
            clear hE9 HE9 q0r q1r cz hbz2 hwo
            have hwo1 : w.heap.size ≤ wo.heap.size := HEO.out.2.1.size
            go_loopw [12, 13] (fun v i wr => ∃ (m : Nat) (E2 : List R) (na : Option Addr) (nc2 : Nat), m ≤ E.length ∧ i = .int .i64 (m : Int) ∧ v = .slice na E2.length nc2 ∧ Hid (OwnG wr wo.heap.size (.slice na E2.length nc2) E2 ∧ (∀ r ∈ E2, r ∈ E) ∧ E2.map R.vs = ((E.take m).map R.vs).filter (colB cols vs k)) ∧ Hid (Below wo.heap.size wo wr)) (fun _ i _ => E.length - (intOf i).toNat)
            case atStart => exact ⟨0, [], none, 0, Nat.zero_le _, rfl, rfl, ⟨OwnG.nil _ _, fun r hr => by simp at hr, rfl⟩, Below.refl _ _⟩
            case round =>
              obtain ⟨m, E2, na, nc2, hm2, rfl, rfl, HO, HW⟩ := hrel
              have HBw2 : Hid (Below w.heap.size w wr) := HEO.out.2.1.trans (HW.out.mono hwo1)
              by_cases hlm : m < E.length
              · have hmI : (m : Int) < (E.length : Int) := by omega
                obtain ⟨b, off, rfl, c0, hbl, hV, hN⟩ := HEO.out.1.at HW.out m hlm
                have hblw : b < wr.heap.size := by have := HW.out.size; omega
                obtain ⟨bk2, ok2, hke, cz, hbz⟩ := HX.out.at HBw2.out k hlt
                cases hke
                have hbz2 : bk' < wr.heap.size := by have := HBw2.out.size; omega
                have hcz : wr.cell? ⟨bk', ok' + k, none⟩ = some (.int .i64 (pn : Int)) := by rw [cz, HCZ.out]
                have hltv : k < vs.length := by rw [← HLEN.out]; exact hlt
                obtain ⟨bv, ov, rfl, y0, y1, y2, hvok, hbv⟩ := Vals.at HY.out HBw2.out k hltv
                have hbv2 : bv < wr.heap.size := by have := HBw2.out.size; omega
                have hrL := HE.out.2.2.1 _ (List.getElem_mem hlm)
                have hrlen := HRW.out.len _ hrL
                have hrb := HRW.out.bare _ hrL
                have hrv := HRW.out.vals _ hrL
                have hE2l : E2.length ≤ m := by
                  have := congrArg List.length HO.out.2.2
                  rw [List.length_map] at this
                  rw [this]
                  refine Nat.le_trans (List.length_filter_le _ _) (by simp; omega)
                have HST : Hid (((E.take (m + 1)).map R.vs).filter (colB cols vs k) = ((E.take m).map R.vs).filter (colB cols vs k) ++ (if colB cols vs k (E[m]'hlm).vs = true then [(E[m]'hlm).vs] else [])) := map_filter_snoc hlm
                have HMEM : Hid ((E[m]'hlm) ∈ E) := List.getElem_mem hlm
                obtain ⟨r, hr⟩ : ∃ r, r = E[m]'hlm := ⟨_, rfl⟩
                rw [← hr] at c0 hV hN hrL hrlen hrb hrv HST HMEM
                clear hr
                obtain ⟨ra, rc, hre, -⟩ := hV.len
                have hpr : pn < r.vs.length := by omega
                rw [hre] at hV c0
                obtain ⟨rb, ro, hra, x0, x1, x2, hrok, hrbl⟩ := Vals.at hV (Below.refl _ _) pn hpr
                subst hra
                have HCB : Hid (colB cols vs k r.vs = (((r.vs[pn]'hpr).cmp (vs[k]'hltv)) == 0)) := by
                  show _ = _
                  have e1 : cols.getD k 0 = (pn : Int) := by rw [← HCZ.out]; simp [hlt]
                  have e2 : r.vs.getD pn vZ = r.vs[pn]'hpr := by simp [hpr]
                  have e3 : vs.getD k vZ = vs[k]'hltv := by simp [hltv]
                  unfold colB
                  rw [e1, Int.toNat_natCast, e2, e3]
                  have hb1 := hrb _ (List.getElem_mem hpr)
                  have := V.cmp_bare (a := r.vs[pn]'hpr) (b := vs[k]'hltv)
                  rw [hb1] at this
                  cases hz : decide (r.vs[pn]'hpr = (vs[k]'hltv).bare) with
                  | true => exact (beq_iff_eq.2 (this.2 (of_decide_eq_true hz))).symm
                  | false => exact (beq_eq_false_iff_ne.2 (fun h => (of_decide_eq_false hz) (this.1 h))).symm
                have HQ : Hid (∀ W, Calls Try.prog 31 #[.agg #[.bool (r.vs[pn]'hpr).k, .string (r.vs[pn]'hpr).s, .int .i64 (r.vs[pn]'hpr).n], .agg #[.bool (vs[k]'hltv).k, .string (vs[k]'hltv).s, .int .i64 (vs[k]'hltv).n]] W fun e w' => e = .returned (.bool (colB cols vs k r.vs)) ∧ Below W.heap.size W w') := fun W => by
                  rw [HCB.out]
                  exact ref_same hrok hvok W
                have HFIT : Hid (∀ W v, OwnG W wo.heap.size v E2 → Below w.heap.size w W → Fit W v r) := fun W v hO hb => hO.older (W := w) hwo1 hrv.1 (hrv.1.below hb) hrv.2
                obtain ⟨uv, huv⟩ : ∃ u, r.vs[pn]'hpr = u := ⟨_, rfl⟩
                obtain ⟨tv, htv⟩ : ∃ u, vs[k]'hltv = u := ⟨_, rfl⟩
                rw [huv] at x0 x1 x2 HQ
                rw [htv] at y0 y1 y2 HQ
                clear huv htv
                obtain ⟨uk, us, un⟩ := uv
                obtain ⟨tk, ts, tn⟩ := tv
                simp only at x0 x1 x2 y0 y1 y2 HQ
                obtain ⟨cb, hcb⟩ : ∃ cb, cb = colB cols vs k r.vs := ⟨_, rfl⟩
                rw [← hcb] at HQ HST
                obtain ⟨rn, hrn⟩ : ∃ rn, rn = r.vs.length := ⟨_, rfl⟩
                rw [← hrn] at c0 hre hrlen
                have hpr2 : (pn : Int) < (rn : Int) := by omega
                have HRE := Lib.hid hre
                clear HCB hcb hrok hvok hrb hrv hV hN hbl hbz cz hbv hpr hrn hre hrL hrlen
                have HK : Hid (∀ W, Below wr.heap.size wr W → W.cell? ⟨b, off + m, none⟩ = some (.slice (some ⟨rb, ro, none⟩) rn rc) ∧ b < W.heap.size ∧ W.cell? ⟨bk', ok' + k, none⟩ = some (.int .i64 (pn : Int)) ∧ bk' < W.heap.size ∧ W.cell? ⟨rb, ro + pn * 3, none⟩ = some (.bool uk) ∧ W.cell? ⟨rb, ro + pn * 3 + 1, none⟩ = some (.string us) ∧ W.cell? ⟨rb, ro + pn * 3 + 2, none⟩ = some (.int .i64 un) ∧ rb < W.heap.size ∧ W.cell? ⟨bv, ov + k * 3, none⟩ = some (.bool tk) ∧ W.cell? ⟨bv, ov + k * 3 + 1, none⟩ = some (.string ts) ∧ W.cell? ⟨bv, ov + k * 3 + 2, none⟩ = some (.int .i64 tn) ∧ bv < W.heap.size ∧ Below wr.heap.size wr W) := fun W hW =>
                  eleven_keep ⟨c0, hblw, hcz, hbz2, x0, x1, x2, hrbl, y0, y1, y2, hbv2, Below.refl _ _⟩ hW
                cases cb
                · have HS2 : Hid (E2.map R.vs = ((E.take (m + 1)).map R.vs).filter (colB cols vs k)) := by show _ = _; rw [HST.out, HO.out.2.2]; simp
                  clear HST
                  go_wp2_with fail
                  go_region_held3 (fun W => W.cell? ⟨b, off + m, none⟩ = some (.slice (some ⟨rb, ro, none⟩) rn rc) ∧ b < W.heap.size ∧ W.cell? ⟨bk', ok' + k, none⟩ = some (.int .i64 (pn : Int)) ∧ bk' < W.heap.size ∧ W.cell? ⟨rb, ro + pn * 3, none⟩ = some (.bool uk) ∧ W.cell? ⟨rb, ro + pn * 3 + 1, none⟩ = some (.string us) ∧ W.cell? ⟨rb, ro + pn * 3 + 2, none⟩ = some (.int .i64 un) ∧ rb < W.heap.size ∧ W.cell? ⟨bv, ov + k * 3, none⟩ = some (.bool tk) ∧ W.cell? ⟨bv, ov + k * 3 + 1, none⟩ = some (.string ts) ∧ W.cell? ⟨bv, ov + k * 3 + 2, none⟩ = some (.int .i64 tn) ∧ bv < W.heap.size ∧ Below wr.heap.size wr W)
                    (first | assumption | exact HK.out _ hbN | exact HK.out _ (Below.refl _ _).drew)
                    (first
                      | (go_at_call 31; refine (HQ.out _).mono ?_; rintro e w' ⟨rfl, hbl⟩; have hbN := Below.trans (show Below wr.heap.size wr _ by go_split_ands; assumption) (hbl.mono (Below.size (show Below wr.heap.size wr _ by go_split_ands; assumption))); clear hbl))
                  go_split_ands
                  go_wp2
                  go_roundw
                  case rel => have HB9 : Hid (Below wr.heap.size wr w') := (by show Below _ _ _; assumption); (repeat apply Exists.intro); refine ⟨⟨m + 1, E2, na, nc2, by omega, rfl, rfl, ⟨OwnG.below HO.out.1 HB9.out, HO.out.2.1, HS2.out⟩, HW.out.trans (HB9.out.mono HW.out.size)⟩, ?_⟩; have hnp : decide (ar ≤ pn) = false := decide_eq_false (by omega); rw [hnp]; rfl
                  case measure => simp [intOf]; omega
                · have HS2 : Hid ((E2 ++ [r]).map R.vs = ((E.take (m + 1)).map R.vs).filter (colB cols vs k)) := by show _ = _; rw [HST.out, List.map_append, HO.out.2.2]; simp
                  have HSB : Hid (∀ x ∈ E2 ++ [r], x ∈ E) := fun x hx => by
                    rcases List.mem_append.1 hx with hx | hx
                    · exact HO.out.2.1 x hx
                    · rw [List.mem_singleton.1 hx]; exact HMEM.out
                  clear HST
                  go_wp2_with fail
                  go_region_held3 (fun W => W.cell? ⟨b, off + m, none⟩ = some (.slice (some ⟨rb, ro, none⟩) rn rc) ∧ b < W.heap.size ∧ W.cell? ⟨bk', ok' + k, none⟩ = some (.int .i64 (pn : Int)) ∧ bk' < W.heap.size ∧ W.cell? ⟨rb, ro + pn * 3, none⟩ = some (.bool uk) ∧ W.cell? ⟨rb, ro + pn * 3 + 1, none⟩ = some (.string us) ∧ W.cell? ⟨rb, ro + pn * 3 + 2, none⟩ = some (.int .i64 un) ∧ rb < W.heap.size ∧ W.cell? ⟨bv, ov + k * 3, none⟩ = some (.bool tk) ∧ W.cell? ⟨bv, ov + k * 3 + 1, none⟩ = some (.string ts) ∧ W.cell? ⟨bv, ov + k * 3 + 2, none⟩ = some (.int .i64 tn) ∧ bv < W.heap.size ∧ Below wr.heap.size wr W)
                    (first | assumption | exact HK.out _ hbN | exact HK.out _ (Below.refl _ _).drew)
                    (first
                      | (go_at_call 31; refine (HQ.out _).mono ?_; rintro e w' ⟨rfl, hbl⟩; have hbN := Below.trans (show Below wr.heap.size wr _ by go_split_ands; assumption) (hbl.mono (Below.size (show Below wr.heap.size wr _ by go_split_ands; assumption))); clear hbl))
                  clear c0 hblw hcz hbz2 x0 x1 x2 hrbl y0 y1 y2 hbv2
                  go_split_ands
                  rename_i z0 z1 z2 z3 z4 z5 z6 z7 z8 z9 z10 z11 z12
                  have HB9 := Lib.hid z12
                  clear z2 z3 z4 z5 z6 z7 z8 z9 z10 z11 z12
                  have hsz9 : wo.heap.size ≤ w'.heap.size := Nat.le_trans HW.out.size HB9.out.size
                  have HO9 := Lib.hid (OwnG.below HO.out.1 HB9.out)
                  obtain ⟨hv, rvs, ix⟩ := r
                  have hre := HRE.out
                  simp only at hre
                  subst hre
                  go_wp2_with (at_builtin; refine wpList_append_row rfl (.tmp 70) (.tmp 75) rfl wo.heap.size (.slice na E2.length nc2) E2 rfl HO9.out ⟨.slice (some ⟨rb, ro, none⟩) rn rc, rvs, ix⟩ rfl (HFIT.out _ _ HO9.out (HBw2.out.trans (HB9.out.mono HBw2.out.size))) (by omega) hsz9 ?_; intro v5 w5 hO5 hb5; obtain ⟨a5, c5, e5, -⟩ := hO5.grid.len; subst e5; have HO5 := Lib.hid hO5; have HB5 : Hid (Below wo.heap.size wo w5) := (HW.out.trans (HB9.out.mono HW.out.size)).trans hb5; clear hO5 hb5)
                  go_roundw
                  case rel => exact ⟨m + 1, by omega, by omega, E2 ++ [⟨.slice (some ⟨rb, ro, none⟩) rn rc, rvs, ix⟩], a5, c5, ⟨rfl, by simp, rfl⟩, HO5.out, HSB.out, by have := HS2.out; rw [List.map_take] at this; exact this⟩
                  case measure => simp [intOf]; omega
              · have hmI : ¬ (m : Int) < (E.length : Int) := by omega
                have HFI : Hid (E2.map R.vs = (L0.map R.vs).filter (holdI cols vs (k + 1))) := by
                  show _ = _
                  rw [HO.out.2.2, List.take_of_length_le (by omega), HE.out.2.2.2, filter_holdI]
                go_wp2
                go_roundw
                case rel => (repeat apply Exists.intro); refine ⟨⟨k + 1, by omega, rfl, E2, na, nc2, rfl, ⟨HO.out.1.grid, HO.out.1.nilcap, fun r hr => HE.out.2.2.1 r (HO.out.2.1 r hr), HFI.out⟩, HPK.out, HEO.out.2.2.trans (HW.out.mono HEO.out.2.2.size)⟩, ?_⟩; repeat (first | exact rfl | (refine ⟨rfl, ?_⟩))
                case measure => simp [intOf]; omega
      · have h1I : ¬ (k : Int) < (cols.length : Int) := by omega
        obtain rfl : k = cols.length := by omega
        have HPP : Hid (Placed ar cols) := by have := HP.out; rw [List.take_length] at this; exact this
        have HSRT := Lib.hid (Gr.sort ⟨E, HE.out.1, HE.out.2.1, HE.out.2.2.2⟩ (by have h1 := List.length_filter_le (holdI cols vs cols.length) (L0.map R.vs); rw [List.length_map] at h1; have := HL.out; omega))
        clear q0r q1r
        go_wp2_with (go_at_call 22; refine HSRT.out.mono ?_; clear HSRT; intro e w9 hS; obtain ⟨x9, D9, rfl, h9⟩ := hS; have HG9 := Lib.hid (HGOOD.out wr x9 w9 HBw.out HPP.out ⟨x9, D9, rfl, h9⟩); clear h9)
        go_ret2
        exact HG9.out
  · have HLL0 : Hid (L0 = DD) := by show L0 = DD; have := HEQ.out; simpa using this
    go_enter Try.func13, Try.ntmps13
    go_wp2_with (at_builtin; refine wpList_append_rows rfl (.tmp 19) (.tmp 21) rfl (w.heap.size + 1) _ [] rfl (empty_second w _) (.slice eo DD.length ec) DD rfl (HG.out.1.below HBE.out) HG.out.2 (fit_old (W := w) (empty_second w _) HG.out.1 (by omega) HBE.out) (by have := HL0.out; simp; omega) (by simp) ?_; intro vX wX hO1 hb1; obtain ⟨qX0, -, qX1, q2⟩ := HQ0.out wX hb1; have HOX := Lib.hid hO1; have HBX := Lib.hid q2; clear hO1 hb1 q2)
    have HLL : Hid ([] ++ DD = L0) := by show _ = _; rw [HLL0.out]; rfl
    obtain ⟨l0, lc, hle⟩ : ∃ l0 lc, vX = .slice l0 ([] ++ DD).length lc := by obtain ⟨a, b, e, -⟩ := HOX.out.grid.len; exact ⟨a, b, e⟩
    subst hle
    go_loopw [10, 11] (fun v i wr => ∃ (k : Nat) (E : List R) (la : Option Addr) (lc : Nat), k ≤ cols.length ∧ i = .int .i64 (k : Int) ∧ v = .slice la E.length lc ∧ Hid (Grid wr (.slice la E.length lc) E ∧ NilCap (.slice la E.length lc) ∧ (∀ r ∈ E, r ∈ L0) ∧ E.map R.vs = (L0.map R.vs).filter (holdI cols vs k)) ∧ Hid (Placed ar (cols.take k)) ∧ Hid (Below wX.heap.size wX wr)) (fun _ i _ => cols.length - (intOf i).toNat)
    case atStart => exact ⟨0, [] ++ DD, l0, lc, Nat.zero_le _, rfl, rfl, ⟨HOX.out.grid, HOX.out.nilcap, fun r hr => by rw [HLL.out] at hr; exact hr, by rw [HLL.out]; exact (List.filter_eq_self.2 (fun r _ => holdI_zero _ _ _)).symm⟩, fun z hz => by simp at hz, Below.refl _ _⟩
    case round =>
      obtain ⟨k, E, la, lc', hk, rfl, rfl, HE, HP, HB⟩ := hrel
      have hwr := HB.out.size
      have HBw : Hid (Below w.heap.size w wr) := HBX.out.trans (HB.out.mono HBX.out.size)
      have q0r : wr.cell? ⟨w.heap.size, 0, none⟩ = some (.int .i64 (ar : Int)) := (HB.out.cell (p := ⟨w.heap.size, 0, none⟩) qX1).trans qX0
      have q1r : w.heap.size < wr.heap.size := by omega
      have hEl : E.length ≤ L0.length := by have := congrArg List.length HE.out.2.2.2; rw [List.length_map] at this; rw [this]; refine Nat.le_trans (List.length_filter_le _ _) (by simp)
      have E9 : (E.length : Int) ≤ 1000000 := by have := HL.out; omega
      by_cases hlt : k < cols.length
      · have h1I : (k : Int) < (cols.length : Int) := by omega
        obtain ⟨bk', ok', rfl, cz, hbz⟩ := HX.out.at HBw.out k hlt
        have hbz2 : bk' < wr.heap.size := by have := HBw.out.size; omega
        have HPN : Hid (0 ≤ cols[k] ∧ cols[k] < (ar : Int) → Placed ar (cols.take (k + 1))) := fun h z hz => by
          rw [List.take_succ_eq_append_getElem hlt] at hz
          rcases List.mem_append.1 hz with hz | hz
          · exact HP.out z hz
          · rw [List.mem_singleton.1 hz]; exact h
        have HNO : Hid (¬ (0 ≤ cols[k] ∧ cols[k] < (ar : Int)) → ¬ Placed ar cols) := fun h hp => h (hp _ (List.getElem_mem hlt))
        obtain ⟨cz', hcz⟩ : ∃ z, cols[k] = z := ⟨_, rfl⟩
        rw [hcz] at cz HPN HNO
        by_cases h0 : cz' < 0
        · have HBd := Lib.hid (fun nq => HBAD.out (wr.drewN nq) (below_drewN' HBw.out nq) (HNO.out (by omega)))
          clear hcz
          go_wp2_with fail
          go_quiet (fail)
          go_wp2
          go_ret2
          exact HBd.out _
        · by_cases ha : cz' ≥ (ar : Int)
          · have HBd := Lib.hid (fun nq => HBAD.out (wr.drewN nq) (below_drewN' HBw.out nq) (HNO.out (by omega)))
            clear hcz
            go_wp2_with fail
            go_quiet (fail)
            go_wp2
            go_ret2
            exact HBd.out _
          · have HPK := Lib.hid (HPN.out (by omega))
            obtain ⟨pn, hpn⟩ : ∃ pn : Nat, cz' = (pn : Int) := ⟨cz'.toNat, by omega⟩
            subst hpn
            have hp6 : (pn : Int) < (ar : Int) := by omega
            have HCZ := Lib.hid hcz
            have HE9 : Hid (∀ q, Grid (wr.drewN q) (.slice la E.length lc') E ∧ Below w.heap.size w (wr.drewN q) ∧ Below wX.heap.size wX (wr.drewN q)) := fun q => ⟨HE.out.1.below (below_drewN' (Below.refl _ _) q), below_drewN' HBw.out q, below_drewN' HB.out q⟩
            clear hcz HPN HNO
            go_wp2_with fail
            go_quiet (fail)
            go_wp2_with fail
            obtain ⟨wo, hwo⟩ : ∃ wo, wo = wr.drewN nq := ⟨_, rfl⟩
            have hE9 := HE9.out nq
            rw [← hwo] at hE9 ⊢
            have HEO := Lib.hid hE9
            clear hE9 HE9 q0r q1r cz hbz2 hwo
            have hwo1 : w.heap.size ≤ wo.heap.size := HEO.out.2.1.size
            go_loopw [12, 13] (fun v i wr => ∃ (m : Nat) (E2 : List R) (na : Option Addr) (nc2 : Nat), m ≤ E.length ∧ i = .int .i64 (m : Int) ∧ v = .slice na E2.length nc2 ∧ Hid (OwnG wr wo.heap.size (.slice na E2.length nc2) E2 ∧ (∀ r ∈ E2, r ∈ E) ∧ E2.map R.vs = ((E.take m).map R.vs).filter (colB cols vs k)) ∧ Hid (Below wo.heap.size wo wr)) (fun _ i _ => E.length - (intOf i).toNat)
            case atStart => exact ⟨0, [], none, 0, Nat.zero_le _, rfl, rfl, ⟨OwnG.nil _ _, fun r hr => by simp at hr, rfl⟩, Below.refl _ _⟩
            case round =>
              obtain ⟨m, E2, na, nc2, hm2, rfl, rfl, HO, HW⟩ := hrel
              have HBw2 : Hid (Below w.heap.size w wr) := HEO.out.2.1.trans (HW.out.mono hwo1)
              by_cases hlm : m < E.length
              · have hmI : (m : Int) < (E.length : Int) := by omega
                obtain ⟨b, off, rfl, c0, hbl, hV, hN⟩ := HEO.out.1.at HW.out m hlm
                have hblw : b < wr.heap.size := by have := HW.out.size; omega
                obtain ⟨bk2, ok2, hke, cz, hbz⟩ := HX.out.at HBw2.out k hlt
                cases hke
                have hbz2 : bk' < wr.heap.size := by have := HBw2.out.size; omega
                have hcz : wr.cell? ⟨bk', ok' + k, none⟩ = some (.int .i64 (pn : Int)) := by rw [cz, HCZ.out]
                have hltv : k < vs.length := by rw [← HLEN.out]; exact hlt
                obtain ⟨bv, ov, rfl, y0, y1, y2, hvok, hbv⟩ := Vals.at HY.out HBw2.out k hltv
                have hbv2 : bv < wr.heap.size := by have := HBw2.out.size; omega
                have hrL := HE.out.2.2.1 _ (List.getElem_mem hlm)
                have hrlen := HRW.out.len _ hrL
                have hrb := HRW.out.bare _ hrL
                have hrv := HRW.out.vals _ hrL
                have hE2l : E2.length ≤ m := by
                  have := congrArg List.length HO.out.2.2
                  rw [List.length_map] at this
                  rw [this]
                  refine Nat.le_trans (List.length_filter_le _ _) (by simp; omega)
                have HST : Hid (((E.take (m + 1)).map R.vs).filter (colB cols vs k) = ((E.take m).map R.vs).filter (colB cols vs k) ++ (if colB cols vs k (E[m]'hlm).vs = true then [(E[m]'hlm).vs] else [])) := map_filter_snoc hlm
                have HMEM : Hid ((E[m]'hlm) ∈ E) := List.getElem_mem hlm
                obtain ⟨r, hr⟩ : ∃ r, r = E[m]'hlm := ⟨_, rfl⟩
                rw [← hr] at c0 hV hN hrL hrlen hrb hrv HST HMEM
                clear hr
                obtain ⟨ra, rc, hre, -⟩ := hV.len
                have hpr : pn < r.vs.length := by omega
                rw [hre] at hV c0
                obtain ⟨rb, ro, hra, x0, x1, x2, hrok, hrbl⟩ := Vals.at hV (Below.refl _ _) pn hpr
                subst hra
                have HCB : Hid (colB cols vs k r.vs = (((r.vs[pn]'hpr).cmp (vs[k]'hltv)) == 0)) := by
                  show _ = _
                  have e1 : cols.getD k 0 = (pn : Int) := by rw [← HCZ.out]; simp [hlt]
                  have e2 : r.vs.getD pn vZ = r.vs[pn]'hpr := by simp [hpr]
                  have e3 : vs.getD k vZ = vs[k]'hltv := by simp [hltv]
                  unfold colB
                  rw [e1, Int.toNat_natCast, e2, e3]
                  have hb1 := hrb _ (List.getElem_mem hpr)
                  have := V.cmp_bare (a := r.vs[pn]'hpr) (b := vs[k]'hltv)
                  rw [hb1] at this
                  cases hz : decide (r.vs[pn]'hpr = (vs[k]'hltv).bare) with
                  | true => exact (beq_iff_eq.2 (this.2 (of_decide_eq_true hz))).symm
                  | false => exact (beq_eq_false_iff_ne.2 (fun h => (of_decide_eq_false hz) (this.1 h))).symm
                have HQ : Hid (∀ W, Calls Try.prog 31 #[.agg #[.bool (r.vs[pn]'hpr).k, .string (r.vs[pn]'hpr).s, .int .i64 (r.vs[pn]'hpr).n], .agg #[.bool (vs[k]'hltv).k, .string (vs[k]'hltv).s, .int .i64 (vs[k]'hltv).n]] W fun e w' => e = .returned (.bool (colB cols vs k r.vs)) ∧ Below W.heap.size W w') := fun W => by
                  rw [HCB.out]
                  exact ref_same hrok hvok W
                have HFIT : Hid (∀ W v, OwnG W wo.heap.size v E2 → Below w.heap.size w W → Fit W v r) := fun W v hO hb => hO.older (W := w) hwo1 hrv.1 (hrv.1.below hb) hrv.2
                obtain ⟨uv, huv⟩ : ∃ u, r.vs[pn]'hpr = u := ⟨_, rfl⟩
                obtain ⟨tv, htv⟩ : ∃ u, vs[k]'hltv = u := ⟨_, rfl⟩
                rw [huv] at x0 x1 x2 HQ
                rw [htv] at y0 y1 y2 HQ
                clear huv htv
                obtain ⟨uk, us, un⟩ := uv
                obtain ⟨tk, ts, tn⟩ := tv
                simp only at x0 x1 x2 y0 y1 y2 HQ
                obtain ⟨cb, hcb⟩ : ∃ cb, cb = colB cols vs k r.vs := ⟨_, rfl⟩
                rw [← hcb] at HQ HST
                obtain ⟨rn, hrn⟩ : ∃ rn, rn = r.vs.length := ⟨_, rfl⟩
                rw [← hrn] at c0 hre hrlen
                have hpr2 : (pn : Int) < (rn : Int) := by omega
                have HRE := Lib.hid hre
                clear HCB hcb hrok hvok hrb hrv hV hN hbl hbz cz hbv hpr hrn hre hrL hrlen
                have HK : Hid (∀ W, Below wr.heap.size wr W → W.cell? ⟨b, off + m, none⟩ = some (.slice (some ⟨rb, ro, none⟩) rn rc) ∧ b < W.heap.size ∧ W.cell? ⟨bk', ok' + k, none⟩ = some (.int .i64 (pn : Int)) ∧ bk' < W.heap.size ∧ W.cell? ⟨rb, ro + pn * 3, none⟩ = some (.bool uk) ∧ W.cell? ⟨rb, ro + pn * 3 + 1, none⟩ = some (.string us) ∧ W.cell? ⟨rb, ro + pn * 3 + 2, none⟩ = some (.int .i64 un) ∧ rb < W.heap.size ∧ W.cell? ⟨bv, ov + k * 3, none⟩ = some (.bool tk) ∧ W.cell? ⟨bv, ov + k * 3 + 1, none⟩ = some (.string ts) ∧ W.cell? ⟨bv, ov + k * 3 + 2, none⟩ = some (.int .i64 tn) ∧ bv < W.heap.size ∧ Below wr.heap.size wr W) := fun W hW =>
                  eleven_keep ⟨c0, hblw, hcz, hbz2, x0, x1, x2, hrbl, y0, y1, y2, hbv2, Below.refl _ _⟩ hW
                cases cb
                · have HS2 : Hid (E2.map R.vs = ((E.take (m + 1)).map R.vs).filter (colB cols vs k)) := by show _ = _; rw [HST.out, HO.out.2.2]; simp
                  clear HST
                  go_wp2_with fail
                  go_region_held3 (fun W => W.cell? ⟨b, off + m, none⟩ = some (.slice (some ⟨rb, ro, none⟩) rn rc) ∧ b < W.heap.size ∧ W.cell? ⟨bk', ok' + k, none⟩ = some (.int .i64 (pn : Int)) ∧ bk' < W.heap.size ∧ W.cell? ⟨rb, ro + pn * 3, none⟩ = some (.bool uk) ∧ W.cell? ⟨rb, ro + pn * 3 + 1, none⟩ = some (.string us) ∧ W.cell? ⟨rb, ro + pn * 3 + 2, none⟩ = some (.int .i64 un) ∧ rb < W.heap.size ∧ W.cell? ⟨bv, ov + k * 3, none⟩ = some (.bool tk) ∧ W.cell? ⟨bv, ov + k * 3 + 1, none⟩ = some (.string ts) ∧ W.cell? ⟨bv, ov + k * 3 + 2, none⟩ = some (.int .i64 tn) ∧ bv < W.heap.size ∧ Below wr.heap.size wr W)
                    (first | assumption | exact HK.out _ hbN | exact HK.out _ (Below.refl _ _).drew)
                    (first
                      | (go_at_call 31; refine (HQ.out _).mono ?_; rintro e w' ⟨rfl, hbl⟩; have hbN := Below.trans (show Below wr.heap.size wr _ by go_split_ands; assumption) (hbl.mono (Below.size (show Below wr.heap.size wr _ by go_split_ands; assumption))); clear hbl))
                  go_split_ands
                  go_wp2
                  go_roundw
                  case rel => have HB9 : Hid (Below wr.heap.size wr w') := (by show Below _ _ _; assumption); (repeat apply Exists.intro); refine ⟨⟨m + 1, E2, na, nc2, by omega, rfl, rfl, ⟨OwnG.below HO.out.1 HB9.out, HO.out.2.1, HS2.out⟩, HW.out.trans (HB9.out.mono HW.out.size)⟩, ?_⟩; have hnp : decide (ar ≤ pn) = false := decide_eq_false (by omega); rw [hnp]; rfl
                  case measure => simp [intOf]; omega
                · have HS2 : Hid ((E2 ++ [r]).map R.vs = ((E.take (m + 1)).map R.vs).filter (colB cols vs k)) := by show _ = _; rw [HST.out, List.map_append, HO.out.2.2]; simp
                  have HSB : Hid (∀ x ∈ E2 ++ [r], x ∈ E) := fun x hx => by
                    rcases List.mem_append.1 hx with hx | hx
                    · exact HO.out.2.1 x hx
                    · rw [List.mem_singleton.1 hx]; exact HMEM.out
                  clear HST
                  go_wp2_with fail
                  go_region_held3 (fun W => W.cell? ⟨b, off + m, none⟩ = some (.slice (some ⟨rb, ro, none⟩) rn rc) ∧ b < W.heap.size ∧ W.cell? ⟨bk', ok' + k, none⟩ = some (.int .i64 (pn : Int)) ∧ bk' < W.heap.size ∧ W.cell? ⟨rb, ro + pn * 3, none⟩ = some (.bool uk) ∧ W.cell? ⟨rb, ro + pn * 3 + 1, none⟩ = some (.string us) ∧ W.cell? ⟨rb, ro + pn * 3 + 2, none⟩ = some (.int .i64 un) ∧ rb < W.heap.size ∧ W.cell? ⟨bv, ov + k * 3, none⟩ = some (.bool tk) ∧ W.cell? ⟨bv, ov + k * 3 + 1, none⟩ = some (.string ts) ∧ W.cell? ⟨bv, ov + k * 3 + 2, none⟩ = some (.int .i64 tn) ∧ bv < W.heap.size ∧ Below wr.heap.size wr W)
                    (first | assumption | exact HK.out _ hbN | exact HK.out _ (Below.refl _ _).drew)
                    (first
                      | (go_at_call 31; refine (HQ.out _).mono ?_; rintro e w' ⟨rfl, hbl⟩; have hbN := Below.trans (show Below wr.heap.size wr _ by go_split_ands; assumption) (hbl.mono (Below.size (show Below wr.heap.size wr _ by go_split_ands; assumption))); clear hbl))
                  clear c0 hblw hcz hbz2 x0 x1 x2 hrbl y0 y1 y2 hbv2
                  go_split_ands
                  rename_i z0 z1 z2 z3 z4 z5 z6 z7 z8 z9 z10 z11 z12
                  have HB9 := Lib.hid z12
                  clear z2 z3 z4 z5 z6 z7 z8 z9 z10 z11 z12
                  have hsz9 : wo.heap.size ≤ w'.heap.size := Nat.le_trans HW.out.size HB9.out.size
                  have HO9 := Lib.hid (OwnG.below HO.out.1 HB9.out)
                  obtain ⟨hv, rvs, ix⟩ := r
                  have hre := HRE.out
                  simp only at hre
                  subst hre
                  go_wp2_with (at_builtin; refine wpList_append_row rfl (.tmp 70) (.tmp 75) rfl wo.heap.size (.slice na E2.length nc2) E2 rfl HO9.out ⟨.slice (some ⟨rb, ro, none⟩) rn rc, rvs, ix⟩ rfl (HFIT.out _ _ HO9.out (HBw2.out.trans (HB9.out.mono HBw2.out.size))) (by omega) hsz9 ?_; intro v5 w5 hO5 hb5; obtain ⟨a5, c5, e5, -⟩ := hO5.grid.len; subst e5; have HO5 := Lib.hid hO5; have HB5 : Hid (Below wo.heap.size wo w5) := (HW.out.trans (HB9.out.mono HW.out.size)).trans hb5; clear hO5 hb5)
                  go_roundw
                  case rel => exact ⟨m + 1, by omega, by omega, E2 ++ [⟨.slice (some ⟨rb, ro, none⟩) rn rc, rvs, ix⟩], a5, c5, ⟨rfl, by simp, rfl⟩, HO5.out, HSB.out, by have := HS2.out; rw [List.map_take] at this; exact this⟩
                  case measure => simp [intOf]; omega
              · have hmI : ¬ (m : Int) < (E.length : Int) := by omega
                have HFI : Hid (E2.map R.vs = (L0.map R.vs).filter (holdI cols vs (k + 1))) := by
                  show _ = _
                  rw [HO.out.2.2, List.take_of_length_le (by omega), HE.out.2.2.2, filter_holdI]
                go_wp2
                go_roundw
                case rel => (repeat apply Exists.intro); refine ⟨⟨k + 1, by omega, rfl, E2, na, nc2, rfl, ⟨HO.out.1.grid, HO.out.1.nilcap, fun r hr => HE.out.2.2.1 r (HO.out.2.1 r hr), HFI.out⟩, HPK.out, HEO.out.2.2.trans (HW.out.mono HEO.out.2.2.size)⟩, ?_⟩; repeat (first | exact rfl | (refine ⟨rfl, ?_⟩))
                case measure => simp [intOf]; omega
      · have h1I : ¬ (k : Int) < (cols.length : Int) := by omega
        obtain rfl : k = cols.length := by omega
        have HPP : Hid (Placed ar cols) := by have := HP.out; rw [List.take_length] at this; exact this
        have HSRT := Lib.hid (Gr.sort ⟨E, HE.out.1, HE.out.2.1, HE.out.2.2.2⟩ (by have h1 := List.length_filter_le (holdI cols vs cols.length) (L0.map R.vs); rw [List.length_map] at h1; have := HL.out; omega))
        clear q0r q1r
        go_wp2_with (go_at_call 22; refine HSRT.out.mono ?_; clear HSRT; intro e w9 hS; obtain ⟨x9, D9, rfl, h9⟩ := hS; have HG9 := Lib.hid (HGOOD.out wr x9 w9 HBw.out HPP.out ⟨x9, D9, rfl, h9⟩); clear h9)
        go_ret2
        exact HG9.out
end Go.Proofs.Ytkkpcphmojegmaa
