/-
  Contracts of the document's Rows, Sort (lambrequinref03).
-/
import Derived.Test.YtkkpcphmojegmaaTRef01
import Derived.Test.YtkkpcphmojegmaaTSrt
import Derived.Test.YtkkpcphmojegmaaTSwap
import Derived.Test.YtkkpcphmojegmaaTRows
namespace Go.Proofs.Ytkkpcphmojegmaa
set_option linter.unusedSimpArgs false
set_option linter.unusedVariables false
set_option linter.unusedSectionVars false
set_option maxRecDepth 100000
open Go.RowKit
variable [DecidableEq V]

theorem pair_keep {w W w' : World} {b1 o1 b2 o2 : Nat} {u v : Value} (h : W.cell? ⟨b1, o1, none⟩ = some u ∧ W.cell? ⟨b2, o2, none⟩ = some v ∧ b1 < W.heap.size ∧ b2 < W.heap.size ∧ Below w.heap.size w W) (hb : Below W.heap.size W w') :
    w'.cell? ⟨b1, o1, none⟩ = some u ∧ w'.cell? ⟨b2, o2, none⟩ = some v ∧ b1 < w'.heap.size ∧ b2 < w'.heap.size ∧ Below w.heap.size w w' := by
  obtain ⟨h1, h2, h3, h4, h5⟩ := h
  have := hb.size
  exact ⟨(hb.cell (p := ⟨b1, o1, none⟩) h3).trans h1, (hb.cell (p := ⟨b2, o2, none⟩) h4).trans h2, by omega, by omega, h5.trans (hb.mono h5.size)⟩

set_option maxHeartbeats 1600000 in
/-- The document's Rows, of lists of rows that are the very same. -/
theorem rows_same {x y : Value} {D E : List R} {w : World} (hx : Grid w x D) (hy : Grid w y E) (h : D.map R.vs = E.map R.vs) :
    Calls Try.prog 14 #[x, y] w fun e w' => e = .returned (.bool true) ∧ Below w.heap.size w w' := by
  obtain ⟨ao, cap, rfl, hm⟩ := hx.len
  obtain ⟨bo, bap, rfl, hn⟩ := hy.len
  have hl : E.length = D.length := by have := congrArg List.length h; simpa using this.symm
  unfold maxLen at hm
  have HX := Lib.hid hx
  have HY := Lib.hid hy
  have HV : Hid (∀ k (h1 : k < D.length) (h2 : k < E.length), E[k].vs = D[k].vs) := fun k h1 h2 => by
    have := congrArg (fun l => l[k]?) h
    simp only [List.getElem?_map, List.getElem?_eq_getElem h1, List.getElem?_eq_getElem h2, Option.map_some, Option.some.injEq] at this
    exact this.symm
  have HL := Lib.hid hl
  rw [hl] at HY ⊢
  clear hx hy hn h hl
  go_enter Try.func14, Try.ntmps14
  go_wp2_with fail
  go_loopw [5] (fun i wr => ∃ k : Nat, k ≤ D.length ∧ i = .int .i64 k ∧ Hid (Below w.heap.size w wr)) (fun i _ => D.length - (intOf i).toNat)
  case atStart => exact ⟨0, Nat.zero_le _, rfl, Below.refl _ _⟩
  case round =>
    obtain ⟨k, hk, rfl, HB⟩ := hrel
    by_cases hlt : k < D.length
    · have h1I : (k : Int) < (D.length : Int) := by omega
      have hlt2 : k < E.length := by rw [HL.out]; exact hlt
      obtain ⟨ba, oa, rfl, c0, hbl, v1, -⟩ := HX.out.at HB.out k hlt
      obtain ⟨bb, ob, rfl, d0, hbl2, v2, -⟩ := HY.out.at HB.out k hlt2
      rw [HV.out k hlt hlt2] at v2
      have hs := HB.out.size
      have hbw : ba < wr.heap.size := by omega
      have hbw2 : bb < wr.heap.size := by omega
      have hS : Hid (∀ W, Below wr.heap.size wr W → Calls Try.prog 32 #[D[k].hv, E[k].hv] W fun e w' => e = .returned (.bool true) ∧ Below W.heap.size W w') := fun W hb => row_same (v1.below hb) (v2.below hb)
      generalize D[k].hv = u at *
      generalize E[k].hv = v at *
      clear v1 v2 hs
      go_wp2_with fail
      go_region_held3 (fun w' => w'.cell? ⟨ba, oa + k, none⟩ = some u ∧ w'.cell? ⟨bb, ob + k, none⟩ = some v ∧ ba < w'.heap.size ∧ bb < w'.heap.size ∧ Below wr.heap.size wr w')
        (first | assumption | exact pair_keep (by assumption) hbN | exact ⟨c0, d0, hbw, hbw2, (Below.refl _ _).drew⟩)
        (first
          | (go_at_call 32; refine (hS.out _ (by go_split_ands; assumption)).mono ?_; rintro e w' ⟨rfl, hbN⟩))
      go_wp2
      go_roundw
      case rel =>
        go_split_ands
        rename_i y0 y1 y2 y3 y4
        exact ⟨k + 1, by omega, by go_num, HB.out.trans (y4.mono HB.out.size)⟩
      case measure => simp [intOf]; omega
    · go_wp2
      go_ret
      exact ⟨rfl, HB.out⟩

theorem ins_found {E : List R} {x : List V} {j : Nat} (hj : j < E.length) (h : ∀ i (hi : i < E.length), i < j → rcmp E[i].vs x < 0) (hc : rcmp E[j].vs x = 0) : ins x (E.map R.vs) = E.map R.vs := by
  have e : E.map R.vs = (E.take j).map R.vs ++ E[j].vs :: (E.drop (j + 1)).map R.vs := by
    rw [← List.map_cons, ← List.drop_eq_getElem_cons hj, ← List.map_append, List.take_append_drop]
  rw [e, ins_at, ins, if_neg (by omega), if_pos hc]
  intro y hy
  obtain ⟨r, hr, rfl⟩ := List.mem_map.1 hy
  obtain ⟨i, hi, rfl⟩ := List.mem_iff_getElem.1 hr
  simp only [List.length_take] at hi
  rw [List.getElem_take]
  exact h i (by omega) (by omega)
theorem ins_new {E : List R} {r : R} {j : Nat} (hj : j ≤ E.length) (h : ∀ i (hi : i < E.length), i < j → rcmp E[i].vs r.vs < 0) (hc : ∀ (hi : j < E.length), ¬ rcmp E[j].vs r.vs < 0 ∧ ¬ rcmp E[j].vs r.vs = 0) : ins r.vs (E.map R.vs) = ((E.take j ++ [r]) ++ E.drop j).map R.vs := by
  have h' : ∀ y ∈ (E.take j).map R.vs, rcmp y r.vs < 0 := by
    intro y hy
    obtain ⟨r', hr, rfl⟩ := List.mem_map.1 hy
    obtain ⟨i, hi, rfl⟩ := List.mem_iff_getElem.1 hr
    simp only [List.length_take] at hi
    rw [List.getElem_take]
    exact h i (by omega) (by omega)
  have e : E.map R.vs = (E.take j).map R.vs ++ (E.drop j).map R.vs := by rw [← List.map_append, List.take_append_drop]
  rw [e, ins_at h']
  by_cases hlt : j < E.length
  · obtain ⟨c1, c2⟩ := hc hlt
    have e2 : (E.drop j).map R.vs = E[j].vs :: (E.drop (j + 1)).map R.vs := by rw [List.drop_eq_getElem_cons hlt, List.map_cons]
    rw [e2, ins, if_neg c1, if_neg c2, List.map_append, List.map_append, e2]
    simp
  · rw [List.drop_of_length_le (by omega)]
    simp [ins]

/-- What has been sorted in so far. -/
def Sofar (D E : List R) (k : Nat) : Prop := E.map R.vs = srt ((D.take k).map R.vs) ∧ (∀ r ∈ E, r ∈ D) ∧ E.length ≤ k
theorem Sofar.start (D : List R) : Sofar D [] 0 := ⟨by simp [srt], fun _ h => by simp at h, Nat.le_refl _⟩
theorem Sofar.skip {D E : List R} {k j : Nat} (h : Sofar D E k) (hk : k < D.length) (hj : j < E.length) (h2 : ∀ i (hi : i < E.length), i < j → rcmp E[i].vs D[k].vs < 0) (hc : rcmp E[j].vs D[k].vs = 0) : Sofar D E (k + 1) := by
  obtain ⟨h0, h1, h3⟩ := h
  refine ⟨?_, h1, by omega⟩
  rw [List.take_succ_eq_append_getElem hk, List.map_append, List.map_singleton, srt_snoc, ← h0, ins_found hj h2 hc]
theorem Sofar.put {D E : List R} {k j : Nat} (h : Sofar D E k) (hk : k < D.length) (hj : j ≤ E.length) (h2 : ∀ i (hi : i < E.length), i < j → rcmp E[i].vs D[k].vs < 0) (hc : ∀ (hi : j < E.length), ¬ rcmp E[j].vs D[k].vs < 0 ∧ ¬ rcmp E[j].vs D[k].vs = 0) : Sofar D ((E.take j ++ [D[k]]) ++ E.drop j) (k + 1) := by
  obtain ⟨h0, h1, h3⟩ := h
  refine ⟨?_, fun r hr => ?_, by simp; omega⟩
  · rw [← ins_new hj h2 hc, List.take_succ_eq_append_getElem hk, List.map_append (l₁ := D.take k), List.map_singleton, srt_snoc, ← h0]
  · rcases List.mem_append.1 hr with hr | hr
    · rcases List.mem_append.1 hr with hr | hr
      · exact h1 r (List.mem_of_mem_take hr)
      · rw [List.mem_singleton.1 hr]; exact List.getElem_mem hk
    · exact h1 r (List.mem_of_mem_drop hr)

set_option maxHeartbeats 6400000 in
theorem refSort_any {w : World} {x : Value} {D : List R} (hx : Grid w x D) (hl : D.length ≤ 1000000) :
    Calls Try.prog 22 #[x] w fun e w' => ∃ x' D', e = .returned x' ∧ Below w.heap.size w w' ∧ OwnG w' w.heap.size x' D' ∧ D'.map R.vs = srt (D.map R.vs) ∧ ∀ r ∈ D', r ∈ D := by
  obtain ⟨ao, cap, rfl, hm⟩ := hx.len
  have HX := Lib.hid hx
  have l9 : (D.length : Int) ≤ 1000000 := by omega
  have HFT : Hid (∀ W B v E, w.heap.size ≤ B → OwnG W B v E → Below w.heap.size w W → ∀ r ∈ D, Fit W v r) := fun W B v E hB hO hb r hr => by
    obtain ⟨f1, f2⟩ := HX.out.vals r hr
    exact hO.older (W := w) hB f1 (f1.below hb) f2
  clear hx hm
  go_enter Try.func22, Try.ntmps22
  go_wp2_with fail
  go_loopw [3, 4] (fun v i wr => ∃ (k : Nat) (E : List R) (vo : Option Addr) (vc : Nat), k ≤ D.length ∧ i = .int .i64 k ∧ v = .slice vo E.length vc ∧ Hid (Sofar D E k) ∧ Hid (OwnG wr w.heap.size (.slice vo E.length vc) E) ∧ Hid (Below w.heap.size w wr)) (fun _ i _ => D.length - (intOf i).toNat)
  case atStart => exact ⟨0, [], none, 0, Nat.zero_le _, rfl, rfl, Sofar.start D, OwnG.nil _ _, Below.refl _ _⟩
  case round =>
    obtain ⟨k, E, vo, vc, hk, rfl, rfl, HS, HR, HB⟩ := hrel
    by_cases hlt : k < D.length
    · have h1I : (k : Int) < (D.length : Int) := by omega
      obtain ⟨b, off, rfl, c0, hbl, hV, hN⟩ := HX.out.at HB.out k hlt
      have hbw : b < wr.heap.size := by have := HB.out.size; omega
      have hEl : E.length ≤ 1000000 := by have := HS.out.2.2; omega
      have El9 : (E.length : Int) ≤ 1000000 := by omega
      have HSK := Lib.hid (fun j => HS.out.skip (j := j) hlt)
      have HPT := Lib.hid (fun j => HS.out.put (j := j) hlt)
      have HDK : Hid (D[k] ∈ D) := List.getElem_mem hlt
      have HED : Hid (∀ r ∈ E, r ∈ D) := HS.out.2.1
      obtain ⟨k1, hk1⟩ : ∃ q : Nat, q = k + 1 := ⟨_, rfl⟩
      have hk1I : (k : Int) + 1 = (k1 : Int) := by omega
      have HK1 := Lib.hid hk1
      have hV' := Lib.hid hV
      obtain ⟨ra, rc, er, -⟩ := hV.len
      generalize D[k] = r at *
      obtain ⟨hv, vs, ix⟩ := r
      simp only at er hV' c0 HSK HPT HDK
      subst er
      clear hV hN hk1 HS
      go_wp2_with fail
      obtain ⟨wo, hwo⟩ : ∃ wo, wo = wr := ⟨_, rfl⟩
      go_loopw [5] (fun jv wr => ∃ j : Nat, j ≤ E.length ∧ jv = .int .i64 j ∧ Hid (∀ i (hi : i < E.length), i < j → rcmp E[i].vs vs < 0) ∧ Hid (Below wo.heap.size wo wr)) (fun jv _ => E.length - (intOf jv).toNat)
      case atStart => subst hwo; exact ⟨0, Nat.zero_le _, rfl, fun i hi h => absurd h (by omega), Below.refl _ _⟩
      case round =>
        rw [← hwo] at HR HB hV' c0 hbw
        clear hwo
        obtain ⟨j, hj, rfl, HJ, HW⟩ := hrel
        have hR := HR.out.below HW.out
        have HB2 : Hid (Below w.heap.size w wr) := HB.out.trans (HW.out.mono HB.out.size)
        have HV2 := Lib.hid (hV'.out.below HW.out)
        have d0 : wr.cell? ⟨b, off + k, none⟩ = some (.slice ra vs.length rc) := (HW.out.cell (p := ⟨b, off + k, none⟩) hbw).trans c0
        have hbw2 : b < wr.heap.size := by have := HW.out.size; omega
        have hw2 : w.heap.size ≤ wr.heap.size := HB2.out.size
        have HR2 := Lib.hid hR
        have HWO := Lib.hid HW.out
        clear HR HB hV' HW c0 hbw
        by_cases hjl : j < E.length
        · have hjI : (j : Int) < (E.length : Int) := by omega
          obtain ⟨ge, oe, evo, e0, hgl, ve, -⟩ := hR.grid.at (Below.refl _ _) j hjl
          have hoe : oe = 0 := by
            rcases hR.2 with ⟨e1, _⟩ | ⟨g', c', e1, _⟩
            · injection e1 with e1; rw [evo] at e1; cases e1
            · injection e1 with e1; rw [evo] at e1; cases e1; rfl
          subst hoe evo
          rw [Nat.zero_add] at e0
          have hC : Hid (∀ W, Below wr.heap.size wr W → Calls Try.prog 34 #[E[j].hv, .slice ra vs.length rc] W fun e w' => e = .returned (.int .i64 (rcmp E[j].vs vs)) ∧ Below W.heap.size W w') := fun W hb => refRow_cmp (ve.below hb) (HV2.out.below hb)
          have HJN : Hid (rcmp E[j].vs vs < 0 → ∀ i (hi : i < E.length), i < j + 1 → rcmp E[i].vs vs < 0) := fun hc i hi hij => by
            by_cases e : i = j
            · subst e; exact hc
            · exact HJ.out i hi (by omega)
          have HSK2 := Lib.hid (HSK.out j hjl HJ.out)
          have HPT2 := Lib.hid (HPT.out j hj HJ.out)
          obtain ⟨z, hz⟩ : ∃ z, z = rcmp E[j].vs vs := ⟨_, rfl⟩
          have hzb : -1 ≤ z ∧ z ≤ 1 := by rw [hz]; exact rcmp_bd _ _
          rw [← hz] at hC HJN HSK2
          have HPT3 : Hid (z > 0 → Sofar D ((E.take j ++ [⟨.slice ra vs.length rc, vs, ix⟩]) ++ E.drop j) (k + 1)) := fun h => HPT2.out (fun _ => by rw [← hz]; constructor <;> omega)
          generalize E[j].hv = ev at *
          clear HSK HPT HPT2 HJ ve hz
          by_cases hc : z < 0
          · have hcI : decide (z < 0) = true := decide_eq_true hc
            have HJ2 := Lib.hid (HJN.out hc)
            go_wp2_with fail
            go_region_held3 (fun w' => w'.cell? ⟨ge, j, none⟩ = some ev ∧ w'.cell? ⟨b, off + k, none⟩ = some (.slice ra vs.length rc) ∧ ge < w'.heap.size ∧ b < w'.heap.size ∧ Below wr.heap.size wr w')
              (first | assumption | exact pair_keep (by assumption) hbN | exact ⟨e0, d0, hgl, hbw2, (Below.refl _ _).drew⟩)
              (first
                | (go_at_call 34; refine (hC.out _ (by go_split_ands; assumption)).mono ?_; rintro e w' ⟨rfl, hbN⟩))
            go_wp2
            go_roundw
            case rel =>
              go_split_ands
              rename_i y0 y1 y2 y3 y4
              exact ⟨j + 1, by omega, by go_num, HJ2, HWO.out.trans (y4.mono HWO.out.size)⟩
            case measure => simp [intOf]; omega
          · have hcI : decide (z < 0) = false := decide_eq_false hc
            go_wp2_with fail
            go_region_held3 (fun w' => w'.cell? ⟨ge, j, none⟩ = some ev ∧ w'.cell? ⟨b, off + k, none⟩ = some (.slice ra vs.length rc) ∧ ge < w'.heap.size ∧ b < w'.heap.size ∧ Below wr.heap.size wr w')
              (first | assumption | exact pair_keep (by assumption) hbN | exact ⟨e0, d0, hgl, hbw2, (Below.refl _ _).drew⟩)
              (first
                | (go_at_call 34; refine (hC.out _ (by go_split_ands; assumption)).mono ?_; rintro e w' ⟨rfl, hbN⟩))
            go_wp2_with fail
            go_split_ands
            rename_i w9 _ y0 y1 y2 y3 y4
            by_cases hc0 : z = 0
            · subst hc0
              have HS3 := Lib.hid (HSK2.out rfl)
              go_region_held3 (fun w' => w'.cell? ⟨ge, j, none⟩ = some ev ∧ w'.cell? ⟨b, off + k, none⟩ = some (.slice ra vs.length rc) ∧ ge < w'.heap.size ∧ b < w'.heap.size ∧ Below wr.heap.size wr w')
                (first | assumption | exact pair_keep (by assumption) hbN | exact ⟨y0, y1, y2, y3, y4.drew⟩)
                (first
                  | (go_at_call 34; refine (hC.out _ (by go_split_ands; assumption)).mono ?_; rintro e w' ⟨rfl, hbN⟩))
              go_wp2
              go_roundw
              case rel =>
                go_split_ands
                rename_i q0 q1 q2 q3 q4
                exact ⟨k1, E, some ⟨ge, 0, none⟩, vc, by have := HK1.out; omega, by first | rfl | go_num, rfl, by rw [HK1.out]; exact HS3, HR2.out.below q4, HB2.out.trans (q4.mono HB2.out.size)⟩
              case measure => simp [intOf]; have := HK1.out; omega
            · have hzb2 : (z == 0) = false := by simp [hc0]
              have HS3 := Lib.hid (HPT3.out (by omega))
              go_region_held3 (fun w' => w'.cell? ⟨ge, j, none⟩ = some ev ∧ w'.cell? ⟨b, off + k, none⟩ = some (.slice ra vs.length rc) ∧ ge < w'.heap.size ∧ b < w'.heap.size ∧ Below wr.heap.size wr w')
                (first | assumption | exact pair_keep (by assumption) hbN | exact ⟨y0, y1, y2, y3, y4.drew⟩)
                (first
                  | (go_at_call 34; refine (hC.out _ (by go_split_ands; assumption)).mono ?_; rintro e w' ⟨rfl, hbN⟩))
              clear y0 y1 y2 y3 y4
              go_split_ands
              rename_i w' _ y0 y1 y2 y3 y4
              have hR3 := HR2.out.below y4
              have HB3 : Hid (Below w.heap.size w w') := HB2.out.trans (y4.mono HB2.out.size)
              have hw3 : w.heap.size ≤ w'.heap.size := HB3.out.size
              have hvc : E.length ≤ vc := by
                rcases hR3.2 with ⟨e1, _⟩ | ⟨g', c', e1, _, _, e5⟩
                · injection e1 with e1; cases e1
                · injection e1 with _ _ e1; rw [e1]; exact e5.cap
              have hvcI : (E.length : Int) ≤ (vc : Int) := by omega
              have hjvI : (j : Int) ≤ (vc : Int) := by omega
              have hjlI : (j : Int) ≤ (E.length : Int) := by omega
              have HG3 := Lib.hid hR3.grid
              have HT1 : Hid (Grid (w'.alloc (.cells #[] 30)) (.slice (some ⟨ge, 0, none⟩) j vc) (E.take j)) := (HG3.out.take hj).below ((Below.refl _ _).alloc (Nat.le_refl _) _)
              have HF1 : Hid (∀ q ∈ E.take j, Fit (w'.alloc (.cells #[] 30)) (.slice (some ⟨w'.heap.size, 0, none⟩) 0 0) q) := fun q hq => HFT.out _ w'.heap.size _ _ hw3 (OwnG.empty (Nat.le_refl _)) (HB3.out.alloc hw3 _) q (HED.out q (List.mem_of_mem_take hq))
              have HC4 : Hid (∀ W, Below w'.heap.size w' W → W.cell? ⟨b, off + k, none⟩ = some (.slice ra vs.length rc)) := fun W hb => (hb.cell (p := ⟨b, off + k, none⟩) (Nat.lt_of_lt_of_le hbl hw3)).trans y1
              have HT3 : Hid (∀ W, Below w'.heap.size w' W → Grid W (.slice (some ⟨ge, j, none⟩) (E.length - j) (vc - j)) (E.drop j)) := fun W hb => by
                have := (HG3.out.below hb).drop (k := j) (m := E.length - j) (c' := vc - j) rfl
                rwa [Nat.zero_add] at this
              have HBW : Hid (∀ W, Below w'.heap.size w' W → Below w.heap.size w W) := fun W hb => HB3.out.trans (hb.mono hw3)
              clear y1 hR3
              go_wp2_with (first
                | (at_builtin; refine wpList_append_rows rfl _ _ rfl w'.heap.size (.slice (some ⟨w'.heap.size, 0, none⟩) 0 0) [] rfl (OwnG.empty (Nat.le_refl _)) (.slice (some ⟨ge, 0, none⟩) j vc) (E.take j) rfl HT1.out NilCap.at HF1.out (by simp; omega) (by simp) ?_; intro v4 w4 hO4 hb4; have HB4 : Hid (Below w'.heap.size w' w4) := ((Below.refl _ _).alloc (Nat.le_refl _) _).trans hb4; have hw4 : w'.heap.size ≤ w4.heap.size := HB4.out.size; have HO4 : Hid (OwnG w4 w'.heap.size v4 (E.take j)) := hO4; have d4 : w4.cell? ⟨b, off + k, none⟩ = some (.slice ra vs.length rc) := HC4.out w4 HB4.out; clear hO4 hb4)
                | (at_builtin; refine wpList_append_row rfl _ _ rfl w'.heap.size v4 (E.take j) rfl HO4.out ⟨.slice ra vs.length rc, vs, ix⟩ rfl (HFT.out _ _ _ _ hw3 HO4.out (HBW.out _ HB4.out) _ HDK.out) (by simp; omega) hw4 ?_; intro v5 w5 hO5 hb5; have HB5 : Hid (Below w'.heap.size w' w5) := HB4.out.trans hb5; have hw5 : w'.heap.size ≤ w5.heap.size := HB5.out.size; have HO5 := Lib.hid hO5; clear hO5 hb5)
                | (at_builtin; refine wpList_append_rows rfl _ _ rfl w'.heap.size v5 (E.take j ++ [⟨.slice ra vs.length rc, vs, ix⟩]) rfl HO5.out (.slice (some ⟨ge, j, none⟩) (E.length - j) (vc - j)) (E.drop j) rfl (HT3.out w5 HB5.out) NilCap.at (fun q hq => HFT.out _ _ _ _ hw3 HO5.out (HBW.out _ HB5.out) q (HED.out q (List.mem_of_mem_drop hq))) (by simp; omega) hw5 ?_; intro v6 w6 hO6 hb6; have HB6 : Hid (Below w'.heap.size w' w6) := HB5.out.trans hb6; have HO6 := Lib.hid hO6; clear hO6 hb6))
              go_roundw
              case rel =>
                obtain ⟨vo, vc', ev', -⟩ := HO6.out.grid.len
                refine ⟨k1, _, vo, vc', by have := HK1.out; omega, by first | rfl | go_num, ev', by rw [HK1.out]; exact HS3, ?_, HBW.out _ HB6.out⟩
                rw [← ev']
                exact HO6.out.mono hw3
              case measure => simp [intOf]; have := HK1.out; omega
        · obtain rfl : j = E.length := by omega
          have HS3 := Lib.hid (HPT.out E.length hj HJ.out (fun h => absurd h (by omega)))
          clear HSK HPT HJ
          rcases hR.2 with ⟨e1, e2⟩ | ⟨ge, c', e1, e2, e3, e4⟩
          · injection e1 with e1 _ e1c
            subst e1 e1c e2
            have HS3 : Hid (Sofar D [⟨.slice ra vs.length rc, vs, ix⟩] (k + 1)) := Lib.hid (by have := HS3.out; simpa using this)
            clear hR
            simp only [List.length_nil] at HR2 El9 hEl hj ⊢
            have hmix := mixed
            go_wp2_with fail
            go_big_region_o
            go_wp2_with fail
            go_big_region_o
            obtain ⟨w', hw'⟩ : ∃ w', w' = wr.drew.drew := ⟨_, rfl⟩
            have y4 : Below wr.heap.size wr w' := by rw [hw']; exact ((Below.refl _ _).drew).drew
            have y1 : w'.cell? ⟨b, off + k, none⟩ = some (.slice ra vs.length rc) := (y4.cell (p := ⟨b, off + k, none⟩) hbw2).trans d0
            rw [← hw']
            clear hw'
            have hR3 := HR2.out.below y4
            have HB3 : Hid (Below w.heap.size w w') := HB2.out.trans (y4.mono HB2.out.size)
            have hw3 : w.heap.size ≤ w'.heap.size := HB3.out.size
            have HC4 : Hid (∀ W, Below w'.heap.size w' W → W.cell? ⟨b, off + k, none⟩ = some (.slice ra vs.length rc)) := fun W hb => (hb.cell (p := ⟨b, off + k, none⟩) (Nat.lt_of_lt_of_le hbl hw3)).trans y1
            have HBW : Hid (∀ W, Below w'.heap.size w' W → Below w.heap.size w W) := fun W hb => HB3.out.trans (hb.mono hw3)
            clear y1
            go_wp2_with (first
              | (at_builtin; refine wpList_append_rows rfl _ _ rfl w'.heap.size (.slice (some ⟨w'.heap.size, 0, none⟩) 0 0) [] rfl (OwnG.empty (Nat.le_refl _)) (.slice none 0 0) [] rfl (Grid.nothing _) (fun _ _ e => by injection e with _ _ e; exact e.symm) (fun _ h => by simp at h) (by simp) (by simp) ?_; intro v4 w4 hO4 hb4; have HB4 : Hid (Below w'.heap.size w' w4) := ((Below.refl _ _).alloc (Nat.le_refl _) _).trans hb4; have hw4 : w'.heap.size ≤ w4.heap.size := HB4.out.size; have HO4 : Hid (OwnG w4 w'.heap.size v4 []) := hO4; have d4 : w4.cell? ⟨b, off + k, none⟩ = some (.slice ra vs.length rc) := HC4.out w4 HB4.out; clear hO4 hb4)
              | (at_builtin; refine wpList_append_row rfl _ _ rfl w'.heap.size v4 [] rfl HO4.out ⟨.slice ra vs.length rc, vs, ix⟩ rfl (HFT.out _ _ _ _ hw3 HO4.out (HBW.out _ HB4.out) _ HDK.out) (by simp) hw4 ?_; intro v5 w5 hO5 hb5; have HB5 : Hid (Below w'.heap.size w' w5) := HB4.out.trans hb5; have hw5 : w'.heap.size ≤ w5.heap.size := HB5.out.size; have HO5 : Hid (OwnG w5 w'.heap.size v5 [⟨.slice ra vs.length rc, vs, ix⟩]) := hO5; clear hO5 hb5)
              | (at_builtin; refine wpList_append_rows rfl _ _ rfl w'.heap.size v5 [⟨.slice ra vs.length rc, vs, ix⟩] rfl HO5.out (.slice none 0 0) [] rfl (Grid.nothing _) (fun _ _ e => by injection e with _ _ e; exact e.symm) (fun _ h => by simp at h) (by simp) hw5 ?_; intro v6 w6 hO6 hb6; have HB6 : Hid (Below w'.heap.size w' w6) := HB5.out.trans hb6; have HO6 : Hid (OwnG w6 w'.heap.size v6 [⟨.slice ra vs.length rc, vs, ix⟩]) := hO6; clear hO6 hb6))
            go_roundw
            case rel =>
              obtain ⟨vo, vc', ev', -⟩ := HO6.out.grid.len
              refine ⟨k1, _, vo, vc', by have := HK1.out; omega, by first | rfl | go_num, ev', by rw [HK1.out]; exact HS3, ?_, HBW.out _ HB6.out⟩
              rw [← ev']
              exact HO6.out.mono hw3
            case measure => simp [intOf]; have := HK1.out; omega
          · injection e1 with e1 _ e1c
            subst e1 e1c
            have hvc := e4.cap
            clear hR e2 e3 e4
            obtain ⟨j, hjj⟩ : ∃ j, j = E.length := ⟨_, rfl⟩
            have HJJ := Lib.hid hjj
            rw [← hjj] at HS3
            have hjn : ¬ (j : Int) < (E.length : Int) := by omega
            have hj : j ≤ E.length := by omega
            have hje : (E.length : Int) = (j : Int) := by omega
            clear hjj
            have hmix := mixed
            go_wp2_with fail
            go_big_region_o
            go_wp2_with fail
            go_big_region_o
            obtain ⟨w', hw'⟩ : ∃ w', w' = wr.drew.drew := ⟨_, rfl⟩
            have y4 : Below wr.heap.size wr w' := by rw [hw']; exact ((Below.refl _ _).drew).drew
            have y1 : w'.cell? ⟨b, off + k, none⟩ = some (.slice ra vs.length rc) := (y4.cell (p := ⟨b, off + k, none⟩) hbw2).trans d0
            rw [← hw']
            clear hw'
            have hR3 := HR2.out.below y4
            have HB3 : Hid (Below w.heap.size w w') := HB2.out.trans (y4.mono HB2.out.size)
            have hw3 : w.heap.size ≤ w'.heap.size := HB3.out.size
            have hvcI : (E.length : Int) ≤ (vc : Int) := by omega
            by_cases hjv : j < vc
            · have hjv2 : (j : Int) < (vc : Int) := by omega
              have hjvI : (j : Int) ≤ (vc : Int) := by omega
              have hjlI : (j : Int) ≤ (E.length : Int) := by omega
              have HG3 := Lib.hid hR3.grid
              have HT1 : Hid (Grid (w'.alloc (.cells #[] 30)) (.slice (some ⟨ge, 0, none⟩) j vc) (E.take j)) := (HG3.out.take hj).below ((Below.refl _ _).alloc (Nat.le_refl _) _)
              have HF1 : Hid (∀ q ∈ E.take j, Fit (w'.alloc (.cells #[] 30)) (.slice (some ⟨w'.heap.size, 0, none⟩) 0 0) q) := fun q hq => HFT.out _ w'.heap.size _ _ hw3 (OwnG.empty (Nat.le_refl _)) (HB3.out.alloc hw3 _) q (HED.out q (List.mem_of_mem_take hq))
              have HC4 : Hid (∀ W, Below w'.heap.size w' W → W.cell? ⟨b, off + k, none⟩ = some (.slice ra vs.length rc)) := fun W hb => (hb.cell (p := ⟨b, off + k, none⟩) (Nat.lt_of_lt_of_le hbl hw3)).trans y1
              have HT3 : Hid (∀ W, Below w'.heap.size w' W → Grid W (.slice (some ⟨ge, j, none⟩) (E.length - j) (vc - j)) (E.drop j)) := fun W hb => by
                have := (HG3.out.below hb).drop (k := j) (m := E.length - j) (c' := vc - j) rfl
                rwa [Nat.zero_add] at this
              have HBW : Hid (∀ W, Below w'.heap.size w' W → Below w.heap.size w W) := fun W hb => HB3.out.trans (hb.mono hw3)
              clear y1 hR3
              go_wp2_with (first
                | (at_builtin; refine wpList_append_rows rfl _ _ rfl w'.heap.size (.slice (some ⟨w'.heap.size, 0, none⟩) 0 0) [] rfl (OwnG.empty (Nat.le_refl _)) (.slice (some ⟨ge, 0, none⟩) j vc) (E.take j) rfl HT1.out NilCap.at HF1.out (by simp; omega) (by simp) ?_; intro v4 w4 hO4 hb4; have HB4 : Hid (Below w'.heap.size w' w4) := ((Below.refl _ _).alloc (Nat.le_refl _) _).trans hb4; have hw4 : w'.heap.size ≤ w4.heap.size := HB4.out.size; have HO4 : Hid (OwnG w4 w'.heap.size v4 (E.take j)) := hO4; have d4 : w4.cell? ⟨b, off + k, none⟩ = some (.slice ra vs.length rc) := HC4.out w4 HB4.out; clear hO4 hb4)
                | (at_builtin; refine wpList_append_row rfl _ _ rfl w'.heap.size v4 (E.take j) rfl HO4.out ⟨.slice ra vs.length rc, vs, ix⟩ rfl (HFT.out _ _ _ _ hw3 HO4.out (HBW.out _ HB4.out) _ HDK.out) (by simp; omega) hw4 ?_; intro v5 w5 hO5 hb5; have HB5 : Hid (Below w'.heap.size w' w5) := HB4.out.trans hb5; have hw5 : w'.heap.size ≤ w5.heap.size := HB5.out.size; have HO5 := Lib.hid hO5; clear hO5 hb5)
                | (at_builtin; refine wpList_append_rows rfl _ _ rfl w'.heap.size v5 (E.take j ++ [⟨.slice ra vs.length rc, vs, ix⟩]) rfl HO5.out (.slice (some ⟨ge, j, none⟩) (E.length - j) (vc - j)) (E.drop j) rfl (HT3.out w5 HB5.out) NilCap.at (fun q hq => HFT.out _ _ _ _ hw3 HO5.out (HBW.out _ HB5.out) q (HED.out q (List.mem_of_mem_drop hq))) (by simp; omega) hw5 ?_; intro v6 w6 hO6 hb6; have HB6 : Hid (Below w'.heap.size w' w6) := HB5.out.trans hb6; have HO6 := Lib.hid hO6; clear hO6 hb6))
              go_roundw
              case rel =>
                obtain ⟨vo, vc', ev', -⟩ := HO6.out.grid.len
                refine ⟨k1, _, vo, vc', by have := HK1.out; omega, by first | rfl | go_num, ev', by rw [HK1.out]; exact HS3, ?_, HBW.out _ HB6.out⟩
                rw [← ev']
                exact HO6.out.mono hw3
              case measure => simp [intOf]; have := HK1.out; omega
            · have hjv1 : vc = j := by omega
              subst hjv1
              have hjvI : (vc : Int) ≤ (vc : Int) := by omega
              have hjlI : (vc : Int) ≤ (E.length : Int) := by omega
              have HG3 := Lib.hid hR3.grid
              have HT1 : Hid (Grid (w'.alloc (.cells #[] 30)) (.slice (some ⟨ge, 0, none⟩) vc vc) (E.take vc)) := (HG3.out.take hj).below ((Below.refl _ _).alloc (Nat.le_refl _) _)
              have HF1 : Hid (∀ q ∈ E.take vc, Fit (w'.alloc (.cells #[] 30)) (.slice (some ⟨w'.heap.size, 0, none⟩) 0 0) q) := fun q hq => HFT.out _ w'.heap.size _ _ hw3 (OwnG.empty (Nat.le_refl _)) (HB3.out.alloc hw3 _) q (HED.out q (List.mem_of_mem_take hq))
              have HC4 : Hid (∀ W, Below w'.heap.size w' W → W.cell? ⟨b, off + k, none⟩ = some (.slice ra vs.length rc)) := fun W hb => (hb.cell (p := ⟨b, off + k, none⟩) (Nat.lt_of_lt_of_le hbl hw3)).trans y1
              have HT3 : Hid (∀ W, Below w'.heap.size w' W → ∀ cc, Grid W (.slice (some ⟨ge, 0, none⟩) 0 cc) (E.drop vc)) := fun W hb cc => by
                rw [List.drop_of_length_le (by omega)]
                exact ⟨some ⟨ge, 0, none⟩, cc, rfl, by simp [maxLen], fun i hi => by simp at hi⟩
              have HBW : Hid (∀ W, Below w'.heap.size w' W → Below w.heap.size w W) := fun W hb => HB3.out.trans (hb.mono hw3)
              clear y1 hR3
              go_wp2_with (first
                | (at_builtin; refine wpList_append_rows rfl _ _ rfl w'.heap.size (.slice (some ⟨w'.heap.size, 0, none⟩) 0 0) [] rfl (OwnG.empty (Nat.le_refl _)) (.slice (some ⟨ge, 0, none⟩) vc vc) (E.take vc) rfl HT1.out NilCap.at HF1.out (by simp; omega) (by simp) ?_; intro v4 w4 hO4 hb4; have HB4 : Hid (Below w'.heap.size w' w4) := ((Below.refl _ _).alloc (Nat.le_refl _) _).trans hb4; have hw4 : w'.heap.size ≤ w4.heap.size := HB4.out.size; have HO4 : Hid (OwnG w4 w'.heap.size v4 (E.take vc)) := hO4; have d4 : w4.cell? ⟨b, off + k, none⟩ = some (.slice ra vs.length rc) := HC4.out w4 HB4.out; clear hO4 hb4)
                | (at_builtin; refine wpList_append_row rfl _ _ rfl w'.heap.size v4 (E.take vc) rfl HO4.out ⟨.slice ra vs.length rc, vs, ix⟩ rfl (HFT.out _ _ _ _ hw3 HO4.out (HBW.out _ HB4.out) _ HDK.out) (by simp; omega) hw4 ?_; intro v5 w5 hO5 hb5; have HB5 : Hid (Below w'.heap.size w' w5) := HB4.out.trans hb5; have hw5 : w'.heap.size ≤ w5.heap.size := HB5.out.size; have HO5 := Lib.hid hO5; clear hO5 hb5)
                | (at_builtin; refine wpList_append_rows rfl _ _ rfl w'.heap.size v5 (E.take vc ++ [⟨.slice ra vs.length rc, vs, ix⟩]) rfl HO5.out (.slice (some ⟨ge, 0, none⟩) 0 _) (E.drop vc) rfl (HT3.out w5 HB5.out _) NilCap.at (fun q hq => HFT.out _ _ _ _ hw3 HO5.out (HBW.out _ HB5.out) q (HED.out q (List.mem_of_mem_drop hq))) (by simp; omega) hw5 ?_; intro v6 w6 hO6 hb6; have HB6 : Hid (Below w'.heap.size w' w6) := HB5.out.trans hb6; have HO6 := Lib.hid hO6; clear hO6 hb6))
              go_roundw
              case rel =>
                obtain ⟨vo, vc', ev', -⟩ := HO6.out.grid.len
                refine ⟨k1, _, vo, vc', by have := HK1.out; omega, by first | rfl | go_num, ev', by rw [HK1.out]; exact HS3, ?_, HBW.out _ HB6.out⟩
                rw [← ev']
                exact HO6.out.mono hw3
              case measure => simp [intOf]; have := HK1.out; omega
    · obtain rfl : k = D.length := by omega
      have hS := HS.out
      have H1 : Hid (E.map R.vs = srt (D.map R.vs)) := by have := hS.1; rwa [List.take_of_length_le (Nat.le_refl _)] at this
      have H2 : Hid (∀ r ∈ E, r ∈ D) := hS.2.1
      clear hS HS
      go_wp2
      go_ret
      exact ⟨_, E, rfl, HB.out, HR.out, H1.out, H2.out⟩
end Go.Proofs.Ytkkpcphmojegmaa
