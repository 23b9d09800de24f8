/-
  The walk of TupleSorted: what is sorted rises, each once, sorted again it is as it is; a row that was there is there: the law returns true; of old memory nothing turns.
-/
import Derived.Test.YtfjkfblejfiglaaDoorTSortsW
namespace Go.Proofs.YtfjkfblejfiglaaDoor
set_option linter.unusedSimpArgs false
set_option linter.unusedVariables false
set_option linter.unusedSectionVars false
set_option maxRecDepth 100000
open Go.RowKit
variable [DecidableEq V]

theorem rise_at {D : List R} (h : Rise (D.map R.vs)) {i j : Nat} (hj : j < D.length) (hij : i < j) : rcmp (D[i]'(by omega)).vs D[j].vs = -1 := by
  have := List.pairwise_iff_getElem.1 h i j (by simp; omega) (by simpa using hj) hij
  simp only [List.getElem_map] at this
  have := rcmp_bd (D[i]'(by omega)).vs D[j].vs
  omega
theorem sorted_has {D E : List R} (h : E.map R.vs = srt (D.map R.vs)) {m : Nat} (hm : m < D.length) (hn : ∀ i (hi : i < E.length), rcmp E[i].vs D[m].vs ≠ 0) : False := by
  have h1 : D[m].vs ∈ D.map R.vs := List.mem_map_of_mem (List.getElem_mem hm)
  obtain ⟨z, z1, z2⟩ := first_some h1
  have h2 := (srt_mem _ _).2 z1
  rw [← h] at h2
  obtain ⟨r, hr, rfl⟩ := List.mem_map.1 h2
  obtain ⟨i, hi, rfl⟩ := List.mem_iff_getElem.1 hr
  exact hn i hi z2
theorem sorted_short {D E : List R} (h : E.map R.vs = srt (D.map R.vs)) {n : Nat} (hr : ∀ r ∈ D, r.vs.length ≤ n) : ∀ r ∈ E, r.vs.length ≤ n := by
  intro r hm
  have h2 : r.vs ∈ E.map R.vs := List.mem_map_of_mem hm
  rw [h] at h2
  obtain ⟨s, hs, e⟩ := List.mem_map.1 (first_mem ((srt_mem _ _).1 h2))
  rw [← e]; exact hr s hs

/-- The row that the law asks for. -/
def tgt (D : List R) (a : Nat) : List V := ((D[a % D.length]?).map R.vs).getD []
theorem tgt_at {D : List R} {a : Nat} (h : 0 < D.length) : ∃ (m : Nat), (a : Int).tmod (D.length : Int) = (m : Int) ∧ ∃ (hm : m < D.length), tgt D a = D[m].vs ∧ True := by
  refine ⟨a % D.length, by rw [Int.tmod_eq_emod_of_nonneg (by omega)]; exact (Int.natCast_emod a D.length).symm, Nat.mod_lt _ h, ?_, trivial⟩
  simp [tgt, List.getElem?_eq_getElem (Nat.mod_lt a h)]

set_option maxHeartbeats 6400000 in
theorem sorted_walk {x : Value} {D : List R} {n : Int} {w : World} (hx : Grid w x D) (hn0 : 0 ≤ n) (hn1 : n ≤ 255) (ht : Tab w) :
    Calls Tryd.prog 4 #[x, .int .u8 n] w fun e w' => e = .returned (.bool true) ∧ Below w.heap.size w w' := by
  obtain ⟨ao, cap, rfl, hm⟩ := hx.len
  have HX := Lib.hid hx
  have HT := Lib.hid ht
  obtain ⟨a, rfl⟩ : ∃ a : Nat, n = (a : Int) := ⟨n.toNat, by omega⟩
  clear hx ht hm
  go_enter Tryd.func4, Tryd.ntmps4
  go_wp2_with fail
  refine (shown3_any w HT.out).mono ?_
  rintro e w1 ⟨rfl, hb1⟩
  have HB1 := Lib.hid hb1
  have HX1 := Lib.hid (HX.out.below hb1)
  clear hb1 HX HT
  go_wp2_with fail
  refine (few_any HX1.out).mono ?_
  rintro e w2 ⟨c, rfl, rfl, hc⟩
  cases c with
  | false =>
    clear hc
    go_wp2
    go_ret
    exact ⟨rfl, HB1.out⟩
  | true =>
    obtain ⟨hl, hr⟩ := hc rfl
    have HL : Hid (D.length ≤ 40 ∧ ∀ r ∈ D, r.vs.length ≤ 20) := ⟨hl, hr⟩
    have l9 : (D.length : Int) ≤ 40 := by omega
    clear hc hl hr
    go_wp2_with fail
    refine (sort_any HX1.out (by have := HL.out.1; omega) (fun r hr => by have := HL.out.2 r hr; omega)).mono ?_
    rintro e w3 ⟨x3, E, rfl, hb3, hO3, he3⟩
    have HB3 : Hid (Below w.heap.size w w3) := HB1.out.trans (hb3.mono HB1.out.size)
    have HX3 := Lib.hid (HX1.out.below hb3)
    have HG3 := Lib.hid hO3.grid
    have HE3 := Lib.hid he3
    have HRI : Hid (Rise (E.map R.vs)) := by show Rise (E.map R.vs); rw [he3]; exact srt_rise _
    have hEl : E.length ≤ D.length := by have := srt_le (D.map R.vs); rw [← he3] at this; simpa using this
    have El9 : (E.length : Int) ≤ 40 := by omega
    have ElD : (E.length : Int) ≤ (D.length : Int) := by omega
    obtain ⟨eo, ec, ex, -⟩ := hO3.grid.len
    subst ex
    clear hb3 hO3 he3 HX1 HB1
    go_wp2_with fail
    go_loopw [7] (fun i wr => ∃ k : Nat, 1 ≤ k ∧ i = .int .i64 k ∧ Hid (Below w3.heap.size w3 wr)) (fun i _ => 50 - (intOf i).toNat)
    case atStart => exact ⟨1, Nat.le_refl _, by first | rfl | go_num, Below.refl _ _⟩
    case round =>
      obtain ⟨k, hk, rfl, HB⟩ := hrel
      by_cases hlt : k < E.length
      · have hltI : (k : Int) < (E.length : Int) := by omega
        obtain ⟨kp, hkp⟩ : ∃ q, k = q + 1 := ⟨k - 1, by omega⟩
        obtain ⟨b1, o1, rfl, c1, hb1, v1, -⟩ := HG3.out.at HB.out kp (by omega)
        obtain ⟨b2, o2, e2, c2, hb2, v2, -⟩ := HG3.out.at HB.out k hlt
        cases e2
        have hs := HB.out.size
        have hgl : b1 < wr.heap.size := by omega
        have hC : Hid (∀ W, Below wr.heap.size wr W → Calls Tryd.prog 10 #[(E[kp]'(by omega)).hv, E[k].hv] W fun e w' => e = .returned (.int .i64 (-1)) ∧ Below W.heap.size W w') := fun W hb => by
          have := tcmp_any (v1.below hb) (v2.below hb)
          rwa [rise_at HRI.out hlt (by omega)] at this
        generalize E[k].hv = yv at *
        generalize (E[kp]'(by omega)).hv = xv at *
        clear v1 v2 hs hb1 hb2
        have zk : (k : Int) = (kp : Int) + 1 := by omega
        have ea : ((kp : Int) + 1).toNat = k := by omega
        have pa : (0 : Int) ≤ (kp : Int) + 1 := by omega
        have ba : (kp : Int) + 1 < (E.length : Int) := by omega
        have ra : IntKind.i64.wrap ((kp : Int) + 1) = (kp : Int) + 1 := by rw [IntKind.wrap_i64]; omega
        have rc : IntKind.i64.wrap (kp : Int) = (kp : Int) := by rw [IntKind.wrap_i64]; omega
        have lk : (kp : Int) < (E.length : Int) := by omega
        obtain ⟨k1, hk1⟩ : ∃ q : Nat, q = k + 1 := ⟨_, rfl⟩
        have zk1 : (k : Int) + 1 = (k1 : Int) := by omega
        have zk2 : (kp : Int) + 1 + 1 = (k1 : Int) := by omega
        have HK1 := Lib.hid hk1
        clear hk1 hkp
        go_wp2_with fail
        go_region_held3 (fun w' => w'.cell? ⟨b1, o1 + kp, none⟩ = some xv ∧ w'.cell? ⟨b1, o1 + k, none⟩ = some yv ∧ b1 < w'.heap.size ∧ Below wr.heap.size wr w')
          (first | assumption | exact two_keep (by assumption) hbN | exact ⟨c1, c2, hgl, (Below.refl _ _).drew⟩)
          (first
            | (go_at_call 10; refine (hC.out _ (by go_split_ands; assumption)).mono ?_; rintro e w' ⟨rfl, hbN⟩))
        go_wp2
        go_roundw
        case rel =>
          go_split_ands
          rename_i y0 y1 y2 y3
          exact ⟨k1, by have := HK1.out; omega, by first | rfl | go_num, HB.out.trans (y3.mono HB.out.size)⟩
        case measure => simp [intOf]; have := HK1.out; omega
      · have hltI : ¬ (k : Int) < (E.length : Int) := by omega
        by_cases hD : D.length = 0
        · have hE0 : E = [] := List.eq_nil_of_length_eq_zero (by omega)
          subst hE0
          simp only [List.length_nil] at *
          have hS : Hid (∀ W, Below w3.heap.size w3 W → Calls Tryd.prog 8 #[.slice eo 0 ec] W fun e w' => SortOut W [] e w') := fun W hb => sort_any (D := []) (HG3.out.below hb) (by simp) (fun r hr => by simp at hr)
          have hDI : (D.length : Int) = 0 := by omega
          have hDb : ((D.length : Int) == 0) = true := by simp [hDI]
          have HEE : Hid (srt ([] : List (List V)) = []) := rfl
          go_wp2_with fail
          go_loopw [8, 9] (fun fv i wr => fv = .bool true ∧ i = .int .i64 0 ∧ Hid (Below w3.heap.size w3 wr)) (fun _ _ _ => 0)
          case atStart => exact ⟨by first | rfl | simp, rfl, HB⟩
          case round =>
            clear HB
            obtain ⟨rfl, rfl, HB⟩ := hrel
            have hS2 := Lib.hid (hS.out _ HB.out)
            clear hS
            go_wp2_with fail
            refine (hS2.out).mono ?_
            rintro e w5 ⟨x5, D5, rfl, hb5, hO5, he5⟩
            have HB5 : Hid (Below w3.heap.size w3 w5) := HB.out.trans (hb5.mono HB.out.size)
            have hR := Lib.hid (rows_same (E := []) hO5.grid (HG3.out.below HB5.out) (by rw [he5]; rfl))
            clear hb5 hO5 he5
            go_wp2_with fail
            refine (hR.out).mono ?_
            rintro e w6 ⟨rfl, hb6⟩
            have HB6 : Hid (Below w.heap.size w w6) := HB3.out.trans ((HB5.out.trans (hb6.mono HB5.out.size)).mono HB3.out.size)
            clear hb6
            go_wp2
            go_ret
            exact ⟨rfl, HB6.out⟩
        · have hDI : ¬ (D.length : Int) = 0 := by omega
          have hDb : ((D.length : Int) == 0) = false := by rw [beq_eq_false_iff_ne]; exact hDI
          have HD1 : Hid (0 < D.length) := by show 0 < D.length; omega
          have hs2 : Hid (∀ W, Below w3.heap.size w3 W → Calls Tryd.prog 8 #[.slice eo E.length ec] W fun e w' => SortOut W (E.map R.vs) e w') := fun W hb => sort_any (HG3.out.below hb) (by omega) (fun r hr => by have := sorted_short HE3.out HL.out.2 r hr; omega)
          have HEE : Hid (srt (E.map R.vs) = E.map R.vs) := srt_rising HRI.out
          go_wp2_with fail
          go_loopw [8, 9] (fun fv i wr => ∃ (k : Nat) (fb : Bool), i = .int .i64 k ∧ fv = .bool fb ∧ k ≤ E.length ∧ Hid (fb = true ∨ (0 < D.length ∧ ∀ j (hj : j < E.length), j < k → rcmp E[j].vs (tgt D a) ≠ 0)) ∧ Hid (Below w3.heap.size w3 wr)) (fun _ i _ => 50 - (intOf i).toNat)
          case atStart => exact ⟨0, false, by first | rfl | go_num, by first | rfl | simp, Nat.zero_le _, .inr ⟨HD1.out, fun j hj h => absurd h (by omega)⟩, HB⟩
          case round =>
            clear HB
            obtain ⟨k2, fb, rfl, rfl, hk2, HF, HB⟩ := hrel
            by_cases hgo : k2 < E.length ∧ 0 < D.length
            · obtain ⟨hlt2, hD2⟩ := hgo
              have hlt2I : (k2 : Int) < (E.length : Int) := by omega
              have hD2I : (0 : Int) < (D.length : Int) := by omega
              have hD3I : (D.length : Int) > 0 := by omega
              obtain ⟨k1, hk1⟩ : ∃ q : Nat, q = k2 + 1 := ⟨_, rfl⟩
              have zk1 : (k2 : Int) + 1 = (k1 : Int) := by omega
              have HK1 := Lib.hid hk1
              clear hk1
              cases fb with
              | true =>
                have hmix := mixed
                go_wp2_with fail
                go_big_region_o
                go_wp2
                go_roundw
                case rel => exact ⟨k1, true, by first | rfl | go_num, rfl, by have := HK1.out; omega, .inl rfl, HB.out.drew⟩
                case measure => simp [intOf]; have := HK1.out; omega
              | false =>
                obtain ⟨m, hm, hml, hmt, -⟩ := tgt_at (a := a) hD2
                obtain ⟨b1, o1, rfl, c1, hb1, v1, -⟩ := HG3.out.at HB.out k2 hlt2
                obtain ⟨b2, o2, rfl, c2, hb2, v2, -⟩ := HX3.out.at HB.out m hml
                rw [← hmt] at v2
                have hs := HB.out.size
                have hg1 : b1 < wr.heap.size := by omega
                have hg2 : b2 < wr.heap.size := by omega
                have hC : Hid (∀ W, Below wr.heap.size wr W → Calls Tryd.prog 10 #[E[k2].hv, D[m].hv] W fun e w' => e = .returned (.int .i64 (rcmp E[k2].vs (tgt D a))) ∧ Below W.heap.size W w') := fun W hb => tcmp_any (v1.below hb) (v2.below hb)
                have HFN : Hid (rcmp E[k2].vs (tgt D a) ≠ 0 → (0 < D.length ∧ ∀ j (hj : j < E.length), j < k2 + 1 → rcmp E[j].vs (tgt D a) ≠ 0)) := fun hc => by
                  refine ⟨hD2, fun j hj hjk => ?_⟩
                  by_cases e : j = k2
                  · subst e; exact hc
                  · rcases HF.out with h | h
                    · cases h
                    · exact h.2 j hj (by omega)
                have hm2 : (a : Int).tmod (D.length : Int) = (m : Int) := hm
                have hmlI : (m : Int) < (D.length : Int) := by omega
                have hm3 : (a : Int) % (D.length : Int) = (m : Int) := by rw [← hm2, Int.tmod_eq_emod_of_nonneg (by omega)]
                have hD0 : ((D.length : Int) == 0) = false := by rw [beq_eq_false_iff_ne]; omega
                have rm : IntKind.i64.wrap (m : Int) = (m : Int) := by rw [IntKind.wrap_i64]; omega
                have raa : IntKind.i64.wrap (a : Int) = (a : Int) := by rw [IntKind.wrap_i64]; omega
                have hD0' : ¬ (D.length : Int) = 0 := by omega
                generalize rcmp E[k2].vs (tgt D a) = z at *
                generalize E[k2].hv = xv at *
                generalize D[m].hv = yv at *
                clear v1 v2 hs hb1 hb2 hmt hm HF
                by_cases hz : z = 0
                · subst hz
                  go_wp2_with fail
                  go_region_held3 (fun w' => w'.cell? ⟨b1, o1 + k2, none⟩ = some xv ∧ w'.cell? ⟨b2, o2 + m, none⟩ = some yv ∧ b1 < w'.heap.size ∧ b2 < w'.heap.size ∧ Below wr.heap.size wr w')
                    (first | assumption | exact pair_keep (by assumption) hbN | exact ⟨c1, c2, hg1, hg2, (Below.refl _ _).drew⟩)
                    (first
                      | (go_at_call 10; refine (hC.out _ (by go_split_ands; assumption)).mono ?_; rintro e w' ⟨rfl, hbN⟩))
                  go_wp2
                  go_roundw
                  case rel =>
                    go_split_ands
                    rename_i y0 y1 y2 y3 y4
                    exact ⟨k1, true, by first | rfl | go_num, rfl, by have := HK1.out; omega, .inl rfl, HB.out.trans (y4.mono HB.out.size)⟩
                  case measure => simp [intOf]; have := HK1.out; omega
                · have hzb : (z == 0) = false := by simp [hz]
                  have HF2 := Lib.hid (HFN.out hz)
                  go_wp2_with fail
                  go_region_held3 (fun w' => w'.cell? ⟨b1, o1 + k2, none⟩ = some xv ∧ w'.cell? ⟨b2, o2 + m, none⟩ = some yv ∧ b1 < w'.heap.size ∧ b2 < w'.heap.size ∧ Below wr.heap.size wr w')
                    (first | assumption | exact pair_keep (by assumption) hbN | exact ⟨c1, c2, hg1, hg2, (Below.refl _ _).drew⟩)
                    (first
                      | (go_at_call 10; refine (hC.out _ (by go_split_ands; assumption)).mono ?_; rintro e w' ⟨rfl, hbN⟩))
                  go_wp2
                  go_roundw
                  case rel =>
                    go_split_ands
                    rename_i y0 y1 y2 y3 y4
                    exact ⟨k1, false, by first | rfl | go_num, rfl, by have := HK1.out; omega, .inr (by rw [HK1.out]; exact HF2.out), HB.out.trans (y4.mono HB.out.size)⟩
                  case measure => simp [intOf]; have := HK1.out; omega
            · have hfb : fb = true := by
                rcases HF.out with h | h
                · exact h
                · exfalso
                  obtain ⟨m, hm, hml, hmt, -⟩ := tgt_at (a := a) h.1
                  exact sorted_has HE3.out hml (fun i hi => by rw [← hmt]; exact h.2 i hi (by omega))
              subst hfb
              have ho : ¬ (k2 : Int) < (E.length : Int) := by omega
              have hS := Lib.hid (hs2.out _ HB.out)
              clear HF hgo
              go_wp2_with fail
              refine (hS.out).mono ?_
              rintro e w5 ⟨x5, D5, rfl, hb5, hO5, he5⟩
              have HB5 : Hid (Below w3.heap.size w3 w5) := HB.out.trans (hb5.mono HB.out.size)
              have hR := Lib.hid (rows_same hO5.grid (HG3.out.below HB5.out) (he5.trans HEE.out))
              clear hb5 hO5 he5
              go_wp2_with fail
              refine (hR.out).mono ?_
              rintro e w6 ⟨rfl, hb6⟩
              have HB6 : Hid (Below w.heap.size w w6) := HB3.out.trans ((HB5.out.trans (hb6.mono HB5.out.size)).mono HB3.out.size)
              clear hb6
              go_wp2
              go_ret
              exact ⟨rfl, HB6.out⟩
end Go.Proofs.YtfjkfblejfiglaaDoor
