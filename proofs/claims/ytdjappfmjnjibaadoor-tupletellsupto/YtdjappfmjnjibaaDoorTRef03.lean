/-
  Contracts of the document's Compare, Bare, Of, Key, Project of rows (lambrequinref03).
-/
import Derived.Test.YtdjappfmjnjibaaDoorTRef01
import Derived.Test.YtdjappfmjnjibaaDoorTRefFig
import Derived.Test.YtdjappfmjnjibaaDoorTProj
import Derived.Test.YtdjappfmjnjibaaDoorTOrdP
namespace Go.Proofs.YtdjappfmjnjibaaDoor
set_option linter.unusedSimpArgs false
set_option linter.unusedVariables false
set_option linter.unusedSectionVars false
set_option maxRecDepth 100000
open Go.RowKit
variable [DecidableEq V]

set_option maxHeartbeats 3200000 in
theorem refRow_cmp {x y : Value} {a b : List V} {w : World} (hx : Vals w x a) (hy : Vals w y b) :
    Calls Tryd.prog 16 #[x, y] w fun e w' => e = .returned (.int .i64 (rcmp a b)) ∧ Below w.heap.size w w' := by
  obtain ⟨ao, cap, rfl, hm⟩ := hx.len
  obtain ⟨bo, bap, rfl, hn⟩ := hy.len
  unfold maxLen at hm hn
  have HX := Lib.hid hx
  have HY := Lib.hid hy
  clear hx hy
  go_enter Tryd.func16, Tryd.ntmps16
  go_wp2_with fail
  go_loopw [5] (fun i wr => ∃ k : Nat, k ≤ a.length ∧ k ≤ b.length ∧ i = .int .i64 k ∧ Hid (rcmp (a.drop k) (b.drop k) = rcmp a b) ∧ Hid (Below w.heap.size w wr)) (fun i _ => a.length - (intOf i).toNat)
  case atStart => exact ⟨0, Nat.zero_le _, Nat.zero_le _, rfl, by simp [Hid], Below.refl _ _⟩
  case round =>
    obtain ⟨k, hka, hkb, rfl, HQ, HB⟩ := hrel
    by_cases hlt : k < a.length ∧ k < b.length
    · obtain ⟨h1, h2⟩ := hlt
      have h1I : (k : Int) < (a.length : Int) := by omega
      have h2I : (k : Int) < (b.length : Int) := by omega
      obtain ⟨ba, oa, rfl, c0, c1, c2, hou, hbl⟩ := HX.out.at HB.out k h1
      obtain ⟨bb, ob, rfl, d0, d1, d2, hov, hbl2⟩ := HY.out.at HB.out k h2
      have hbw : ba < wr.heap.size := Nat.lt_of_lt_of_le hbl HB.out.size
      have hbw2 : bb < wr.heap.size := Nat.lt_of_lt_of_le hbl2 HB.out.size
      have hS := Lib.hid (fun W => ref_same hou hov W)
      by_cases hc : a[k].cmp b[k] = 0
      · have HN : Hid (rcmp (a.drop (k + 1)) (b.drop (k + 1)) = rcmp a b) := by
          rw [← HQ.out]; exact (rcmp_step h1 h2 hc).symm
        rw [hc] at hS
        clear HQ hc hou hov
        generalize a[k] = u at *
        generalize b[k] = v at *
        go_wp2_with fail
        go_region_held3 (fun w' => w'.cell? ⟨ba, oa + k * 3, none⟩ = some (.bool u.k) ∧ w'.cell? ⟨ba, oa + k * 3 + 1, none⟩ = some (.string u.s) ∧ w'.cell? ⟨ba, oa + k * 3 + 2, none⟩ = some (.int .i64 u.n) ∧ w'.cell? ⟨bb, ob + k * 3, none⟩ = some (.bool v.k) ∧ w'.cell? ⟨bb, ob + k * 3 + 1, none⟩ = some (.string v.s) ∧ w'.cell? ⟨bb, ob + k * 3 + 2, none⟩ = some (.int .i64 v.n) ∧ ba < w'.heap.size ∧ bb < w'.heap.size ∧ Below w.heap.size w w')
          (first | assumption | exact six_keep (by assumption) hbN | exact ⟨c0, c1, c2, d0, d1, d2, hbw, hbw2, HB.out.drew⟩)
          (first
            | (go_at_call 26; refine (hS.out _).mono ?_; rintro e w' ⟨rfl, hbN⟩))
        go_wp2
        go_roundw
        case rel =>
          go_split_ands
          rename_i y0 y1 y2 y3 y4 y5 y6 y7 y8
          exact ⟨k + 1, by omega, by omega, by go_num, HN, y8⟩
        case measure => simp [intOf]; omega
      · have E : Hid (rcmp a b = a[k].cmp b[k]) := by rw [← HQ.out]; exact rcmp_stop h1 h2 hc
        have hV := Lib.hid (fun W => ref_cmp hou hov W)
        have hz : (a[k].cmp b[k] == 0) = false := by simp [hc]
        rw [hz] at hS
        clear HQ hou hov hz
        generalize a[k] = u at *
        generalize b[k] = v at *
        generalize u.cmp v = z at *
        go_wp2_with fail
        go_region_held3 (fun w' => w'.cell? ⟨ba, oa + k * 3, none⟩ = some (.bool u.k) ∧ w'.cell? ⟨ba, oa + k * 3 + 1, none⟩ = some (.string u.s) ∧ w'.cell? ⟨ba, oa + k * 3 + 2, none⟩ = some (.int .i64 u.n) ∧ w'.cell? ⟨bb, ob + k * 3, none⟩ = some (.bool v.k) ∧ w'.cell? ⟨bb, ob + k * 3 + 1, none⟩ = some (.string v.s) ∧ w'.cell? ⟨bb, ob + k * 3 + 2, none⟩ = some (.int .i64 v.n) ∧ ba < w'.heap.size ∧ bb < w'.heap.size ∧ Below w.heap.size w w')
          (first | assumption | exact six_keep (by assumption) hbN | exact ⟨c0, c1, c2, d0, d1, d2, hbw, hbw2, HB.out.drew⟩)
          (first
            | (go_at_call 26; refine (hS.out _).mono ?_; rintro e w' ⟨rfl, hbN⟩))
        go_wp2_with fail
        go_split_ands
        rename_i w2 _ y0 y1 y2 y3 y4 y5 y6 y7 y8
        have HB2 := Lib.hid y8
        go_region_held3 (fun w' => w'.cell? ⟨ba, oa + k * 3, none⟩ = some (.bool u.k) ∧ w'.cell? ⟨ba, oa + k * 3 + 1, none⟩ = some (.string u.s) ∧ w'.cell? ⟨ba, oa + k * 3 + 2, none⟩ = some (.int .i64 u.n) ∧ w'.cell? ⟨bb, ob + k * 3, none⟩ = some (.bool v.k) ∧ w'.cell? ⟨bb, ob + k * 3 + 1, none⟩ = some (.string v.s) ∧ w'.cell? ⟨bb, ob + k * 3 + 2, none⟩ = some (.int .i64 v.n) ∧ ba < w'.heap.size ∧ bb < w'.heap.size ∧ Below w.heap.size w w')
          (first | assumption | exact six_keep (by assumption) hbN | exact ⟨y0, y1, y2, y3, y4, y5, y6, y7, y8.drew⟩)
          (first
            | (go_at_call 32; refine (hV.out _).mono ?_; rintro e w' ⟨rfl, hbN⟩))
        go_wp2
        go_ret
        go_split_ands
        exact ⟨ret_int E.out.symm, by assumption⟩
    · have E : Hid (rcmp a b = icmp a.length b.length) := by rw [← HQ.out]; exact rcmp_end hka hkb hlt
      have hout : ¬ (k : Int) < (a.length : Int) ∨ ((k : Int) < (a.length : Int) ∧ ¬ (k : Int) < (b.length : Int)) := by omega
      clear HQ hlt
      rcases hout with ho | ⟨ho, ho2⟩
      all_goals
        by_cases c1 : (a.length : Int) < (b.length : Int)
        · have E2 : Hid (rcmp a b = -1) := by rw [E.out, icmp, if_pos c1]; rfl
          clear E
          go_wp2
          go_ret
          exact ⟨ret_int E2.out.symm, HB.out⟩
        · by_cases c2 : (a.length : Int) > (b.length : Int)
          · have E2 : Hid (rcmp a b = 1) := by rw [E.out, icmp, if_neg c1, if_pos c2]; rfl
            clear E
            go_wp2
            go_ret
            exact ⟨ret_int E2.out.symm, HB.out⟩
          · have E2 : Hid (rcmp a b = 0) := by rw [E.out, icmp, if_neg c1, if_neg c2]; rfl
            clear E
            go_wp2
            go_ret
            exact ⟨ret_int E2.out.symm, HB.out⟩

set_option maxHeartbeats 800000 in
theorem refBare_any (v : V) (w : World) :
    Calls Tryd.prog 37 #[.agg #[.bool v.k, .string v.s, .int .i64 v.n]] w fun e w' => e = .returned (.agg #[.bool v.bare.k, .string v.bare.s, .int .i64 v.bare.n]) ∧ Below w.heap.size w w' := by
  obtain ⟨k, s, n⟩ := v
  cases k
  · rw [show (V.mk false s n).bare = ⟨false, ⟨#[]⟩, n⟩ from rfl]
    go_enter Tryd.func37, Tryd.ntmps37
    go_wp2
    exact bodyPost_ret (v := .agg #[.bool false, .string ⟨#[]⟩, .int .i64 n]) (by simp [results, Tryd.results37, go_sem]) rfl ⟨rfl, by repeat (first | exact Below.refl _ _ | refine Below.alloc ?_ (by simp) _ | refine Below.setCell ?_ (by simp) _)⟩
  · rw [show (V.mk true s n).bare = ⟨true, s, 0⟩ from rfl]
    go_enter Tryd.func37, Tryd.ntmps37
    go_wp2
    exact bodyPost_ret (v := .agg #[.bool true, .string s, .int .i64 0]) (by simp [results, Tryd.results37, go_sem]) rfl ⟨rfl, by repeat (first | exact Below.refl _ _ | refine Below.alloc ?_ (by simp) _ | refine Below.setCell ?_ (by simp) _)⟩

set_option maxHeartbeats 3200000 in
theorem refOf_any {x : Value} {vs : List V} {w : World} (hx : Vals w x vs) (hK : vs.length * 32 ≤ 140737488355328) :
    Calls Tryd.prog 21 #[x] w fun e w' => ∃ x', e = .returned x' ∧ Below w.heap.size w w' ∧ Own w' w.heap.size x' (vs.map V.bare) := by
  obtain ⟨ao, cap, rfl, hm⟩ := hx.len
  unfold maxLen at hm
  obtain ⟨i0, hi, hz0, hz1, hz2⟩ := info_parts infoVal
  have HX := Lib.hid hx
  clear hx
  go_enter Tryd.func21, Tryd.ntmps21
  go_wp2_with fail
  go_loopw [3, 4] (fun v i wr => ∃ k : Nat, k ≤ vs.length ∧ i = .int .i64 k ∧ Hid (Own wr w.heap.size v ((vs.map V.bare).take k)) ∧ Hid (Below w.heap.size w wr)) (fun _ i _ => vs.length - (intOf i).toNat)
  case atStart => exact ⟨0, Nat.zero_le _, rfl, Own.nil _ _, Below.refl _ _⟩
  case round =>
    obtain ⟨k, hk, rfl, HR, HB⟩ := hrel
    by_cases hlt : k < vs.length
    · have h1I : (k : Int) < (vs.length : Int) := by omega
      obtain ⟨b, off, rfl, c0, c1, c2, hok, hbl⟩ := HX.out.at HB.out k hlt
      have HS : Hid ((vs.map V.bare).take (k + 1) = (vs.map V.bare).take k ++ [vs[k].bare]) := by
        rw [Hid, take_snocV _ k (by simpa using hlt), List.getElem_map]
      have hl : ((vs.map V.bare).take k).length = k := by simp; omega
      have HV := Lib.hid hok.bare
      have hC := Lib.hid (refBare_any vs[k])
      generalize vs[k] = u at *
      clear hok
      go_wp2_with fail
      refine (hC.out _).mono ?_
      rintro e w2 ⟨rfl, hb2⟩
      have HR2 := Lib.hid (HR.out.below hb2)
      have HB2 : Hid (Below w.heap.size w w2) := HB.out.trans (hb2.mono HB.out.size)
      have hw2 : w.heap.size ≤ w2.heap.size := HB2.out.size
      clear hb2 HR HB c0 c1 c2 hC
      generalize u.bare = bu at *
      generalize (vs.map V.bare).take k = L at *
      go_wp2_with (at_builtin; refine wpList_append_own _ rfl _ _ 22 rfl w.heap.size 47 i0 _ 3 32 Tryd.underlying22 hi hz0 hz1 hz2 rfl (by decide) _ L.length (L.flatMap V.cells) rfl (HR2.out.own.alloc _) ⟨w2.heap.size, 0, none⟩ 1 1 bu.cells rfl rfl (three_new _ _ _ _ _) (cells_one bu) (by unfold maxLen; omega) (by omega) (by simp; omega) ?_; intro v3 w3 hown3 hg3 hnil3; have HR3 := Lib.hid (HR2.out.app HV.out hown3); have HB3 : Hid (Below w.heap.size w w3) := (HB2.out.alloc hw2 _).grown hg3 (by simp; omega) (fun k hk => (HR2.out.own.lt k hk).1); rw [← HS.out] at HR3; clear hown3 hg3 hnil3)
      go_roundw
      case rel => exact ⟨k + 1, by omega, by go_num, HR3, HB3⟩
      case measure => simp [intOf]; omega
    · obtain rfl : k = vs.length := by omega
      have HR' := HR.out
      rw [List.take_of_length_le (by simp)] at HR'
      go_wp2
      go_ret
      exact ⟨_, rfl, HB.out, HR'⟩

set_option maxHeartbeats 3200000 in
theorem refProject_any {x y : Value} {vs : List V} {zs : List Int} {w : World} (hx : Vals w x vs) (hy : Ints w y zs) (hK : zs.length * 32 ≤ 140737488355328) :
    Calls Tryd.prog 14 #[x, y] w fun e w' => Below w.heap.size w w' ∧
      (((∀ z ∈ zs, okZ vs z) ∧ ∃ x', e = .returned (.tuple #[x', .int .i64 0]) ∧ Own w' w.heap.size x' (zs.map (atZ vs))) ∨
        ((∃ z ∈ zs, ¬ okZ vs z) ∧ e = .returned (.tuple #[.slice none 0 0, .int .i64 1]))) := by
  obtain ⟨ao, cap, rfl, hm⟩ := hx.len
  obtain ⟨bo, bap, rfl, hn⟩ := hy.len
  unfold maxLen at hm hn
  obtain ⟨i0, hi, hz0, hz1, hz2⟩ := info_parts infoVal
  have HX := Lib.hid hx
  have HY := Lib.hid hy
  clear hx hy
  go_enter Tryd.func14, Tryd.ntmps14
  go_wp2_with fail
  go_loopw [6, 7] (fun v i wr => ∃ k : Nat, k ≤ zs.length ∧ i = .int .i64 k ∧ Hid (∀ z ∈ zs.take k, okZ vs z) ∧ Hid (Own wr w.heap.size v ((zs.map (atZ vs)).take k)) ∧ Hid (Below w.heap.size w wr)) (fun _ i _ => zs.length - (intOf i).toNat)
  case atStart => exact ⟨0, Nat.zero_le _, rfl, by simp [Hid], Own.nil _ _, Below.refl _ _⟩
  case round =>
    obtain ⟨k, hk, rfl, HZ, HR, HB⟩ := hrel
    by_cases hlt : k < zs.length
    · have h1I : (k : Int) < (zs.length : Int) := by omega
      obtain ⟨bb, ob, rfl, d0, hbl2⟩ := HY.out.at HB.out k hlt
      by_cases hz : okZ vs zs[k]
      · have HZ2 : Hid (∀ z ∈ zs.take (k + 1), okZ vs z) := fun z hzm => by
          rw [List.take_succ_eq_append_getElem hlt] at hzm
          rcases List.mem_append.1 hzm with h | h
          · exact HZ.out z h
          · rw [List.mem_singleton.1 h]; exact hz
        obtain ⟨hz1', hz2'⟩ := hz
        obtain ⟨j, hj⟩ : ∃ j : Nat, zs[k] = (j : Int) := ⟨zs[k].toNat, by omega⟩
        have hjl : j < vs.length := by omega
        have hjI : (j : Int) < (vs.length : Int) := by omega
        have HS : Hid ((zs.map (atZ vs)).take (k + 1) = (zs.map (atZ vs)).take k ++ [vs[j]]) := by
          rw [Hid, List.take_succ_eq_append_getElem (by simpa using hlt), List.getElem_map, atZ_at hj hjl]
        have hl : ((zs.map (atZ vs)).take k).length = k := by simp; omega
        obtain ⟨b, off, rfl, c0, c1, c2, hok, hbl⟩ := HX.out.at HB.out j hjl
        rw [hj] at d0
        have HV := Lib.hid hok
        have hw2 : w.heap.size ≤ wr.heap.size := HB.out.size
        generalize vs[j] = u at *
        clear hok hz1' hz2' hj HZ
        generalize (zs.map (atZ vs)).take k = L at *
        go_wp2_with (at_builtin; refine wpList_append_own _ rfl _ _ 22 rfl w.heap.size 47 i0 _ 3 32 Tryd.underlying22 hi hz0 hz1 hz2 rfl (by decide) _ L.length (L.flatMap V.cells) rfl (HR.out.own.alloc _) ⟨wr.heap.size, 0, none⟩ 1 1 u.cells rfl rfl (three_new _ _ _ _ _) (cells_one u) (by unfold maxLen; omega) (by omega) (by simp; omega) ?_; intro v3 w3 hown3 hg3 hnil3; have HR3 := Lib.hid (HR.out.app HV.out hown3); have HB3 : Hid (Below w.heap.size w w3) := (HB.out.alloc hw2 _).grown hg3 (by simp; omega) (fun k hk => (HR.out.own.lt k hk).1); rw [← HS.out] at HR3; clear hown3 hg3 hnil3)
        go_roundw
        case rel => exact ⟨k + 1, by omega, by go_num, HZ2, HR3, HB3⟩
        case measure => simp [intOf]; omega
      · have HN : Hid (∃ z ∈ zs, ¬ okZ vs z) := ⟨zs[k], List.getElem_mem hlt, hz⟩
        have hz' : zs[k] < 0 ∨ (¬ zs[k] < 0 ∧ zs[k] ≥ (vs.length : Int)) := by unfold okZ at hz; omega
        generalize zs[k] = z at *
        clear hz HZ
        rcases hz' with hz | ⟨hz, hz3⟩
        all_goals
          go_wp2
          go_ret2
          exact ⟨HB.out, .inr ⟨HN.out, rfl⟩⟩
    · obtain rfl : k = zs.length := by omega
      have HR' := HR.out
      rw [List.take_of_length_le (by simp)] at HR'
      have HZ' := HZ.out
      rw [List.take_of_length_le (by simp)] at HZ'
      clear HZ HR
      have H1 := Lib.hid HZ'
      have H2 := Lib.hid HR'
      clear HZ' HR'
      go_wp2
      go_ret2
      exact ⟨HB.out, .inl ⟨H1.out, _, rfl, H2.out⟩⟩
end Go.Proofs.YtdjappfmjnjibaaDoor
