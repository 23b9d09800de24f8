/-
  Contract of the document's Compare of rows (lambrequinref03).
-/
import Derived.Test.YtfjkfblejfiglaaTRef01
import Derived.Test.YtfjkfblejfiglaaTOwn
import Derived.Test.YtfjkfblejfiglaaTOrdR
namespace Go.Proofs.Ytfjkfblejfiglaa
set_option linter.unusedSimpArgs false
set_option linter.unusedVariables false
set_option linter.unusedSectionVars false
set_option maxRecDepth 100000
open Go.RowKit
variable [DecidableEq V]

set_option maxHeartbeats 3200000 in
theorem refRow_cmp {x y : Value} {a b : List V} {w : World} (hx : Vals w x a) (hy : Vals w y b) :
    Calls Try.prog 29 #[x, y] w fun e w' => e = .returned (.int .i64 (rcmp a b)) ∧ Below w.heap.size w w' := by
  obtain ⟨ao, cap, rfl, hm⟩ := hx.len
  obtain ⟨bo, bap, rfl, hn⟩ := hy.len
  unfold maxLen at hm hn
  have HX := Lib.hid hx
  have HY := Lib.hid hy
  clear hx hy
  go_enter Try.func29, Try.ntmps29
  go_wp2_with fail
  go_loopw [5] (fun i wr => ∃ k : Nat, k ≤ a.length ∧ k ≤ b.length ∧ i = .int .i64 k ∧ Hid (rcmp (a.drop k) (b.drop k) = rcmp a b) ∧ Hid (Below w.heap.size w wr)) (fun i _ => a.length - (intOf i).toNat)
  case atStart => exact ⟨0, Nat.zero_le _, Nat.zero_le _, rfl, by simp [Hid], Below.refl _ _⟩
  case round =>
    obtain ⟨k, hka, hkb, rfl, HQ, HB⟩ := hrel
    by_cases hlt : k < a.length ∧ k < b.length
    · obtain ⟨h1, h2⟩ := hlt
      have h1I : (k : Int) < (a.length : Int) := by omega
      have h2I : (k : Int) < (b.length : Int) := by omega
      obtain ⟨ba, oa, rfl, c0, c1, c2, hou, hbl⟩ := HX.out.at HB.out k h1
      obtain ⟨bb, ob, rfl, d0, d1, d2, hov, hbl2⟩ := HY.out.at HB.out k h2
      have hbw : ba < wr.heap.size := Nat.lt_of_lt_of_le hbl HB.out.size
      have hbw2 : bb < wr.heap.size := Nat.lt_of_lt_of_le hbl2 HB.out.size
      have hS := Lib.hid (fun W => ref_same hou hov W)
      by_cases hc : a[k].cmp b[k] = 0
      · have HN : Hid (rcmp (a.drop (k + 1)) (b.drop (k + 1)) = rcmp a b) := by
          rw [← HQ.out]; exact (rcmp_step h1 h2 hc).symm
        rw [hc] at hS
        clear HQ hc hou hov
        generalize a[k] = u at *
        generalize b[k] = v at *
        go_wp2_with fail
        go_region_held3 (fun w' => w'.cell? ⟨ba, oa + k * 3, none⟩ = some (.bool u.k) ∧ w'.cell? ⟨ba, oa + k * 3 + 1, none⟩ = some (.string u.s) ∧ w'.cell? ⟨ba, oa + k * 3 + 2, none⟩ = some (.int .i64 u.n) ∧ w'.cell? ⟨bb, ob + k * 3, none⟩ = some (.bool v.k) ∧ w'.cell? ⟨bb, ob + k * 3 + 1, none⟩ = some (.string v.s) ∧ w'.cell? ⟨bb, ob + k * 3 + 2, none⟩ = some (.int .i64 v.n) ∧ ba < w'.heap.size ∧ bb < w'.heap.size ∧ Below w.heap.size w w')
          (first | assumption | exact six_keep (by assumption) hbN | exact ⟨c0, c1, c2, d0, d1, d2, hbw, hbw2, HB.out.drew⟩)
          (first
            | (go_at_call 37; refine (hS.out _).mono ?_; rintro e w' ⟨rfl, hbN⟩))
        go_wp2
        go_roundw
        case rel =>
          go_split_ands
          rename_i y0 y1 y2 y3 y4 y5 y6 y7 y8
          exact ⟨k + 1, by omega, by omega, by go_num, HN, y8⟩
        case measure => simp [intOf]; omega
      · have E : Hid (rcmp a b = a[k].cmp b[k]) := by rw [← HQ.out]; exact rcmp_stop h1 h2 hc
        have hV := Lib.hid (fun W => ref_cmp hou hov W)
        have hz : (a[k].cmp b[k] == 0) = false := by simp [hc]
        rw [hz] at hS
        clear HQ hou hov hz
        generalize a[k] = u at *
        generalize b[k] = v at *
        generalize u.cmp v = z at *
        go_wp2_with fail
        go_region_held3 (fun w' => w'.cell? ⟨ba, oa + k * 3, none⟩ = some (.bool u.k) ∧ w'.cell? ⟨ba, oa + k * 3 + 1, none⟩ = some (.string u.s) ∧ w'.cell? ⟨ba, oa + k * 3 + 2, none⟩ = some (.int .i64 u.n) ∧ w'.cell? ⟨bb, ob + k * 3, none⟩ = some (.bool v.k) ∧ w'.cell? ⟨bb, ob + k * 3 + 1, none⟩ = some (.string v.s) ∧ w'.cell? ⟨bb, ob + k * 3 + 2, none⟩ = some (.int .i64 v.n) ∧ ba < w'.heap.size ∧ bb < w'.heap.size ∧ Below w.heap.size w w')
          (first | assumption | exact six_keep (by assumption) hbN | exact ⟨c0, c1, c2, d0, d1, d2, hbw, hbw2, HB.out.drew⟩)
          (first
            | (go_at_call 37; refine (hS.out _).mono ?_; rintro e w' ⟨rfl, hbN⟩))
        go_wp2_with fail
        go_split_ands
        rename_i w2 _ y0 y1 y2 y3 y4 y5 y6 y7 y8
        have HB2 := Lib.hid y8
        go_region_held3 (fun w' => w'.cell? ⟨ba, oa + k * 3, none⟩ = some (.bool u.k) ∧ w'.cell? ⟨ba, oa + k * 3 + 1, none⟩ = some (.string u.s) ∧ w'.cell? ⟨ba, oa + k * 3 + 2, none⟩ = some (.int .i64 u.n) ∧ w'.cell? ⟨bb, ob + k * 3, none⟩ = some (.bool v.k) ∧ w'.cell? ⟨bb, ob + k * 3 + 1, none⟩ = some (.string v.s) ∧ w'.cell? ⟨bb, ob + k * 3 + 2, none⟩ = some (.int .i64 v.n) ∧ ba < w'.heap.size ∧ bb < w'.heap.size ∧ Below w.heap.size w w')
          (first | assumption | exact six_keep (by assumption) hbN | exact ⟨y0, y1, y2, y3, y4, y5, y6, y7, y8.drew⟩)
          (first
            | (go_at_call 39; refine (hV.out _).mono ?_; rintro e w' ⟨rfl, hbN⟩))
        go_wp2
        go_ret
        go_split_ands
        exact ⟨ret_int E.out.symm, by assumption⟩
    · have E : Hid (rcmp a b = icmp a.length b.length) := by rw [← HQ.out]; exact rcmp_end hka hkb hlt
      have hout : ¬ (k : Int) < (a.length : Int) ∨ ((k : Int) < (a.length : Int) ∧ ¬ (k : Int) < (b.length : Int)) := by omega
      clear HQ hlt
      rcases hout with ho | ⟨ho, ho2⟩
      all_goals
        by_cases c1 : (a.length : Int) < (b.length : Int)
        · have E2 : Hid (rcmp a b = -1) := by rw [E.out, icmp, if_pos c1]; rfl
          clear E
          go_wp2
          go_ret
          exact ⟨ret_int E2.out.symm, HB.out⟩
        · by_cases c2 : (a.length : Int) > (b.length : Int)
          · have E2 : Hid (rcmp a b = 1) := by rw [E.out, icmp, if_neg c1, if_pos c2]; rfl
            clear E
            go_wp2
            go_ret
            exact ⟨ret_int E2.out.symm, HB.out⟩
          · have E2 : Hid (rcmp a b = 0) := by rw [E.out, icmp, if_neg c1, if_neg c2]; rfl
            clear E
            go_wp2
            go_ret
            exact ⟨ret_int E2.out.symm, HB.out⟩
end Go.Proofs.Ytfjkfblejfiglaa
