/-
  Contract of tuple.Compare: which of two rows is ahead; of old memory nothing turns.
-/
import Derived.Test.YtkkpcphmojegmaaTV
import Derived.Deep.RegionHeld3
import Derived.BigQuiet
namespace Go.Proofs.Ytkkpcphmojegmaa
set_option linter.unusedSimpArgs false
set_option linter.unusedVariables false
set_option linter.unusedSectionVars false
set_option maxRecDepth 100000
open Go.RowKit
variable [DecidableEq V]

/-- Which of two values is ahead, of two rows. -/
def V.cmp (a b : V) : Int := vcmp a.k a.s a.n b.k b.s b.n
def rcmp : List V → List V → Int
  | [], [] => 0
  | [], _ :: _ => -1
  | _ :: _, [] => 1
  | a :: l, b :: m => if a.cmp b = 0 then rcmp l m else a.cmp b

set_option maxHeartbeats 400000 in
theorem cmp_int_any (x y : Int) (w : World) :
    Calls Try.prog 56 #[.int .i64 x, .int .i64 y] w fun e w' => e = .returned (.int .i64 (icmp x y)) ∧ w' = w := by
  by_cases h : x < y
  · have e : icmp x y = -1 := by simp [icmp, h]
    rw [e]
    go_enter Try.func56, Try.ntmps56
    go_wp2
    go_ret
    exact ⟨rfl, rfl⟩
  · by_cases h2 : y < x
    · have e : icmp x y = 1 := by simp [icmp, h, h2]
      rw [e]
      go_enter Try.func56, Try.ntmps56
      go_wp2
      go_ret
      exact ⟨rfl, rfl⟩
    · have e : icmp x y = 0 := by simp [icmp, h, h2]
      rw [e]
      go_enter Try.func56, Try.ntmps56
      go_wp2
      go_ret
      exact ⟨rfl, rfl⟩

theorem drop_all {l : List V} {k : Nat} (h : l.length ≤ k) : l.drop k = [] := List.drop_eq_nil_of_le h
theorem rcmp_step {a b : List V} {k : Nat} (ha : k < a.length) (hb : k < b.length) (h : a[k].cmp b[k] = 0) : rcmp (a.drop k) (b.drop k) = rcmp (a.drop (k + 1)) (b.drop (k + 1)) := by
  rw [List.drop_eq_getElem_cons ha, List.drop_eq_getElem_cons hb, rcmp, if_pos h]
theorem rcmp_stop {a b : List V} {k : Nat} (ha : k < a.length) (hb : k < b.length) (h : a[k].cmp b[k] ≠ 0) : rcmp (a.drop k) (b.drop k) = a[k].cmp b[k] := by
  rw [List.drop_eq_getElem_cons ha, List.drop_eq_getElem_cons hb, rcmp, if_neg h]
theorem rcmp_end {a b : List V} {k : Nat} (h1 : k ≤ a.length) (h2 : k ≤ b.length) (h : ¬ (k < a.length ∧ k < b.length)) : rcmp (a.drop k) (b.drop k) = icmp a.length b.length := by
  by_cases ha : k < a.length
  · have hb : b.length = k := by omega
    rw [List.drop_eq_getElem_cons ha, drop_all (l := b) (k := k) (by omega), rcmp, icmp, if_neg (by omega), if_pos (by omega)]
  · by_cases hb : k < b.length
    · rw [List.drop_eq_getElem_cons hb, drop_all (l := a) (k := k) (by omega), rcmp, icmp, if_pos (by omega)]
    · rw [drop_all (l := a) (k := k) (by omega), drop_all (l := b) (k := k) (by omega), rcmp, icmp, if_neg (by omega), if_neg (by omega)]

theorem vcmp_calls (u v : V) (w : World) : Calls Try.prog 55 #[.agg #[.bool u.k, .string u.s, .int .i64 u.n], .agg #[.bool v.k, .string v.s, .int .i64 v.n]] w
      fun e w' => e = .returned (.int .i64 (u.cmp v)) ∧ Below w.heap.size w w' := compare_any _ _ _ _ _ _ _

theorem ret_int {a b : Int} (h : a = b) : Ending.returned (.int .i64 a) = .returned (.int .i64 b) := by rw [h]

set_option maxHeartbeats 3200000 in
theorem tcmp_any {x y : Value} {a b : List V} {w : World} (hx : Vals w x a) (hy : Vals w y b) :
    Calls Try.prog 47 #[x, y] w fun e w' => e = .returned (.int .i64 (rcmp a b)) ∧ Below w.heap.size w w' := by
  obtain ⟨ao, cap, rfl, hm⟩ := hx.len
  obtain ⟨bo, bap, rfl, hn⟩ := hy.len
  unfold maxLen at hm hn
  have HX := Lib.hid hx
  have HY := Lib.hid hy
  clear hx hy
  have hab : (a.length : Int) ≤ (b.length : Int) ∨ (b.length : Int) < (a.length : Int) := by omega
  rcases hab with hab | hab
  all_goals
    go_enter Try.func47, Try.ntmps47
    go_wp2_with fail
    go_loopw [12] (fun i wr => ∃ k : Nat, k ≤ a.length ∧ k ≤ b.length ∧ i = .int .i64 k ∧ Hid (rcmp (a.drop k) (b.drop k) = rcmp a b) ∧ Hid (Below w.heap.size w wr)) (fun i _ => a.length - (intOf i).toNat)
    case atStart => exact ⟨0, Nat.zero_le _, Nat.zero_le _, rfl, by simp [Hid], Below.refl _ _⟩
    case round =>
      obtain ⟨k, hka, hkb, rfl, HQ, HB⟩ := hrel
      by_cases hlt : k < a.length ∧ k < b.length
      · obtain ⟨h1, h2⟩ := hlt
        have h1I : (k : Int) < (a.length : Int) := by omega
        have h2I : (k : Int) < (b.length : Int) := by omega
        obtain ⟨ba, oa, rfl, c0, c1, c2, -, hbl⟩ := HX.out.at HB.out k h1
        obtain ⟨bb, ob, rfl, d0, d1, d2, -, hbl2⟩ := HY.out.at HB.out k h2
        have hbw : ba < wr.heap.size := Nat.lt_of_lt_of_le hbl HB.out.size
        have hbw2 : bb < wr.heap.size := Nat.lt_of_lt_of_le hbl2 HB.out.size
        by_cases hc : a[k].cmp b[k] = 0
        · have HN : Hid (rcmp (a.drop (k + 1)) (b.drop (k + 1)) = rcmp a b) := by
            rw [← HQ.out]; exact (rcmp_step h1 h2 hc).symm
          have hV : Hid (∀ W, Calls Try.prog 55 #[.agg #[.bool a[k].k, .string a[k].s, .int .i64 a[k].n], .agg #[.bool b[k].k, .string b[k].s, .int .i64 b[k].n]] W fun e w' => e = .returned (.int .i64 0) ∧ Below W.heap.size W w') := fun W => by
            have := vcmp_calls a[k] b[k] W
            rwa [hc] at this
          clear HQ hc
          generalize a[k] = u at *
          generalize b[k] = v at *
          go_wp2_with fail
          go_region_held3 (fun w' => w'.cell? ⟨ba, oa + k * 3, none⟩ = some (.bool u.k) ∧ w'.cell? ⟨ba, oa + k * 3 + 1, none⟩ = some (.string u.s) ∧ w'.cell? ⟨ba, oa + k * 3 + 2, none⟩ = some (.int .i64 u.n) ∧ w'.cell? ⟨bb, ob + k * 3, none⟩ = some (.bool v.k) ∧ w'.cell? ⟨bb, ob + k * 3 + 1, none⟩ = some (.string v.s) ∧ w'.cell? ⟨bb, ob + k * 3 + 2, none⟩ = some (.int .i64 v.n) ∧ ba < w'.heap.size ∧ bb < w'.heap.size ∧ Below w.heap.size w w')
            (first | assumption | exact six_keep (by assumption) hbN | exact ⟨c0, c1, c2, d0, d1, d2, hbw, hbw2, HB.out.drew⟩)
            (first
              | (go_at_call 55; refine (hV.out _).mono ?_; rintro e w' ⟨rfl, hbN⟩))
          go_wp2
          go_roundw
          case rel =>
            go_split_ands
            rename_i y0 y1 y2 y3 y4 y5 y6 y7 y8
            exact ⟨k + 1, by omega, by omega, by go_num, HN, y8⟩
          case measure => simp [intOf]; omega
        · have E : Hid (rcmp a b = a[k].cmp b[k]) := by rw [← HQ.out]; exact rcmp_stop h1 h2 hc
          have hV : Hid (∀ W, Calls Try.prog 55 #[.agg #[.bool a[k].k, .string a[k].s, .int .i64 a[k].n], .agg #[.bool b[k].k, .string b[k].s, .int .i64 b[k].n]] W fun e w' => e = .returned (.int .i64 (a[k].cmp b[k])) ∧ Below W.heap.size W w') := fun W => vcmp_calls a[k] b[k] W
          clear HQ
          generalize a[k] = u at *
          generalize b[k] = v at *
          generalize u.cmp v = z at *
          have hz : (z == 0) = false := by simp [hc]
          go_wp2_with fail
          go_region_held3 (fun w' => w'.cell? ⟨ba, oa + k * 3, none⟩ = some (.bool u.k) ∧ w'.cell? ⟨ba, oa + k * 3 + 1, none⟩ = some (.string u.s) ∧ w'.cell? ⟨ba, oa + k * 3 + 2, none⟩ = some (.int .i64 u.n) ∧ w'.cell? ⟨bb, ob + k * 3, none⟩ = some (.bool v.k) ∧ w'.cell? ⟨bb, ob + k * 3 + 1, none⟩ = some (.string v.s) ∧ w'.cell? ⟨bb, ob + k * 3 + 2, none⟩ = some (.int .i64 v.n) ∧ ba < w'.heap.size ∧ bb < w'.heap.size ∧ Below w.heap.size w w')
            (first | assumption | exact six_keep (by assumption) hbN | exact ⟨c0, c1, c2, d0, d1, d2, hbw, hbw2, HB.out.drew⟩)
            (first
              | (go_at_call 55; refine (hV.out _).mono ?_; rintro e w' ⟨rfl, hbN⟩))
          go_wp2
          go_ret
          go_split_ands
          rename_i y0 y1 y2 y3 y4 y5 y6 y7 y8
          exact ⟨ret_int E.out.symm, y8⟩
      · have E : Hid (rcmp a b = icmp a.length b.length) := by rw [← HQ.out]; exact rcmp_end hka hkb hlt
        have hno : ¬ (k : Int) < (a.length : Int) ∨ ¬ (k : Int) < (b.length : Int) := by omega
        first
          | have hno : ¬ (k : Int) < (a.length : Int) := by omega
          | have hno : ¬ (k : Int) < (b.length : Int) := by omega
        clear HQ hlt
        go_wp2_with (go_at_call 56; refine (cmp_int_any _ _ _).mono ?_; rintro e w' ⟨rfl, rfl⟩)
        go_ret
        exact ⟨ret_int E.out.symm, HB.out⟩
end Go.Proofs.Ytkkpcphmojegmaa
