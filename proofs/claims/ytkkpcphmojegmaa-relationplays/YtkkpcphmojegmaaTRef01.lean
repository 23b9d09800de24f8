/-
  Contracts of the document's comparing functions (lambrequinref01: texts, Compare, Same, Holds): the same as the program's.
-/
import Derived.Test.YtkkpcphmojegmaaTCmp
import Derived.Deep.QuietTactic
import Derived.BigQuiet
import Derived.Lib.Hide
import Derived.Test.YtkkpcphmojegmaaTOwn
import Derived.Test.YtkkpcphmojegmaaTOrdR
namespace Go.Proofs.Ytkkpcphmojegmaa
set_option linter.unusedSimpArgs false
set_option linter.unusedVariables false
set_option linter.unusedSectionVars false
set_option maxRecDepth 100000
open Go.RowKit
variable [DecidableEq V]

/-- Behind k bytes that are the same. -/
def cbFrom (a b : ByteArray) (k : Nat) : Int := Lib.compareBytes (a.data.toList.drop k) (b.data.toList.drop k)
theorem drop_at (a : ByteArray) (k : Nat) (h : k < a.size) : a.data.toList.drop k = a[k] :: a.data.toList.drop (k + 1) := by
  rw [List.drop_eq_getElem_cons (by simpa using h)]; rfl
theorem drop_out (a : ByteArray) (k : Nat) (h : ¬ k < a.size) : a.data.toList.drop k = [] := List.drop_eq_nil_of_le (by simp; omega)
theorem cbFrom_lt {a b : ByteArray} {k : Nat} (ha : k < a.size) (hb : k < b.size) (h : (a[k].toNat : Int) < (b[k].toNat : Int)) : cbFrom a b k = -1 := by
  have : a[k] < b[k] := UInt8.lt_iff_toNat_lt.2 (by omega)
  rw [cbFrom, drop_at a k ha, drop_at b k hb, Lib.compareBytes, if_pos this]
theorem cbFrom_gt {a b : ByteArray} {k : Nat} (ha : k < a.size) (hb : k < b.size) (h : (b[k].toNat : Int) < (a[k].toNat : Int)) : cbFrom a b k = 1 := by
  have h1 : b[k] < a[k] := UInt8.lt_iff_toNat_lt.2 (by omega)
  have h2 : ¬ a[k] < b[k] := fun e => UInt8.lt_irrefl _ (UInt8.lt_trans e h1)
  rw [cbFrom, drop_at a k ha, drop_at b k hb, Lib.compareBytes, if_neg h2, if_pos h1]
theorem cbFrom_eq {a b : ByteArray} {k : Nat} (ha : k < a.size) (hb : k < b.size) (h : (a[k].toNat : Int) = (b[k].toNat : Int)) : cbFrom a b k = cbFrom a b (k + 1) := by
  have : a[k] = b[k] := UInt8.toNat_inj.1 (by omega)
  rw [cbFrom, drop_at a k ha, drop_at b k hb, Lib.compareBytes, this, if_neg (UInt8.lt_irrefl _), if_neg (UInt8.lt_irrefl _)]; rfl
theorem cbFrom_end {a b : ByteArray} {k : Nat} (h1 : k ≤ a.size) (h2 : k ≤ b.size) (h : ¬ (k < a.size ∧ k < b.size)) : cbFrom a b k = icmp a.size b.size := by
  by_cases ha : k < a.size
  · have hb : ¬ k < b.size := fun hb => h ⟨ha, hb⟩
    rw [cbFrom, drop_at a k ha, drop_out b k hb, Lib.compareBytes, icmp, if_neg (by omega), if_pos (by omega)]
  · by_cases hb : k < b.size
    · rw [cbFrom, drop_out a k ha, drop_at b k hb, Lib.compareBytes, icmp, if_pos (by omega)]
    · rw [cbFrom, drop_out a k ha, drop_out b k hb, Lib.compareBytes, icmp, if_neg (by omega), if_neg (by omega)]

theorem ret_i64 {a b : Int} (h : a = b) : Ending.returned (.int .i64 a) = .returned (.int .i64 b) := by rw [h]

set_option maxRecDepth 100000 in
set_option maxHeartbeats 2000000 in
theorem refTexts_any (a b : ByteArray) (w : World) (ha : a.size ≤ maxLen) (hb : b.size ≤ maxLen) :
    Calls Try.prog 50 #[.string a, .string b] w fun e w' => e = .returned (.int .i64 (Lib.compareBytes a.data.toList b.data.toList)) ∧ Below w.heap.size w w' := by
  unfold maxLen at ha hb
  go_enter Try.func50, Try.ntmps50
  go_wp2
  go_loopw [5] (fun i wr => ∃ k : Nat, k ≤ a.size ∧ k ≤ b.size ∧ i = .int .i64 k ∧ Hid (cbFrom a b k = Lib.compareBytes a.data.toList b.data.toList) ∧ Below w.heap.size w wr) (fun i _ => a.size - (intOf i).toNat)
  case atStart => exact ⟨0, Nat.zero_le _, Nat.zero_le _, rfl, by simp [Hid, cbFrom], Below.refl _ _⟩
  case round =>
    obtain ⟨k, hka, hkb, rfl, HQ, hbw⟩ := hrel
    by_cases hlt : k < a.size ∧ k < b.size
    · obtain ⟨h1, h2⟩ := hlt
      have h1I : (k : Int) < (a.size : Int) := by omega
      have h2I : (k : Int) < (b.size : Int) := by omega
      have h0I : (0 : Int) ≤ (k : Int) := by omega
      by_cases c1 : (a[k].toNat : Int) < (b[k].toNat : Int)
      · have E : Hid (Lib.compareBytes a.data.toList b.data.toList = -1) := by rw [← HQ.out]; exact cbFrom_lt h1 h2 c1
        clear HQ
        go_wp2
        go_quiet (fail)
        go_wp2
        go_ret
        exact ⟨ret_i64 E.out.symm, below_drewN' hbw _⟩
      · by_cases c2 : (b[k].toNat : Int) < (a[k].toNat : Int)
        · have E : Hid (Lib.compareBytes a.data.toList b.data.toList = 1) := by rw [← HQ.out]; exact cbFrom_gt h1 h2 c2
          clear HQ
          go_wp2
          go_quiet (fail)
          go_wp2
          go_quiet (fail)
          go_wp2
          go_ret
          exact ⟨ret_i64 E.out.symm, below_drewN' (below_drewN' hbw _) _⟩
        · have HN : Hid (cbFrom a b (k + 1) = Lib.compareBytes a.data.toList b.data.toList) := by
            rw [← HQ.out]; exact (cbFrom_eq h1 h2 (by omega)).symm
          clear HQ
          go_wp2
          go_quiet (fail)
          go_wp2
          go_quiet (fail)
          go_wp2
          go_roundw
          case rel => exact ⟨k + 1, by omega, by omega, by go_num, HN, by first | exact below_drewN' hbw _ | exact below_drewN' (below_drewN' hbw _) _⟩
          case measure => simp [intOf]; omega
    · have E : Hid (Lib.compareBytes a.data.toList b.data.toList = icmp a.size b.size) := by rw [← HQ.out]; exact cbFrom_end hka hkb hlt
      have hg : (decide ((k : Int) < (a.size : Int)) && decide ((k : Int) < (b.size : Int))) = false := by
        simp; omega
      clear HQ
      by_cases c1 : (a.size : Int) < (b.size : Int)
      · have e2 : icmp a.size b.size = -1 := by simp only [icmp]; rw [if_pos c1]
        have E2 := Lib.hid (E.out.trans e2)
        by_cases h1 : (k : Int) < (a.size : Int)
        · have h2 : ¬ (k : Int) < (b.size : Int) := fun h2 => hlt ⟨by omega, by omega⟩
          omega
        · clear e2 hg hlt E
          go_wp2
          go_ret
          exact ⟨ret_i64 E2.out.symm, hbw⟩
      · by_cases c2 : (b.size : Int) < (a.size : Int)
        · have e2 : icmp a.size b.size = 1 := by simp only [icmp]; rw [if_neg c1, if_pos c2]
          have E2 := Lib.hid (E.out.trans e2)
          have h1 : (k : Int) < (a.size : Int) := by omega
          have h2 : ¬ (k : Int) < (b.size : Int) := fun h2 => hlt ⟨by omega, by omega⟩
          clear e2 hg hlt E
          go_wp2
          go_ret
          exact ⟨ret_i64 E2.out.symm, hbw⟩
        · have e2 : icmp a.size b.size = 0 := by simp only [icmp]; rw [if_neg c1, if_neg c2]
          have E2 := Lib.hid (E.out.trans e2)
          have h1 : ¬ (k : Int) < (a.size : Int) := fun h1 => hlt ⟨by omega, by omega⟩
          clear e2 hg hlt E
          go_wp2
          go_ret
          exact ⟨ret_i64 E2.out.symm, hbw⟩

set_option maxRecDepth 100000 in
set_option maxHeartbeats 1000000 in
theorem refCompare_any (ak : Bool) (sa : ByteArray) (an : Int) (bk : Bool) (sb : ByteArray) (bn : Int) (ha : sa.size ≤ maxLen) (hb : sb.size ≤ maxLen) (w : World) :
    Calls Try.prog 40 #[.agg #[.bool ak, .string sa, .int .i64 an], .agg #[.bool bk, .string sb, .int .i64 bn]] w
      fun e w' => e = .returned (.int .i64 (vcmp ak sa an bk sb bn)) ∧ Below w.heap.size w w' := by
  have HB : ∀ w' : World, Below (w.heap.size + 1 + 1) ((w.alloc (.cells #[.bool ak, .string sa, .int .i64 an] 55)).alloc (.cells #[.bool bk, .string sb, .int .i64 bn] 55)) w' → Below w.heap.size w w' := fun w' h =>
    (((Below.refl _ _).alloc (Nat.le_refl _) _).alloc (by simp) _).trans (h.mono (by omega))
  have HB := Lib.hid HB
  cases ak <;> cases bk
  · have e : vcmp false sa an false sb bn = icmp an bn := rfl
    rw [e]; clear e
    by_cases h1 : an < bn
    · have e : icmp an bn = -1 := by simp [icmp, h1]
      rw [e]; clear e
      go_enter Try.func40, Try.ntmps40
      go_wp2
      go_ret
      exact ⟨rfl, HB.out _ (Below.refl _ _)⟩
    · by_cases h2 : bn < an
      · have e : icmp an bn = 1 := by simp [icmp, h1, h2]
        rw [e]; clear e
        go_enter Try.func40, Try.ntmps40
        go_wp2
        go_ret
        exact ⟨rfl, HB.out _ (Below.refl _ _)⟩
      · have e : icmp an bn = 0 := by simp [icmp, h1, h2]
        rw [e]; clear e
        go_enter Try.func40, Try.ntmps40
        go_wp2
        go_ret
        exact ⟨rfl, HB.out _ (Below.refl _ _)⟩
  · have e : vcmp false sa an true sb bn = -1 := rfl
    rw [e]; clear e
    go_enter Try.func40, Try.ntmps40
    go_wp2
    go_ret
    exact ⟨rfl, HB.out _ (Below.refl _ _)⟩
  · have e : vcmp true sa an false sb bn = 1 := rfl
    rw [e]; clear e
    go_enter Try.func40, Try.ntmps40
    go_wp2
    go_ret
    exact ⟨rfl, HB.out _ (Below.refl _ _)⟩
  · have e : vcmp true sa an true sb bn = Lib.compareBytes sa.data.toList sb.data.toList := rfl
    rw [e]; clear e
    go_enter Try.func40, Try.ntmps40
    go_wp2_with (go_at_call 50; refine (refTexts_any _ _ _ ha hb).mono ?_; rintro e w' ⟨rfl, hbN⟩)
    go_ret
    exact ⟨rfl, HB.out _ (by simpa using hbN)⟩

set_option maxHeartbeats 400000 in
theorem refSame_any (ak : Bool) (sa : ByteArray) (an : Int) (bk : Bool) (sb : ByteArray) (bn : Int) (ha : sa.size ≤ maxLen) (hb' : sb.size ≤ maxLen) (w : World) :
    Calls Try.prog 31 #[.agg #[.bool ak, .string sa, .int .i64 an], .agg #[.bool bk, .string sb, .int .i64 bn]] w
      fun e w' => e = .returned (.bool (vcmp ak sa an bk sb bn == 0)) ∧ Below w.heap.size w w' := by
  go_enter Try.func31, Try.ntmps31
  go_wp2_with (go_at_call 40; refine (refCompare_any _ _ _ _ _ _ ha hb' _).mono ?_; rintro e w' ⟨rfl, hb⟩)
  go_ret
  exact ⟨rfl, (((Below.refl _ _).alloc (Nat.le_refl _) _).alloc (by simp) _).trans (hb.mono (by simp; omega))⟩

theorem ref_same {u v : V} (hu : u.Ok) (hv : v.Ok) (w : World) :
    Calls Try.prog 31 #[.agg #[.bool u.k, .string u.s, .int .i64 u.n], .agg #[.bool v.k, .string v.s, .int .i64 v.n]] w
      fun e w' => e = .returned (.bool (u.cmp v == 0)) ∧ Below w.heap.size w w' := refSame_any u.k u.s u.n v.k v.s v.n hu.s hv.s w
theorem ref_cmp {u v : V} (hu : u.Ok) (hv : v.Ok) (w : World) :
    Calls Try.prog 40 #[.agg #[.bool u.k, .string u.s, .int .i64 u.n], .agg #[.bool v.k, .string v.s, .int .i64 v.n]] w
      fun e w' => e = .returned (.int .i64 (u.cmp v)) ∧ Below w.heap.size w w' := refCompare_any u.k u.s u.n v.k v.s v.n hu.s hv.s w

set_option maxHeartbeats 1600000 in
/-- The document's Same, of rows that are the very same. -/
theorem row_same {x y : Value} {vs : List V} {w : World} (hx : Vals w x vs) (hy : Vals w y vs) :
    Calls Try.prog 32 #[x, y] w fun e w' => e = .returned (.bool true) ∧ Below w.heap.size w w' := by
  obtain ⟨ao, cap, rfl, hm⟩ := hx.len
  obtain ⟨bo, bap, rfl, hn⟩ := hy.len
  unfold maxLen at hm
  have HX := Lib.hid hx
  have HY := Lib.hid hy
  clear hx hy hn
  go_enter Try.func32, Try.ntmps32
  go_wp2_with fail
  go_loopw [5] (fun i wr => ∃ k : Nat, k ≤ vs.length ∧ i = .int .i64 k ∧ Hid (Below w.heap.size w wr)) (fun i _ => vs.length - (intOf i).toNat)
  case atStart => exact ⟨0, Nat.zero_le _, rfl, Below.refl _ _⟩
  case round =>
    obtain ⟨k, hk, rfl, HB⟩ := hrel
    by_cases hlt : k < vs.length
    · have h1I : (k : Int) < (vs.length : Int) := by omega
      obtain ⟨ba, oa, rfl, c0, c1, c2, hok, hbl⟩ := HX.out.at HB.out k hlt
      obtain ⟨bb, ob, rfl, d0, d1, d2, -, hbl2⟩ := HY.out.at HB.out k hlt
      have hne : ∀ nq, _ := fun nq => neq_run hok hok (wr.drewN nq)
      simp only [ne_eq, not_true_eq_false, decide_false] at hne
      generalize vs[k] = u at *
      clear hok
      go_wp2_with fail
      go_quiet (fail)
      go_wp2
      go_roundw
      case rel => exact ⟨k + 1, by omega, by go_num, below_drewN' HB.out _⟩
      case measure => simp [intOf]; omega
    · go_wp2
      go_ret
      exact ⟨rfl, HB.out⟩
end Go.Proofs.Ytkkpcphmojegmaa

/-
  Contract of the document's Compare of rows (lambrequinref03).
-/
namespace Go.Proofs.Ytkkpcphmojegmaa
set_option linter.unusedSimpArgs false
set_option linter.unusedVariables false
set_option linter.unusedSectionVars false
set_option maxRecDepth 100000
open Go.RowKit
variable [DecidableEq V]

set_option maxHeartbeats 3200000 in
theorem refRow_cmp {x y : Value} {a b : List V} {w : World} (hx : Vals w x a) (hy : Vals w y b) :
    Calls Try.prog 34 #[x, y] w fun e w' => e = .returned (.int .i64 (rcmp a b)) ∧ Below w.heap.size w w' := by
  obtain ⟨ao, cap, rfl, hm⟩ := hx.len
  obtain ⟨bo, bap, rfl, hn⟩ := hy.len
  unfold maxLen at hm hn
  have HX := Lib.hid hx
  have HY := Lib.hid hy
  clear hx hy
  go_enter Try.func34, Try.ntmps34
  go_wp2_with fail
  go_loopw [5] (fun i wr => ∃ k : Nat, k ≤ a.length ∧ k ≤ b.length ∧ i = .int .i64 k ∧ Hid (rcmp (a.drop k) (b.drop k) = rcmp a b) ∧ Hid (Below w.heap.size w wr)) (fun i _ => a.length - (intOf i).toNat)
  case atStart => exact ⟨0, Nat.zero_le _, Nat.zero_le _, rfl, by simp [Hid], Below.refl _ _⟩
  case round =>
    obtain ⟨k, hka, hkb, rfl, HQ, HB⟩ := hrel
    by_cases hlt : k < a.length ∧ k < b.length
    · obtain ⟨h1, h2⟩ := hlt
      have h1I : (k : Int) < (a.length : Int) := by omega
      have h2I : (k : Int) < (b.length : Int) := by omega
      obtain ⟨ba, oa, rfl, c0, c1, c2, hou, hbl⟩ := HX.out.at HB.out k h1
      obtain ⟨bb, ob, rfl, d0, d1, d2, hov, hbl2⟩ := HY.out.at HB.out k h2
      have hbw : ba < wr.heap.size := Nat.lt_of_lt_of_le hbl HB.out.size
      have hbw2 : bb < wr.heap.size := Nat.lt_of_lt_of_le hbl2 HB.out.size
      have hS := Lib.hid (fun W => ref_same hou hov W)
      by_cases hc : a[k].cmp b[k] = 0
      · have HN : Hid (rcmp (a.drop (k + 1)) (b.drop (k + 1)) = rcmp a b) := by
          rw [← HQ.out]; exact (rcmp_step h1 h2 hc).symm
        rw [hc] at hS
        clear HQ hc hou hov
        generalize a[k] = u at *
        generalize b[k] = v at *
        go_wp2_with fail
        go_region_held3 (fun w' => w'.cell? ⟨ba, oa + k * 3, none⟩ = some (.bool u.k) ∧ w'.cell? ⟨ba, oa + k * 3 + 1, none⟩ = some (.string u.s) ∧ w'.cell? ⟨ba, oa + k * 3 + 2, none⟩ = some (.int .i64 u.n) ∧ w'.cell? ⟨bb, ob + k * 3, none⟩ = some (.bool v.k) ∧ w'.cell? ⟨bb, ob + k * 3 + 1, none⟩ = some (.string v.s) ∧ w'.cell? ⟨bb, ob + k * 3 + 2, none⟩ = some (.int .i64 v.n) ∧ ba < w'.heap.size ∧ bb < w'.heap.size ∧ Below w.heap.size w w')
          (first | assumption | exact six_keep (by assumption) hbN | exact ⟨c0, c1, c2, d0, d1, d2, hbw, hbw2, HB.out.drew⟩)
          (first
            | (go_at_call 31; refine (hS.out _).mono ?_; rintro e w' ⟨rfl, hbN⟩))
        go_wp2
        go_roundw
        case rel =>
          go_split_ands
          rename_i y0 y1 y2 y3 y4 y5 y6 y7 y8
          exact ⟨k + 1, by omega, by omega, by go_num, HN, y8⟩
        case measure => simp [intOf]; omega
      · have E : Hid (rcmp a b = a[k].cmp b[k]) := by rw [← HQ.out]; exact rcmp_stop h1 h2 hc
        have hV := Lib.hid (fun W => ref_cmp hou hov W)
        have hz : (a[k].cmp b[k] == 0) = false := by simp [hc]
        rw [hz] at hS
        clear HQ hou hov hz
        generalize a[k] = u at *
        generalize b[k] = v at *
        generalize u.cmp v = z at *
        go_wp2_with fail
        go_region_held3 (fun w' => w'.cell? ⟨ba, oa + k * 3, none⟩ = some (.bool u.k) ∧ w'.cell? ⟨ba, oa + k * 3 + 1, none⟩ = some (.string u.s) ∧ w'.cell? ⟨ba, oa + k * 3 + 2, none⟩ = some (.int .i64 u.n) ∧ w'.cell? ⟨bb, ob + k * 3, none⟩ = some (.bool v.k) ∧ w'.cell? ⟨bb, ob + k * 3 + 1, none⟩ = some (.string v.s) ∧ w'.cell? ⟨bb, ob + k * 3 + 2, none⟩ = some (.int .i64 v.n) ∧ ba < w'.heap.size ∧ bb < w'.heap.size ∧ Below w.heap.size w w')
          (first | assumption | exact six_keep (by assumption) hbN | exact ⟨c0, c1, c2, d0, d1, d2, hbw, hbw2, HB.out.drew⟩)
          (first
            | (go_at_call 31; refine (hS.out _).mono ?_; rintro e w' ⟨rfl, hbN⟩))
        go_wp2_with fail
        go_split_ands
        rename_i w2 _ y0 y1 y2 y3 y4 y5 y6 y7 y8
        have HB2 := Lib.hid y8
        go_region_held3 (fun w' => w'.cell? ⟨ba, oa + k * 3, none⟩ = some (.bool u.k) ∧ w'.cell? ⟨ba, oa + k * 3 + 1, none⟩ = some (.string u.s) ∧ w'.cell? ⟨ba, oa + k * 3 + 2, none⟩ = some (.int .i64 u.n) ∧ w'.cell? ⟨bb, ob + k * 3, none⟩ = some (.bool v.k) ∧ w'.cell? ⟨bb, ob + k * 3 + 1, none⟩ = some (.string v.s) ∧ w'.cell? ⟨bb, ob + k * 3 + 2, none⟩ = some (.int .i64 v.n) ∧ ba < w'.heap.size ∧ bb < w'.heap.size ∧ Below w.heap.size w w')
          (first | assumption | exact six_keep (by assumption) hbN | exact ⟨y0, y1, y2, y3, y4, y5, y6, y7, y8.drew⟩)
          (first
            | (go_at_call 40; refine (hV.out _).mono ?_; rintro e w' ⟨rfl, hbN⟩))
        go_wp2
        go_ret
        go_split_ands
        exact ⟨ret_int E.out.symm, by assumption⟩
    · have E : Hid (rcmp a b = icmp a.length b.length) := by rw [← HQ.out]; exact rcmp_end hka hkb hlt
      have hout : ¬ (k : Int) < (a.length : Int) ∨ ((k : Int) < (a.length : Int) ∧ ¬ (k : Int) < (b.length : Int)) := by omega
      clear HQ hlt
      rcases hout with ho | ⟨ho, ho2⟩
      all_goals
        by_cases c1 : (a.length : Int) < (b.length : Int)
        · have E2 : Hid (rcmp a b = -1) := by rw [E.out, icmp, if_pos c1]; rfl
          clear E
          go_wp2
          go_ret
          exact ⟨ret_int E2.out.symm, HB.out⟩
        · by_cases c2 : (a.length : Int) > (b.length : Int)
          · have E2 : Hid (rcmp a b = 1) := by rw [E.out, icmp, if_neg c1, if_pos c2]; rfl
            clear E
            go_wp2
            go_ret
            exact ⟨ret_int E2.out.symm, HB.out⟩
          · have E2 : Hid (rcmp a b = 0) := by rw [E.out, icmp, if_neg c1, if_neg c2]; rfl
            clear E
            go_wp2
            go_ret
            exact ⟨ret_int E2.out.symm, HB.out⟩
end Go.Proofs.Ytkkpcphmojegmaa
