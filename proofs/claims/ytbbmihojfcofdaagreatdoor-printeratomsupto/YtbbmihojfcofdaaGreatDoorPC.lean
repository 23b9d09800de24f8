/-
  Contracts of printer's isPred, isVariable, isOperator, mayTerm, mayDecl.
  Contract of printer.all[lambrequin/api.Term].
  Contract of printer.all[lambrequin/api.Decl].
  Contracts of printer's mayAtom, mayLiteral.
  Contract of printer.all[lambrequin/api.Literal].
  Contracts of printer's mayRule.
  Contract of printer.all[lambrequin/api.Rule].
  Contract of printer.May.
-/
import Derived.Test.YtbbmihojfcofdaaGreatDoorPA
import Derived.Test.YtbbmihojfcofdaaGreatDoorPlain
import Derived.Test.YtbbmihojfcofdaaGreatDoorHoldsQ
import Derived.Test.YtbbmihojfcofdaaGreatDoorKSym
import Derived.Test.YtbbmihojfcofdaaGreatDoorGTerm
namespace Go.Proofs.YtbbmihojfcofdaaGreatDoor
set_option linter.unusedSimpArgs false
set_option linter.unusedVariables false
set_option linter.unusedSectionVars false
set_option maxRecDepth 100000
open Go.RowKit

set_option maxHeartbeats 1000000 in
theorem isPred_any (s : ByteArray) (w : World) (hs : s.size ≤ 1000000000000) :
    Calls Tryz.prog 55 #[.string s] w fun e w' => e = .returned (.bool (shortPlain s.data.toList)) ∧ Below w.heap.size w w' := by
  have HP := Lib.hid (fun W => plain_any s W (by unfold maxLen; omega))
  have hl : s.data.toList.length = s.size := by simp
  unfold shortPlain
  rw [hl]
  obtain ⟨b, hb⟩ : ∃ b, b = plainL s.data.toList := ⟨_, rfl⟩
  rw [← hb] at HP ⊢
  clear hb hl
  have hsI : (s.size : Int) ≤ 1000000000000 := by omega
  by_cases h : s.size ≤ 32
  · have hI : (s.size : Int) ≤ 32 := by omega
    rw [decide_eq_true h, Bool.true_and]
    clear h hs
    go_enter Tryz.func55, Tryz.ntmps55
    go_wp2_with (go_at_call 61; refine (HP.out _).mono ?_; rintro e w1 ⟨rfl, hb1⟩)
    go_ret
    exact ⟨rfl, hb1⟩
  · have hI : ¬ (s.size : Int) ≤ 32 := by omega
    rw [decide_eq_false h, Bool.false_and]
    clear h hs HP
    go_enter Tryz.func55, Tryz.ntmps55
    go_wp2
    go_ret
    exact ⟨rfl, Below.refl _ _⟩

theorem notEmptyM {s : ByteArray} (h : 0 < s.size) : s.toList.isEmpty = false := by
  rw [toList_data]
  cases hl : s.data.toList with
  | nil =>
    have h2 : s.data.toList.length = s.size := by simp
    rw [hl] at h2
    exact absurd h2 (by simp; omega)
  | cons c r => rfl
theorem great_at {s : ByteArray} (h : 0 < s.size) : greatB s.data.toList = (decide (s.size ≤ 32) && greatQ (s[0]'h) && plainL (118 :: s.data.toList)) := by
  have hl : s.data.toList.length = s.size := by simp
  have hc : s.data.toList[0]'(by rw [hl]; exact h) = s[0]'h := by simp [ByteArray.getElem_eq_getElem_data]
  unfold greatB
  rw [hl]
  cases hd : s.data.toList with
  | nil => rw [hd] at hl; simp at hl; omega
  | cons c r =>
    have : c = s[0]'h := by rw [← hc]; simp [hd]
    rw [this]
    simp

set_option maxHeartbeats 4000000 in
theorem isVar_any (s : ByteArray) (w : World) (hs : s.size ≤ 1000000000000) :
    Calls Tryz.prog 93 #[.string s] w fun e w' => e = .returned (.bool (greatB s.data.toList)) ∧ Below w.heap.size w w' := by
  have hsI : (s.size : Int) ≤ 1000000000000 := by omega
  by_cases h0 : s.size = 0
  · obtain rfl : s = ByteArray.empty := by simpa using h0
    go_enter Tryz.func93, Tryz.ntmps93
    go_wp2
    go_ret
    exact ⟨rfl, Below.refl _ _⟩
  · have hz : 0 < s.size := by omega
    have hE := notEmptyM hz
    have hzI : (0 : Int) < (s.size : Int) := by omega
    rw [great_at hz]
    by_cases h32 : s.size ≤ 32
    · have h32I : ¬ (32 : Int) < (s.size : Int) := by omega
      rw [decide_eq_true h32, Bool.true_and]
      have hv : (⟨#[118]⟩ ++ s : ByteArray).data.toList = 118 :: s.data.toList := by simp [Go.Joins.data_append]
      have hvs : (⟨#[118]⟩ ++ s : ByteArray).size = 1 + s.size := by rw [ByteArray.size_append]; rfl
      have HP := Lib.hid (fun W => plain_any (⟨#[118]⟩ ++ s) W (by rw [hvs]; unfold maxLen; omega))
      clear hvs
      rw [hv] at HP
      obtain ⟨b, hb⟩ : ∃ b, b = plainL (118 :: s.data.toList) := ⟨_, rfl⟩
      rw [← hb] at HP ⊢
      obtain ⟨c, hc⟩ : ∃ c, c = s[0]'hz := ⟨_, rfl⟩
      rw [← hc]
      have hc0 : (s[0]'hz) = c := hc.symm
      unfold greatQ
      by_cases g1 : 65 ≤ c.toNat
      · have g1I : (65 : Int) ≤ ((s[0]'hz).toNat : Int) := by rw [hc0]; omega
        rw [decide_eq_true g1, Bool.true_and]
        by_cases g2 : c.toNat ≤ 90
        · have g2I : ((s[0]'hz).toNat : Int) ≤ 90 := by rw [hc0]; omega
          rw [decide_eq_true g2, Bool.true_and]
          clear hb hc hc0 hs hv h0 h32 g1 g2
          go_enter Tryz.func93, Tryz.ntmps93
          go_wp2_with (go_at_call 61; refine (HP.out _).mono ?_; rintro e w1 ⟨rfl, hb1⟩)
          go_ret
          exact ⟨rfl, hb1⟩
        · have g2I : ¬ ((s[0]'hz).toNat : Int) ≤ 90 := by rw [hc0]; omega
          rw [decide_eq_false g2, Bool.false_and]
          clear hb hc hc0 hs hv h0 h32 g1 g2 HP
          go_enter Tryz.func93, Tryz.ntmps93
          go_wp2
          go_ret
          exact ⟨rfl, Below.refl _ _⟩
      · have g1I : ¬ (65 : Int) ≤ ((s[0]'hz).toNat : Int) := by rw [hc0]; omega
        rw [decide_eq_false g1, Bool.false_and, Bool.false_and]
        clear hb hc hc0 hs hv h0 h32 g1 HP
        go_enter Tryz.func93, Tryz.ntmps93
        go_wp2
        go_ret
        exact ⟨rfl, Below.refl _ _⟩
    · have h32I : (32 : Int) < (s.size : Int) := by omega
      rw [decide_eq_false h32, Bool.false_and, Bool.false_and]
      clear hs h0 h32
      go_enter Tryz.func93, Tryz.ntmps93
      go_wp2
      go_ret
      exact ⟨rfl, Below.refl _ _⟩

theorem op_neM {op : ByteArray} {l : List UInt8} (h : ¬ op.data.toList = l) : (l == op.toList) = false := by
  rw [toList_data]
  simpa using fun e => h e.symm
theorem holdsK_any (op : ByteArray) (w : World) :
    Calls Tryz.prog 96 #[.string op, .agg #[.bool false, .string ⟨#[]⟩, .int .i64 0], .agg #[.bool false, .string ⟨#[]⟩, .int .i64 0]] w fun e w' => (∃ b, e = .returned (.tuple #[.bool b, .bool (isOpB op.data.toList)])) ∧ Below w.heap.size w w' := by
  unfold isOpB
  by_cases h0 : op.data.toList = [61]
  · obtain rfl : op = ⟨#[61]⟩ := Go.WideShapes.bytes_inj h0
    exact (holds_eq _ _ _ _ _ _ w).mono fun e w' ⟨he, hb⟩ => ⟨⟨_, he⟩, hb⟩
  by_cases h1 : op.data.toList = [33, 61]
  · obtain rfl : op = ⟨#[33, 61]⟩ := Go.WideShapes.bytes_inj h1
    exact (holds_ne _ _ _ _ _ _ w).mono fun e w' ⟨he, hb⟩ => ⟨⟨_, he⟩, hb⟩
  by_cases h2 : op.data.toList = [60]
  · obtain rfl : op = ⟨#[60]⟩ := Go.WideShapes.bytes_inj h2
    exact (holds_lt _ _ _ _ _ _ w).mono fun e w' ⟨he, hb⟩ => ⟨⟨_, he⟩, hb⟩
  by_cases h3 : op.data.toList = [60, 61]
  · obtain rfl : op = ⟨#[60, 61]⟩ := Go.WideShapes.bytes_inj h3
    exact (holds_le _ _ _ _ _ _ w).mono fun e w' ⟨he, hb⟩ => ⟨⟨_, he⟩, hb⟩
  by_cases h4 : op.data.toList = [62]
  · obtain rfl : op = ⟨#[62]⟩ := Go.WideShapes.bytes_inj h4
    exact (holds_gt _ _ _ _ _ _ w).mono fun e w' ⟨he, hb⟩ => ⟨⟨_, he⟩, hb⟩
  by_cases h5 : op.data.toList = [62, 61]
  · obtain rfl : op = ⟨#[62, 61]⟩ := Go.WideShapes.bytes_inj h5
    exact (holds_ge _ _ _ _ _ _ w).mono fun e w' ⟨he, hb⟩ => ⟨⟨_, he⟩, hb⟩
  refine (holds_none op (op_neM h0) (op_neM h1) (op_neM h2) (op_neM h3) (op_neM h4) (op_neM h5) _ _ _ _ _ _ w).mono fun e w' ⟨he, hb⟩ => ⟨⟨false, he.trans ?_⟩, hb⟩
  simp [h0, h1, h2, h3, h4, h5]

set_option maxHeartbeats 1000000 in
theorem isOper_any (op : ByteArray) (w : World) :
    Calls Tryz.prog 77 #[.string op] w fun e w' => e = .returned (.bool (isOpB op.data.toList)) ∧ Below w.heap.size w w' := by
  have HH := Lib.hid (holdsK_any op w)
  obtain ⟨b, hb⟩ : ∃ b, b = isOpB op.data.toList := ⟨_, rfl⟩
  rw [← hb] at HH ⊢
  clear hb
  go_enter Tryz.func77, Tryz.ntmps77
  go_wp2_with (go_at_call 96; refine (HH.out).mono ?_; rintro e w1 ⟨⟨b1, rfl⟩, hb1⟩)
  go_ret
  exact ⟨rfl, hb1⟩

set_option maxHeartbeats 2000000 in
theorem pmayDe_any (d : De) (w : World) (hI : InDe d) (hs : szDe d ≤ 1000000000000) :
    Calls Tryz.prog 36 #[.agg #[.string d.p, .int .i64 d.ar]] w fun e w' => e = .returned (.bool (mayDeB d)) ∧ Below w.heap.size w w' := by
  have HAL := Lib.hid (al_below w (.cells #[.string d.p, .int .i64 d.ar] 63))
  have HP := Lib.hid (isPred_any d.p (w.alloc (.cells #[.string d.p, .int .i64 d.ar] 63)) (by unfold szDe at hs; omega))
  have HK : Hid (∀ W, Below (w.alloc (.cells #[.string d.p, .int .i64 d.ar] 63)).heap.size (w.alloc (.cells #[.string d.p, .int .i64 d.ar] 63)) W → W.cell? ⟨w.heap.size, 1, none⟩ = some (.int .i64 d.ar)) := fun W hb => ((Blk.new w #[.string d.p, .int .i64 d.ar] 63).below hb).cell 1
  unfold mayDeB
  obtain ⟨p, n⟩ := d
  simp only at HAL HP HK ⊢
  obtain ⟨b, hb⟩ : ∃ b, b = shortPlain p.data.toList := ⟨_, rfl⟩
  rw [← hb] at HP ⊢
  clear hb hI hs
  cases b
  · go_enter Tryz.func36, Tryz.ntmps36
    go_wp2_with (go_at_call 55; refine (HP.out).mono ?_; rintro e w1 ⟨rfl, hb1⟩)
    go_ret
    exact ⟨rfl, HAL.out.trans (hb1.mono HAL.out.size)⟩
  · by_cases h0 : 0 ≤ n
    · by_cases h6 : n ≤ 6
      · go_enter Tryz.func36, Tryz.ntmps36
        go_wp2_with (go_at_call 55; refine (HP.out).mono ?_; rintro e w1 ⟨rfl, hb1⟩; have q1 := HK.out _ hb1)
        go_ret
        exact ⟨by simp [h0, h6], HAL.out.trans (hb1.mono HAL.out.size)⟩
      · go_enter Tryz.func36, Tryz.ntmps36
        go_wp2_with (go_at_call 55; refine (HP.out).mono ?_; rintro e w1 ⟨rfl, hb1⟩; have q1 := HK.out _ hb1)
        go_ret
        exact ⟨by simp [h0, h6], HAL.out.trans (hb1.mono HAL.out.size)⟩
    · go_enter Tryz.func36, Tryz.ntmps36
      go_wp2_with (go_at_call 55; refine (HP.out).mono ?_; rintro e w1 ⟨rfl, hb1⟩; have q1 := HK.out _ hb1)
      go_ret
      exact ⟨by simp [h0]; omega, HAL.out.trans (hb1.mono HAL.out.size)⟩

theorem mayV_iff (name : ByteArray) (k : Bool) (s : ByteArray) (n : Int) : (!k && (s.data.toList == []) && (n == 0)) = true ↔ (⟨true, name, k, s, n⟩ : Tm) = ⟨true, name, false, ⟨#[]⟩, 0⟩ := by
  have hs : s.data = #[] ↔ s = ⟨#[]⟩ := ⟨fun e => ByteArray.ext e, fun e => by rw [e]⟩
  simp [hs, and_assoc]
theorem mayS_iff (name : ByteArray) (s : ByteArray) (n : Int) : ((name.data.toList == []) && (n == 0)) = true ↔ (⟨false, name, true, s, n⟩ : Tm) = ⟨false, ⟨#[]⟩, true, s, 0⟩ := by
  have hs : name.data = #[] ↔ name = ⟨#[]⟩ := ⟨fun e => ByteArray.ext e, fun e => by rw [e]⟩
  simp [hs]
theorem mayN_iff (name : ByteArray) (s : ByteArray) (n : Int) : ((name.data.toList == []) && (s.data.toList == [])) = true ↔ (⟨false, name, false, s, n⟩ : Tm) = ⟨false, ⟨#[]⟩, false, ⟨#[]⟩, n⟩ := by
  have hs : name.data = #[] ↔ name = ⟨#[]⟩ := ⟨fun e => ByteArray.ext e, fun e => by rw [e]⟩
  have hs' : s.data = #[] ↔ s = ⟨#[]⟩ := ⟨fun e => ByteArray.ext e, fun e => by rw [e]⟩
  simp [hs, hs']

/-- A term's box, and what has been since. -/
theorem box5_keep {w W w' : World} {b : Nat} {c0 c1 c2 c3 c4 : Value} (h : W.cell? ⟨b, 0, none⟩ = some c0 ∧ W.cell? ⟨b, 1, none⟩ = some c1 ∧ W.cell? ⟨b, 2, none⟩ = some c2 ∧ W.cell? ⟨b, 3, none⟩ = some c3 ∧ W.cell? ⟨b, 4, none⟩ = some c4 ∧ b < W.heap.size ∧ Below w.heap.size w W) (hb : Below W.heap.size W w') :
    w'.cell? ⟨b, 0, none⟩ = some c0 ∧ w'.cell? ⟨b, 1, none⟩ = some c1 ∧ w'.cell? ⟨b, 2, none⟩ = some c2 ∧ w'.cell? ⟨b, 3, none⟩ = some c3 ∧ w'.cell? ⟨b, 4, none⟩ = some c4 ∧ b < w'.heap.size ∧ Below w.heap.size w w' := by
  obtain ⟨h0, h1, h2, h3, h4, hl, hB⟩ := h
  have hs := hb.size
  have c := fun o => hb.cell (p := ⟨b, o, none⟩) hl
  exact ⟨(c 0).trans h0, (c 1).trans h1, (c 2).trans h2, (c 3).trans h3, (c 4).trans h4, by omega, hB.trans (hb.mono hB.size)⟩

set_option maxHeartbeats 8000000 in
theorem pmayTm_any (t : Tm) (w : World) (hI : InTm t) (hs : szTm t ≤ 1000000000000) :
    Calls Tryz.prog 76 #[.agg #[.bool t.v, .string t.name, .bool t.k, .string t.s, .int .i64 t.n]] w fun e w' => e = .returned (.bool (mayTmB t)) ∧ Below w.heap.size w w' := by
  obtain ⟨v, name, k, s, n⟩ := t
  unfold szTm at hs
  unfold InTm at hI
  simp only at hs hI
  have HAL := Lib.hid (al_below w (.cells #[.bool v, .string name, .bool k, .string s, .int .i64 n] 35))
  have z0 : (⟨#[]⟩ : ByteArray).size ≤ maxLen := by decide
  have i0 : InR 0 := ⟨by decide, by decide⟩
  have hN : name.size ≤ maxLen := by unfold maxLen; omega
  have hS : s.size ≤ maxLen := by unfold maxLen; omega
  unfold mayTmB
  simp only
  cases v
  · rw [if_neg (by decide)]
    cases k
    · rw [if_neg (by decide)]
      obtain ⟨b, hb⟩ : ∃ b, b = ((name.data.toList == []) && (s.data.toList == [])) := ⟨_, rfl⟩
      have hq : ∀ W : World, (binOp .eql 35 (.agg #[.bool false, .string name, .bool false, .string s, .int .i64 n]) (.agg #[.bool false, .string ⟨#[]⟩, .bool false, .string ⟨#[]⟩, .int .i64 n])).run Tryz.prog W = .ok (.bool b) W := fun W =>
        eql_tm (x := ⟨false, name, false, s, n⟩) (y := ⟨false, ⟨#[]⟩, false, ⟨#[]⟩, n⟩) ⟨hN, hS, hI⟩ ⟨z0, z0, hI⟩ (by rw [hb]; exact mayN_iff name s n) W
      rw [← hb]
      clear hb hs hI z0 i0 hN hS
      go_enter Tryz.func76, Tryz.ntmps76
      go_wp2_with fail
      go_region_held3 (fun w' => w'.cell? ⟨w.heap.size, 0, none⟩ = some (.bool false) ∧ w'.cell? ⟨w.heap.size, 1, none⟩ = some (.string name) ∧ w'.cell? ⟨w.heap.size, 2, none⟩ = some (.bool false) ∧ w'.cell? ⟨w.heap.size, 3, none⟩ = some (.string s) ∧ w'.cell? ⟨w.heap.size, 4, none⟩ = some (.int .i64 n) ∧ w.heap.size < w'.heap.size ∧ Below w.heap.size w w')
        (first | assumption | exact box5_keep (by assumption) hbN | exact ⟨by simp, by simp, by simp, by simp, by simp, by simp, HAL.out.drew⟩)
        (first
          | (go_at_call 95; refine (int_any _ _).mono ?_; rintro e w' ⟨rfl, hbN⟩))
      all_goals
        go_wp2
        go_ret
        go_split_ands
        exact ⟨rfl, by assumption⟩
    · rw [if_pos rfl]
      obtain ⟨b, hb⟩ : ∃ b, b = ((name.data.toList == []) && (n == 0)) := ⟨_, rfl⟩
      have hq : ∀ W : World, (binOp .eql 35 (.agg #[.bool false, .string name, .bool true, .string s, .int .i64 n]) (.agg #[.bool false, .string ⟨#[]⟩, .bool true, .string s, .int .i64 0])).run Tryz.prog W = .ok (.bool b) W := fun W =>
        eql_tm (x := ⟨false, name, true, s, n⟩) (y := ⟨false, ⟨#[]⟩, true, s, 0⟩) ⟨hN, hS, hI⟩ ⟨z0, hS, i0⟩ (by rw [hb]; exact mayS_iff name s n) W
      rw [← hb]
      clear hb hs hI z0 i0 hN hS
      go_enter Tryz.func76, Tryz.ntmps76
      go_wp2_with fail
      go_region_held3 (fun w' => w'.cell? ⟨w.heap.size, 0, none⟩ = some (.bool false) ∧ w'.cell? ⟨w.heap.size, 1, none⟩ = some (.string name) ∧ w'.cell? ⟨w.heap.size, 2, none⟩ = some (.bool true) ∧ w'.cell? ⟨w.heap.size, 3, none⟩ = some (.string s) ∧ w'.cell? ⟨w.heap.size, 4, none⟩ = some (.int .i64 n) ∧ w.heap.size < w'.heap.size ∧ Below w.heap.size w w')
        (first | assumption | exact box5_keep (by assumption) hbN | exact ⟨by simp, by simp, by simp, by simp, by simp, by simp, HAL.out.drew⟩)
        (first
          | (go_at_call 94; refine (sym_any _ _).mono ?_; rintro e w' ⟨rfl, hbN⟩))
      all_goals
        go_wp2
        go_ret
        go_split_ands
        exact ⟨rfl, by assumption⟩
  · rw [if_pos rfl]
    have HV := Lib.hid (isVar_any name (w.alloc (.cells #[.bool true, .string name, .bool k, .string s, .int .i64 n] 35)) (by omega))
    obtain ⟨b, hb⟩ : ∃ b, b = (!k && (s.data.toList == []) && (n == 0)) := ⟨_, rfl⟩
    have hq : ∀ W : World, (binOp .eql 35 (.agg #[.bool true, .string name, .bool k, .string s, .int .i64 n]) (.agg #[.bool true, .string name, .bool false, .string ⟨#[]⟩, .int .i64 0])).run Tryz.prog W = .ok (.bool b) W := fun W =>
      eql_tm (x := ⟨true, name, k, s, n⟩) (y := ⟨true, name, false, ⟨#[]⟩, 0⟩) ⟨hN, hS, hI⟩ ⟨hN, z0, i0⟩ (by rw [hb]; exact mayV_iff name k s n) W
    obtain ⟨c, hc⟩ : ∃ c, c = greatB name.data.toList := ⟨_, rfl⟩
    have hcb : (c && !k && (s.data.toList == []) && (n == 0)) = (c && b) := by rw [hb]; simp [Bool.and_assoc]
    rw [← hc] at HV ⊢
    rw [hcb]
    have HK : Hid (∀ W, Below (w.alloc (.cells #[.bool true, .string name, .bool k, .string s, .int .i64 n] 35)).heap.size (w.alloc (.cells #[.bool true, .string name, .bool k, .string s, .int .i64 n] 35)) W → W.cell? ⟨w.heap.size, 0, none⟩ = some (.bool true) ∧ W.cell? ⟨w.heap.size, 1, none⟩ = some (.string name) ∧ W.cell? ⟨w.heap.size, 2, none⟩ = some (.bool k) ∧ W.cell? ⟨w.heap.size, 3, none⟩ = some (.string s) ∧ W.cell? ⟨w.heap.size, 4, none⟩ = some (.int .i64 n)) := fun W hb => by
      have := (Blk.new w #[.bool true, .string name, .bool k, .string s, .int .i64 n] 35).below hb
      exact ⟨this.cell 0, this.cell 1, this.cell 2, this.cell 3, this.cell 4⟩
    clear hb hs hI z0 i0 hN hS hc hcb
    cases c
    · clear hq
      go_enter Tryz.func76, Tryz.ntmps76
      go_wp2_with (go_at_call 93; refine (HV.out).mono ?_; rintro e w1 ⟨rfl, hb1⟩)
      go_ret
      exact ⟨rfl, HAL.out.trans (hb1.mono HAL.out.size)⟩
    · go_enter Tryz.func76, Tryz.ntmps76
      go_wp2_with (go_at_call 93; refine (HV.out).mono ?_; rintro e w1 ⟨rfl, hb1⟩; obtain ⟨q0, q1, q2, q3, q4⟩ := HK.out _ hb1)
      go_ret
      exact ⟨rfl, HAL.out.trans (hb1.mono HAL.out.size)⟩
end Go.Proofs.YtbbmihojfcofdaaGreatDoor

namespace Go.Proofs.YtbbmihojfcofdaaGreatDoor
set_option linter.unusedSimpArgs false
set_option linter.unusedVariables false
set_option linter.unusedSectionVars false
set_option maxRecDepth 100000
open Go.RowKit

set_option maxHeartbeats 4000000 in
theorem allT_any {w : World} {x : Value} {L : List Tm} (hx : Tms w x L) (hI : ∀ t ∈ L, InTm t) (hs : szTms L ≤ 1000000000000) :
    Calls Tryz.prog 75 #[x, .int .i64 6, .func (.func 76) #[] #[]] w fun e w' => e = .returned (.bool (decide (L.length ≤ 6) && L.all mayTmB)) ∧ Below w.heap.size w w' := by
  obtain ⟨ao, cap, rfl, hcap, hm⟩ := hx.form
  have hl : 6 * L.length ≤ szTms L := sum_len szTm 6 (fun t => by unfold szTm; omega) L
  have hl12I : (L.length : Int) ≤ 1000000000000 := by omega
  have HX := Lib.hid hx
  have HC2 : Hid (∀ t ∈ L, ∀ W, Calls Tryz.prog 76 #[.agg #[.bool t.v, .string t.name, .bool t.k, .string t.s, .int .i64 t.n]] W fun e w' => e = .returned (.bool (mayTmB t)) ∧ Below W.heap.size W w') := fun t ht W  => pmayTm_any t W (hI t ht) (Nat.le_trans (sum_mem szTm ht) hs)
  obtain ⟨F, hF⟩ : ∃ F : Tm → Bool, F = mayTmB := ⟨_, rfl⟩
  rw [← hF] at HC2 ⊢
  clear hx hI hs hl hcap hm hF
  by_cases hlen : L.length ≤ 6
  · rw [decide_eq_true hlen, Bool.true_and]
    have hlI : ¬ (6 : Int) < (L.length : Int) := by omega
    clear hlen
    go_enter Tryz.func75, Tryz.ntmps75
    go_wp2_with fail
    go_loopw [15] (fun i wr => ∃ k : Nat, k ≤ L.length ∧ i = .int .i64 k ∧ Hid ((L.take k).all F = true) ∧ Hid (Below w.heap.size w wr)) (fun i _ => L.length - (intOf i).toNat)
    case atStart => exact ⟨0, Nat.zero_le _, rfl, by simp [Hid], Below.refl _ _⟩
    case round =>
      obtain ⟨k, hk, rfl, HA, HB⟩ := hrel
      by_cases hlt : k < L.length
      · have hltI : (k : Int) < (L.length : Int) := by omega
        obtain ⟨b, off, cs, rfl, hbl, hR, hc⟩ := (HX.out.below stayTm HB.out).at k hlt
        obtain rfl : cs = _ := hR
        have HCK := Lib.hid (fun W (hb : Below wr.heap.size wr W) => HC2.out _ (List.getElem_mem hlt) W)
        have q0 := hc 0 _ rfl
        have q1 := hc 1 _ rfl
        have q2 := hc 2 _ rfl
        have q3 := hc 3 _ rfl
        have q4 := hc 4 _ rfl
        simp only [Nat.add_zero] at q0
        have HT : Hid (F L[k] = true → (L.take (k + 1)).all F = true) := fun h => by rw [List.take_succ_eq_append_getElem hlt, List.all_append, HA.out]; simp [h]
        have HF : Hid (F L[k] = false → L.all F = false) := fun h => by
          rw [List.all_eq_false]
          exact ⟨L[k], List.getElem_mem hlt, by simp [h]⟩
        obtain ⟨y, hy⟩ : ∃ y, y = F L[k] := ⟨_, rfl⟩
        rw [← hy] at HCK HT HF
        obtain ⟨t, ht⟩ : ∃ t, t = L[k] := ⟨_, rfl⟩
        rw [← ht] at HCK q0 q1 q2 q3 q4
        clear ht hy hc
        obtain ⟨tv, tname, tk, ts, tn⟩ := t
        simp only at HCK q0 q1 q2 q3 q4
        cases y
        · have HE := Lib.hid (HF.out rfl)
          go_wp2_with (go_at_call 76; refine (HCK.out _ (al_below wr _)).mono ?_; rintro e w1 ⟨rfl, hb1⟩; have HB1 : Hid (Below w.heap.size w w1) := HB.out.trans (((al_below wr _).mono (Nat.le_refl _) |>.trans (hb1.mono (by simp))).mono HB.out.size); clear hb1)
          go_ret
          exact ⟨ret_bool HE.out.symm, HB1.out⟩
        · have HE := Lib.hid (HT.out rfl)
          go_wp2_with (go_at_call 76; refine (HCK.out _ (al_below wr _)).mono ?_; rintro e w1 ⟨rfl, hb1⟩; have HB1 : Hid (Below w.heap.size w w1) := HB.out.trans (((al_below wr _).mono (Nat.le_refl _) |>.trans (hb1.mono (by simp))).mono HB.out.size); clear hb1)
          go_roundw
          case rel => exact ⟨k + 1, by omega, by go_num, HE, HB1⟩
          case measure => simp [intOf]; omega
      · have hltI : ¬ (k : Int) < (L.length : Int) := by omega
        have HE : Hid (L.all F = true) := by
          have := HA.out
          rw [List.take_of_length_le (by omega)] at this
          exact this
        go_wp2
        go_ret
        exact ⟨ret_bool HE.out.symm, HB.out⟩
  · rw [decide_eq_false hlen, Bool.false_and]
    have hlI : (6 : Int) < (L.length : Int) := by omega
    clear hlen
    go_enter Tryz.func75, Tryz.ntmps75
    go_wp2
    go_ret
    exact ⟨rfl, Below.refl _ _⟩
end Go.Proofs.YtbbmihojfcofdaaGreatDoor

namespace Go.Proofs.YtbbmihojfcofdaaGreatDoor
set_option linter.unusedSimpArgs false
set_option linter.unusedVariables false
set_option linter.unusedSectionVars false
set_option maxRecDepth 100000
open Go.RowKit

set_option maxHeartbeats 4000000 in
theorem allD_any {w : World} {x : Value} {L : List De} (hx : Des w x L) (hI : ∀ t ∈ L, InDe t) (hs : szDes L ≤ 1000000000000) :
    Calls Tryz.prog 35 #[x, .int .i64 400, .func (.func 36) #[] #[]] w fun e w' => e = .returned (.bool (decide (L.length ≤ 400) && L.all mayDeB)) ∧ Below w.heap.size w w' := by
  obtain ⟨ao, cap, rfl, hcap, hm⟩ := hx.form
  have hl : 3 * L.length ≤ szDes L := sum_len szDe 3 (fun t => by unfold szDe; omega) L
  have hl12I : (L.length : Int) ≤ 1000000000000 := by omega
  have HX := Lib.hid hx
  have HC2 : Hid (∀ t ∈ L, ∀ W, Calls Tryz.prog 36 #[.agg #[.string t.p, .int .i64 t.ar]] W fun e w' => e = .returned (.bool (mayDeB t)) ∧ Below W.heap.size W w') := fun t ht W  => pmayDe_any t W (hI t ht) (Nat.le_trans (sum_mem szDe ht) hs)
  obtain ⟨F, hF⟩ : ∃ F : De → Bool, F = mayDeB := ⟨_, rfl⟩
  rw [← hF] at HC2 ⊢
  clear hx hI hs hl hcap hm hF
  by_cases hlen : L.length ≤ 400
  · rw [decide_eq_true hlen, Bool.true_and]
    have hlI : ¬ (400 : Int) < (L.length : Int) := by omega
    clear hlen
    go_enter Tryz.func35, Tryz.ntmps35
    go_wp2_with fail
    go_loopw [15] (fun i wr => ∃ k : Nat, k ≤ L.length ∧ i = .int .i64 k ∧ Hid ((L.take k).all F = true) ∧ Hid (Below w.heap.size w wr)) (fun i _ => L.length - (intOf i).toNat)
    case atStart => exact ⟨0, Nat.zero_le _, rfl, by simp [Hid], Below.refl _ _⟩
    case round =>
      obtain ⟨k, hk, rfl, HA, HB⟩ := hrel
      by_cases hlt : k < L.length
      · have hltI : (k : Int) < (L.length : Int) := by omega
        obtain ⟨b, off, cs, rfl, hbl, hR, hc⟩ := (HX.out.below stayDe HB.out).at k hlt
        obtain rfl : cs = _ := hR
        have HCK := Lib.hid (fun W (hb : Below wr.heap.size wr W) => HC2.out _ (List.getElem_mem hlt) W)
        have q0 := hc 0 _ rfl
        have q1 := hc 1 _ rfl
        simp only [Nat.add_zero] at q0
        have HT : Hid (F L[k] = true → (L.take (k + 1)).all F = true) := fun h => by rw [List.take_succ_eq_append_getElem hlt, List.all_append, HA.out]; simp [h]
        have HF : Hid (F L[k] = false → L.all F = false) := fun h => by
          rw [List.all_eq_false]
          exact ⟨L[k], List.getElem_mem hlt, by simp [h]⟩
        obtain ⟨y, hy⟩ : ∃ y, y = F L[k] := ⟨_, rfl⟩
        rw [← hy] at HCK HT HF
        obtain ⟨t, ht⟩ : ∃ t, t = L[k] := ⟨_, rfl⟩
        rw [← ht] at HCK q0 q1
        clear ht hy hc
        obtain ⟨tp, tar⟩ := t
        simp only at HCK q0 q1
        cases y
        · have HE := Lib.hid (HF.out rfl)
          go_wp2_with (go_at_call 36; refine (HCK.out _ (al_below wr _)).mono ?_; rintro e w1 ⟨rfl, hb1⟩; have HB1 : Hid (Below w.heap.size w w1) := HB.out.trans (((al_below wr _).mono (Nat.le_refl _) |>.trans (hb1.mono (by simp))).mono HB.out.size); clear hb1)
          go_ret
          exact ⟨ret_bool HE.out.symm, HB1.out⟩
        · have HE := Lib.hid (HT.out rfl)
          go_wp2_with (go_at_call 36; refine (HCK.out _ (al_below wr _)).mono ?_; rintro e w1 ⟨rfl, hb1⟩; have HB1 : Hid (Below w.heap.size w w1) := HB.out.trans (((al_below wr _).mono (Nat.le_refl _) |>.trans (hb1.mono (by simp))).mono HB.out.size); clear hb1)
          go_roundw
          case rel => exact ⟨k + 1, by omega, by go_num, HE, HB1⟩
          case measure => simp [intOf]; omega
      · have hltI : ¬ (k : Int) < (L.length : Int) := by omega
        have HE : Hid (L.all F = true) := by
          have := HA.out
          rw [List.take_of_length_le (by omega)] at this
          exact this
        go_wp2
        go_ret
        exact ⟨ret_bool HE.out.symm, HB.out⟩
  · rw [decide_eq_false hlen, Bool.false_and]
    have hlI : (400 : Int) < (L.length : Int) := by omega
    clear hlen
    go_enter Tryz.func35, Tryz.ntmps35
    go_wp2
    go_ret
    exact ⟨rfl, Below.refl _ _⟩
end Go.Proofs.YtbbmihojfcofdaaGreatDoor

namespace Go.Proofs.YtbbmihojfcofdaaGreatDoor
set_option linter.unusedSimpArgs false
set_option linter.unusedVariables false
set_option linter.unusedSectionVars false
set_option maxRecDepth 100000
open Go.RowKit

set_option maxHeartbeats 2000000 in
theorem pmayAm_any (a : Am) (x : Value) (w : World) (hx : Tms w x a.args) (hI : InAm a) (hs : szAm a ≤ 1000000000000) :
    Calls Tryz.prog 56 #[.agg #[.string a.p, x]] w fun e w' => e = .returned (.bool (mayAmB a)) ∧ Below w.heap.size w w' := by
  have hal := al_below w (.cells #[.string a.p, x] 31)
  have HAL := Lib.hid hal
  have HP := Lib.hid (isPred_any a.p (w.alloc (.cells #[.string a.p, x] 31)) (by unfold szAm at hs; omega))
  have HA : Hid (∀ W, Below (w.alloc (.cells #[.string a.p, x] 31)).heap.size (w.alloc (.cells #[.string a.p, x] 31)) W → Calls Tryz.prog 75 #[x, .int .i64 6, .func (.func 76) #[] #[]] W fun e w' => e = .returned (.bool (decide (a.args.length ≤ 6) && a.args.all mayTmB)) ∧ Below W.heap.size W w') := fun W hb => allT_any ((hx.below stayTm hal).below stayTm hb) hI (by unfold szAm at hs; omega)
  have HK : Hid (∀ W, Below (w.alloc (.cells #[.string a.p, x] 31)).heap.size (w.alloc (.cells #[.string a.p, x] 31)) W → W.cell? ⟨w.heap.size, 1, none⟩ = some x) := fun W hb => ((Blk.new w #[.string a.p, x] 31).below hb).cell 1
  unfold mayAmB
  obtain ⟨b, hb⟩ : ∃ b, b = shortPlain a.p.data.toList := ⟨_, rfl⟩
  obtain ⟨c, hc⟩ : ∃ c, c = (decide (a.args.length ≤ 6) && a.args.all mayTmB) := ⟨_, rfl⟩
  rw [← hb] at HP ⊢
  rw [← hc] at HA ⊢
  obtain ⟨ao, cap, rfl, -⟩ := hx.form
  obtain ⟨p, A⟩ := a
  simp only at HAL HP HA HK
  clear hb hc hI hs hx hal
  cases b
  · go_enter Tryz.func56, Tryz.ntmps56
    go_wp2_with (go_at_call 55; refine (HP.out).mono ?_; rintro e w1 ⟨rfl, hb1⟩)
    go_ret
    exact ⟨rfl, HAL.out.trans (hb1.mono HAL.out.size)⟩
  · go_enter Tryz.func56, Tryz.ntmps56
    go_wp2_with (first
      | (go_at_call 55; refine (HP.out).mono ?_; rintro e w1 ⟨rfl, hb1⟩; have q1 := HK.out _ hb1; have HB1 := Lib.hid hb1; clear hb1)
      | (go_at_call 75; refine (HA.out _ HB1.out).mono ?_; rintro e w2 ⟨rfl, hb2⟩; have HB2 : Hid (Below w.heap.size w w2) := HAL.out.trans ((HB1.out.trans (hb2.mono HB1.out.size)).mono HAL.out.size); clear hb2))
    go_ret
    exact ⟨rfl, HB2.out⟩

set_option maxHeartbeats 8000000 in
theorem pmayLt_any (l : Lt) (x : Value) (w : World) (hx : Tms w x l.atom.args) (hI : InLt l) (hs : szLt l ≤ 1000000000000) :
    Calls Tryz.prog 58 #[.agg #[.int .i64 l.kind, .string l.atom.p, x, .string l.op, .bool l.l.v, .string l.l.name, .bool l.l.k, .string l.l.s, .int .i64 l.l.n, .bool l.r.v, .string l.r.name, .bool l.r.k, .string l.r.s, .int .i64 l.r.n]] w
      fun e w' => e = .returned (.bool (mayLtB l)) ∧ Below w.heap.size w w' := by
  obtain ⟨ao, cap, rfl, hcap, hm⟩ := hx.form
  have hal := al_below w (.cells #[.int .i64 l.kind, .string l.atom.p, .slice ao l.atom.args.length cap, .string l.op, .bool l.l.v, .string l.l.name, .bool l.l.k, .string l.l.s, .int .i64 l.l.n, .bool l.r.v, .string l.r.name, .bool l.r.k, .string l.r.s, .int .i64 l.r.n] 37)
  have HAL := Lib.hid hal
  have HA := Lib.hid (pmayAm_any l.atom _ _ (hx.below stayTm hal) hI.1 (by unfold szLt at hs; omega))
  have HO := Lib.hid (fun W => isOper_any l.op W)
  have HL := Lib.hid (fun W => pmayTm_any l.l W hI.2.1 (by unfold szLt at hs; omega))
  have HR := Lib.hid (fun W => pmayTm_any l.r W hI.2.2 (by unfold szLt at hs; omega))
  have HBK := Lib.hid (Blk.new w #[.int .i64 l.kind, .string l.atom.p, .slice ao l.atom.args.length cap, .string l.op, .bool l.l.v, .string l.l.name, .bool l.l.k, .string l.l.s, .int .i64 l.l.n, .bool l.r.v, .string l.r.name, .bool l.r.k, .string l.r.s, .int .i64 l.r.n] 37)
  have z0 : (⟨#[]⟩ : ByteArray).size ≤ maxLen := by decide
  have i0 : InR 0 := ⟨by decide, by decide⟩
  have vL : TmV l.l := ⟨by unfold szLt szTm at hs; unfold maxLen; omega, by unfold szLt szTm at hs; unfold maxLen; omega, hI.2.1⟩
  have vR : TmV l.r := ⟨by unfold szLt szTm at hs; unfold maxLen; omega, by unfold szLt szTm at hs; unfold maxLen; omega, hI.2.2⟩
  have qL : ∀ W : World, (binOp .eql 35 (.agg #[.bool l.l.v, .string l.l.name, .bool l.l.k, .string l.l.s, .int .i64 l.l.n]) (.agg #[.bool false, .string ⟨#[]⟩, .bool false, .string ⟨#[]⟩, .int .i64 0])).run Tryz.prog W = .ok (.bool (tmZ l.l)) W := fun W => eql_tm (x := l.l) (y := Tm.zero) vL ⟨z0, z0, i0⟩ (tmZ_iff _) W
  have qR : ∀ W : World, (binOp .eql 35 (.agg #[.bool l.r.v, .string l.r.name, .bool l.r.k, .string l.r.s, .int .i64 l.r.n]) (.agg #[.bool false, .string ⟨#[]⟩, .bool false, .string ⟨#[]⟩, .int .i64 0])).run Tryz.prog W = .ok (.bool (tmZ l.r)) W := fun W => eql_tm (x := l.r) (y := Tm.zero) vR ⟨z0, z0, i0⟩ (tmZ_iff _) W
  have h12 : (l.kind = 1 ∨ l.kind = 2) → mayLtB l = (mayAmB l.atom && (l.op.data.toList == []) && tmZ l.l && tmZ l.r) := fun h => by unfold mayLtB; rw [if_pos h]
  have h3 : l.kind = 3 → mayLtB l = (isOpB l.op.data.toList && mayTmB l.l && mayTmB l.r && (l.atom.p.data.toList == []) && decide (l.atom.args.length = 0)) := fun h => by unfold mayLtB; rw [if_neg (by omega), if_pos h]
  have h0 : l.kind ≠ 1 → l.kind ≠ 2 → l.kind ≠ 3 → mayLtB l = false := fun a b c => by unfold mayLtB; rw [if_neg (by omega), if_neg c]
  obtain ⟨Z, hZ⟩ : ∃ Z, Z = mayLtB l := ⟨_, rfl⟩
  rw [← hZ] at h12 h3 h0 ⊢
  obtain ⟨bA, hbA⟩ : ∃ b, b = mayAmB l.atom := ⟨_, rfl⟩
  obtain ⟨bO, hbO⟩ : ∃ b, b = isOpB l.op.data.toList := ⟨_, rfl⟩
  obtain ⟨bL, hbL⟩ : ∃ b, b = mayTmB l.l := ⟨_, rfl⟩
  obtain ⟨bR, hbR⟩ : ∃ b, b = mayTmB l.r := ⟨_, rfl⟩
  obtain ⟨zL, hzL⟩ : ∃ b, b = tmZ l.l := ⟨_, rfl⟩
  obtain ⟨zR, hzR⟩ : ∃ b, b = tmZ l.r := ⟨_, rfl⟩
  rw [← hbA] at HA h12
  simp only [← hbO] at HO h3
  simp only [← hbL] at HL h3
  simp only [← hbR] at HR h3
  simp only [← hzL] at qL h12
  simp only [← hzR] at qR h12
  have hto : l.op.toList = l.op.data.toList := toList_data _
  have htp : l.atom.p.toList = l.atom.p.data.toList := toList_data _
  obtain ⟨kd, ⟨p, A⟩, op, ⟨lv, ln, lk, ls, li⟩, ⟨rv, rn, rk, rs, ri⟩⟩ := l
  simp only at HA HO HL HR HAL HBK qL qR h12 h3 h0 hto htp
  rw [← hto] at h12
  rw [← htp] at h3
  obtain ⟨nA, hnA⟩ : ∃ nA, nA = A.length := ⟨_, rfl⟩
  rw [← hnA] at HA HAL HBK h3
  simp only [← hnA]
  clear hx hI hs hal hcap hm hZ hbA hbO hbL hbR hzL hzR hto htp z0 i0 vL vR hnA
  have HCELL : Hid (∀ W, Below (w.alloc (.cells #[.int .i64 kd, .string p, .slice ao nA cap, .string op, .bool lv, .string ln, .bool lk, .string ls, .int .i64 li, .bool rv, .string rn, .bool rk, .string rs, .int .i64 ri] 37)).heap.size (w.alloc (.cells #[.int .i64 kd, .string p, .slice ao nA cap, .string op, .bool lv, .string ln, .bool lk, .string ls, .int .i64 li, .bool rv, .string rn, .bool rk, .string rs, .int .i64 ri] 37)) W →
      W.cell? ⟨w.heap.size, 1, none⟩ = some (.string p) ∧ W.cell? ⟨w.heap.size, 2, none⟩ = some (.slice ao nA cap) ∧ W.cell? ⟨w.heap.size, 3, none⟩ = some (.string op) ∧ W.cell? ⟨w.heap.size, 4, none⟩ = some (.bool lv) ∧ W.cell? ⟨w.heap.size, 5, none⟩ = some (.string ln) ∧ W.cell? ⟨w.heap.size, 6, none⟩ = some (.bool lk) ∧ W.cell? ⟨w.heap.size, 7, none⟩ = some (.string ls) ∧ W.cell? ⟨w.heap.size, 8, none⟩ = some (.int .i64 li) ∧
      W.cell? ⟨w.heap.size, 9, none⟩ = some (.bool rv) ∧ W.cell? ⟨w.heap.size, 10, none⟩ = some (.string rn) ∧ W.cell? ⟨w.heap.size, 11, none⟩ = some (.bool rk) ∧ W.cell? ⟨w.heap.size, 12, none⟩ = some (.string rs) ∧ W.cell? ⟨w.heap.size, 13, none⟩ = some (.int .i64 ri)) := fun W hb => by
    have c := (HBK.out.below hb).cell
    exact ⟨c 1, c 2, c 3, c 4, c 5, c 6, c 7, c 8, c 9, c 10, c 11, c 12, c 13⟩
  clear HBK
  obtain ⟨eo, heo⟩ : ∃ b, b = (op.toList == []) := ⟨_, rfl⟩
  obtain ⟨ep, hep⟩ : ∃ b, b = (p.toList == []) := ⟨_, rfl⟩
  rw [← heo] at h12
  rw [← hep] at h3
  have heo2 : op.toList.isEmpty = eo := by rw [heo]; cases op.toList <;> rfl
  have hep2 : p.toList.isEmpty = ep := by rw [hep]; cases p.toList <;> rfl
  have heo3 : (op.toList == []) = eo := heo.symm
  have hep3 : (p.toList == []) = ep := hep.symm
  clear heo hep
  by_cases k12 : kd = 1 ∨ kd = 2
  · obtain rfl := h12 k12
    clear HO HL HR h12 h3 h0 hep2 hep3
    rcases k12 with rfl | rfl
    all_goals
      cases bA
      · clear qL qR
        go_enter Tryz.func58, Tryz.ntmps58
        go_wp2_with (go_at_call 56; refine (HA.out).mono ?_; rintro e w1 ⟨rfl, hb1⟩)
        go_ret
        exact ⟨rfl, HAL.out.trans (hb1.mono HAL.out.size)⟩
      cases eo
      · clear qL qR
        go_enter Tryz.func58, Tryz.ntmps58
        go_wp2_with (go_at_call 56; refine (HA.out).mono ?_; rintro e w1 ⟨rfl, hb1⟩; obtain ⟨q1, q2, q3, q4, q5, q6, q7, q8, q9, q10, q11, q12, q13⟩ := HCELL.out _ hb1)
        go_ret
        exact ⟨rfl, HAL.out.trans (hb1.mono HAL.out.size)⟩
      cases zL
      · clear qR
        go_enter Tryz.func58, Tryz.ntmps58
        go_wp2_with (go_at_call 56; refine (HA.out).mono ?_; rintro e w1 ⟨rfl, hb1⟩; obtain ⟨q1, q2, q3, q4, q5, q6, q7, q8, q9, q10, q11, q12, q13⟩ := HCELL.out _ hb1)
        go_ret
        exact ⟨rfl, HAL.out.trans (hb1.mono HAL.out.size)⟩
      go_enter Tryz.func58, Tryz.ntmps58
      go_wp2_with (go_at_call 56; refine (HA.out).mono ?_; rintro e w1 ⟨rfl, hb1⟩; obtain ⟨q1, q2, q3, q4, q5, q6, q7, q8, q9, q10, q11, q12, q13⟩ := HCELL.out _ hb1)
      go_ret
      exact ⟨rfl, HAL.out.trans (hb1.mono HAL.out.size)⟩
  by_cases k3 : kd = 3
  · obtain rfl := h3 k3
    subst k3
    clear HA h12 h3 h0 qL qR heo2 heo3 k12
    cases bO
    · go_enter Tryz.func58, Tryz.ntmps58
      go_wp2_with (go_at_call 77; refine (HO.out _).mono ?_; rintro e w1 ⟨rfl, hb1⟩)
      go_ret
      exact ⟨rfl, HAL.out.trans (hb1.mono HAL.out.size)⟩
    cases bL
    · go_enter Tryz.func58, Tryz.ntmps58
      go_wp2_with (first
        | (go_at_call 77; refine (HO.out _).mono ?_; rintro e w1 ⟨rfl, hb1⟩; have HB1 := Lib.hid hb1; clear hb1; obtain ⟨q1, q2, q3, q4, q5, q6, q7, q8, q9, q10, q11, q12, q13⟩ := HCELL.out _ HB1.out)
        | (go_at_call 76; refine (HL.out _).mono ?_; rintro e w2 ⟨rfl, hb2⟩; have HB2 := Lib.hid (HB1.out.trans (hb2.mono HB1.out.size)); clear hb2))
      go_ret
      exact ⟨rfl, HAL.out.trans (HB2.out.mono HAL.out.size)⟩
    cases bR
    · go_enter Tryz.func58, Tryz.ntmps58
      go_wp2_with (first
        | (go_at_call 77; refine (HO.out _).mono ?_; rintro e w1 ⟨rfl, hb1⟩; have HB1 := Lib.hid hb1; clear hb1; obtain ⟨q1, q2, q3, q4, q5, q6, q7, q8, q9, q10, q11, q12, q13⟩ := HCELL.out _ HB1.out)
        | (go_at_call 76; refine (HL.out _).mono ?_; rintro e w2 ⟨rfl, hb2⟩; have HB2 := Lib.hid (HB1.out.trans (hb2.mono HB1.out.size)); clear hb2 HL; obtain ⟨r1, r2, r3, r4, r5, r6, r7, r8, r9, r10, r11, r12, r13⟩ := HCELL.out _ HB2.out)
        | (go_at_call 76; refine (HR.out _).mono ?_; rintro e w3 ⟨rfl, hb3⟩; have HB3 := Lib.hid (HB2.out.trans (hb3.mono HB2.out.size)); clear hb3))
      go_ret
      exact ⟨rfl, HAL.out.trans (HB3.out.mono HAL.out.size)⟩
    cases ep
    · go_enter Tryz.func58, Tryz.ntmps58
      go_wp2_with (first
        | (go_at_call 77; refine (HO.out _).mono ?_; rintro e w1 ⟨rfl, hb1⟩; have HB1 := Lib.hid hb1; clear hb1; obtain ⟨q1, q2, q3, q4, q5, q6, q7, q8, q9, q10, q11, q12, q13⟩ := HCELL.out _ HB1.out)
        | (go_at_call 76; refine (HL.out _).mono ?_; rintro e w2 ⟨rfl, hb2⟩; have HB2 := Lib.hid (HB1.out.trans (hb2.mono HB1.out.size)); clear hb2 HL; obtain ⟨r1, r2, r3, r4, r5, r6, r7, r8, r9, r10, r11, r12, r13⟩ := HCELL.out _ HB2.out)
        | (go_at_call 76; refine (HR.out _).mono ?_; rintro e w3 ⟨rfl, hb3⟩; have HB3 := Lib.hid (HB2.out.trans (hb3.mono HB2.out.size)); clear hb3; obtain ⟨s1, s2, s3, s4, s5, s6, s7, s8, s9, s10, s11, s12, s13⟩ := HCELL.out _ HB3.out))
      go_ret
      exact ⟨rfl, HAL.out.trans (HB3.out.mono HAL.out.size)⟩
    by_cases hn0 : nA = 0
    · have hd0 : decide (nA = 0) = true := decide_eq_true hn0
      have hnI : (nA : Int) = 0 := by omega
      have hnB : ((nA : Int) == 0) = true := by simpa using hnI
      have HD := Lib.hid hd0
      clear hn0 hd0 hnI
      go_enter Tryz.func58, Tryz.ntmps58
      go_wp2_with (first
        | (go_at_call 77; refine (HO.out _).mono ?_; rintro e w1 ⟨rfl, hb1⟩; have HB1 := Lib.hid hb1; clear hb1; obtain ⟨q1, q2, q3, q4, q5, q6, q7, q8, q9, q10, q11, q12, q13⟩ := HCELL.out _ HB1.out)
        | (go_at_call 76; refine (HL.out _).mono ?_; rintro e w2 ⟨rfl, hb2⟩; have HB2 := Lib.hid (HB1.out.trans (hb2.mono HB1.out.size)); clear hb2 HL; obtain ⟨r1, r2, r3, r4, r5, r6, r7, r8, r9, r10, r11, r12, r13⟩ := HCELL.out _ HB2.out)
        | (go_at_call 76; refine (HR.out _).mono ?_; rintro e w3 ⟨rfl, hb3⟩; have HB3 := Lib.hid (HB2.out.trans (hb3.mono HB2.out.size)); clear hb3; obtain ⟨s1, s2, s3, s4, s5, s6, s7, s8, s9, s10, s11, s12, s13⟩ := HCELL.out _ HB3.out))
      go_ret
      exact ⟨by rw [HD.out]; simp [*], HAL.out.trans (HB3.out.mono HAL.out.size)⟩
    · have hd0 : decide (nA = 0) = false := decide_eq_false hn0
      have hnI : ¬ (nA : Int) = 0 := by omega
      have hnB : ((nA : Int) == 0) = false := by simpa using hnI
      have HD := Lib.hid hd0
      clear hn0 hd0
      go_enter Tryz.func58, Tryz.ntmps58
      go_wp2_with (first
        | (go_at_call 77; refine (HO.out _).mono ?_; rintro e w1 ⟨rfl, hb1⟩; have HB1 := Lib.hid hb1; clear hb1; obtain ⟨q1, q2, q3, q4, q5, q6, q7, q8, q9, q10, q11, q12, q13⟩ := HCELL.out _ HB1.out)
        | (go_at_call 76; refine (HL.out _).mono ?_; rintro e w2 ⟨rfl, hb2⟩; have HB2 := Lib.hid (HB1.out.trans (hb2.mono HB1.out.size)); clear hb2 HL; obtain ⟨r1, r2, r3, r4, r5, r6, r7, r8, r9, r10, r11, r12, r13⟩ := HCELL.out _ HB2.out)
        | (go_at_call 76; refine (HR.out _).mono ?_; rintro e w3 ⟨rfl, hb3⟩; have HB3 := Lib.hid (HB2.out.trans (hb3.mono HB2.out.size)); clear hb3; obtain ⟨s1, s2, s3, s4, s5, s6, s7, s8, s9, s10, s11, s12, s13⟩ := HCELL.out _ HB3.out))
      go_ret
      exact ⟨by rw [HD.out]; simp [*], HAL.out.trans (HB3.out.mono HAL.out.size)⟩
  · have hk1 : kd ≠ 1 := fun h => k12 (.inl h)
    have hk2 : kd ≠ 2 := fun h => k12 (.inr h)
    obtain rfl := h0 hk1 hk2 k3
    clear HA HO HL HR h12 h3 h0 qL qR heo2 hep2 heo3 hep3 k12
    go_enter Tryz.func58, Tryz.ntmps58
    go_wp2
    go_ret
    exact ⟨rfl, HAL.out⟩
end Go.Proofs.YtbbmihojfcofdaaGreatDoor

namespace Go.Proofs.YtbbmihojfcofdaaGreatDoor
set_option linter.unusedSimpArgs false
set_option linter.unusedVariables false
set_option linter.unusedSectionVars false
set_option maxRecDepth 100000
open Go.RowKit

set_option maxHeartbeats 4000000 in
theorem allL_any {w : World} {x : Value} {L : List Lt} (hx : Lts w x L) (hI : ∀ t ∈ L, InLt t) (hs : szLts L ≤ 1000000000000) :
    Calls Tryz.prog 57 #[x, .int .i64 8, .func (.func 58) #[] #[]] w fun e w' => e = .returned (.bool (decide (L.length ≤ 8) && L.all mayLtB)) ∧ Below w.heap.size w w' := by
  obtain ⟨ao, cap, rfl, hcap, hm⟩ := hx.form
  have hl : 2 * L.length ≤ szLts L := sum_len szLt 2 (fun t => by unfold szLt; omega) L
  have hl12I : (L.length : Int) ≤ 1000000000000 := by omega
  have HX := Lib.hid hx
  have HC2 : Hid (∀ t ∈ L, ∀ W, ∀ xa, Tms W xa t.atom.args → Calls Tryz.prog 58 #[.agg #[.int .i64 t.kind, .string t.atom.p, xa, .string t.op, .bool t.l.v, .string t.l.name, .bool t.l.k, .string t.l.s, .int .i64 t.l.n, .bool t.r.v, .string t.r.name, .bool t.r.k, .string t.r.s, .int .i64 t.r.n]] W fun e w' => e = .returned (.bool (mayLtB t)) ∧ Below W.heap.size W w') := fun t ht W xa hx => pmayLt_any t xa W hx (hI t ht) (Nat.le_trans (sum_mem szLt ht) hs)
  obtain ⟨F, hF⟩ : ∃ F : Lt → Bool, F = mayLtB := ⟨_, rfl⟩
  rw [← hF] at HC2 ⊢
  clear hx hI hs hl hcap hm hF
  by_cases hlen : L.length ≤ 8
  · rw [decide_eq_true hlen, Bool.true_and]
    have hlI : ¬ (8 : Int) < (L.length : Int) := by omega
    clear hlen
    go_enter Tryz.func57, Tryz.ntmps57
    go_wp2_with fail
    go_loopw [15] (fun i wr => ∃ k : Nat, k ≤ L.length ∧ i = .int .i64 k ∧ Hid ((L.take k).all F = true) ∧ Hid (Below w.heap.size w wr)) (fun i _ => L.length - (intOf i).toNat)
    case atStart => exact ⟨0, Nat.zero_le _, rfl, by simp [Hid], Below.refl _ _⟩
    case round =>
      obtain ⟨k, hk, rfl, HA, HB⟩ := hrel
      by_cases hlt : k < L.length
      · have hltI : (k : Int) < (L.length : Int) := by omega
        obtain ⟨b, off, cs, rfl, hbl, hR, hc⟩ := (HX.out.below stayLt HB.out).at k hlt
        obtain ⟨xa, rfl, hxa⟩ := hR
        have HCK := Lib.hid (fun W (hb : Below wr.heap.size wr W) => HC2.out _ (List.getElem_mem hlt) W xa (hxa.below stayTm hb))
        obtain ⟨xo, xcap, rfl, -⟩ := hxa.form
        have q0 := hc 0 _ rfl
        have q1 := hc 1 _ rfl
        have q2 := hc 2 _ rfl
        have q3 := hc 3 _ rfl
        have q4 := hc 4 _ rfl
        have q5 := hc 5 _ rfl
        have q6 := hc 6 _ rfl
        have q7 := hc 7 _ rfl
        have q8 := hc 8 _ rfl
        have q9 := hc 9 _ rfl
        have q10 := hc 10 _ rfl
        have q11 := hc 11 _ rfl
        have q12 := hc 12 _ rfl
        have q13 := hc 13 _ rfl
        simp only [Nat.add_zero] at q0
        have HT : Hid (F L[k] = true → (L.take (k + 1)).all F = true) := fun h => by rw [List.take_succ_eq_append_getElem hlt, List.all_append, HA.out]; simp [h]
        have HF : Hid (F L[k] = false → L.all F = false) := fun h => by
          rw [List.all_eq_false]
          exact ⟨L[k], List.getElem_mem hlt, by simp [h]⟩
        obtain ⟨y, hy⟩ : ∃ y, y = F L[k] := ⟨_, rfl⟩
        rw [← hy] at HCK HT HF
        obtain ⟨t, ht⟩ : ∃ t, t = L[k] := ⟨_, rfl⟩
        rw [← ht] at HCK q0 q1 q2 q3 q4 q5 q6 q7 q8 q9 q10 q11 q12 q13
        clear ht hy hc hxa
        obtain ⟨tkind, ⟨tp, targs⟩, top, ⟨lv, lname, lk, ls, ln⟩, ⟨rv, rname, rk, rs, rn⟩⟩ := t
        simp only at HCK q0 q1 q2 q3 q4 q5 q6 q7 q8 q9 q10 q11 q12 q13
        cases y
        · have HE := Lib.hid (HF.out rfl)
          go_wp2_with (go_at_call 58; refine (HCK.out _ (al_below wr _)).mono ?_; rintro e w1 ⟨rfl, hb1⟩; have HB1 : Hid (Below w.heap.size w w1) := HB.out.trans (((al_below wr _).mono (Nat.le_refl _) |>.trans (hb1.mono (by simp))).mono HB.out.size); clear hb1)
          go_ret
          exact ⟨ret_bool HE.out.symm, HB1.out⟩
        · have HE := Lib.hid (HT.out rfl)
          go_wp2_with (go_at_call 58; refine (HCK.out _ (al_below wr _)).mono ?_; rintro e w1 ⟨rfl, hb1⟩; have HB1 : Hid (Below w.heap.size w w1) := HB.out.trans (((al_below wr _).mono (Nat.le_refl _) |>.trans (hb1.mono (by simp))).mono HB.out.size); clear hb1)
          go_roundw
          case rel => exact ⟨k + 1, by omega, by go_num, HE, HB1⟩
          case measure => simp [intOf]; omega
      · have hltI : ¬ (k : Int) < (L.length : Int) := by omega
        have HE : Hid (L.all F = true) := by
          have := HA.out
          rw [List.take_of_length_le (by omega)] at this
          exact this
        go_wp2
        go_ret
        exact ⟨ret_bool HE.out.symm, HB.out⟩
  · rw [decide_eq_false hlen, Bool.false_and]
    have hlI : (8 : Int) < (L.length : Int) := by omega
    clear hlen
    go_enter Tryz.func57, Tryz.ntmps57
    go_wp2
    go_ret
    exact ⟨rfl, Below.refl _ _⟩
end Go.Proofs.YtbbmihojfcofdaaGreatDoor

namespace Go.Proofs.YtbbmihojfcofdaaGreatDoor
set_option linter.unusedSimpArgs false
set_option linter.unusedVariables false
set_option linter.unusedSectionVars false
set_option maxRecDepth 100000
open Go.RowKit

set_option maxHeartbeats 2000000 in
theorem pmayRu_any (r : Ru) (x y : Value) (w : World) (hx : Tms w x r.head.args) (hy : Lts w y r.body) (hI : InRu r) (hs : szRu r ≤ 1000000000000) :
    Calls Tryz.prog 38 #[.agg #[.string r.head.p, x, y]] w fun e w' => e = .returned (.bool (mayRuB r)) ∧ Below w.heap.size w w' := by
  have hal := al_below w (.cells #[.string r.head.p, x, y] 40)
  have HAL := Lib.hid hal
  have HP := Lib.hid (pmayAm_any r.head x (w.alloc (.cells #[.string r.head.p, x, y] 40)) (hx.below stayTm hal) hI.1 (by unfold szRu at hs; omega))
  have HA : Hid (∀ W, Below (w.alloc (.cells #[.string r.head.p, x, y] 40)).heap.size (w.alloc (.cells #[.string r.head.p, x, y] 40)) W → Calls Tryz.prog 57 #[y, .int .i64 8, .func (.func 58) #[] #[]] W fun e w' => e = .returned (.bool (decide (r.body.length ≤ 8) && r.body.all mayLtB)) ∧ Below W.heap.size W w') := fun W hb => allL_any ((hy.below stayLt hal).below stayLt hb) hI.2 (by unfold szRu at hs; omega)
  have HK : Hid (∀ W, Below (w.alloc (.cells #[.string r.head.p, x, y] 40)).heap.size (w.alloc (.cells #[.string r.head.p, x, y] 40)) W → W.cell? ⟨w.heap.size, 2, none⟩ = some y) := fun W hb => ((Blk.new w #[.string r.head.p, x, y] 40).below hb).cell 2
  unfold mayRuB
  obtain ⟨b, hb⟩ : ∃ b, b = mayAmB r.head := ⟨_, rfl⟩
  obtain ⟨c, hc⟩ : ∃ c, c = (decide (r.body.length ≤ 8) && r.body.all mayLtB) := ⟨_, rfl⟩
  rw [← hb] at HP ⊢
  rw [← hc] at HA ⊢
  obtain ⟨ao, cap, rfl, -⟩ := hx.form
  obtain ⟨bo, bcap, rfl, -⟩ := hy.form
  obtain ⟨⟨p, A⟩, bd⟩ := r
  simp only at HAL HP HA HK
  clear hb hc hI hs hx hy hal
  cases b
  · go_enter Tryz.func38, Tryz.ntmps38
    go_wp2_with (go_at_call 56; refine (HP.out).mono ?_; rintro e w1 ⟨rfl, hb1⟩)
    go_ret
    exact ⟨rfl, HAL.out.trans (hb1.mono HAL.out.size)⟩
  · go_enter Tryz.func38, Tryz.ntmps38
    go_wp2_with (first
      | (go_at_call 56; refine (HP.out).mono ?_; rintro e w1 ⟨rfl, hb1⟩; have q1 := HK.out _ hb1; have HB1 := Lib.hid hb1; clear hb1)
      | (go_at_call 57; refine (HA.out _ HB1.out).mono ?_; rintro e w2 ⟨rfl, hb2⟩; have HB2 : Hid (Below w.heap.size w w2) := HAL.out.trans ((HB1.out.trans (hb2.mono HB1.out.size)).mono HAL.out.size); clear hb2))
    go_ret
    exact ⟨rfl, HB2.out⟩
end Go.Proofs.YtbbmihojfcofdaaGreatDoor

namespace Go.Proofs.YtbbmihojfcofdaaGreatDoor
set_option linter.unusedSimpArgs false
set_option linter.unusedVariables false
set_option linter.unusedSectionVars false
set_option maxRecDepth 100000
open Go.RowKit

set_option maxHeartbeats 4000000 in
theorem allR_any {w : World} {x : Value} {L : List Ru} (hx : Rus w x L) (hI : ∀ t ∈ L, InRu t) (hs : szRus L ≤ 1000000000000) :
    Calls Tryz.prog 37 #[x, .int .i64 400, .func (.func 38) #[] #[]] w fun e w' => e = .returned (.bool (decide (L.length ≤ 400) && L.all mayRuB)) ∧ Below w.heap.size w w' := by
  obtain ⟨ao, cap, rfl, hcap, hm⟩ := hx.form
  have hl : 2 * L.length ≤ szRus L := sum_len szRu 2 (fun t => by unfold szRu; unfold szAm; omega) L
  have hl12I : (L.length : Int) ≤ 1000000000000 := by omega
  have HX := Lib.hid hx
  have HC2 : Hid (∀ t ∈ L, ∀ W, ∀ xa ya, Tms W xa t.head.args → Lts W ya t.body → Calls Tryz.prog 38 #[.agg #[.string t.head.p, xa, ya]] W fun e w' => e = .returned (.bool (mayRuB t)) ∧ Below W.heap.size W w') := fun t ht W xa ya hx hy => pmayRu_any t xa ya W hx hy (hI t ht) (Nat.le_trans (sum_mem szRu ht) hs)
  obtain ⟨F, hF⟩ : ∃ F : Ru → Bool, F = mayRuB := ⟨_, rfl⟩
  rw [← hF] at HC2 ⊢
  clear hx hI hs hl hcap hm hF
  by_cases hlen : L.length ≤ 400
  · rw [decide_eq_true hlen, Bool.true_and]
    have hlI : ¬ (400 : Int) < (L.length : Int) := by omega
    clear hlen
    go_enter Tryz.func37, Tryz.ntmps37
    go_wp2_with fail
    go_loopw [15] (fun i wr => ∃ k : Nat, k ≤ L.length ∧ i = .int .i64 k ∧ Hid ((L.take k).all F = true) ∧ Hid (Below w.heap.size w wr)) (fun i _ => L.length - (intOf i).toNat)
    case atStart => exact ⟨0, Nat.zero_le _, rfl, by simp [Hid], Below.refl _ _⟩
    case round =>
      obtain ⟨k, hk, rfl, HA, HB⟩ := hrel
      by_cases hlt : k < L.length
      · have hltI : (k : Int) < (L.length : Int) := by omega
        obtain ⟨b, off, cs, rfl, hbl, hR, hc⟩ := (HX.out.below stayRu HB.out).at k hlt
        obtain ⟨xa, ya, rfl, hxa, hya⟩ := hR
        have HCK := Lib.hid (fun W (hb : Below wr.heap.size wr W) => HC2.out _ (List.getElem_mem hlt) W xa ya (hxa.below stayTm hb) (hya.below stayLt hb))
        obtain ⟨xo, xcap, rfl, -⟩ := hxa.form
        obtain ⟨yo, ycap, rfl, -⟩ := hya.form
        have q0 := hc 0 _ rfl
        have q1 := hc 1 _ rfl
        have q2 := hc 2 _ rfl
        simp only [Nat.add_zero] at q0
        have HT : Hid (F L[k] = true → (L.take (k + 1)).all F = true) := fun h => by rw [List.take_succ_eq_append_getElem hlt, List.all_append, HA.out]; simp [h]
        have HF : Hid (F L[k] = false → L.all F = false) := fun h => by
          rw [List.all_eq_false]
          exact ⟨L[k], List.getElem_mem hlt, by simp [h]⟩
        obtain ⟨y, hy⟩ : ∃ y, y = F L[k] := ⟨_, rfl⟩
        rw [← hy] at HCK HT HF
        obtain ⟨t, ht⟩ : ∃ t, t = L[k] := ⟨_, rfl⟩
        rw [← ht] at HCK q0 q1 q2
        clear ht hy hc hxa hya
        obtain ⟨⟨tp, targs⟩, tbody⟩ := t
        simp only at HCK q0 q1 q2
        cases y
        · have HE := Lib.hid (HF.out rfl)
          go_wp2_with (go_at_call 38; refine (HCK.out _ (al_below wr _)).mono ?_; rintro e w1 ⟨rfl, hb1⟩; have HB1 : Hid (Below w.heap.size w w1) := HB.out.trans (((al_below wr _).mono (Nat.le_refl _) |>.trans (hb1.mono (by simp))).mono HB.out.size); clear hb1)
          go_ret
          exact ⟨ret_bool HE.out.symm, HB1.out⟩
        · have HE := Lib.hid (HT.out rfl)
          go_wp2_with (go_at_call 38; refine (HCK.out _ (al_below wr _)).mono ?_; rintro e w1 ⟨rfl, hb1⟩; have HB1 : Hid (Below w.heap.size w w1) := HB.out.trans (((al_below wr _).mono (Nat.le_refl _) |>.trans (hb1.mono (by simp))).mono HB.out.size); clear hb1)
          go_roundw
          case rel => exact ⟨k + 1, by omega, by go_num, HE, HB1⟩
          case measure => simp [intOf]; omega
      · have hltI : ¬ (k : Int) < (L.length : Int) := by omega
        have HE : Hid (L.all F = true) := by
          have := HA.out
          rw [List.take_of_length_le (by omega)] at this
          exact this
        go_wp2
        go_ret
        exact ⟨ret_bool HE.out.symm, HB.out⟩
  · rw [decide_eq_false hlen, Bool.false_and]
    have hlI : (400 : Int) < (L.length : Int) := by omega
    clear hlen
    go_enter Tryz.func37, Tryz.ntmps37
    go_wp2
    go_ret
    exact ⟨rfl, Below.refl _ _⟩
end Go.Proofs.YtbbmihojfcofdaaGreatDoor

namespace Go.Proofs.YtbbmihojfcofdaaGreatDoor
set_option linter.unusedSimpArgs false
set_option linter.unusedVariables false
set_option linter.unusedSectionVars false
set_option maxRecDepth 100000
open Go.RowKit

set_option maxHeartbeats 2000000 in
theorem pmay_any (g : Pr) (x y : Value) (w : World) (hx : Des w x g.decls) (hy : Rus w y g.rules) (hI : InPr g) (hs : szPr g ≤ 1000000000000) :
    Calls Tryz.prog 13 #[.agg #[x, y]] w fun e w' => e = .returned (.bool (mayPrB g)) ∧ Below w.heap.size w w' := by
  have hal := al_below w (.cells #[x, y] 25)
  have HAL := Lib.hid hal
  have HP := Lib.hid (allD_any (hx.below stayDe hal) hI.1 (by unfold szPr at hs; omega))
  have HA : Hid (∀ W, Below (w.alloc (.cells #[x, y] 25)).heap.size (w.alloc (.cells #[x, y] 25)) W → Calls Tryz.prog 37 #[y, .int .i64 400, .func (.func 38) #[] #[]] W fun e w' => e = .returned (.bool (decide (g.rules.length ≤ 400) && g.rules.all mayRuB)) ∧ Below W.heap.size W w') := fun W hb => allR_any ((hy.below stayRu hal).below stayRu hb) hI.2 (by unfold szPr at hs; omega)
  have HK : Hid (∀ W, Below (w.alloc (.cells #[x, y] 25)).heap.size (w.alloc (.cells #[x, y] 25)) W → W.cell? ⟨w.heap.size, 1, none⟩ = some y) := fun W hb => ((Blk.new w #[x, y] 25).below hb).cell 1
  unfold mayPrB
  obtain ⟨b, hb⟩ : ∃ b, b = (decide (g.decls.length ≤ 400) && g.decls.all mayDeB) := ⟨_, rfl⟩
  obtain ⟨c, hc⟩ : ∃ c, c = (decide (g.rules.length ≤ 400) && g.rules.all mayRuB) := ⟨_, rfl⟩
  rw [← hb] at HP ⊢
  rw [← hc] at HA ⊢
  obtain ⟨ao, cap, rfl, -⟩ := hx.form
  obtain ⟨bo, bcap, rfl, -⟩ := hy.form
  obtain ⟨GD, GR⟩ := g
  simp only at HAL HP HA HK
  clear hb hc hI hs hx hy hal
  cases b
  · go_enter Tryz.func13, Tryz.ntmps13
    go_wp2_with (go_at_call 35; refine (HP.out).mono ?_; rintro e w1 ⟨rfl, hb1⟩)
    go_ret
    exact ⟨rfl, HAL.out.trans (hb1.mono HAL.out.size)⟩
  · go_enter Tryz.func13, Tryz.ntmps13
    go_wp2_with (first
      | (go_at_call 35; refine (HP.out).mono ?_; rintro e w1 ⟨rfl, hb1⟩; have q1 := HK.out _ hb1; have HB1 := Lib.hid hb1; clear hb1)
      | (go_at_call 37; refine (HA.out _ HB1.out).mono ?_; rintro e w2 ⟨rfl, hb2⟩; have HB2 : Hid (Below w.heap.size w w2) := HAL.out.trans ((HB1.out.trans (hb2.mono HB1.out.size)).mono HAL.out.size); clear hb2))
    go_ret
    exact ⟨rfl, HB2.out⟩
end Go.Proofs.YtbbmihojfcofdaaGreatDoor
