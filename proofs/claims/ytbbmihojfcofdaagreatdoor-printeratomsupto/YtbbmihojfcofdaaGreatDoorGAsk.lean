/-
  Contracts of parse's questions on a token: isMark, isNegation, isName, isOperator; and of termOf.
-/
import Derived.Test.YtbbmihojfcofdaaGreatDoorGPlain
import Derived.Test.YtbbmihojfcofdaaGreatDoorKSym
import Derived.Test.YtbbmihojfcofdaaGreatDoorPlain
namespace Go.Proofs.YtbbmihojfcofdaaGreatDoor
set_option linter.unusedSimpArgs false
set_option linter.unusedVariables false
set_option linter.unusedSectionVars false
set_option maxRecDepth 100000
open Go.RowKit

theorem bytes_eq (s m : ByteArray) : (s.toList == m.toList) = (s.data.toList == m.data.toList) := by rw [toList_data, toList_data]

set_option maxHeartbeats 1000000 in
theorem isMark_any (t : Tk) (m : ByteArray) (w : World) :
    Calls Tryz.prog 87 #[.agg #[.int .i64 t.kind, .string t.s, .int .i64 t.n, .bool t.q, .int .i64 t.pl], .string m] w fun e w' => e = .returned (.bool (isMk m.data.toList t)) ∧ Below w.heap.size w w' := by
  obtain ⟨kd, st, nn, qq, pp⟩ := t
  have HR : Hid (isMk m.data.toList ⟨kd, st, nn, qq, pp⟩ = ((kd == 4) && (st.toList == m.toList))) := by show isMk _ _ = _; rw [bytes_eq]; rfl
  have hb := (Below.refl w.heap.size w).alloc (Nat.le_refl _) (.cells #[.int .i64 kd, .string st, .int .i64 nn, .bool qq, .int .i64 pp] 110)
  by_cases h4 : kd = 4
  · subst h4
    go_enter Tryz.func87, Tryz.ntmps87
    go_wp2
    go_ret
    exact ⟨by rw [HR.out]; simp, hb⟩
  · have h4B : (kd == 4) = false := by simpa using h4
    go_enter Tryz.func87, Tryz.ntmps87
    go_wp2
    go_ret
    exact ⟨by rw [HR.out, h4B]; simp, hb⟩

set_option maxHeartbeats 1000000 in
theorem isNeg_any (t : Tk) (w : World) :
    Calls Tryz.prog 114 #[.agg #[.int .i64 t.kind, .string t.s, .int .i64 t.n, .bool t.q, .int .i64 t.pl]] w fun e w' => e = .returned (.bool (isNg t)) ∧ Below w.heap.size w w' := by
  obtain ⟨kd, st, nn, qq, pp⟩ := t
  have HR : Hid (isNg ⟨kd, st, nn, qq, pp⟩ = ((kd == 1) && !qq && (st.toList == [110, 111, 116]))) := by show isNg _ = _; rw [toList_data]; rfl
  have hb := (Below.refl w.heap.size w).alloc (Nat.le_refl _) (.cells #[.int .i64 kd, .string st, .int .i64 nn, .bool qq, .int .i64 pp] 110)
  by_cases h4 : kd = 1
  · subst h4
    cases qq
    all_goals
      go_enter Tryz.func114, Tryz.ntmps114
      go_wp2
      go_ret
      exact ⟨by rw [HR.out]; simp [toList_data], hb⟩
  · have h4B : (kd == 1) = false := by simpa using h4
    go_enter Tryz.func114, Tryz.ntmps114
    go_wp2
    go_ret
    exact ⟨by rw [HR.out, h4B]; simp, hb⟩

set_option maxHeartbeats 1000000 in
theorem isName_any (t : Tk) (w : World) (hs : t.s.size ≤ 65536) :
    Calls Tryz.prog 90 #[.agg #[.int .i64 t.kind, .string t.s, .int .i64 t.n, .bool t.q, .int .i64 t.pl]] w fun e w' => e = .returned (.bool (isNm t)) ∧ Below w.heap.size w w' := by
  have HP := Lib.hid (fun W => plain_any t.s W (by unfold maxLen; omega))
  obtain ⟨kd, st, nn, qq, pp⟩ := t
  simp only at HP
  have HR : Hid (isNm ⟨kd, st, nn, qq, pp⟩ = ((kd == 1) && !qq && plainL st.data.toList)) := rfl
  have hb := (Below.refl w.heap.size w).alloc (Nat.le_refl _) (.cells #[.int .i64 kd, .string st, .int .i64 nn, .bool qq, .int .i64 pp] 110)
  have HB := Lib.hid hb
  obtain ⟨b, hbe⟩ : ∃ b, b = plainL st.data.toList := ⟨_, rfl⟩
  rw [← hbe] at HP HR
  clear hs hbe
  by_cases h4 : kd = 1
  · subst h4
    cases qq
    · go_enter Tryz.func90, Tryz.ntmps90
      go_wp2_with (go_at_call 61; refine (HP.out _).mono ?_; rintro e w1 ⟨rfl, hb1⟩)
      go_ret
      exact ⟨by rw [HR.out]; simp, HB.out.trans (hb1.mono HB.out.size)⟩
    · clear HP
      go_enter Tryz.func90, Tryz.ntmps90
      go_wp2
      go_ret
      exact ⟨by rw [HR.out]; simp, hb⟩
  · have h4B : (kd == 1) = false := by simpa using h4
    clear HP
    go_enter Tryz.func90, Tryz.ntmps90
    go_wp2
    go_ret
    exact ⟨by rw [HR.out, h4B]; simp, hb⟩

/-- The table of operators. -/
def opsA : Array Value := #[.string ⟨#[61]⟩, .string ⟨#[33, 61]⟩, .string ⟨#[60]⟩, .string ⟨#[60, 61]⟩, .string ⟨#[62]⟩, .string ⟨#[62, 61]⟩]
def OpsM (w : World) : Prop := ∃ t fr, w.heap[3]? = some (.cells opsA t fr)
theorem OpsM.turns {F : Nat → Prop} {w w' : World} (h : OpsM w) (ht : Turns F w w') (hF : ¬ F 3) : OpsM w' := by
  obtain ⟨t, fr, h⟩ := h
  exact ⟨t, fr, (ht.block _ (Array.getElem?_eq_some_iff.1 h).1 hF).trans h⟩
theorem OpsM.below {w w' : World} (h : OpsM w) (hb : Below w.heap.size w w') : OpsM w' := h.turns (F := fun _ => False) (Turns.of_below hb) (fun h => h)
def opB (k : Nat) : ByteArray := ⟨(opsL.getD k []).toArray⟩
theorem opA_at (k : Nat) (h : k < 6) : opsA[k]? = some (.string (opB k)) := by
  match k, h with
  | 0, _ => rfl
  | 1, _ => rfl
  | 2, _ => rfl
  | 3, _ => rfl
  | 4, _ => rfl
  | 5, _ => rfl
theorem run_index_op (W : World) (k : Nat) (h : k < 6) : (Instr.index 193 (.agg opsA) (.int .i64 (k : Int))).run Tryz.prog W = .ok (.string (opB k)) W := by
  have hn : (0 : Int) ≤ (k : Int) ∧ (k : Int) < ((6 : Nat) : Int) := by omega
  have hi := opA_at k h
  simp [Instr.index, run_underlying Tryz.underlying193, asIntOf, hn, hi, go_sem, h]
/-- None of the first k is the token. -/
def NoOp (t : Tk) (k : Nat) : Prop := (opsL.take k).any (fun m => isMk m t) = false
theorem opsL_take (k : Nat) (h : k < 6) : opsL.take (k + 1) = opsL.take k ++ [(opB k).data.toList] := by
  match k, h with
  | 0, _ => rfl
  | 1, _ => rfl
  | 2, _ => rfl
  | 3, _ => rfl
  | 4, _ => rfl
  | 5, _ => rfl
theorem NoOp.next {t : Tk} {k : Nat} (h : NoOp t k) (hk : k < 6) (hn : isMk (opB k).data.toList t = false) : NoOp t (k + 1) := by
  unfold NoOp at *
  rw [opsL_take k hk, List.any_append, h]
  simp [hn]
theorem NoOp.hit {t : Tk} {k : Nat} (hk : k < 6) (hn : isMk (opB k).data.toList t = true) : isOp t = true := by
  unfold isOp
  have e : opsL = opsL.take (k + 1) ++ opsL.drop (k + 1) := (List.take_append_drop _ _).symm
  rw [e, opsL_take k hk, List.any_append, List.any_append]
  simp [hn]

set_option maxHeartbeats 2000000 in
theorem isOp_any (t : Tk) (w : World) (ho : OpsM w) :
    Calls Tryz.prog 131 #[.agg #[.int .i64 t.kind, .string t.s, .int .i64 t.n, .bool t.q, .int .i64 t.pl]] w fun e w' => e = .returned (.bool (isOp t)) ∧ Below w.heap.size w w' := by
  have HM := Lib.hid (fun k W => isMark_any t (opB k) W)
  have HIT : Hid (∀ k, k < 6 → isMk (opB k).data.toList t = true → isOp t = true) := fun k h1 h2 => NoOp.hit h1 h2
  have HNO : Hid (∀ k, k < 6 → NoOp t k → isMk (opB k).data.toList t = false → NoOp t (k + 1)) := fun k h1 h2 h3 => h2.next h1 h3
  have HEND : Hid (NoOp t 6 → isOp t = false) := fun h => h
  have HN0 : Hid (NoOp t 0) := rfl
  obtain ⟨kd, st, nn, qq, pp⟩ := t
  simp only at HM
  have hb := (Below.refl w.heap.size w).alloc (Nat.le_refl _) (.cells #[.int .i64 kd, .string st, .int .i64 nn, .bool qq, .int .i64 pp] 110)
  obtain ⟨tt, fr, hops⟩ := ho.below hb
  have HB := Lib.hid hb
  have HC0 : Hid (∀ W, Below (w.heap.size + 1) (w.alloc (.cells #[.int .i64 kd, .string st, .int .i64 nn, .bool qq, .int .i64 pp] 110)) W → W.cell? ⟨w.heap.size, 0, none⟩ = some (.int .i64 kd) ∧ W.cell? ⟨w.heap.size, 1, none⟩ = some (.string st) ∧ W.cell? ⟨w.heap.size, 2, none⟩ = some (.int .i64 nn) ∧ W.cell? ⟨w.heap.size, 3, none⟩ = some (.bool qq) ∧ W.cell? ⟨w.heap.size, 4, none⟩ = some (.int .i64 pp)) := fun W h => by
    have hk : ∀ o, W.cell? ⟨w.heap.size, o, none⟩ = (w.alloc (.cells #[.int .i64 kd, .string st, .int .i64 nn, .bool qq, .int .i64 pp] 110)).cell? ⟨w.heap.size, o, none⟩ := fun o => h.cell (p := ⟨w.heap.size, o, none⟩) (Nat.lt_succ_self _)
    refine ⟨(hk 0).trans ?_, (hk 1).trans ?_, (hk 2).trans ?_, (hk 3).trans ?_, (hk 4).trans ?_⟩ <;> simp
  clear hb ho
  go_enter Tryz.func131, Tryz.ntmps131
  go_wp2_with (refine wpList_load_row rfl 193 _ rfl 3 rfl tt _ fr _ hops Tryz.underlying193 rfl (by kernel_rfl) ?_)
  go_loopw [6] (fun i wr => ∃ k : Nat, k ≤ 6 ∧ i = .int .i64 k ∧ Hid (Below (w.heap.size + 1) (w.alloc (.cells #[.int .i64 kd, .string st, .int .i64 nn, .bool qq, .int .i64 pp] 110)) wr) ∧ Hid (NoOp ⟨kd, st, nn, qq, pp⟩ k)) (fun i _ => 6 - (intOf i).toNat)
  case atStart => exact ⟨0, by omega, rfl, Below.refl _ _, HN0.out⟩
  case round =>
    obtain ⟨k, hk, rfl, HBR, HK⟩ := hrel
    by_cases hlt : k < 6
    · have hltI : (k : Int) < 6 := by omega
      have hI := run_index_op wr k hlt
      obtain ⟨c0, c1, c2, c3, c4⟩ := HC0.out wr HBR.out
      obtain ⟨b, hb⟩ : ∃ b, b = isMk (opB k).data.toList ⟨kd, st, nn, qq, pp⟩ := ⟨_, rfl⟩
      have HMK := Lib.hid (HM.out k)
      rw [← hb] at HMK
      have HBQ := Lib.hid hb
      clear hb
      obtain ⟨mb, hmb⟩ : ∃ mb, mb = opB k := ⟨_, rfl⟩
      rw [← hmb] at hI HMK
      clear hmb
      cases b
      · have HN := Lib.hid (HNO.out k hlt HK.out HBQ.out.symm)
        clear HBQ
        go_wp2_with (go_at_call 87; refine (HMK.out _).mono ?_; rintro e w1 ⟨rfl, hb1⟩)
        go_roundw
        case rel => exact ⟨k + 1, by omega, by go_num, HBR.out.trans (hb1.mono (by have := HBR.out.size; simp at this; omega)), HN.out⟩
        case measure => simp [intOf]; omega
      · have HT := Lib.hid (HIT.out k hlt HBQ.out.symm)
        clear HBQ
        go_wp2_with (go_at_call 87; refine (HMK.out _).mono ?_; rintro e w1 ⟨rfl, hb1⟩)
        go_ret
        exact ⟨by rw [HT.out]; rfl, HB.out.trans ((HBR.out.trans (hb1.mono (by have := HBR.out.size; simp at this; omega))).mono (by omega))⟩
    · have hltI : ¬ (k : Int) < 6 := by omega
      have hk6 : k = 6 := by omega
      subst hk6
      have HX := Lib.hid (HEND.out HK.out)
      go_wp2
      go_ret
      exact ⟨by rw [HX.out]; rfl, HB.out.trans (HBR.out.mono (by omega))⟩
end Go.Proofs.YtbbmihojfcofdaaGreatDoor
