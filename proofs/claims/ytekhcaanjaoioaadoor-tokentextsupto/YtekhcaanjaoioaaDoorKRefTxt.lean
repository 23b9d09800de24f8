/-
  Contract of the document's Text (lambrequinref01): the same as the program's.
-/
import Derived.Test.YtekhcaanjaoioaaDoorRefPlain
import Derived.Test.YtekhcaanjaoioaaDoorKRefFig
import Derived.Test.YtekhcaanjaoioaaDoorQuoted
namespace Go.Proofs.YtekhcaanjaoioaaDoor
set_option linter.unusedSimpArgs false
set_option linter.unusedVariables false
set_option linter.unusedSectionVars false
set_option maxRecDepth 100000
open Go.RowKit

set_option maxRecDepth 100000 in
set_option maxHeartbeats 400000 in
theorem refText_int (s : ByteArray) (n : Int) (h0 : -9223372036854775808 ≤ n) (h1 : n ≤ 9223372036854775807) (w : World) :
    Calls Tryd.prog 21 #[.agg #[.bool false, .string s, .int .i64 n]] w fun e w' => e = .returned (.string ⟨(Lib.itoa n).toArray⟩) ∧ Below w.heap.size w w' := by
  have HF : Hid (∀ w1, Calls Tryd.prog 22 #[.int .i64 n] w1 fun e w' => e = .returned (.string ⟨(Lib.itoa n).toArray⟩) ∧ Below w1.heap.size w1 w') := fun w1 => figures_any n h0 h1 w1
  clear h0 h1
  go_enter Tryd.func21, Tryd.ntmps21
  go_wp2_with (go_at_call 22; refine (HF.out _).mono ?_; rintro e w1 ⟨rfl, hb⟩)
  go_ret
  exact ⟨rfl, ((Below.refl _ _).alloc (Nat.le_refl _) _).trans (hb.mono (by simp))⟩

set_option maxRecDepth 100000 in
set_option maxHeartbeats 2000000 in
theorem refText_quo (s : ByteArray) (n : Int) (w : World) (hs : 2 * s.size + 2 ≤ 140737488355328) (hsp : shortPlain s.data.toList = false) :
    Calls Tryd.prog 21 #[.agg #[.bool true, .string s, .int .i64 n]] w fun e w' => e = .returned (.string ⟨(quoteL s.data.toList).toArray⟩) ∧ Below w.heap.size w w' := by
  have hm : s.size ≤ maxLen := by unfold maxLen; omega
  have hlen : s.data.toList.length = s.size := by simp
  obtain ⟨i0, hi, hz0, hz1, hz2⟩ := info_parts infoByte
  obtain ⟨p, hp⟩ : ∃ p, plainL s.data.toList = p := ⟨_, rfl⟩
  have HP : Hid (∀ w1, Calls Tryd.prog 20 #[.string s] w1 fun e w' => e = .returned (.bool p) ∧ w' = w1) := fun w1 => by rw [← hp]; exact refPlain_any s w1 hm
  have hcond : p = false ∨ (p = true ∧ ¬ (s.size : Int) ≤ 32) := by
    cases p with
    | false => exact .inl rfl
    | true =>
      refine .inr ⟨rfl, fun h => ?_⟩
      have : shortPlain s.data.toList = true := by simp [shortPlain, hp]; omega
      rw [hsp] at this; cases this
  have hbox : (w.alloc (.cells #[.bool true, .string s, .int .i64 n] 60)).cell? ⟨w.heap.size, 1, none⟩ = some (.string s) := by
    rw [World.cell?_alloc_at _ _ _ _ rfl]; rfl
  have hB0 : Below w.heap.size w (w.alloc (.cells #[.bool true, .string s, .int .i64 n] 60)) := (Below.refl _ _).alloc (Nat.le_refl _) _
  have HB0 := Lib.hid hB0
  clear hp hsp hm hlen hB0
  rcases hcond with rfl | ⟨rfl, h32⟩
  all_goals
    go_enter Tryd.func21, Tryd.ntmps21
    go_wp2_with (go_at_call 20; refine (HP.out _).mono ?_; rintro e w' ⟨rfl, rfl⟩)
    go_loopw [3, 4] (fun v i wr => ∃ k : Nat, k ≤ s.size ∧ i = .int .i64 k ∧ wr.ownsRow (w.heap.size + 1) 5 1 v (quoTo s k).length (Lib.byteCells (quoTo s k)) ∧ Below (w.heap.size + 1) (w.alloc (.cells #[.bool true, .string s, .int .i64 n] 60)) wr) (fun _ i _ => s.size - (intOf i).toNat)
    case atStart => exact ⟨0, Nat.zero_le _, rfl, by have h := World.ownsRow_lit (base := w.heap.size + 1) (e := 5) (size := 1) (w.alloc (.cells #[.bool true, .string s, .int .i64 n] 60)) #[.int .u8 39] 1 (by simp) (by unfold maxLen; omega) rfl; rw [World.size_alloc] at h; exact h, (Below.refl _ _).alloc (by simp) _⟩
    case round =>
      obtain ⟨k, hk, rfl, hown, hbw⟩ := hrel
      have hq := quoTo_len s k
      have hsz := hbw.size
      simp only [World.size_alloc] at hsz
      have hcell : wr.cell? ⟨w.heap.size, 1, none⟩ = some (.string s) := by rw [hbw.cell (p := ⟨w.heap.size, 1, none⟩) (by simp)]; exact hbox
      by_cases hlt : k < s.size
      · have hltI : (k : Int) < (s.size : Int) := by omega
        by_cases h10 : (s[k].toNat : Int) = 10
        · have HQ : Hid (quoTo s (k + 1) = quoTo s k ++ [92, 110]) := quoTo_10 hlt h10
          have hb : ((s[k].toNat : Int) == 10) = true := by simp [h10]
          clear h10
          go_wp2_with (at_builtin; refine wpList_append_own _ rfl _ _ 48 rfl (w.heap.size + 1) 5 i0 (.int .u8 0) 1 1 Tryd.underlying48 hi hz0 hz1 hz2 rfl (by decide) _ _ _ rfl (hown.alloc _) ⟨wr.heap.size, 0, none⟩ 2 2 (Lib.byteCells [92, 110]) rfl rfl (cells_new2 _ _ _ _) (bytes_oneCell _) (by unfold maxLen; omega) (by omega) (by simp; omega) ?_; intro v' w1 hown' hgrow hnil; have R := rel_append (by simp) hown hbw hown' hgrow; rw [← HQ.out] at R; clear hown' hgrow hnil)
          go_roundw
          case rel => exact ⟨k + 1, by omega, by go_num, R.1, R.2⟩
          case measure => simp [intOf]; omega
        · have hb : ((s[k].toNat : Int) == 10) = false := by simp [h10]
          by_cases h92 : (s[k].toNat : Int) = 92
          · have HQ : Hid (quoTo s (k + 1) = quoTo s k ++ [92, s[k]]) := quoTo_92 hlt h92
            have hb2 : ((s[k].toNat : Int) == 92) = true := by simp [h92]
            clear h10 h92
            go_wp2_with (at_builtin; refine wpList_append_own _ rfl _ _ 48 rfl (w.heap.size + 1) 5 i0 (.int .u8 0) 1 1 Tryd.underlying48 hi hz0 hz1 hz2 rfl (by decide) _ _ _ rfl (hown.alloc _) ⟨wr.heap.size, 0, none⟩ 1 1 (Lib.byteCells [92]) rfl rfl (cells_new1 _ _ _) (bytes_oneCell _) (by unfold maxLen; omega) (by omega) (by simp; omega) ?_; intro v1 w1 hown1 hgrow1 hnil1; refine Hid.out ?_)
            refine Lib.hid ?_
            have R1 := rel_append (by simp) hown hbw hown1 hgrow1
            obtain ⟨hownB, hbwB⟩ := R1
            have hszB := hbwB.size
            simp only [World.size_alloc] at hszB
            have hqB : (quoTo s k ++ [92]).length ≤ 2 * k + 2 := by simp; omega
            have hcB : w1.cell? ⟨w.heap.size, 1, none⟩ = some (.string s) := by rw [hbwB.cell (p := ⟨w.heap.size, 1, none⟩) (by simp)]; exact hbox
            clear hown1 hgrow1 hnil1 hown hbw hcell
            go_wp2_with (at_builtin; refine wpList_append_own _ rfl _ _ 48 rfl (w.heap.size + 1) 5 i0 (.int .u8 0) 1 1 Tryd.underlying48 hi hz0 hz1 hz2 rfl (by decide) _ _ _ rfl (hownB.alloc _) ⟨w1.heap.size, 0, none⟩ 1 1 (Lib.byteCells [s[k]]) rfl rfl (cells_new1 _ _ _) (bytes_oneCell _) (by unfold maxLen; omega) (by omega) (by simp; omega) ?_; intro v' w2 hown' hgrow hnil; have R := rel_append (by simp) hownB hbwB hown' hgrow; rw [List.append_assoc, List.singleton_append, ← HQ.out] at R; clear hown' hgrow hnil)
            go_roundw
            case rel => exact ⟨k + 1, by omega, by go_num, R.1, R.2⟩
            case measure => simp [intOf]; omega
          · have hb2 : ((s[k].toNat : Int) == 92) = false := by simp [h92]
            by_cases h39 : (s[k].toNat : Int) = 39
            · have HQ : Hid (quoTo s (k + 1) = quoTo s k ++ [92, s[k]]) := quoTo_39 hlt h39
              have hb3 : ((s[k].toNat : Int) == 39) = true := by simp [h39]
              clear h10 h92 h39
              go_wp2_with (at_builtin; refine wpList_append_own _ rfl _ _ 48 rfl (w.heap.size + 1) 5 i0 (.int .u8 0) 1 1 Tryd.underlying48 hi hz0 hz1 hz2 rfl (by decide) _ _ _ rfl (hown.alloc _) ⟨wr.heap.size, 0, none⟩ 1 1 (Lib.byteCells [92]) rfl rfl (cells_new1 _ _ _) (bytes_oneCell _) (by unfold maxLen; omega) (by omega) (by simp; omega) ?_; intro v1 w1 hown1 hgrow1 hnil1; refine Hid.out ?_)
              refine Lib.hid ?_
              have R1 := rel_append (by simp) hown hbw hown1 hgrow1
              obtain ⟨hownB, hbwB⟩ := R1
              have hszB := hbwB.size
              simp only [World.size_alloc] at hszB
              have hqB : (quoTo s k ++ [92]).length ≤ 2 * k + 2 := by simp; omega
              have hcB : w1.cell? ⟨w.heap.size, 1, none⟩ = some (.string s) := by rw [hbwB.cell (p := ⟨w.heap.size, 1, none⟩) (by simp)]; exact hbox
              clear hown1 hgrow1 hnil1 hown hbw hcell
              go_wp2_with (at_builtin; refine wpList_append_own _ rfl _ _ 48 rfl (w.heap.size + 1) 5 i0 (.int .u8 0) 1 1 Tryd.underlying48 hi hz0 hz1 hz2 rfl (by decide) _ _ _ rfl (hownB.alloc _) ⟨w1.heap.size, 0, none⟩ 1 1 (Lib.byteCells [s[k]]) rfl rfl (cells_new1 _ _ _) (bytes_oneCell _) (by unfold maxLen; omega) (by omega) (by simp; omega) ?_; intro v' w2 hown' hgrow hnil; have R := rel_append (by simp) hownB hbwB hown' hgrow; rw [List.append_assoc, List.singleton_append, ← HQ.out] at R; clear hown' hgrow hnil)
              go_roundw
              case rel => exact ⟨k + 1, by omega, by go_num, R.1, R.2⟩
              case measure => simp [intOf]; omega
            · have HQ : Hid (quoTo s (k + 1) = quoTo s k ++ [s[k]]) := quoTo_other hlt h10 h92 h39
              have hb3 : ((s[k].toNat : Int) == 39) = false := by simp [h39]
              clear h10 h92 h39
              go_wp2_with (at_builtin; refine wpList_append_own _ rfl _ _ 48 rfl (w.heap.size + 1) 5 i0 (.int .u8 0) 1 1 Tryd.underlying48 hi hz0 hz1 hz2 rfl (by decide) _ _ _ rfl (hown.alloc _) ⟨wr.heap.size, 0, none⟩ 1 1 (Lib.byteCells [s[k]]) rfl rfl (cells_new1 _ _ _) (bytes_oneCell _) (by unfold maxLen; omega) (by omega) (by simp; omega) ?_; intro v' w1 hown' hgrow hnil; have R := rel_append (by simp) hown hbw hown' hgrow; rw [← HQ.out] at R; clear hown' hgrow hnil)
              go_roundw
              case rel => exact ⟨k + 1, by omega, by go_num, R.1, R.2⟩
              case measure => simp [intOf]; omega
      · obtain rfl : k = s.size := by omega
        have HE : Hid (quoTo s s.size ++ [39] = quoteL s.data.toList) := by
          show 39 :: escL (s.data.toList.take s.size) ++ [39] = _
          rw [List.take_of_length_le (by simp)]; rfl
        go_wp2_with (at_builtin; refine wpList_append_own _ rfl _ _ 48 rfl (w.heap.size + 1) 5 i0 (.int .u8 0) 1 1 Tryd.underlying48 hi hz0 hz1 hz2 rfl (by decide) _ _ _ rfl (hown.alloc _) ⟨wr.heap.size, 0, none⟩ 1 1 (Lib.byteCells [39]) rfl rfl (cells_new1 _ _ _) (bytes_oneCell _) (by unfold maxLen; omega) (by omega) (by simp; omega) ?_; intro v' w1 hown' hgrow hnil; refine Hid.out ?_)
        refine Lib.hid ?_
        have R := rel_append (by simp) hown hbw hown' hgrow
        rw [HE.out] at R
        clear hown' hgrow hnil
        have hpos : 0 < (quoteL s.data.toList).length := by simp [quoteL]
        obtain ⟨l, hl⟩ : ∃ l, l = quoteL s.data.toList := ⟨_, rfl⟩
        rw [← hl] at R hpos
        have HL := Lib.hid hl
        clear hl HE
        obtain ⟨hown3, hb3⟩ := R
        rcases hown3.2 with ⟨-, h0⟩ | ⟨g, cap, cur, rfl, -, -, -, -, -, -⟩
        · omega
        · have hcv := run_convert_bytes_back (P := Tryd.prog) w1 48 9 5 ⟨g, 0, none⟩ cap l Tryd.underlying48 Tryd.underlying5 Tryd.underlying9 (fun j hj => hown3.cells (g := g) rfl j _ (by simp [Lib.byteCells, hj]))
          go_wp2
          go_ret
          have hl := HL.out
          subst hl
          exact ⟨rfl, HB0.out.trans (hb3.mono (by omega))⟩

set_option maxRecDepth 100000 in
set_option maxHeartbeats 400000 in
theorem refText_pl (s : ByteArray) (n : Int) (w : World) (hp : plainL s.data.toList = true) (h32 : s.size ≤ 32) :
    Calls Tryd.prog 21 #[.agg #[.bool true, .string s, .int .i64 n]] w fun e w' => e = .returned (.string s) ∧ Below w.heap.size w w' := by
  have hm : s.size ≤ maxLen := by unfold maxLen; omega
  have HP : Hid (∀ w1, Calls Tryd.prog 20 #[.string s] w1 fun e w' => e = .returned (.bool true) ∧ w' = w1) := fun w1 => by rw [← hp]; exact refPlain_any s w1 hm
  have h32I : (s.size : Int) ≤ 32 := by omega
  clear hp h32
  go_enter Tryd.func21, Tryd.ntmps21
  go_wp2_with (go_at_call 20; refine (HP.out _).mono ?_; rintro e w' ⟨rfl, rfl⟩)
  go_ret
  exact ⟨rfl, (Below.refl _ _).alloc (Nat.le_refl _) _⟩

theorem refText_any (k : Bool) (s : ByteArray) (n : Int) (h0 : -9223372036854775808 ≤ n) (h1 : n ≤ 9223372036854775807) (w : World) (hs : 2 * s.size + 2 ≤ 140737488355328) :
    Calls Tryd.prog 21 #[.agg #[.bool k, .string s, .int .i64 n]] w fun e w' => e = .returned (.string ⟨(textL k s.data.toList n).toArray⟩) ∧ Below w.heap.size w w' := by
  cases k
  · exact refText_int s n h0 h1 w
  · cases hsp : shortPlain s.data.toList with
    | false =>
      have e : textL true s.data.toList n = quoteL s.data.toList := by simp [textL, hsp]
      rw [e]; exact refText_quo s n w hs hsp
    | true =>
      have e : textL true s.data.toList n = s.data.toList := by simp [textL, hsp]
      rw [e]
      simp only [shortPlain, Bool.and_eq_true, decide_eq_true_eq] at hsp
      exact refText_pl s n w hsp.2 (by have := hsp.1; simpa using this)
end Go.Proofs.YtekhcaanjaoioaaDoor
