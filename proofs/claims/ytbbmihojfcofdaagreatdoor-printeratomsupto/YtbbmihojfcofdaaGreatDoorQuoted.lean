/-
  Contract of value.quoted: the bytes in quotation marks, for every symbol whose doubled length fits; of old memory nothing turns.
-/
import Derived.Test.YtbbmihojfcofdaaGreatDoorRows
import Derived.Test.YtbbmihojfcofdaaGreatDoorTextP
import Derived.WalkKit
import Derived.WalkLawsBesides
import Derived.WalkSpells
import Derived.Outline
import Derived.WalkSmall
import Derived.Lib.Hide
import Derived.Laws.IdiomStrings
namespace Go.Proofs.YtbbmihojfcofdaaGreatDoor
set_option linter.unusedSimpArgs false
set_option linter.unusedVariables false
set_option linter.unusedSectionVars false
set_option maxRecDepth 100000
open Go.RowKit

theorem infoByte : (Tryz.prog.info? 5).map (fun i => (i.zero, i.size, i.bytes)) = some (some (.int .u8 0), 1, 1) := by kernel_rfl

theorem bytes_oneCell (l : List UInt8) : ∀ u ∈ Lib.byteCells l, u.oneCell' = true := by
  intro u hu
  obtain ⟨b, -, rfl⟩ := List.mem_map.1 hu
  rfl
theorem cells_new1 (w : World) (a : Value) (t : TypeId) : ∀ j u, [a][j]? = some u → (w.alloc (.cells #[a] t)).cell? ((⟨w.heap.size, 0, none⟩ : Addr).add j) = some u := by
  intro j u hj
  match j, hj with
  | 0, hj => simp at hj; subst hj; simp [Addr.add]
theorem cells_new2 (w : World) (a b : Value) (t : TypeId) : ∀ j u, [a, b][j]? = some u → (w.alloc (.cells #[a, b] t)).cell? ((⟨w.heap.size, 0, none⟩ : Addr).add j) = some u := by
  intro j u hj
  match j, hj with
  | 0, hj => simp at hj; subst hj; simp [Addr.add]
  | 1, hj => simp at hj; subst hj; simp [Addr.add]
/-- What an append of its own to a row of bytes leaves of the loop's relation. -/
theorem rel_append {B : Nat} {w wr w1 : World} {e : TypeId} {o : Obj} {v v' : Value} {l m : List UInt8} (hB : B = w.heap.size) (hown : wr.ownsRow B e 1 v l.length (Lib.byteCells l)) (hbw : Below B w wr)
    (hown' : w1.ownsRow B e 1 v' (l.length + m.length) (Lib.byteCells l ++ Lib.byteCells m)) (hg : (wr.alloc o).grownBy w1 v.ownBlock) :
    w1.ownsRow B e 1 v' (l ++ m).length (Lib.byteCells (l ++ m)) ∧ Below B w w1 := by
  have hs := hbw.size
  refine ⟨?_, (hbw.alloc (by omega) _).grown hg (by simp; omega) (fun k hk => (hown.lt k hk).1)⟩
  have e1 : Lib.byteCells (l ++ m) = Lib.byteCells l ++ Lib.byteCells m := by simp [Lib.byteCells]
  rw [e1, List.length_append]; exact hown'

/-- What stands behind k bytes. -/
def quoTo (s : ByteArray) (k : Nat) : List UInt8 := 39 :: escL (s.data.toList.take k)
theorem quoTo_len (s : ByteArray) (k : Nat) : (quoTo s k).length ≤ 2 * k + 1 := by
  have h := (escL_len (s.data.toList.take k)).2
  have h2 : (s.data.toList.take k).length ≤ k := List.length_take_le _ _
  simp only [quoTo, List.length_cons]; omega
theorem quoTo_10 {s : ByteArray} {k : Nat} (h : k < s.size) (hc : (s[k].toNat : Int) = 10) : quoTo s (k + 1) = quoTo s k ++ [92, 110] := by
  have e : s[k] = 10 := UInt8.toNat_inj.1 (by simpa using (by omega : s[k].toNat = 10))
  rw [quoTo, escL_take s k h, e]; rfl
theorem quoTo_92 {s : ByteArray} {k : Nat} (h : k < s.size) (hc : (s[k].toNat : Int) = 92) : quoTo s (k + 1) = quoTo s k ++ [92, s[k]] := by
  have e : s[k] = 92 := UInt8.toNat_inj.1 (by simpa using (by omega : s[k].toNat = 92))
  rw [quoTo, escL_take s k h, e]; rfl
theorem quoTo_39 {s : ByteArray} {k : Nat} (h : k < s.size) (hc : (s[k].toNat : Int) = 39) : quoTo s (k + 1) = quoTo s k ++ [92, s[k]] := by
  have e : s[k] = 39 := UInt8.toNat_inj.1 (by simpa using (by omega : s[k].toNat = 39))
  rw [quoTo, escL_take s k h, e]; rfl
theorem quoTo_other {s : ByteArray} {k : Nat} (h : k < s.size) (h1 : ¬ (s[k].toNat : Int) = 10) (h2 : ¬ (s[k].toNat : Int) = 92) (h3 : ¬ (s[k].toNat : Int) = 39) : quoTo s (k + 1) = quoTo s k ++ [s[k]] := by
  have n1 : ¬ s[k] = 10 := fun e => h1 (by rw [e]; rfl)
  have n2 : ¬ s[k] = 92 := fun e => h2 (by rw [e]; rfl)
  have n3 : ¬ s[k] = 39 := fun e => h3 (by rw [e]; rfl)
  rw [quoTo, escL_take s k h, escC, if_neg n1, if_neg n2, if_neg n3]; rfl

set_option maxRecDepth 100000 in
set_option maxHeartbeats 1000000 in
theorem quoted_any (s : ByteArray) (w : World) (hs : 2 * s.size + 2 ≤ 140737488355328) :
    Calls Tryz.prog 62 #[.string s] w fun e w' => e = .returned (.string ⟨(quoteL s.data.toList).toArray⟩) ∧ Below w.heap.size w w' := by
  obtain ⟨i0, hi, hz0, hz1, hz2⟩ := info_parts infoByte
  go_enter Tryz.func62, Tryz.ntmps62
  go_wp2
  go_loopw [3, 4] (fun v i wr => ∃ k : Nat, k ≤ s.size ∧ i = .int .i64 k ∧ wr.ownsRow w.heap.size 5 1 v (quoTo s k).length (Lib.byteCells (quoTo s k)) ∧ Below w.heap.size w wr) (fun _ i _ => s.size - (intOf i).toNat)
  case atStart => exact ⟨0, Nat.zero_le _, rfl, World.ownsRow_lit w #[.int .u8 39] 1 (Nat.le_refl _) (by unfold maxLen; omega) rfl, (Below.refl _ _).alloc (Nat.le_refl _) _⟩
  case round =>
    obtain ⟨k, hk, rfl, hown, hbw⟩ := hrel
    have hq := quoTo_len s k
    have hsz := hbw.size
    by_cases hlt : k < s.size
    · have hltI : (k : Int) < (s.size : Int) := by omega
      by_cases h10 : (s[k].toNat : Int) = 10
      · have HQ : Hid (quoTo s (k + 1) = quoTo s k ++ [92, 110]) := quoTo_10 hlt h10
        have hb : ((s[k].toNat : Int) == 10) = true := by simp [h10]
        clear h10
        go_wp2_with (at_builtin; refine wpList_append_own _ rfl _ _ 87 rfl w.heap.size 5 i0 (.int .u8 0) 1 1 Tryz.underlying87 hi hz0 hz1 hz2 rfl (by decide) _ _ _ rfl (hown.alloc _) ⟨wr.heap.size, 0, none⟩ 2 2 (Lib.byteCells [92, 110]) rfl rfl (cells_new2 _ _ _ _) (bytes_oneCell _) (by unfold maxLen; omega) (by omega) (by simp; omega) ?_; intro v' w1 hown' hgrow hnil; have R := rel_append rfl hown hbw hown' hgrow; rw [← HQ.out] at R; clear hown' hgrow hnil)
        go_roundw
        case rel => exact ⟨k + 1, by omega, by go_num, R.1, R.2⟩
        case measure => simp [intOf]; omega
      · have hb : ((s[k].toNat : Int) == 10) = false := by simp [h10]
        by_cases h92 : (s[k].toNat : Int) = 92
        · have HQ : Hid (quoTo s (k + 1) = quoTo s k ++ [92, s[k]]) := quoTo_92 hlt h92
          have hb2 : ((s[k].toNat : Int) == 92) = true := by simp [h92]
          clear h10 h92
          go_wp2_with (at_builtin; refine wpList_append_own _ rfl _ _ 87 rfl w.heap.size 5 i0 (.int .u8 0) 1 1 Tryz.underlying87 hi hz0 hz1 hz2 rfl (by decide) _ _ _ rfl (hown.alloc _) ⟨wr.heap.size, 0, none⟩ 2 2 (Lib.byteCells [92, s[k]]) rfl rfl (cells_new2 _ _ _ _) (bytes_oneCell _) (by unfold maxLen; omega) (by omega) (by simp; omega) ?_; intro v' w1 hown' hgrow hnil; have R := rel_append rfl hown hbw hown' hgrow; rw [← HQ.out] at R; clear hown' hgrow hnil)
          go_roundw
          case rel => exact ⟨k + 1, by omega, by go_num, R.1, R.2⟩
          case measure => simp [intOf]; omega
        · have hb2 : ((s[k].toNat : Int) == 92) = false := by simp [h92]
          by_cases h39 : (s[k].toNat : Int) = 39
          · have HQ : Hid (quoTo s (k + 1) = quoTo s k ++ [92, s[k]]) := quoTo_39 hlt h39
            have hb3 : ((s[k].toNat : Int) == 39) = true := by simp [h39]
            clear h10 h92 h39
            go_wp2_with (at_builtin; refine wpList_append_own _ rfl _ _ 87 rfl w.heap.size 5 i0 (.int .u8 0) 1 1 Tryz.underlying87 hi hz0 hz1 hz2 rfl (by decide) _ _ _ rfl (hown.alloc _) ⟨wr.heap.size, 0, none⟩ 2 2 (Lib.byteCells [92, s[k]]) rfl rfl (cells_new2 _ _ _ _) (bytes_oneCell _) (by unfold maxLen; omega) (by omega) (by simp; omega) ?_; intro v' w1 hown' hgrow hnil; have R := rel_append rfl hown hbw hown' hgrow; rw [← HQ.out] at R; clear hown' hgrow hnil)
            go_roundw
            case rel => exact ⟨k + 1, by omega, by go_num, R.1, R.2⟩
            case measure => simp [intOf]; omega
          · have HQ : Hid (quoTo s (k + 1) = quoTo s k ++ [s[k]]) := quoTo_other hlt h10 h92 h39
            have hb3 : ((s[k].toNat : Int) == 39) = false := by simp [h39]
            clear h10 h92 h39
            go_wp2_with (at_builtin; refine wpList_append_own _ rfl _ _ 87 rfl w.heap.size 5 i0 (.int .u8 0) 1 1 Tryz.underlying87 hi hz0 hz1 hz2 rfl (by decide) _ _ _ rfl (hown.alloc _) ⟨wr.heap.size, 0, none⟩ 1 1 (Lib.byteCells [s[k]]) rfl rfl (cells_new1 _ _ _) (bytes_oneCell _) (by unfold maxLen; omega) (by omega) (by simp; omega) ?_; intro v' w1 hown' hgrow hnil; have R := rel_append rfl hown hbw hown' hgrow; rw [← HQ.out] at R; clear hown' hgrow hnil)
            go_roundw
            case rel => exact ⟨k + 1, by omega, by go_num, R.1, R.2⟩
            case measure => simp [intOf]; omega
    · obtain rfl : k = s.size := by omega
      have HE : Hid (quoTo s s.size ++ [39] = quoteL s.data.toList) := by
        show 39 :: escL (s.data.toList.take s.size) ++ [39] = _
        rw [List.take_of_length_le (by simp)]; rfl
      go_wp2_with (at_builtin; refine wpList_append_own _ rfl _ _ 87 rfl w.heap.size 5 i0 (.int .u8 0) 1 1 Tryz.underlying87 hi hz0 hz1 hz2 rfl (by decide) _ _ _ rfl (hown.alloc _) ⟨wr.heap.size, 0, none⟩ 1 1 (Lib.byteCells [39]) rfl rfl (cells_new1 _ _ _) (bytes_oneCell _) (by unfold maxLen; omega) (by omega) (by simp; omega) ?_; intro v' w1 hown' hgrow hnil; have R := rel_append rfl hown hbw hown' hgrow; rw [HE.out] at R; clear hown' hgrow hnil; refine Hid.out ?_)
      refine Lib.hid ?_
      have hpos : 0 < (quoteL s.data.toList).length := by simp [quoteL]
      obtain ⟨l, hl⟩ : ∃ l, l = quoteL s.data.toList := ⟨_, rfl⟩
      rw [← hl] at R hpos
      have HL := Lib.hid hl
      clear hl HE
      obtain ⟨hown3, hb3⟩ := R
      rcases hown3.2 with ⟨-, h0⟩ | ⟨g, cap, cur, rfl, -, -, -, -, -, -⟩
      · omega
      · have hcv := run_convert_bytes_back (P := Tryz.prog) w1 87 9 5 ⟨g, 0, none⟩ cap l Tryz.underlying87 Tryz.underlying5 Tryz.underlying9 (fun j hj => hown3.cells (g := g) rfl j _ (by simp [Lib.byteCells, hj]))
        go_wp2
        go_ret
        have hl := HL.out
        subst hl
        exact ⟨rfl, hb3⟩
end Go.Proofs.YtbbmihojfcofdaaGreatDoor
