/-
  Contracts of value.isSmall, value.isNamePart and value.Plain: just what a plain symbol is, for every symbol; of old memory nothing turns.
-/
import Derived.Test.YtbbmihojfcofdaaGreatDoorRows
import Derived.Test.YtbbmihojfcofdaaGreatDoorTextP
import Derived.WalkKit
import Derived.WalkLawsBesides
import Derived.WalkSpells
import Derived.Outline
import Derived.Laws.RangeAny
import Derived.Lib.OthersKept
import Derived.WalkSmall
namespace Go.Proofs.YtbbmihojfcofdaaGreatDoor
set_option linter.unusedSimpArgs false
set_option linter.unusedVariables false
set_option linter.unusedSectionVars false
set_option maxRecDepth 100000
open Go.RowKit

theorem toList_data (s : ByteArray) : s.toList = s.data.toList := ByteArray.toList_eq s
theorem ret_bool {a b : Bool} (h : a = b) : Ending.returned (.bool a) = .returned (.bool b) := by rw [h]

set_option maxHeartbeats 400000 in
theorem isSmall_any (r : Int) (w : World) :
    Calls Tryz.prog 79 #[.int .i32 r] w fun e w' => e = .returned (.bool (smallB r)) ∧ w' = w := by
  by_cases h1 : 97 ≤ r
  · have e : smallB r = decide (r ≤ 122) := by simp [smallB, h1]
    rw [e]; clear e
    go_enter Tryz.func79, Tryz.ntmps79
    go_wp2
    go_ret
    exact ⟨rfl, rfl⟩
  · have e : smallB r = false := by simp [smallB]; omega
    rw [e]; clear e
    go_enter Tryz.func79, Tryz.ntmps79
    go_wp2
    go_ret
    exact ⟨rfl, rfl⟩

set_option maxHeartbeats 400000 in
theorem isNamePart_any (r : Int) (w : World) :
    Calls Tryz.prog 80 #[.int .i32 r] w fun e w' => e = .returned (.bool (nameB r)) ∧ w' = w := by
  cases hs : smallB r with
  | true =>
    have e : nameB r = true := small_name hs
    rw [e]; clear e
    go_enter Tryz.func80, Tryz.ntmps80
    go_wp2_with (go_at_call 79; refine (isSmall_any _ _).mono ?_; rintro e w' ⟨rfl, rfl⟩)
    go_ret
    exact ⟨rfl, rfl⟩
  | false =>
    by_cases h1 : 65 ≤ r <;> by_cases h3 : 48 ≤ r
    all_goals
      go_enter Tryz.func80, Tryz.ntmps80
      go_wp2_with (go_at_call 79; refine (isSmall_any _ _).mono ?_; rintro e w' ⟨rfl, rfl⟩)
    all_goals
      go_ret
      exact ⟨ret_bool (Bool.eq_iff_iff.2 (by simp [nameB, hs]; omega)), rfl⟩

theorem decode_pos (s : ByteArray) (pos : Nat) (h : pos < s.size) : 1 ≤ (Utf8.decode s pos).2 := by
  by_cases ha : (s[pos]'h).toNat < 128
  · rw [decode_ascii s pos h ha]; exact Nat.le_refl _
  · exact (decode_high s pos h (by omega)).2
/-- What the rune at a place says of the byte there: the same of both. -/
theorem rune_small (s : ByteArray) (pos : Nat) (h : pos < s.size) : smallB ((Utf8.decode s pos).1 : Int) = smallB ((s[pos]'h).toNat : Int) := by
  by_cases ha : (s[pos]'h).toNat < 128
  · rw [decode_ascii s pos h ha]
  · have := (decode_high s pos h (by omega)).1
    have a : smallB ((Utf8.decode s pos).1 : Int) = false := by simp [smallB]; omega
    have b : smallB ((s[pos]'h).toNat : Int) = false := by simp [smallB]; omega
    rw [a, b]
theorem rune_name (s : ByteArray) (pos : Nat) (h : pos < s.size) : nameB ((Utf8.decode s pos).1 : Int) = nameB ((s[pos]'h).toNat : Int) := by
  by_cases ha : (s[pos]'h).toNat < 128
  · rw [decode_ascii s pos h ha]
  · have := (decode_high s pos h (by omega)).1
    rw [name_high (by omega), name_high (by omega)]
theorem rune_one (s : ByteArray) (pos : Nat) (h : pos < s.size) (hn : nameB ((s[pos]'h).toNat : Int) = true) : (Utf8.decode s pos).2 = 1 := by
  have := name_lt hn
  rw [decode_ascii s pos h (by omega)]

set_option maxRecDepth 100000 in
set_option maxHeartbeats 1000000 in
theorem plain_any (s : ByteArray) (w : World) (hs : s.size ≤ maxLen) :
    Calls Tryz.prog 61 #[.string s] w fun e w' => e = .returned (.bool (plainL s.data.toList)) ∧ Below w.heap.size w w' := by
  unfold maxLen at hs
  by_cases h0 : s.size = 0
  · have e := plain_empty h0
    obtain rfl : s = ByteArray.empty := by simpa using h0
    rw [e]; clear e
    go_enter Tryz.func61, Tryz.ntmps61
    go_wp2
    go_ret
    exact ⟨rfl, Below.refl _ _⟩
  · have hE : s.toList.isEmpty = false := by
      rw [toList_data]
      cases hl : s.data.toList with
      | nil =>
        have : s.data.toList.length = 0 := by rw [hl]; rfl
        exact absurd (by simpa using this) h0
      | cons c r => rfl
    by_cases hn : s.data.toList = [110, 111, 116]
    · obtain ⟨⟨d⟩⟩ := s
      simp only at hn
      subst hn
      go_enter Tryz.func61, Tryz.ntmps61
      go_wp2
      go_ret
      exact ⟨rfl, Below.refl _ _⟩
    · have hN : (s.toList == [110, 111, 116]) = false := by
        rw [toList_data, beq_eq_false_iff_ne]
        exact hn
      have h0' : 0 < s.size := by omega
      have HN : Hid (¬ s.data.toList = [110, 111, 116]) := hn
      clear hn h0
      go_enter Tryz.func61, Tryz.ntmps61
      go_wp2
      go_loopw [3] (fun _ wr => ∃ pos, pos ≤ s.size ∧ wr.heap[w.heap.size]? = some (.stringIter s pos) ∧ Below w.heap.size w wr ∧ Hid ((0 < pos → smallB ((s[0]'h0').toNat : Int) = true) ∧ ∀ k (hk : k < s.size), k < pos → nameB ((s[k]'hk).toNat : Int) = true)) (fun _ wr => s.size - wr.iterPos w.heap.size)
      case atStart => exact ⟨0, Nat.zero_le _, World.iter_heap w s 0, (Below.refl _ _).alloc (Nat.le_refl _) _, ⟨fun h => absurd h (Nat.lt_irrefl _), fun _ _ h => absurd h (Nat.not_lt_zero _)⟩⟩
      case round =>
        obtain ⟨pos, hps, hit, hbw, HA⟩ := hrel
        have hpos0 := iterPos_of hit
        by_cases hp : pos < s.size
        · have hnx : ∀ ty, (Instr.next (.pointer (some ⟨w.heap.size, 0, none⟩)) true ty).run Tryz.prog wr = _ := fun ty => Lib.run_next_any_at wr w.heap.size s pos ty hit hp
          have hit2 := Lib.iterAt_heap wr w.heap.size s pos (pos + (Utf8.decode s pos).2) hit
          have hbw2 := Lib.below_iterAt hbw (k := w.heap.size) (Nat.le_refl _) s (pos + (Utf8.decode s pos).2)
          obtain ⟨W1, hW1⟩ : ∃ W1, W1 = wr.iterAt w.heap.size s (pos + (Utf8.decode s pos).2) := ⟨_, rfl⟩
          rw [← hW1] at hnx hit2 hbw2
          clear hW1 hit hbw
          have hns := rune_name s pos hp
          have hss := rune_small s pos hp
          have HP := HA
          obtain ⟨r, hr⟩ : ∃ r : Int, r = ((Utf8.decode s pos).1 : Int) := ⟨_, rfl⟩
          rw [← hr] at hnx hns hss
          clear hr HA
          cases hname : nameB ((s[pos]'hp).toNat : Int) with
          | false =>
            have E : Hid (plainL s.data.toList = false) := plain_bad hp hname
            rw [hname] at hns
            clear hname hss HP HN hpos0
            by_cases hz : pos = 0
            · have hz2 : ((pos : Int) == 0) = true := by simp [hz]
              clear hz
              cases hsm : smallB r <;>
              · go_wp2_with (first | (go_at_call 79; refine (isSmall_any _ _).mono ?_; rintro e w' ⟨rfl, rfl⟩) | (go_at_call 80; refine (isNamePart_any _ _).mono ?_; rintro e w' ⟨rfl, rfl⟩))
                go_ret
                exact ⟨ret_bool E.out.symm, hbw2⟩
            · have hz2 : ((pos : Int) == 0) = false := by simp [hz]
              clear hz
              go_wp2_with (first | (go_at_call 79; refine (isSmall_any _ _).mono ?_; rintro e w' ⟨rfl, rfl⟩) | (go_at_call 80; refine (isNamePart_any _ _).mono ?_; rintro e w' ⟨rfl, rfl⟩))
              go_ret
              exact ⟨ret_bool E.out.symm, hbw2⟩
          | true =>
            have hwd := rune_one s pos hp hname
            rw [hwd] at hit2
            rw [hname] at hns
            by_cases hz : pos = 0
            · have hz2 : ((pos : Int) == 0) = true := by simp [hz]
              cases hsm : smallB ((s[pos]'hp).toNat : Int) with
              | false =>
                have E : Hid (plainL s.data.toList = false) := by subst hz; exact plain_first h0' hsm
                rw [hsm] at hss
                clear hname hsm hz hwd HP HN hpos0
                go_wp2_with (first | (go_at_call 79; refine (isSmall_any _ _).mono ?_; rintro e w' ⟨rfl, rfl⟩) | (go_at_call 80; refine (isNamePart_any _ _).mono ?_; rintro e w' ⟨rfl, rfl⟩))
                go_ret
                exact ⟨ret_bool E.out.symm, hbw2⟩
              | true =>
                rw [hsm] at hss
                have HQ : Hid ((0 < pos + 1 → smallB ((s[0]'h0').toNat : Int) = true) ∧ ∀ k (hk : k < s.size), k < pos + 1 → nameB ((s[k]'hk).toNat : Int) = true) := by
                  subst hz
                  refine ⟨fun _ => hsm, fun k hk h => ?_⟩
                  obtain rfl : k = 0 := by omega
                  exact hname
                clear hname hsm hz hwd HP HN
                go_wp2_with (first | (go_at_call 79; refine (isSmall_any _ _).mono ?_; rintro e w' ⟨rfl, rfl⟩) | (go_at_call 80; refine (isNamePart_any _ _).mono ?_; rintro e w' ⟨rfl, rfl⟩))
                go_roundw
                case rel => exact ⟨pos + 1, by omega, hit2, hbw2, HQ⟩
                case measure => rw [iterPos_of hit2, hpos0]; omega
            · have hz2 : ((pos : Int) == 0) = false := by simp [hz]
              have HQ : Hid ((0 < pos + 1 → smallB ((s[0]'h0').toNat : Int) = true) ∧ ∀ k (hk : k < s.size), k < pos + 1 → nameB ((s[k]'hk).toNat : Int) = true) := by
                refine ⟨fun _ => HP.out.1 (by omega), fun k hk h => ?_⟩
                by_cases hkp : k = pos
                · subst hkp; exact hname
                · exact HP.out.2 k hk (by omega)
              clear hname hz hwd HP HN hss
              go_wp2_with (first | (go_at_call 79; refine (isSmall_any _ _).mono ?_; rintro e w' ⟨rfl, rfl⟩) | (go_at_call 80; refine (isNamePart_any _ _).mono ?_; rintro e w' ⟨rfl, rfl⟩))
              go_roundw
              case rel => exact ⟨pos + 1, by omega, hit2, hbw2, HQ⟩
              case measure => rw [iterPos_of hit2, hpos0]; omega
        · have hnx : ∀ ty, (Instr.next (.pointer (some ⟨w.heap.size, 0, none⟩)) true ty).run Tryz.prog wr = _ := fun ty => Lib.run_next_end_at wr w.heap.size s pos ty hit hp
          have E : Hid (plainL s.data.toList = true) := plain_yes h0' HN.out (HA.out.1 (by omega)) (fun k hk => HA.out.2 k hk (by omega))
          clear HA
          go_wp2
          go_ret
          exact ⟨ret_bool E.out.symm, hbw⟩
end Go.Proofs.YtbbmihojfcofdaaGreatDoor
