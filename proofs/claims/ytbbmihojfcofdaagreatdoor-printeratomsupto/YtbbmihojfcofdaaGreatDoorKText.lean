/-
  Contract of value.Text: a value's text, for every value whose symbol's doubled length fits; of old memory nothing turns.
-/
import Derived.Test.YtbbmihojfcofdaaGreatDoorKSym
import Derived.Test.YtbbmihojfcofdaaGreatDoorPlain
import Derived.Test.YtbbmihojfcofdaaGreatDoorQuoted
import Derived.Test.YtbbmihojfcofdaaGreatDoorShelf
import Derived.Lib.AppendIntMem
namespace Go.Proofs.YtbbmihojfcofdaaGreatDoor
set_option linter.unusedSimpArgs false
set_option linter.unusedVariables false
set_option linter.unusedSectionVars false
set_option maxRecDepth 100000
open Go.RowKit

/-- The library's table of powers of ten reads as its text lays it. -/
def Tab (w : World) : Prop := Lib.TabIs Tryz.prog w "internal/strconv.uint64pow10" .u64 Lib.pow10Tab
theorem Tab.on {w w' : World} (h : Tab w) (hb : Below w.heap.size w w') : Tab w' := Lib.tabBelow_of_tabIs h w' hb

theorem below_grow (w : World) (k : Nat) (os : Array Obj) : Below w.heap.size w (Sort.grow (w.drewN k) os) :=
  ⟨rfl, rfl, rfl, by simp [Sort.grow, World.drewN], fun i hi => by
    have : i < (w.drewN k).heap.size := hi
    simp only [Sort.grow]; rw [Array.getElem?_append_left this]; rfl⟩

theorem formatInt_any (n : Int) (h0 : -9223372036854775808 ≤ n) (h1 : n ≤ 9223372036854775807) (w : World) (ht : Tab w) :
    Calls Tryz.prog 60 #[.int .i64 n, .int .i64 10] w fun e w' => e = .returned (.string ⟨(Lib.itoa n).toArray⟩) ∧ Below w.heap.size w w' := by
  refine (Tryz.strconv_FormatInt_10 n h0 h1 w ht).mono ?_
  rintro e w' ⟨rfl, k, os, rfl⟩
  exact ⟨rfl, below_grow w k os⟩

theorem ret_str {a b : List UInt8} (h : a = b) : Ending.returned (.string ⟨a.toArray⟩) = .returned (.string ⟨b.toArray⟩) := by rw [h]

set_option maxRecDepth 100000 in
set_option maxHeartbeats 400000 in
theorem text_int (s : ByteArray) (n : Int) (h0 : -9223372036854775808 ≤ n) (h1 : n ≤ 9223372036854775807) (w : World) (ht : Tab w) :
    Calls Tryz.prog 42 #[.agg #[.bool false, .string s, .int .i64 n]] w fun e w' => e = .returned (.string ⟨(Lib.itoa n).toArray⟩) ∧ Below w.heap.size w w' := by
  have hF : ∀ w1, Below w.heap.size w w1 → Calls Tryz.prog 60 #[.int .i64 n, .int .i64 10] w1 fun e w' => e = .returned (.string ⟨(Lib.itoa n).toArray⟩) ∧ Below w1.heap.size w1 w' := fun w1 hb => formatInt_any n h0 h1 w1 (ht.on hb)
  have HF := Lib.hid hF
  clear hF h0 h1 ht
  go_enter Tryz.func42, Tryz.ntmps42
  go_wp2_with (go_at_call 60; refine (HF.out _ ((Below.refl _ _).alloc (Nat.le_refl _) _)).mono ?_; rintro e w1 ⟨rfl, hb⟩)
  go_ret
  exact ⟨rfl, ((Below.refl _ _).alloc (Nat.le_refl _) _).trans (hb.mono (by simp))⟩

set_option maxRecDepth 100000 in
set_option maxHeartbeats 400000 in
theorem text_sym (s : ByteArray) (n : Int) (w : World) (hs : 2 * s.size + 2 ≤ 140737488355328) :
    Calls Tryz.prog 42 #[.agg #[.bool true, .string s, .int .i64 n]] w fun e w' => e = .returned (.string ⟨(textL true s.data.toList n).toArray⟩) ∧ Below w.heap.size w w' := by
  have hm : s.size ≤ maxLen := by unfold maxLen; omega
  have hlen : s.data.toList.length = s.size := by simp
  by_cases h32 : s.size ≤ 32
  · have h32I : (s.size : Int) ≤ 32 := by omega
    cases hp : plainL s.data.toList with
    | true =>
      have E : Hid (textL true s.data.toList n = s.data.toList) := by simp [Hid, textL, shortPlain, hp, h32]
      clear h32 hlen
      go_enter Tryz.func42, Tryz.ntmps42
      go_wp2_with (go_at_call 61; refine (plain_any _ _ hm).mono ?_; rintro e w1 ⟨rfl, hb⟩; obtain ⟨hc, hf⟩ := bcell hb)
      go_ret
      refine ⟨?_, ((Below.refl _ _).alloc (Nat.le_refl _) _).trans (hb.mono (by simp))⟩
      rw [E.out]; rfl
    | false =>
      have E : Hid (textL true s.data.toList n = quoteL s.data.toList) := by simp [Hid, textL, shortPlain, hp]
      clear h32 hlen
      go_enter Tryz.func42, Tryz.ntmps42
      go_wp2_with (first | (go_at_call 61; refine (plain_any _ _ hm).mono ?_; rintro e w1 ⟨rfl, hb⟩; obtain ⟨hc, hf⟩ := bcell hb) | (go_at_call 62; refine (quoted_any _ _ hs).mono ?_; rintro e w2 ⟨rfl, hb2⟩))
      go_ret
      have hz := hb.size
      simp at hz
      refine ⟨?_, (((Below.refl _ _).alloc (Nat.le_refl _) _).trans (hb.mono (by simp))).trans (hb2.mono (by omega))⟩
      rw [E.out]; rfl
  · have h32I : ¬ (s.size : Int) ≤ 32 := by omega
    have E : Hid (textL true s.data.toList n = quoteL s.data.toList) := by simp [Hid, textL, shortPlain, h32]
    clear h32 hlen
    go_enter Tryz.func42, Tryz.ntmps42
    go_wp2_with (go_at_call 62; refine (quoted_any _ _ hs).mono ?_; rintro e w2 ⟨rfl, hb2⟩)
    go_ret
    refine ⟨?_, ((Below.refl _ _).alloc (Nat.le_refl _) _).trans (hb2.mono (by simp))⟩
    rw [E.out]; rfl

theorem text_any (k : Bool) (s : ByteArray) (n : Int) (h0 : -9223372036854775808 ≤ n) (h1 : n ≤ 9223372036854775807) (w : World) (hs : 2 * s.size + 2 ≤ 140737488355328) (ht : Tab w) :
    Calls Tryz.prog 42 #[.agg #[.bool k, .string s, .int .i64 n]] w fun e w' => e = .returned (.string ⟨(textL k s.data.toList n).toArray⟩) ∧ Below w.heap.size w w' := by
  cases k
  · exact text_int s n h0 h1 w ht
  · exact text_sym s n w hs
end Go.Proofs.YtbbmihojfcofdaaGreatDoor
