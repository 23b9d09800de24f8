/-
  Contract of the document's Skip (lambrequinref05).
-/
import Derived.Test.YtekhcaanjaoioaaGreatDoorKRefA
namespace Go.Proofs.YtekhcaanjaoioaaGreatDoor
set_option linter.unusedSimpArgs false
set_option linter.unusedVariables false
set_option linter.unusedSectionVars false
set_option maxRecDepth 100000
open Go.RowKit

theorem skipS_step (r : Bool) (c : UInt8) (t : List UInt8) : skipS r (c :: t) = if (r || c == 37) = false ∧ blankQ c = false then 0 else 1 + skipS (if c == 10 then false else r || c == 37) t := rfl
/-- The state of Skip's loop: at k, inside a remark or not. -/
structure SkSt (s : ByteArray) (p k : Nat) (r : Bool) : Prop where
  le : k ≤ s.size
  eq : p + skipS false (s.data.toList.drop p) = k + skipS r (s.data.toList.drop k)
/-- One byte more is passed over. -/
theorem SkSt.next {s : ByteArray} {p k : Nat} {r : Bool} (h : SkSt s p k r) (hk : k < s.size) {c : UInt8} (hc : s[k] = c) {q b : Bool} (hq : (r || c == 37) = q) (hb : blankQ c = b) (hn : q = true ∨ b = true) {n : Bool} (h10 : (if c == 10 then false else q) = n) : SkSt s p (k + 1) n := by
  refine ⟨by omega, ?_⟩
  rw [h.eq, drop_at hk, hc, skipS_step, hq, hb, h10, if_neg (by rcases hn with rfl | rfl <;> simp)]
  omega
theorem SkSt.stop {s : ByteArray} {p k : Nat} (h : SkSt s p k false) (hk : k < s.size) {c : UInt8} (hc : s[k] = c) (h37 : (c == 37) = false) (hb : blankQ c = false) : p + skipS false (s.data.toList.drop p) = k := by
  rw [h.eq, drop_at hk, hc, skipS_step, h37, hb]
  simp
theorem SkSt.done {s : ByteArray} {p k : Nat} {r : Bool} (h : SkSt s p k r) (hk : ¬ k < s.size) : p + skipS false (s.data.toList.drop p) = k := by
  rw [h.eq, List.drop_of_length_le (by simp; omega), skipS_nil]
  rfl

set_option maxHeartbeats 4000000 in
theorem rskip_any (s : ByteArray) (p : Nat) (w : World) (hs : s.size ≤ 65536) (hp : p ≤ s.size) :
    Calls Tryz.prog 22 #[.string s, .int .i64 (p : Int)] w fun e w' => e = .returned (.int .i64 ((p + skipS false (s.data.toList.drop p) : Nat) : Int)) ∧ w' = w := by
  have HS0 : Hid (SkSt s p p false) := ⟨hp, rfl⟩
  have hsI : (s.size : Int) ≤ 65536 := by omega
  obtain ⟨R, hR⟩ : ∃ R, R = p + skipS false (s.data.toList.drop p) := ⟨_, rfl⟩
  have HR := Lib.hid hR
  rw [← hR]
  clear hR hp hs
  go_enter Tryz.func22, Tryz.ntmps22
  go_wp2_with fail
  go_loopw [1, 5] (fun av bv wr => ∃ (k : Nat) (r : Bool), av = .int .i64 (k : Int) ∧ bv = .bool r ∧ wr = w ∧ Hid (SkSt s p k r)) (fun av _ _ => s.size - (intOf av).toNat)
  case atStart => exact ⟨p, false, rfl, rfl, rfl, HS0⟩
  case round =>
    clear HS0
    obtain ⟨k, r, rfl, rfl, hw, HS⟩ := hrel
    subst hw
    by_cases hlt : k < s.size
    · have hltI : (k : Int) < (s.size : Int) := by omega
      have hkI : (k : Int) ≤ 65536 := by omega
      have HB := Lib.hid (rblank_any s[k] wr)
      have HNX : Hid (∀ n b q : Bool, (r || s[k] == 37) = q → blankQ s[k] = b → (q = true ∨ b = true) → (if s[k] == 10 then false else q) = n → SkSt s p (k + 1) n) := fun n b q h1 h2 h3 h4 => HS.out.next hlt rfl h1 h2 h3 h4
      have HST : Hid (r = false → (s[k] == 37) = false → blankQ s[k] = false → p + skipS false (s.data.toList.drop p) = k) := fun hr h1 h2 => SkSt.stop (by rw [← hr]; exact HS.out) hlt rfl h1 h2
      obtain ⟨c, hc⟩ : ∃ c, c = s[k] := ⟨_, rfl⟩
      rw [← hc] at HB HNX HST
      have HC := Lib.hid hc
      obtain ⟨b, hb⟩ : ∃ b, b = blankQ c := ⟨_, rfl⟩
      rw [← hb] at HB
      have HBQ := Lib.hid hb.symm
      clear hb hc HS
      by_cases h37 : (c.toNat : Int) = 37
      · have c37 := byte_eq (k := 37) (by decide) h37
        have HN := Lib.hid (HNX.out true b true (by rw [c37]; simp) HBQ.out (.inl rfl) (by rw [c37]; rfl))
        have e1 : (s[k].toNat : Int) = 37 := by rw [← HC.out]; exact h37
        clear HB HNX HST HBQ h37 c37 HC
        go_wp2
        go_roundw
        case rel => exact ⟨k + 1, true, by go_num, by first | rfl | trivial, by first | rfl | trivial, HN.out⟩
        case measure => simp [intOf]; omega
      · have n37 := byte_ne (k := 37) (by decide) h37
        have e1 : ((s[k].toNat : Int) == 37) = false := by rw [← HC.out]; simpa using h37
        have n37' : (c == 37) = false := n37
        by_cases h10 : (c.toNat : Int) = 10
        · have c10 := byte_eq (k := 10) (by decide) h10
          have HN := Lib.hid (HNX.out false true r (by rw [n37', Bool.or_false]) (by rw [c10]; rfl) (.inr rfl) (by rw [c10]; rfl))
          have hbt : b = true := by rw [← HBQ.out, c10]; rfl
          rw [hbt] at HB
          have e2 : (s[k].toNat : Int) = 10 := by rw [← HC.out]; exact h10
          have e3 : (c.toNat : Int) = 10 := h10
          rw [e3] at HB
          clear HNX HST HBQ n37 n37' h37 h10 c10 hbt HC e3 e1
          cases r
          · go_wp2_with (go_at_call 38; refine (HB.out).mono ?_; rintro e w1 ⟨rfl, rfl⟩)
            go_roundw
            case rel => exact ⟨k + 1, false, by go_num, by first | rfl | trivial, by first | rfl | trivial, HN.out⟩
            case measure => simp [intOf]; omega
          · clear HB
            go_wp2
            go_roundw
            case rel => exact ⟨k + 1, false, by go_num, by first | rfl | trivial, by first | rfl | trivial, HN.out⟩
            case measure => simp [intOf]; omega
        · have n10 := byte_ne (k := 10) (by decide) h10
          have n10' : (c == 10) = false := n10
          have e2 : ((s[k].toNat : Int) == 10) = false := by rw [← HC.out]; simpa using h10
          have e3 := HC.out
          cases r
          · cases b
            · have HX : Hid (R = k) := by show R = k; rw [HR.out]; exact HST.out rfl n37' HBQ.out
              rw [e3] at HB
              clear HNX HST HBQ n37 n37' h37 h10 n10 n10' HC e3 hltI
              have hltI : (k : Int) < (s.size : Int) := by omega
              go_wp2_with (go_at_call 38; refine (HB.out).mono ?_; rintro e w1 ⟨rfl, rfl⟩)
              go_ret
              exact ⟨by rw [HX.out]; rfl, rfl⟩
            · have HN := Lib.hid (HNX.out false true false (by rw [n37']; rfl) HBQ.out (.inr rfl) (by rw [n10']; rfl))
              rw [e3] at HB
              clear HNX HST HBQ n37 n37' h37 h10 n10 n10' HC e3
              go_wp2_with (go_at_call 38; refine (HB.out).mono ?_; rintro e w1 ⟨rfl, rfl⟩)
              go_roundw
              case rel => exact ⟨k + 1, false, by go_num, by first | rfl | trivial, by first | rfl | trivial, HN.out⟩
              case measure => simp [intOf]; omega
          · have HN := Lib.hid (HNX.out true b true (by rw [n37']; rfl) HBQ.out (.inl rfl) (by rw [n10']; rfl))
            clear HB HNX HST HBQ n37 n37' h37 h10 n10 n10' HC e3
            go_wp2
            go_roundw
            case rel => exact ⟨k + 1, true, by go_num, by first | rfl | trivial, by first | rfl | trivial, HN.out⟩
            case measure => simp [intOf]; omega
    · have hltI : ¬ (k : Int) < (s.size : Int) := by omega
      have HX : Hid (R = k) := by show R = k; rw [HR.out]; exact HS.out.done hlt
      go_wp2
      go_ret
      exact ⟨by rw [HX.out]; rfl, rfl⟩
end Go.Proofs.YtekhcaanjaoioaaGreatDoor
