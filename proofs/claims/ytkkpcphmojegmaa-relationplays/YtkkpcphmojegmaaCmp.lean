/-
  Contracts of the comparing functions: strings.Compare, cmp.Compare at int64, value.Compare, value.Same, value.Sym, value.Int: what each returns; of old memory nothing turns.
-/
import Derived.Test.YtkkpcphmojegmaaRows
import Derived.WalkKit
import Derived.WalkLawsBesides
import Derived.WalkSpells
import Derived.Outline
import Derived.Lib.Bytealg
namespace Go.Proofs.Ytkkpcphmojegmaa
set_option linter.unusedSimpArgs false
set_option linter.unusedVariables false
set_option linter.unusedSectionVars false
set_option maxRecDepth 100000
open Go.RowKit

/-- Behind a call that turns nothing old: old cells and marks read as before. -/
theorem bcell {W w1 : World} (hb : Below W.heap.size W w1) : (∀ b o, b < W.heap.size → w1.cell? ⟨b, o, none⟩ = W.cell? ⟨b, o, none⟩) ∧ (∀ b o, b < W.heap.size → w1.frozen? ⟨b, o, none⟩ = W.frozen? ⟨b, o, none⟩) :=
  ⟨fun b o h => hb.cell (p := ⟨b, o, none⟩) h, fun b o h => hb.frozen (p := ⟨b, o, none⟩) h⟩

/-- Numbers in their order. -/
def icmp (x y : Int) : Int := if x < y then -1 else if y < x then 1 else 0
/-- Which of two values is ahead. -/
def vcmp (ak : Bool) (sa : ByteArray) (an : Int) (bk : Bool) (sb : ByteArray) (bn : Int) : Int :=
  if ak then (if bk then Lib.compareBytes sa.data.toList sb.data.toList else 1) else (if bk then -1 else icmp an bn)

set_option maxRecDepth 100000 in
set_option maxHeartbeats 400000 in
theorem strings_Compare_any (a b : ByteArray) (w : World) :
    Calls Try.prog 59 #[.string a, .string b] w fun e w' => e = .returned (.int .i64 (Lib.compareBytes a.data.toList b.data.toList)) ∧ w' = w := by
  go_enter Try.func59, Try.ntmps59
  go_wp2
  rw [run_callFunc_extern Try.func66 (by kernel_rfl) (by kernel_rfl) (by kernel_rfl) (e := Extern.BytealgCompare.compare) (by kernel_rfl), Lib.run_compareString]
  simp only [Result.andThen]
  rw [Oper.upon_value]
  go_wp2
  go_ret
  exact ⟨rfl, rfl⟩

set_option maxRecDepth 100000 in
set_option maxHeartbeats 400000 in
theorem cmp_Compare_any (x y : Int) (w : World) :
    Calls Try.prog 60 #[.int .i64 x, .int .i64 y] w fun e w' => e = .returned (.int .i64 (icmp x y)) ∧ w' = w := by
  by_cases h : x < y
  · have e : icmp x y = -1 := by simp [icmp, h]
    rw [e]
    go_enter Try.func60, Try.ntmps60
    go_wp2
    go_ret
    exact ⟨rfl, rfl⟩
  · by_cases h2 : y < x
    · have e : icmp x y = 1 := by simp [icmp, h, h2]
      rw [e]
      go_enter Try.func60, Try.ntmps60
      go_wp2
      go_ret
      exact ⟨rfl, rfl⟩
    · have e : icmp x y = 0 := by simp [icmp, h, h2]
      rw [e]
      go_enter Try.func60, Try.ntmps60
      go_wp2
      go_ret
      exact ⟨rfl, rfl⟩

set_option maxRecDepth 100000 in
set_option maxHeartbeats 400000 in
theorem compare_any (ak : Bool) (sa : ByteArray) (an : Int) (bk : Bool) (sb : ByteArray) (bn : Int) (w : World) :
    Calls Try.prog 55 #[.agg #[.bool ak, .string sa, .int .i64 an], .agg #[.bool bk, .string sb, .int .i64 bn]] w
      fun e w' => e = .returned (.int .i64 (vcmp ak sa an bk sb bn)) ∧ Below w.heap.size w w' := by
  cases ak <;> cases bk
  · have e : vcmp false sa an false sb bn = icmp an bn := rfl
    rw [e]; clear e
    go_enter Try.func55, Try.ntmps55
    go_wp2_with (go_at_call 60; refine (cmp_Compare_any _ _ _).mono ?_; rintro e w' ⟨rfl, rfl⟩)
    go_ret
    exact ⟨rfl, by repeat (first | exact Below.refl _ _ | refine Below.alloc ?_ (by simp) _ | refine Below.drew ?_)⟩
  · have e : vcmp false sa an true sb bn = -1 := rfl
    rw [e]; clear e
    go_enter Try.func55, Try.ntmps55
    go_wp2
    go_ret
    exact ⟨rfl, by repeat (first | exact Below.refl _ _ | refine Below.alloc ?_ (by simp) _ | refine Below.drew ?_)⟩
  · have e : vcmp true sa an false sb bn = 1 := rfl
    rw [e]; clear e
    go_enter Try.func55, Try.ntmps55
    go_wp2
    go_ret
    exact ⟨rfl, by repeat (first | exact Below.refl _ _ | refine Below.alloc ?_ (by simp) _ | refine Below.drew ?_)⟩
  · have e : vcmp true sa an true sb bn = Lib.compareBytes sa.data.toList sb.data.toList := rfl
    rw [e]; clear e
    go_enter Try.func55, Try.ntmps55
    go_wp2_with (go_at_call 59; refine (strings_Compare_any _ _ _).mono ?_; rintro e w' ⟨rfl, rfl⟩)
    go_ret
    exact ⟨rfl, by repeat (first | exact Below.refl _ _ | refine Below.alloc ?_ (by simp) _ | refine Below.drew ?_)⟩

set_option maxRecDepth 100000 in
set_option maxHeartbeats 400000 in
theorem sym_any (s : ByteArray) (w : World) :
    Calls Try.prog 51 #[.string s] w fun e w' => e = .returned (.agg #[.bool true, .string s, .int .i64 0]) ∧ Below w.heap.size w w' := by
  go_enter Try.func51, Try.ntmps51
  go_wp2
  exact bodyPost_ret (v := .agg #[.bool true, .string s, .int .i64 0]) (by simp [results, Try.results51, go_sem]) rfl ⟨rfl, (Below.refl _ _).alloc (Nat.le_refl _) _⟩

set_option maxRecDepth 100000 in
set_option maxHeartbeats 400000 in
theorem int_any (n : Int) (w : World) :
    Calls Try.prog 52 #[.int .i64 n] w fun e w' => e = .returned (.agg #[.bool false, .string ⟨#[]⟩, .int .i64 n]) ∧ Below w.heap.size w w' := by
  go_enter Try.func52, Try.ntmps52
  go_wp2
  exact bodyPost_ret (v := .agg #[.bool false, .string ⟨#[]⟩, .int .i64 n]) (by simp [results, Try.results52, go_sem]) rfl ⟨rfl, (Below.refl _ _).alloc (Nat.le_refl _) _⟩

end Go.Proofs.Ytkkpcphmojegmaa
