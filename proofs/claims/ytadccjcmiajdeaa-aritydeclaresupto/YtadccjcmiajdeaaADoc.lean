/-
  Contracts of arity.Find and of the document's Find: the first of a name.
-/
import Derived.Test.YtadccjcmiajdeaaAPlain
import Derived.Outline
import Derived.WalkSmall
import Derived.BigQuiet
import Derived.Lib.Bytealg
import Derived.Lib.UnsafeStr
import Derived.DeepKeys5
namespace Go.Proofs.Ytadccjcmiajdeaa
set_option linter.unusedSimpArgs false
set_option linter.unusedVariables false
set_option linter.unusedSectionVars false
set_option maxRecDepth 100000
open Go.RowKit

theorem str_beq (a b : ByteArray) : (a.toList == b.toList) = decide (a = b) := by
  by_cases h : a = b
  · simp [h]
  · rw [decide_eq_false h, beq_eq_false_iff_ne]
    intro e
    rw [ByteArray.toList_eq, ByteArray.toList_eq] at e
    exact h (Go.WideShapes.bytes_inj e)
theorem findD_app (A B : List De) (p : ByteArray) : findD (A ++ B) p = match findD A p with | some n => some n | none => findD B p := by
  unfold findD
  rw [List.find?_append]
  cases A.find? (fun d => decide (d.p = p)) <;> simp
theorem findD_cons (d : De) (B : List De) (p : ByteArray) : findD (d :: B) p = if d.p = p then some d.ar else findD B p := by
  unfold findD
  by_cases h : d.p = p <;> simp [h]
theorem findD_hit {L : List De} {p : ByteArray} {k : Nat} (hk : k < L.length) (hf : findD (L.take k) p = none) (h : (L[k]'hk).p = p) : findD L p = some (L[k]'hk).ar := by
  have e : L = L.take k ++ L[k]'hk :: L.drop (k + 1) := by rw [List.getElem_cons_drop, List.take_append_drop]
  generalize L.take k = A, L[k]'hk = l, L.drop (k + 1) = B at *
  subst e
  rw [findD_app, hf, findD_cons, if_pos h]

set_option maxHeartbeats 1000000 in
theorem find_any {x : Value} {L : List De} {w : World} (hx : Des w x L) (p : ByteArray) :
    Calls Try.prog 12 #[x, .string p] w fun e w' => e = .returned (.tuple #[.int .i64 ((findD L p).getD 0), .bool (findD L p).isSome]) ∧ Below w.heap.size w w' := by
  obtain ⟨ao, cap, rfl, hcap, hm⟩ := hx.form
  unfold maxLen at hm
  have HX := Lib.hid hx
  clear hx
  go_enter Try.func12, Try.ntmps12
  go_wp2
  go_loopw [10] (fun i wr => ∃ k : Nat, k ≤ L.length ∧ i = .int .i64 k ∧ Hid (findD (L.take k) p = none) ∧ Hid (Below w.heap.size w wr)) (fun i _ => L.length - (intOf i).toNat)
  case atStart => exact ⟨0, Nat.zero_le _, rfl, rfl, Below.refl _ _⟩
  case round =>
    obtain ⟨k, hk, rfl, HF, HB⟩ := hrel
    by_cases hlt : k < L.length
    · have hltI : (k : Int) < (L.length : Int) := by omega
      obtain ⟨b, off, cs, rfl, hbl, hR, hc⟩ := (HX.out.below stayDe HB.out).at k hlt
      obtain rfl : cs = _ := hR
      have q0 := hc 0 _ rfl
      have q1 := hc 1 _ rfl
      simp only [Nat.add_zero] at q0
      have HY : Hid ((L[k]'hlt).p = p → findD L p = some (L[k]'hlt).ar) := fun h => findD_hit hlt HF.out h
      have HN : Hid ((L[k]'hlt).p ≠ p → findD (L.take (k + 1)) p = none) := fun h => by rw [List.take_succ_eq_append_getElem hlt, findD_snoc, HF.out]; simp [h]
      clear hc
      obtain ⟨d, hd⟩ : ∃ d, d = L[k]'hlt := ⟨_, rfl⟩
      rw [← hd] at q0 q1 HY HN
      clear hd
      obtain ⟨dp, dar⟩ := d
      simp only [De.cells] at q0 q1 HY HN
      have HSZ := Lib.hid HB.out.size
      by_cases he : dp = p
      · subst he
        have hsb : (dp.toList == dp.toList) = true := by simp
        have hv := HY.out rfl
        clear HN HY
        go_wp2
        go_ret2
        try rw [hv]
        exact ⟨rfl, by exact HB.out.trans ((al_bel wr _).mono HSZ.out)⟩
      · have hsb : (dp.toList == p.toList) = false := by rw [str_beq, decide_eq_false he]
        have hv := Lib.hid (HN.out he)
        clear HN HY
        go_wp2
        go_roundw
        case rel => exact ⟨k + 1, by omega, by simp, hv, by exact HB.out.trans ((al_bel wr _).mono HSZ.out)⟩
        case measure => simp [intOf]; omega
    · have hltI : ¬ (k : Int) < (L.length : Int) := by omega
      obtain rfl : k = L.length := by omega
      have hv : findD L p = none := by have := HF.out; rw [List.take_length] at this; exact this
      go_wp2
      go_ret2
      exact ⟨rfl, HB.out⟩

set_option maxHeartbeats 1000000 in
theorem rfind_any {x : Value} {L : List De} {w : World} (hx : Des w x L) (p : ByteArray) :
    Calls Try.prog 13 #[x, .string p] w fun e w' => e = .returned (.tuple #[.int .i64 ((findD L p).getD 0), .bool (findD L p).isSome]) ∧ w' = w := by
  obtain ⟨ao, cap, rfl, hcap, hm⟩ := hx.form
  unfold maxLen at hm
  have HX := Lib.hid hx
  clear hx
  go_enter Try.func13, Try.ntmps13
  go_wp2
  go_loop [6] (fun i => ∃ k : Nat, k ≤ L.length ∧ i = .int .i64 k ∧ Hid (findD (L.take k) p = none)) (fun i => L.length - (intOf i).toNat)
  case atStart => exact ⟨0, Nat.zero_le _, rfl, rfl⟩
  case round =>
    obtain ⟨k, hk, rfl, HF⟩ := hrel
    by_cases hlt : k < L.length
    · have hltI : (k : Int) < (L.length : Int) := by omega
      obtain ⟨b, off, cs, rfl, hbl, hR, hc⟩ := HX.out.at k hlt
      obtain rfl : cs = _ := hR
      have q0 := hc 0 _ rfl
      have q1 := hc 1 _ rfl
      simp only [Nat.add_zero] at q0
      have HY : Hid ((L[k]'hlt).p = p → findD L p = some (L[k]'hlt).ar) := fun h => findD_hit hlt HF.out h
      have HN : Hid ((L[k]'hlt).p ≠ p → findD (L.take (k + 1)) p = none) := fun h => by rw [List.take_succ_eq_append_getElem hlt, findD_snoc, HF.out]; simp [h]
      clear hc
      obtain ⟨d, hd⟩ : ∃ d, d = L[k]'hlt := ⟨_, rfl⟩
      rw [← hd] at q0 q1 HY HN
      clear hd
      obtain ⟨dp, dar⟩ := d
      simp only [De.cells] at q0 q1 HY HN
      by_cases he : dp = p
      · subst he
        have hsb : (dp.toList == dp.toList) = true := by simp
        have hv := HY.out rfl
        clear HN HY
        go_wp2
        go_ret2
        try rw [hv]
        exact ⟨rfl, rfl⟩
      · have hsb : (dp.toList == p.toList) = false := by rw [str_beq, decide_eq_false he]
        have hv := Lib.hid (HN.out he)
        clear HN HY
        go_wp2
        go_round
        case rel => exact ⟨k + 1, by omega, by simp, hv⟩
        case measure => simp [intOf]; omega
    · have hltI : ¬ (k : Int) < (L.length : Int) := by omega
      obtain rfl : k = L.length := by omega
      have hv : findD L p = none := by have := HF.out; rw [List.take_length] at this; exact this
      go_wp2
      go_ret2
      exact ⟨rfl, rfl⟩
end Go.Proofs.Ytadccjcmiajdeaa
