/-
  ParseMost's walk.
-/
import Derived.Test.YtfpamkijkaeafaaDoorGShown
import Derived.Test.YtfpamkijkaeafaaDoorGWholeA
namespace Go.Proofs.YtfpamkijkaeafaaDoor
set_option linter.unusedSimpArgs false
set_option linter.unusedVariables false
set_option linter.unusedSectionVars false
set_option maxRecDepth 100000
open Go.RowKit Go.Maps

/-- A text, and so many times a comma and an a. -/
def rep (l : List UInt8) : Nat → List UInt8
  | 0 => l
  | n + 1 => rep l n ++ [44, 97]
def repS (l : List UInt8) (n : Nat) (c : UInt8) : ByteArray := ⟨(rep l n ++ [c]).toArray⟩
theorem most_atom (n : Nat) (h : n < 9) : if n < 6 then (atomR (repS [112, 40, 97] n 41)).bad = 0 ∧ (atomR (repS [112, 40, 97] n 41)).pl = 0 else (atomR (repS [112, 40, 97] n 41)).bad = 4 ∧ (atomR (repS [112, 40, 97] n 41)).pl = 14 := by
  match n, h with
  | 0, _ => exact ⟨by kernel_rfl, by kernel_rfl⟩
  | 1, _ => exact ⟨by kernel_rfl, by kernel_rfl⟩
  | 2, _ => exact ⟨by kernel_rfl, by kernel_rfl⟩
  | 3, _ => exact ⟨by kernel_rfl, by kernel_rfl⟩
  | 4, _ => exact ⟨by kernel_rfl, by kernel_rfl⟩
  | 5, _ => exact ⟨by kernel_rfl, by kernel_rfl⟩
  | 6, _ => exact ⟨by kernel_rfl, by kernel_rfl⟩
  | 7, _ => exact ⟨by kernel_rfl, by kernel_rfl⟩
  | 8, _ => exact ⟨by kernel_rfl, by kernel_rfl⟩
/-- One rule, of so many literals. -/
def OneRule (r : Pg) (n : Nat) : Prop := r.bad = 0 ∧ r.pl = 0 ∧ r.g.rules.map (fun u => u.body.length) = [n + 1]
theorem most_prog (n : Nat) (h : n < 12) : if n < 8 then OneRule (parseR (repS [112, 58, 45, 97] n 46)) n else (parseR (repS [112, 58, 45, 97] n 46)).bad = 4 ∧ (parseR (repS [112, 58, 45, 97] n 46)).pl = 19 := by
  match n, h with
  | 0, _ => exact ⟨by kernel_rfl, by kernel_rfl, by kernel_rfl⟩
  | 1, _ => exact ⟨by kernel_rfl, by kernel_rfl, by kernel_rfl⟩
  | 2, _ => exact ⟨by kernel_rfl, by kernel_rfl, by kernel_rfl⟩
  | 3, _ => exact ⟨by kernel_rfl, by kernel_rfl, by kernel_rfl⟩
  | 4, _ => exact ⟨by kernel_rfl, by kernel_rfl, by kernel_rfl⟩
  | 5, _ => exact ⟨by kernel_rfl, by kernel_rfl, by kernel_rfl⟩
  | 6, _ => exact ⟨by kernel_rfl, by kernel_rfl, by kernel_rfl⟩
  | 7, _ => exact ⟨by kernel_rfl, by kernel_rfl, by kernel_rfl⟩
  | 8, _ => exact ⟨by kernel_rfl, by kernel_rfl⟩
  | 9, _ => exact ⟨by kernel_rfl, by kernel_rfl⟩
  | 10, _ => exact ⟨by kernel_rfl, by kernel_rfl⟩
  | 11, _ => exact ⟨by kernel_rfl, by kernel_rfl⟩
theorem rep_len (l : List UInt8) (n : Nat) : (rep l n).length = l.length + 2 * n := by
  induction n with
  | zero => rfl
  | succ n ih => simp [rep, ih]; omega
theorem one_rule_mem {w : World} {B : Nat} {y : Value} {L : List Ru} {n : Nat} (h : RusO w B y L) (hL : L.map (fun u => u.body.length) = [n + 1]) : ∃ g1 c1 x c2, y = .slice (some ⟨g1, 0, none⟩) 1 c1 ∧ 1 ≤ c1 ∧ w.cell? ⟨g1, 2, none⟩ = some (.slice x (n + 1) c2) := by
  match L, hL with
  | [ru], hL =>
    simp at hL
    obtain ⟨ao, cap, rfl, h1, h2⟩ := h.cells
    obtain ⟨g1, c, rfl, -, -, ⟨x, z, rfl, -, hb⟩, hc⟩ := h2 0 (by simp)
    obtain ⟨ao2, cap2, rfl, -⟩ := hb.cells
    have := hc 2 _ rfl
    simp only [List.getElem_cons_zero] at this
    rw [hL] at this
    exact ⟨g1, cap, ao2, cap2, rfl, h1, by simpa using this⟩
  | [], hL => simp at hL
  | _ :: _ :: _, hL => simp at hL

theorem rem_u8 (n : Int) (m : Int) (h0 : 0 ≤ n) (h1 : n ≤ 255) (hm : 0 < m) (hm2 : m ≤ 255) : ∃ k : Nat, n % m = (k : Int) ∧ (k : Int) < m ∧ k = (n % m).toNat := by
  have a := Int.emod_nonneg n (by omega : m ≠ 0)
  have b := Int.emod_lt_of_pos n hm
  exact ⟨(n % m).toNat, by omega, by omega, rfl⟩
/-- The text so far, as the walk has it. -/
theorem rep_add (l : List UInt8) (n : Nat) : (⟨(rep l n).toArray⟩ : ByteArray) ++ ⟨#[44, 97]⟩ = ⟨(rep l (n + 1)).toArray⟩ := by
  apply ByteArray.ext
  simp [rep]
theorem rep_end (l : List UInt8) (n : Nat) (c : UInt8) : (⟨(rep l n).toArray⟩ : ByteArray) ++ ⟨#[c]⟩ = repS l n c := by
  apply ByteArray.ext
  simp [repS]
end Go.Proofs.YtfpamkijkaeafaaDoor
