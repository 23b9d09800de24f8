/-
  Plain facts on the texts of values: which symbols are plain, how bytes stand in quotation marks, one text each. No Go text.
-/
import Derived.Lib.Bytealg
import Derived.Lib.UnsafeStr
import Derived.Lib.ItoaLen
namespace Go.Proofs.YtbbmihojfcofdaaGreatDoor
set_option linter.unusedSimpArgs false
set_option linter.unusedVariables false
set_option linter.unusedSectionVars false
set_option maxRecDepth 100000

def smallB (r : Int) : Bool := decide (97 ≤ r) && decide (r ≤ 122)
def nameB (r : Int) : Bool := smallB r || (decide (65 ≤ r) && decide (r ≤ 90)) || (decide (48 ≤ r) && decide (r ≤ 57)) || (r == 95)
/-- A byte of a name; the first is small. -/
def nameAt (l : List UInt8) : Bool := l.all fun c => nameB (c.toNat : Int)
def plainL (l : List UInt8) : Bool :=
  match l with
  | [] => false
  | c :: r => smallB (c.toNat : Int) && nameAt (c :: r) && !(c :: r == [110, 111, 116])
def escC (c : UInt8) : List UInt8 := if c = 10 then [92, 110] else if c = 92 then [92, c] else if c = 39 then [92, c] else [c]
def escL (l : List UInt8) : List UInt8 := l.flatMap escC
def quoteL (l : List UInt8) : List UInt8 := 39 :: (escL l ++ [39])
def shortPlain (l : List UInt8) : Bool := decide (l.length ≤ 32) && plainL l
/-- A value's text. -/
def textL (k : Bool) (l : List UInt8) (n : Int) : List UInt8 :=
  if k then (if shortPlain l then l else quoteL l) else Lib.itoa n

theorem escC_len (c : UInt8) : 1 ≤ (escC c).length ∧ (escC c).length ≤ 2 := by
  unfold escC; split
  · simp
  · split
    · simp
    · split <;> simp
theorem escL_len (l : List UInt8) : l.length ≤ (escL l).length ∧ (escL l).length ≤ 2 * l.length := by
  induction l with
  | nil => simp [escL]
  | cons c r ih =>
    have h := escC_len c
    simp only [escL, List.flatMap_cons, List.length_append, List.length_cons] at ih ⊢
    omega
theorem escL_snoc (l : List UInt8) (c : UInt8) : escL (l ++ [c]) = escL l ++ escC c := by simp [escL]
theorem take_snoc (s : ByteArray) (k : Nat) (h : k < s.size) : s.data.toList.take (k + 1) = s.data.toList.take k ++ [s[k]] := by
  rw [List.take_succ_eq_append_getElem (by simpa using h)]; rfl
theorem escL_take (s : ByteArray) (k : Nat) (h : k < s.size) : escL (s.data.toList.take (k + 1)) = escL (s.data.toList.take k) ++ escC s[k] := by
  rw [take_snoc s k h, escL_snoc]

theorem small_name {r : Int} (h : smallB r = true) : nameB r = true := by simp [nameB, h]
theorem name_lt {r : Int} (h : nameB r = true) : r < 128 := by
  simp only [nameB, smallB, Bool.or_eq_true, Bool.and_eq_true, decide_eq_true_eq, beq_iff_eq] at h
  omega
theorem name_high {r : Int} (h : 128 ≤ r) : nameB r = false := by
  cases e : nameB r with
  | false => rfl
  | true => have := name_lt e; omega

theorem plain_empty {s : ByteArray} (h : s.size = 0) : plainL s.data.toList = false := by
  have : s.data.toList = [] := List.length_eq_zero_iff.1 (by simpa using h)
  simp [this, plainL]
theorem plain_not : plainL [110, 111, 116] = false := by decide
/-- A byte at some place that is none of a name's: not plain. -/
theorem plain_bad {s : ByteArray} {k : Nat} (h : k < s.size) (hb : nameB (s[k].toNat : Int) = false) : plainL s.data.toList = false := by
  have hm : s[k] ∈ s.data.toList := by
    have : s[k] = s.data.toList[k]'(by simpa using h) := rfl
    rw [this]; exact List.getElem_mem _
  cases e : s.data.toList with
  | nil => rfl
  | cons c r =>
    rw [e] at hm
    have : nameAt (c :: r) = false := by
      cases e2 : nameAt (c :: r) with
      | false => rfl
      | true =>
        have := List.all_eq_true.1 e2 _ hm
        rw [hb] at this; cases this
    simp [plainL, this]
theorem plain_first {s : ByteArray} (h : 0 < s.size) (hb : smallB (s[0].toNat : Int) = false) : plainL s.data.toList = false := by
  cases e : s.data.toList with
  | nil => rfl
  | cons c r =>
    have : s[0] = c := by
      have : s[0] = s.data.toList[0]'(by simpa using h) := rfl
      rw [this]; simp [e]
    rw [this] at hb
    simp [plainL, hb]
theorem plain_yes {s : ByteArray} (h : 0 < s.size) (hn : ¬ s.data.toList = [110, 111, 116]) (h0 : smallB (s[0].toNat : Int) = true) (ha : ∀ k (hk : k < s.size), nameB (s[k].toNat : Int) = true) : plainL s.data.toList = true := by
  cases e : s.data.toList with
  | nil =>
    have : s.data.toList.length = 0 := by rw [e]; rfl
    have h2 : s.data.toList.length = s.size := by simp
    omega
  | cons c r =>
    have h1 : s[0] = c := by
      have : s[0] = s.data.toList[0]'(by simpa using h) := rfl
      rw [this]; simp [e]
    rw [h1] at h0
    have h2 : nameAt (c :: r) = true := by
      refine List.all_eq_true.2 fun x hx => ?_
      rw [← e] at hx
      obtain ⟨k, hk, rfl⟩ := List.getElem_of_mem hx
      exact ha k (by simpa using hk)
    have h3 : (c :: r == [110, 111, 116]) = false := by
      rw [e] at hn
      exact beq_eq_false_iff_ne.2 hn
    rw [plainL, h0, h2, h3]; rfl
end Go.Proofs.YtbbmihojfcofdaaGreatDoor
