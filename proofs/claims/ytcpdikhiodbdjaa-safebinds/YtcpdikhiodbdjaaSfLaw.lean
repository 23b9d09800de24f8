/-
  What layer 9's statements want of the rules: an atom of all, no body, a literal less; rule by rule. Plain facts; no walk. Written ahead of the code.
-/
import Derived.Test.YtcpdikhiodbdjaaSfSort
namespace Go.Proofs.Ytcpdikhiodbdjaa
set_option linter.unusedSimpArgs false
set_option linter.unusedVariables false
set_option linter.unusedSectionVars false
set_option maxRecDepth 100000
open Go.RowKit

theorem asks_pos {l : Lt} (hk : l.kind = 1) : asks l = [] := by unfold asks; rw [if_neg (by omega), if_neg (by omega)]
theorem uses_snoc_pos {h : Am} {B : List Lt} {l : Lt} (hk : l.kind = 1) : usesR ⟨h, B ++ [l]⟩ = usesR ⟨h, B⟩ := by simp [usesR, List.flatMap_append, asks_pos hk]
/-- An atom of all that a rule uses makes it safe. -/
theorem check_every {h : Am} {B : List Lt} {l : Lt} (hk : l.kind = 1) (ha : ∀ t ∈ usesR ⟨h, B⟩, t ∈ l.atom.args) : checkR ⟨h, B ++ [l]⟩ = none := by
  rw [check_none, uses_snoc_pos hk]
  intro t ht hv
  exact (mem_pos _ _).2 ⟨l, by simp, hk, t, ha t ht, hv, rfl⟩
/-- Each use stands in some literal's terms, or in the head's. -/
theorem uses_some {h : Am} {B : List Lt} {t : Tm} (ht : t ∈ usesR ⟨h, B⟩) : t ∈ h.args ∨ ∃ l ∈ B, t = l.l ∨ t = l.r ∨ t ∈ l.atom.args := by
  rcases List.mem_append.1 ht with ht | ht
  · exact .inl ht
  · obtain ⟨l, hl, h2⟩ := List.mem_flatMap.1 ht
    refine .inr ⟨l, hl, ?_⟩
    unfold asks at h2
    split at h2
    · exact .inr (.inr h2)
    · split at h2
      · simp at h2
        rcases h2 with h2 | h2
        · exact .inl h2
        · exact .inr (.inl h2)
      · simp at h2
/-- Without a body. -/
theorem check_bare (a : Am) : (checkR ⟨a, []⟩ = none ↔ varsA a.args = []) ∧ ∀ s k, checkR ⟨a, []⟩ = some (s, k) → k = -1 := by
  constructor
  · rw [check_none]
    constructor
    · intro h
      cases hv : varsA a.args with
      | nil => rfl
      | cons s l =>
        obtain ⟨t, ht, htv, -⟩ := (mem_vars a.args s).1 (by rw [hv]; simp)
        have := h t (by simp [usesR, ht]) htv
        simp [posN] at this
    · intro h t ht hv
      have ht' : t ∈ a.args := by simpa [usesR] using ht
      have := (mem_vars a.args t.name).2 ⟨t, ht', hv, rfl⟩
      rw [h] at this
      simp at this
  · intro s k h
    unfold checkR at h
    cases hl : looseT (posN []) a.args with
    | some x => simp [hl] at h; exact h.2.symm
    | none => simp [hl, looseB] at h
/-- A literal less: it binds no more; as much, if that literal binds nothing; and then it is safe, if it was. -/
theorem drop_pos {P Q : List Lt} {l : Lt} {s : ByteArray} (h : s ∈ posN (P ++ Q)) : s ∈ posN (P ++ l :: Q) := by
  obtain ⟨x, hx, h⟩ := (mem_pos _ _).1 h
  refine (mem_pos _ _).2 ⟨x, ?_, h⟩
  rcases List.mem_append.1 hx with hx | hx
  · simp [hx]
  · simp [hx]
theorem drop_same {P Q : List Lt} {l : Lt} (hk : l.kind ≠ 1) : posN (P ++ l :: Q) = posN (P ++ Q) := by simp [posN, List.flatMap_append, hk]
theorem drop_safe {h : Am} {P Q : List Lt} {l : Lt} (hk : l.kind ≠ 1) (hs : checkR ⟨h, P ++ l :: Q⟩ = none) : checkR ⟨h, P ++ Q⟩ = none := by
  rw [check_none] at hs ⊢
  intro t ht hv
  have : t ∈ usesR ⟨h, P ++ l :: Q⟩ := by
    unfold usesR at ht ⊢
    simp only [List.flatMap_append, List.flatMap_cons, List.mem_append] at ht ⊢
    rcases ht with h1 | h1 | h1
    · exact .inl h1
    · exact .inr (.inl h1)
    · exact .inr (.inr (.inr h1))
  have h2 := hs t this hv
  rw [drop_same hk] at h2
  exact h2
/-- The first rule that isn't safe. -/
def allG : Nat → List Ru → Option (Nat × ByteArray × Int)
  | _, [] => none
  | k, r :: R => match checkR r with | some (s, p) => some (k, s, p) | none => allG (k + 1) R
theorem all_pre : ∀ (R S : List Ru) (k : Nat), (∀ r ∈ R, checkR r = none) → allG k (R ++ S) = allG (k + R.length) S
  | [], S, k, _ => by simp
  | r :: R, S, k, h => by
    have e0 : allG k (r :: (R ++ S)) = allG (k + 1) (R ++ S) := by rw [allG, h r (by simp)]
    rw [List.cons_append, e0, all_pre R S (k + 1) (fun x hx => h x (by simp [hx]))]
    have e : k + 1 + R.length = k + (r :: R).length := by simp; omega
    rw [e]
theorem looseB_pre (N : List ByteArray) : ∀ (P Q : List Lt) (k : Nat), (∀ l ∈ P, looseT N (asks l) = none) → looseB N k (P ++ Q) = looseB N (k + P.length) Q
  | [], Q, k, _ => by simp
  | l :: P, Q, k, h => by
    have e0 : looseB N k (l :: (P ++ Q)) = looseB N (k + 1) (P ++ Q) := by rw [looseB, h l (by simp)]
    rw [List.cons_append, e0, looseB_pre N P Q (k + 1) (fun x hx => h x (by simp [hx]))]
    have e : k + 1 + P.length = k + (l :: P).length := by simp; omega
    rw [e]
theorem looseT_pre (N : List ByteArray) (P Q : List Tm) (h : ∀ t ∈ P, t.v = true → t.name ∈ N) : looseT N (P ++ Q) = looseT N Q := by
  rw [loose_app, (loose_none N P).2 h]
  rfl
end Go.Proofs.Ytcpdikhiodbdjaa
