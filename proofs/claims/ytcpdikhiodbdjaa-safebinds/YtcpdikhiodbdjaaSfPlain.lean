/-
  The variables of atoms, what a rule binds, which use isn't bound first (layer 9), as lists. Plain facts; no walk. Written ahead of the code, over the light base.
-/
import Derived.Test.YtcpdikhiodbdjaaQMem
namespace Go.Proofs.Ytcpdikhiodbdjaa
set_option linter.unusedSimpArgs false
set_option linter.unusedVariables false
set_option linter.unusedSectionVars false
set_option maxRecDepth 100000
open Go.RowKit

/-- Is a name one of some? -/
def inN (l : List ByteArray) (s : ByteArray) : Bool := l.any (fun x => decide (x = s))
theorem inN_iff (l : List ByteArray) (s : ByteArray) : inN l s = true ↔ s ∈ l := by
  unfold inN
  rw [List.any_eq_true]
  constructor
  · rintro ⟨x, hx, h⟩
    rw [← of_decide_eq_true h]
    exact hx
  · intro h
    exact ⟨s, h, by simp⟩
theorem inN_no (l : List ByteArray) (s : ByteArray) : inN l s = false ↔ s ∉ l := by
  rw [← inN_iff, Bool.not_eq_true]
/-- An atom's variables: in turn, each once. -/
def varsA (A : List Tm) : List ByteArray := A.foldl (fun acc t => if t.v = true ∧ inN acc t.name = false then acc ++ [t.name] else acc) []
theorem vars_snoc (A : List Tm) (t : Tm) : varsA (A ++ [t]) = if t.v = true ∧ inN (varsA A) t.name = false then varsA A ++ [t.name] else varsA A := by unfold varsA; rw [List.foldl_append]; rfl
theorem snoc_ind {α : Type} {P : List α → Prop} (h0 : P []) (h1 : ∀ A t, P A → P (A ++ [t])) (A : List α) : P A := by
  have aux : ∀ n (A : List α), A.length = n → P A := by
    intro n
    induction n with
    | zero => intro A h; obtain rfl := List.length_eq_zero_iff.1 h; exact h0
    | succ n ih =>
      intro A h
      rcases List.eq_nil_or_concat A with rfl | ⟨B, u, rfl⟩
      · exact h0
      · rw [List.concat_eq_append]
        exact h1 B u (ih B (by simpa using h))
  exact aux _ A rfl
theorem mem_vars (A : List Tm) (s : ByteArray) : s ∈ varsA A ↔ ∃ t ∈ A, t.v = true ∧ t.name = s := by
  induction A using snoc_ind with
  | h0 => simp [varsA]
  | h1 A t ih =>
    rw [vars_snoc]
    constructor
    · intro h
      split at h
      · rename_i hc
        rcases List.mem_append.1 h with h | h
        · obtain ⟨u, hu, hv⟩ := ih.1 h
          exact ⟨u, by simp [hu], hv⟩
        · exact ⟨t, by simp, hc.1, (List.mem_singleton.1 h).symm⟩
      · obtain ⟨u, hu, hv⟩ := ih.1 h
        exact ⟨u, by simp [hu], hv⟩
    · rintro ⟨u, hu, hv, rfl⟩
      rcases List.mem_append.1 hu with hu | hu
      · have := ih.2 ⟨u, hu, hv, rfl⟩
        split
        · simp [this]
        · exact this
      · obtain rfl := List.mem_singleton.1 hu
        split
        · simp
        · rename_i hc
          refine (inN_iff _ _).1 ?_
          cases h : inN (varsA A) u.name with
          | true => rfl
          | false => exact absurd ⟨hv, h⟩ hc
theorem vars_nodup (A : List Tm) : (varsA A).Nodup := by
  induction A using snoc_ind with
  | h0 => simp [varsA]
  | h1 A t ih =>
    rw [vars_snoc]
    split
    · rename_i hc
      rw [List.nodup_append]
      refine ⟨ih, by simp, ?_⟩
      intro a ha b hb e
      obtain rfl := List.mem_singleton.1 hb
      exact (inN_no _ _).1 hc.2 (e ▸ ha)
    · exact ih
theorem vars_len (A : List Tm) : (varsA A).length ≤ A.length := by
  induction A using snoc_ind with
  | h0 => simp [varsA]
  | h1 A t ih =>
    rw [vars_snoc]
    split <;> simp <;> omega
def varT (s : ByteArray) : Tm := ⟨true, s, false, ⟨#[]⟩, 0⟩
theorem vars_names (l : List ByteArray) (h : l.Nodup) : varsA (l.map varT) = l := by
  induction l using snoc_ind with
  | h0 => simp [varsA]
  | h1 l s ih =>
    have h1 := List.nodup_append.1 h
    rw [List.map_append, List.map_singleton, vars_snoc, ih h1.1, if_pos]
    · rfl
    · exact ⟨rfl, (inN_no _ _).2 fun hm => h1.2.2 _ hm s (by simp) rfl⟩

/-- The names of all atoms that bind. -/
def posN (B : List Lt) : List ByteArray := B.flatMap (fun l => if l.kind = 1 then varsA l.atom.args else [])
theorem mem_pos (B : List Lt) (s : ByteArray) : s ∈ posN B ↔ ∃ l ∈ B, l.kind = 1 ∧ ∃ t ∈ l.atom.args, t.v = true ∧ t.name = s := by
  unfold posN
  rw [List.mem_flatMap]
  constructor
  · rintro ⟨l, hl, h⟩
    split at h
    · rename_i hk
      exact ⟨l, hl, hk, (mem_vars _ _).1 h⟩
    · simp at h
  · rintro ⟨l, hl, hk, h⟩
    exact ⟨l, hl, by rw [if_pos hk]; exact (mem_vars _ _).2 h⟩

/-- The first of some terms that is a variable that isn't bound. -/
def looseT (N : List ByteArray) (A : List Tm) : Option ByteArray := (A.find? (fun t => t.v && !inN N t.name)).map (·.name)
theorem loose_none (N : List ByteArray) (A : List Tm) : looseT N A = none ↔ ∀ t ∈ A, t.v = true → t.name ∈ N := by
  unfold looseT
  rw [Option.map_eq_none_iff, List.find?_eq_none]
  constructor
  · intro h t ht hv
    have := h t ht
    simp [hv] at this
    exact (inN_iff _ _).1 this
  · intro h t ht
    cases hv : t.v with
    | false => simp
    | true => simp [(inN_iff _ _).2 (h t ht hv)]
theorem loose_cons (N : List ByteArray) (t : Tm) (A : List Tm) : looseT N (t :: A) = if t.v = true ∧ inN N t.name = false then some t.name else looseT N A := by
  unfold looseT
  by_cases h : t.v = true ∧ inN N t.name = false
  · rw [if_pos h, List.find?_cons_of_pos (by simp [h.1, h.2])]; rfl
  · rw [if_neg h, List.find?_cons_of_neg (by simpa using h)]
theorem loose_app (N : List ByteArray) (A B : List Tm) : looseT N (A ++ B) = (looseT N A).or (looseT N B) := by
  unfold looseT
  rw [List.find?_append]
  cases A.find? (fun t => t.v && !inN N t.name) <;> simp
/-- The terms that a literal asks for. -/
def asks (l : Lt) : List Tm := if l.kind = 2 then l.atom.args else if l.kind = 3 then [l.l, l.r] else []
/-- The first use of a body, from place k on, that isn't bound. -/
def looseB (N : List ByteArray) : Nat → List Lt → Option (ByteArray × Int)
  | _, [] => none
  | k, l :: B => match looseT N (asks l) with | some s => some (s, (k : Int)) | none => looseB N (k + 1) B
theorem looseB_none (N : List ByteArray) : ∀ (B : List Lt) (k : Nat), looseB N k B = none ↔ ∀ t ∈ B.flatMap asks, t.v = true → t.name ∈ N
  | [], k => by simp [looseB]
  | l :: B, k => by
    have ih := looseB_none N B (k + 1)
    unfold looseB
    cases h : looseT N (asks l) with
    | some s =>
      simp only [reduceCtorEq, false_iff]
      intro hall
      have := (loose_none N (asks l)).2 (fun t ht => hall t (by simp [ht]))
      rw [h] at this
      cases this
    | none =>
      have h1 := (loose_none N (asks l)).1 h
      simp only [ih, List.flatMap_cons, List.mem_append]
      constructor
      · rintro h2 t (ht | ht)
        · exact h1 t ht
        · exact h2 t ht
      · intro h2 t ht
        exact h2 t (.inr ht)
/-- The first use of a rule that isn't bound, and where. -/
def checkR (r : Ru) : Option (ByteArray × Int) := match looseT (posN r.body) r.head.args with | some s => some (s, -1) | none => looseB (posN r.body) 0 r.body
/-- All that a rule asks for. -/
def usesR (r : Ru) : List Tm := r.head.args ++ r.body.flatMap asks
/-- SAFE just if each variable that is asked for is bound. -/
theorem check_none (r : Ru) : checkR r = none ↔ ∀ t ∈ usesR r, t.v = true → t.name ∈ posN r.body := by
  unfold checkR usesR
  cases h : looseT (posN r.body) r.head.args with
  | some s =>
    simp only [reduceCtorEq, false_iff]
    intro hall
    have := (loose_none (posN r.body) r.head.args).2 (fun t ht => hall t (by simp [ht]))
    rw [h] at this
    cases this
  | none =>
    have h1 := (loose_none (posN r.body) r.head.args).1 h
    simp only [looseB_none, List.mem_append]
    constructor
    · rintro h2 t (ht | ht)
      · exact h1 t ht
      · exact h2 t ht
    · intro h2 t ht
      exact h2 t (.inr ht)
/-- The same literals in another order. -/
theorem check_perm {h : Am} {B C : List Lt} (hp : ∀ l, l ∈ B ↔ l ∈ C) : (checkR ⟨h, B⟩ = none ↔ checkR ⟨h, C⟩ = none) ∧ ∀ s, s ∈ posN B ↔ s ∈ posN C := by
  have hN : ∀ s, s ∈ posN B ↔ s ∈ posN C := fun s => by
    rw [mem_pos, mem_pos]
    constructor
    · rintro ⟨l, hl, h⟩; exact ⟨l, (hp l).1 hl, h⟩
    · rintro ⟨l, hl, h⟩; exact ⟨l, (hp l).2 hl, h⟩
  refine ⟨?_, hN⟩
  rw [check_none, check_none]
  have hU : ∀ t, t ∈ usesR ⟨h, B⟩ ↔ t ∈ usesR ⟨h, C⟩ := fun t => by
    unfold usesR
    simp only [List.mem_append, List.mem_flatMap]
    constructor
    · rintro (h | ⟨l, hl, ht⟩)
      · exact .inl h
      · exact .inr ⟨l, (hp l).1 hl, ht⟩
    · rintro (h | ⟨l, hl, ht⟩)
      · exact .inl h
      · exact .inr ⟨l, (hp l).2 hl, ht⟩
  constructor
  · intro hh t ht hv; exact (hN _).1 (hh t ((hU t).2 ht) hv)
  · intro hh t ht hv; exact (hN _).2 (hh t ((hU t).1 ht) hv)
/-- One more atom: a rule that is safe stays so. -/
theorem check_more {h : Am} {B : List Lt} {a : Am} (hs : checkR ⟨h, B⟩ = none) (l : Lt) (hk : l.kind = 1) (_ha : l.atom = a) : checkR ⟨h, B ++ [l]⟩ = none := by
  rw [check_none] at hs ⊢
  intro t ht hv
  have hm : t ∈ usesR ⟨h, B⟩ := by
    unfold usesR at ht ⊢
    have e : asks l = [] := by unfold asks; rw [if_neg (by omega), if_neg (by omega)]
    simpa [List.flatMap_append, e] using ht
  have := hs t hm hv
  show t.name ∈ posN (B ++ [l])
  unfold posN at this ⊢
  rw [List.flatMap_append]
  exact List.mem_append.2 (.inl this)
end Go.Proofs.Ytcpdikhiodbdjaa
