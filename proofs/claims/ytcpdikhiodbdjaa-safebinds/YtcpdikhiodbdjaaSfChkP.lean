/-
  Which use of a rule isn't bound first, as the loops come to it; the first rule of a program that isn't safe; what a call hands back. Plain facts; no walk.
-/
import Derived.Test.YtcpdikhiodbdjaaSfLaw
namespace Go.Proofs.Ytcpdikhiodbdjaa
set_option linter.unusedSimpArgs false
set_option linter.unusedVariables false
set_option linter.unusedSectionVars false
set_option maxRecDepth 100000
open Go.RowKit

/-- A rule that is as small as the statements' rules. -/
structure SmRu (r : Ru) : Prop where
  head : r.head.args.length ≤ 5000
  body : r.body.length ≤ 1000
  each : ∀ l ∈ r.body, l.atom.args.length ≤ 5000
theorem pos_take {B : List Lt} {k : Nat} (hk : k < B.length) : posN (B.take (k + 1)) = posN (B.take k) ++ (if (B[k]'hk).kind = 1 then varsA (B[k]'hk).atom.args else []) := by
  unfold posN
  rw [List.take_succ_eq_append_getElem hk, List.flatMap_append]
  simp only [List.flatMap_cons, List.flatMap_nil, List.append_nil]
theorem pos_len : ∀ (B : List Lt) (n : Nat), (∀ l ∈ B, l.atom.args.length ≤ n) → (posN B).length ≤ B.length * n
  | [], n, _ => by simp [posN]
  | l :: B, n, h => by
    have h1 := pos_len B n (fun x hx => h x (by simp [hx]))
    have h2 := h l (by simp)
    have h3 := vars_len l.atom.args
    have e : posN (l :: B) = (if l.kind = 1 then varsA l.atom.args else []) ++ posN B := by simp [posN]
    rw [e, List.length_append, List.length_cons, Nat.succ_mul]
    split <;> simp <;> omega
theorem SmRu.pos {r : Ru} (h : SmRu r) : (posN r.body).length ≤ 5000000 := by
  have h1 := pos_len r.body 5000 h.each
  have h2 := h.body
  have : r.body.length * 5000 ≤ 1000 * 5000 := Nat.mul_le_mul_right _ h2
  omega
theorem SmRu.pos_take {r : Ru} (h : SmRu r) (k : Nat) : (posN (r.body.take k)).length ≤ 5000000 :=
  SmRu.pos (r := ⟨r.head, r.body.take k⟩) ⟨h.head, by have := h.body; simp; omega, fun l hl => h.each l (List.mem_of_mem_take hl)⟩

/-- What a search for a loose variable hands back. -/
def looV : Option ByteArray → Value
  | some s => .tuple #[.string s, .bool true]
  | none => .tuple #[.string ⟨#[]⟩, .bool false]
/-- What Check hands back. -/
def chkV : Option (ByteArray × Int) → Value
  | some (s, p) => .tuple #[.string s, .int .i64 p, .int .i64 6]
  | none => .tuple #[.string ⟨#[]⟩, .int .i64 0, .int .i64 0]
/-- What All hands back. -/
def allV : Option (Nat × ByteArray × Int) → Value
  | some (k, s, p) => .tuple #[.int .i64 (k : Int), .string s, .int .i64 p, .int .i64 6]
  | none => .tuple #[.int .i64 0, .string ⟨#[]⟩, .int .i64 0, .int .i64 0]

theorem loose_hit {N : List ByteArray} {A : List Tm} {k : Nat} (hk : k < A.length) (hf : looseT N (A.take k) = none) (hv : (A[k]'hk).v = true) (hn : inN N (A[k]'hk).name = false) : looseT N A = some (A[k]'hk).name := by
  have e : A = A.take k ++ A[k]'hk :: A.drop (k + 1) := by rw [List.getElem_cons_drop, List.take_append_drop]
  generalize A.take k = X, A[k]'hk = t, A.drop (k + 1) = Y at *
  subst e
  rw [loose_app, hf, loose_cons, if_pos ⟨hv, hn⟩]
  rfl
theorem loose_next {N : List ByteArray} {A : List Tm} {k : Nat} (hk : k < A.length) (hf : looseT N (A.take k) = none) (h : (A[k]'hk).v = false ∨ inN N (A[k]'hk).name = true) : looseT N (A.take (k + 1)) = none := by
  rw [List.take_succ_eq_append_getElem hk, loose_app, hf, loose_cons, if_neg (by rintro ⟨h1, h2⟩; rcases h with h | h <;> simp_all)]
  rfl
theorem asks_two {l : Lt} (h : l.kind = 2) : asks l = l.atom.args := by unfold asks; rw [if_pos h]
theorem asks_three {l : Lt} (h : l.kind = 3) : asks l = [l.l, l.r] := by unfold asks; rw [if_neg (by omega), if_pos h]
theorem asks_none {l : Lt} (h : l.kind ≠ 2) (h2 : l.kind ≠ 3) : asks l = [] := by unfold asks; rw [if_neg h, if_neg h2]
theorem check_head {r : Ru} {s : ByteArray} (h : looseT (posN r.body) r.head.args = some s) : checkR r = some (s, -1) := by unfold checkR; rw [h]
theorem check_hit {r : Ru} {k : Nat} {s : ByteArray} (hk : k < r.body.length) (h0 : looseT (posN r.body) r.head.args = none) (hp : ∀ l ∈ r.body.take k, looseT (posN r.body) (asks l) = none) (h : looseT (posN r.body) (asks (r.body[k]'hk)) = some s) : checkR r = some (s, (k : Int)) := by
  unfold checkR
  rw [h0]
  have e : r.body = r.body.take k ++ r.body[k]'hk :: r.body.drop (k + 1) := by rw [List.getElem_cons_drop, List.take_append_drop]
  show looseB (posN r.body) 0 r.body = _
  have e2 := looseB_pre (posN r.body) (r.body.take k) (r.body[k]'hk :: r.body.drop (k + 1)) 0 hp
  rw [← e] at e2
  rw [e2, looseB, h]
  have : (r.body.take k).length = k := by simp; omega
  simp [this]
theorem check_end {r : Ru} (h0 : looseT (posN r.body) r.head.args = none) (hp : ∀ l ∈ r.body, looseT (posN r.body) (asks l) = none) : checkR r = none := by
  unfold checkR
  rw [h0]
  show looseB (posN r.body) 0 r.body = _
  rw [looseB_none]
  intro t ht hv
  obtain ⟨l, hl, hm⟩ := List.mem_flatMap.1 ht
  exact (loose_none _ _).1 (hp l hl) t hm hv
theorem pre_next {r : Ru} {k : Nat} (hk : k < r.body.length) (hp : ∀ l ∈ r.body.take k, looseT (posN r.body) (asks l) = none) (h : looseT (posN r.body) (asks (r.body[k]'hk)) = none) : ∀ l ∈ r.body.take (k + 1), looseT (posN r.body) (asks l) = none := by
  intro l hl
  rw [List.take_succ_eq_append_getElem hk] at hl
  rcases List.mem_append.1 hl with hl | hl
  · exact hp l hl
  · obtain rfl := List.mem_singleton.1 hl
    exact h
theorem all_hit {R : List Ru} {k : Nat} {s : ByteArray} {p : Int} (hk : k < R.length) (hp : ∀ r ∈ R.take k, checkR r = none) (h : checkR (R[k]'hk) = some (s, p)) : allG 0 R = some (k, s, p) := by
  have e : R = R.take k ++ R[k]'hk :: R.drop (k + 1) := by rw [List.getElem_cons_drop, List.take_append_drop]
  have e2 := all_pre (R.take k) (R[k]'hk :: R.drop (k + 1)) 0 hp
  rw [← e] at e2
  rw [e2, allG, h]
  have : (R.take k).length = k := by simp; omega
  simp [this]
theorem all_end {R : List Ru} (hp : ∀ r ∈ R, checkR r = none) : allG 0 R = none := by
  have := all_pre R [] 0 hp
  rw [List.append_nil] at this
  rw [this]
  rfl
theorem allpre_next {R : List Ru} {k : Nat} (hk : k < R.length) (hp : ∀ r ∈ R.take k, checkR r = none) (h : checkR (R[k]'hk) = none) : ∀ r ∈ R.take (k + 1), checkR r = none := by
  intro l hl
  rw [List.take_succ_eq_append_getElem hk] at hl
  rcases List.mem_append.1 hl with hl | hl
  · exact hp l hl
  · obtain rfl := List.mem_singleton.1 hl
    exact h
/-- The first loose one of the variables, each once, is the first of all. -/
theorem loose_vars (N : List ByteArray) (A : List Tm) : (varsA A).find? (fun s => !inN N s) = looseT N A := by
  induction A using snoc_ind with
  | h0 => rfl
  | h1 A t ih =>
    rw [loose_app, vars_snoc, ← ih]
    by_cases h : t.v = true ∧ inN (varsA A) t.name = false
    · rw [if_pos h, List.find?_append]
      have e : looseT N [t] = [t.name].find? (fun s => !inN N s) := by
        rw [loose_cons]
        cases hn : inN N t.name <;> simp [h.1, hn, looseT]
      rw [e]
    · rw [if_neg h]
      cases hf : (varsA A).find? (fun s => !inN N s) with
      | some s => rfl
      | none =>
        simp only [Option.or_eq_some_iff, Option.none_or]
        symm
        rw [loose_cons, if_neg]
        · rfl
        · rintro ⟨h1, h2⟩
          have hm : inN (varsA A) t.name = true := by
            cases hb : inN (varsA A) t.name with
            | true => rfl
            | false => exact absurd ⟨h1, hb⟩ h
          have := List.find?_eq_none.1 hf t.name ((inN_iff _ _).1 hm)
          simp [h2] at this
theorem find_hit {N L : List ByteArray} {k : Nat} (hk : k < L.length) (hf : ∀ s ∈ L.take k, inN N s = true) (h : inN N (L[k]'hk) = false) : L.find? (fun s => !inN N s) = some (L[k]'hk) := by
  have e : L = L.take k ++ L[k]'hk :: L.drop (k + 1) := by rw [List.getElem_cons_drop, List.take_append_drop]
  generalize L.take k = X, L[k]'hk = t, L.drop (k + 1) = Y at *
  subst e
  rw [List.find?_append, List.find?_eq_none.2 (fun s hs => by simp [hf s hs]), List.find?_cons_of_pos (by simp [h])]
  rfl
theorem find_end {N L : List ByteArray} (hf : ∀ s ∈ L, inN N s = true) : L.find? (fun s => !inN N s) = none := List.find?_eq_none.2 (fun s hs => by simp [hf s hs])
theorem in_next {N L : List ByteArray} {k : Nat} (hk : k < L.length) (hf : ∀ s ∈ L.take k, inN N s = true) (h : inN N (L[k]'hk) = true) : ∀ s ∈ L.take (k + 1), inN N s = true := by
  intro l hl
  rw [List.take_succ_eq_append_getElem hk] at hl
  rcases List.mem_append.1 hl with hl | hl
  · exact hf l hl
  · obtain rfl := List.mem_singleton.1 hl
    exact h
end Go.Proofs.Ytcpdikhiodbdjaa
