/-
  Names, rising byte by byte, each once (layer 9): one list alone has these members. Plain facts; no walk. Written ahead of the code.
-/
import Derived.Test.YtcpdikhiodbdjaaSfPlain
namespace Go.Proofs.Ytcpdikhiodbdjaa
set_option linter.unusedSimpArgs false
set_option linter.unusedVariables false
set_option linter.unusedSectionVars false
set_option maxRecDepth 100000
open Go.RowKit

/-- The order of texts. -/
def bLt (a b : ByteArray) : Prop := a.data.toList < b.data.toList
def bLtB (a b : ByteArray) : Bool := decide (a.data.toList < b.data.toList)
theorem bLtB_iff {a b : ByteArray} : bLtB a b = true ↔ bLt a b := decide_eq_true_iff
theorem bLtB_no {a b : ByteArray} (h : ¬ bLt a b) : bLtB a b = false := decide_eq_false h
theorem bLt_irrefl (a : ByteArray) : ¬ bLt a a := List.lt_irrefl _
theorem bLt_trans {a b c : ByteArray} (h : bLt a b) (k : bLt b c) : bLt a c := List.lt_trans h k
theorem bLt_asymm {a b : ByteArray} (h : bLt a b) : ¬ bLt b a := fun k => bLt_irrefl a (bLt_trans h k)
theorem bLt_total {a b : ByteArray} (h : ¬ bLt a b) (k : ¬ bLt b a) : a = b := by
  have e : a.data.toList = b.data.toList := List.le_antisymm (List.not_lt.1 k) (List.not_lt.1 h)
  exact ByteArray.ext (Array.ext' e)
def Rising (l : List ByteArray) : Prop := l.Pairwise bLt
theorem rising_unique : ∀ {a b : List ByteArray}, Rising a → Rising b → (∀ s, s ∈ a ↔ s ∈ b) → a = b
  | [], [], _, _, _ => rfl
  | [], y :: b, _, _, h => absurd ((h y).2 (by simp)) (by simp)
  | x :: a, [], _, _, h => absurd ((h x).1 (by simp)) (by simp)
  | x :: a, y :: b, ha, hb, h => by
    obtain ⟨ha1, ha2⟩ := List.pairwise_cons.1 ha
    obtain ⟨hb1, hb2⟩ := List.pairwise_cons.1 hb
    have e : x = y := by
      rcases List.mem_cons.1 ((h x).1 (by simp)) with e | hx
      · exact e
      · rcases List.mem_cons.1 ((h y).2 (by simp)) with e | hy
        · exact e.symm
        · exact absurd (hb1 x hx) (bLt_asymm (ha1 y hy))
    subst e
    have := rising_unique ha2 hb2 (fun s => by
      constructor
      · intro hs
        rcases List.mem_cons.1 ((h s).1 (by simp [hs])) with rfl | k
        · exact absurd (ha1 s hs) (bLt_irrefl s)
        · exact k
      · intro hs
        rcases List.mem_cons.1 ((h s).2 (by simp [hs])) with rfl | k
        · exact absurd (hb1 s hs) (bLt_irrefl s)
        · exact k)
    rw [this]
theorem Rising.nodup {l : List ByteArray} (h : Rising l) : l.Nodup := List.Pairwise.imp (fun {a b} hab (e : a = b) => bLt_irrefl a (by rw [← e] at hab; exact hab)) h
/-- How many stand ahead of s: those that aren't above it. -/
def placeN (l : List ByteArray) (s : ByteArray) : Nat := (l.takeWhile (fun x => !bLtB s x)).length
theorem place_le (l : List ByteArray) (s : ByteArray) : placeN l s ≤ l.length := by
  unfold placeN
  induction l with
  | nil => simp
  | cons x l ih =>
    rw [List.takeWhile_cons]
    split
    · simp; exact ih
    · simp
/-- What stands behind that place is above s; what stands ahead is not. -/
theorem place_split : ∀ {l : List ByteArray} (s : ByteArray), Rising l → (∀ x ∈ l.take (placeN l s), ¬ bLt s x) ∧ ∀ x ∈ l.drop (placeN l s), bLt s x
  | [], s, _ => by simp
  | y :: l, s, h => by
    obtain ⟨h1, h2⟩ := List.pairwise_cons.1 h
    unfold placeN
    rw [List.takeWhile_cons]
    by_cases hy : bLt s y
    · rw [if_neg (by simp [bLtB_iff.2 hy])]
      refine ⟨by simp, fun x hx => ?_⟩
      rcases List.mem_cons.1 (by simpa using hx) with rfl | hx
      · exact hy
      · exact bLt_trans hy (h1 x hx)
    · rw [if_pos (by simp [bLtB_no hy])]
      obtain ⟨k1, k2⟩ := place_split s h2
      unfold placeN at k1 k2
      refine ⟨fun x hx => ?_, fun x hx => k2 x (by simpa using hx)⟩
      rcases List.mem_cons.1 (by simpa using hx) with rfl | hx
      · exact hy
      · exact k1 x hx
/-- Put where it belongs. -/
def insN (l : List ByteArray) (s : ByteArray) : List ByteArray := l.take (placeN l s) ++ s :: l.drop (placeN l s)
theorem ins_mem (l : List ByteArray) (s x : ByteArray) : x ∈ insN l s ↔ x = s ∨ x ∈ l := by
  have e : l = l.take (placeN l s) ++ l.drop (placeN l s) := (List.take_append_drop _ _).symm
  unfold insN
  constructor
  · intro h
    rcases List.mem_append.1 h with h | h
    · exact .inr (List.mem_of_mem_take h)
    · rcases List.mem_cons.1 h with h | h
      · exact .inl h
      · exact .inr (List.mem_of_mem_drop h)
  · rintro (rfl | h)
    · simp
    · rw [e] at h
      rcases List.mem_append.1 h with h | h
      · exact List.mem_append.2 (.inl h)
      · exact List.mem_append.2 (.inr (List.mem_cons.2 (.inr h)))
theorem ins_rising {l : List ByteArray} {s : ByteArray} (h : Rising l) (hs : s ∉ l) : Rising (insN l s) := by
  obtain ⟨k1, k2⟩ := place_split s h
  have e : l = l.take (placeN l s) ++ l.drop (placeN l s) := (List.take_append_drop _ _).symm
  have hp : Rising (l.take (placeN l s) ++ l.drop (placeN l s)) := by rw [← e]; exact h
  obtain ⟨p1, p2, p3⟩ := List.pairwise_append.1 hp
  refine List.pairwise_append.2 ⟨p1, List.pairwise_cons.2 ⟨k2, p2⟩, fun a ha b hb => ?_⟩
  rcases List.mem_cons.1 hb with rfl | hb
  · cases Classical.em (bLt a b) with
    | inl h => exact h
    | inr hn =>
      have := bLt_total hn (k1 a ha)
      exact absurd (List.mem_of_mem_take ha) (this ▸ hs)
  · exact p3 a ha b hb
/-- Names, rising, each once. -/
def sortN (l : List ByteArray) : List ByteArray := l.foldl (fun acc s => if inN acc s then acc else insN acc s) []
theorem sort_snoc (l : List ByteArray) (s : ByteArray) : sortN (l ++ [s]) = if inN (sortN l) s then sortN l else insN (sortN l) s := by unfold sortN; rw [List.foldl_append]; rfl
theorem sort_mem (l : List ByteArray) (x : ByteArray) : x ∈ sortN l ↔ x ∈ l := by
  induction l using snoc_ind with
  | h0 => simp [sortN]
  | h1 l s ih =>
    rw [sort_snoc, List.mem_append, List.mem_singleton, ← ih]
    split
    · rename_i h
      constructor
      · exact .inl
      · rintro (h2 | rfl)
        · exact h2
        · exact (inN_iff _ _).1 h
    · rw [ins_mem]
      constructor
      · rintro (h | h)
        · exact .inr h
        · exact .inl h
      · rintro (h | h)
        · exact .inr h
        · exact .inl h
theorem sort_rising (l : List ByteArray) : Rising (sortN l) := by
  induction l using snoc_ind with
  | h0 => exact List.Pairwise.nil
  | h1 l s ih =>
    rw [sort_snoc]
    split
    · exact ih
    · rename_i h
      exact ins_rising ih ((inN_no _ _).1 (by simpa using h))
/-- What a rule binds. -/
def bndR (r : Ru) : List ByteArray := sortN (posN r.body)
theorem bnd_mem (r : Ru) (s : ByteArray) : s ∈ bndR r ↔ s ∈ posN r.body := sort_mem _ _
/-- Whoever makes a rising list of these members has made it. -/
theorem bnd_of {r : Ru} {l : List ByteArray} (h : Rising l) (hm : ∀ s, s ∈ l ↔ s ∈ posN r.body) : l = bndR r :=
  rising_unique h (sort_rising _) (fun s => (hm s).trans (bnd_mem r s).symm)
theorem sort_len (l : List ByteArray) : (sortN l).length ≤ l.length := by
  induction l using snoc_ind with
  | h0 => simp [sortN]
  | h1 l s ih =>
    rw [sort_snoc]
    split
    · simp; omega
    · have := place_le (sortN l) s
      simp [insN]
      omega
end Go.Proofs.Ytcpdikhiodbdjaa
