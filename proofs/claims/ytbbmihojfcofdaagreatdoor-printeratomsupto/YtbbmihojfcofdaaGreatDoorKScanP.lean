/-
  What the first token of a text is (oneL), and all tokens of a text, or where it may not be (scanL). Plain facts; no walk.
-/
import Derived.Test.YtbbmihojfcofdaaGreatDoorKQuo
namespace Go.Proofs.YtbbmihojfcofdaaGreatDoor
set_option linter.unusedSimpArgs false
set_option linter.unusedVariables false
set_option linter.unusedSectionVars false
set_option maxRecDepth 100000
open Go.RowKit

/-- The token with which a text begins that begins with no blank. -/
def oneC (c : UInt8) (t l : List UInt8) : Got :=
  if smallQ c then nameL 1 l else if greatQ c then nameL 2 l else if c = 39 then quoL l
  else if (figureQ c || (c == 45 && decide (0 < runLen figureQ t))) = true then numL l else markL l
def oneL (l : List UInt8) : Got := oneC (l.headD 0) l.tail l
theorem oneL_cons (c : UInt8) (t : List UInt8) : oneL (c :: t) = oneC c t (c :: t) := rfl

theorem quoS_92 (d : UInt8) (l : List UInt8) : quoS (92 :: d :: l) = (match escO [d] with | none => none | some b => (quoS l).map (fun r => (b :: r.1, r.2 + 2))) := by simp only [quoS]; cases escO [d] <;> simp
theorem quoS_len {l : List UInt8} {r : List UInt8 × Nat} (h : quoS l = some r) : 1 ≤ r.2 ∧ r.2 ≤ l.length := by
  have aux : ∀ (n : Nat) (l : List UInt8), l.length ≤ n → ∀ r, quoS l = some r → 1 ≤ r.2 ∧ r.2 ≤ l.length := by
    intro n
    induction n with
    | zero =>
      intro l hl r hr
      have : l = [] := List.length_eq_zero_iff.1 (by omega)
      subst this
      simp [quoS] at hr
    | succ n ih =>
      intro l hl r hr
      match l, hl, hr with
      | [], _, hr => simp [quoS] at hr
      | c :: l, hl, hr =>
        by_cases h1 : c = 39
        · subst h1
          rw [quoS_39] at hr
          cases hr
          simp
        by_cases h2 : c = 10
        · subst h2
          rw [quoS_10] at hr
          cases hr
        by_cases h3 : c = 92
        · subst h3
          match l, hl, hr with
          | [], _, hr => simp [quoS] at hr
          | d :: l', hl, hr =>
            rw [quoS_92] at hr
            cases he : escO [d] with
            | none => rw [he] at hr; cases hr
            | some b =>
              rw [he] at hr
              obtain ⟨q, hq, rfl⟩ := Option.map_eq_some_iff.1 hr
              have := ih l' (by simp at hl; omega) q hq
              simp
              omega
        · rw [quoS_else _ h1 h2 h3] at hr
          obtain ⟨q, hq, rfl⟩ := Option.map_eq_some_iff.1 hr
          have := ih l (by simp at hl; omega) q hq
          simp
          omega
  exact aux l.length l (Nat.le_refl _) r h

theorem oneL_len {l : List UInt8} (h0 : l ≠ []) (h : (oneL l).bad = 0) : 1 ≤ (oneL l).len ∧ (oneL l).len ≤ l.length := by
  match l, h0 with
  | c :: t, _ =>
    have hname : ∀ kind, innerQ c = true → (nameL kind (c :: t)).bad = 0 → 1 ≤ (nameL kind (c :: t)).len ∧ (nameL kind (c :: t)).len ≤ (c :: t).length := fun kind hi hb => by
      unfold nameL at *
      split at hb
      · simp at hb
      · rename_i hn
        rw [if_neg hn]
        refine ⟨?_, runLen_le _ _⟩
        simp [runLen, hi]
    rw [oneL_cons] at h ⊢
    unfold oneC at h ⊢
    by_cases h1 : smallQ c = true
    · rw [if_pos h1] at h ⊢
      exact hname 1 (by simp [innerQ, h1]) h
    rw [if_neg h1] at h ⊢
    by_cases h2 : greatQ c = true
    · rw [if_pos h2] at h ⊢
      exact hname 2 (by simp [innerQ, h2]) h
    rw [if_neg h2] at h ⊢
    by_cases h3 : c = 39
    · rw [if_pos h3] at h ⊢
      unfold quoL at h ⊢
      simp only [List.tail_cons] at h ⊢
      cases hq : quoS t with
      | none => rw [hq] at h; simp [quoOf] at h
      | some r =>
        have := quoS_len hq
        simp [quoOf]
        omega
    rw [if_neg h3] at h ⊢
    by_cases h4 : (figureQ c || (c == 45 && decide (0 < runLen figureQ t))) = true
    · rw [if_pos h4] at h ⊢
      unfold numL numOf at h ⊢
      simp only [List.tail_cons] at h ⊢
      split at h
      · have := runLen_le figureQ t
        simp
        omega
      · simp at h
    · rw [if_neg h4] at h ⊢
      unfold markL at h ⊢
      cases hm : markT.find? (fun m => m.isPrefixOf (c :: t)) with
      | none => rw [hm] at h; simp [markOf] at h
      | some m =>
        have hp := List.find?_some hm
        have hmem := List.mem_of_find?_eq_some hm
        have hl := (List.isPrefixOf_iff_prefix.1 hp).length_le
        simp only [markOf]
        refine ⟨?_, hl⟩
        have : ∀ m ∈ markT, 1 ≤ m.length := by decide
        exact this m hmem

/-- What is scanned: an error's number (0: none), its place, the tokens. -/
structure Res where
  bad : Nat
  pl : Nat
  toks : List Tk
def Res.cons (t : Tk) (r : Res) : Res := if r.bad = 0 then ⟨0, 0, t :: r.toks⟩ else r
def Res.app (T : List Tk) (r : Res) : Res := if r.bad = 0 then ⟨0, 0, T ++ r.toks⟩ else r
theorem Res.app_nil {r : Res} (h : r.bad = 0 → r.pl = 0) : Res.app [] r = r := by
  obtain ⟨b, p, l⟩ := r
  unfold Res.app
  split
  · rename_i hb
    simp at hb h
    subst hb
    simp [h rfl]
  · rfl
theorem Res.app_cons (T : List Tk) (t : Tk) (r : Res) : Res.app T (Res.cons t r) = Res.app (T ++ [t]) r := by
  unfold Res.app Res.cons
  by_cases h : r.bad = 0
  · rw [if_pos h, if_pos h]; simp
  · rw [if_neg h, if_neg h, if_neg h]

def Tk.put (t : Tk) (p : Nat) : Tk := ⟨t.kind, t.s, t.n, t.q, (p : Int)⟩

/-- The tokens of a text that begins at p, by so many steps at most. -/
def scanF : Nat → Nat → List UInt8 → Res
  | 0, _, _ => ⟨0, 0, []⟩
  | f + 1, p, l =>
    if l.length ≤ skipS false l then ⟨0, 0, []⟩
    else if (oneL (l.drop (skipS false l))).bad = 0 then
      Res.cons ((oneL (l.drop (skipS false l))).tok.put (p + skipS false l)) (scanF f (p + skipS false l + (oneL (l.drop (skipS false l))).len) (l.drop (skipS false l + (oneL (l.drop (skipS false l))).len)))
    else ⟨(oneL (l.drop (skipS false l))).bad, p + skipS false l, []⟩
def scanAt (p : Nat) (l : List UInt8) : Res := scanF (l.length + 1) p l
theorem scanF_pl (f p : Nat) (l : List UInt8) : (scanF f p l).bad = 0 → (scanF f p l).pl = 0 := by
  cases f with
  | zero => intro _; rfl
  | succ f =>
    intro h
    unfold scanF at *
    split
    · rfl
    · rename_i h1
      rw [if_neg h1] at h
      split
      · rename_i h2
        rw [if_pos h2] at h
        unfold Res.cons at *
        split
        · rfl
        · rename_i h3
          rw [if_neg h3] at h
          exact absurd h h3
      · rename_i h2
        rw [if_neg h2] at h
        exact absurd h h2
theorem scanF_fuel (f g p : Nat) (l : List UInt8) (hf : l.length < f) (hg : l.length < g) : scanF f p l = scanF g p l := by
  induction f generalizing g p l with
  | zero => omega
  | succ f ih =>
    cases g with
    | zero => omega
    | succ g =>
      unfold scanF
      by_cases h1 : l.length ≤ skipS false l
      · rw [if_pos h1, if_pos h1]
      rw [if_neg h1, if_neg h1]
      by_cases h2 : (oneL (l.drop (skipS false l))).bad = 0
      · rw [if_pos h2, if_pos h2]
        have hne : l.drop (skipS false l) ≠ [] := by
          intro e
          have := congrArg List.length e
          simp at this
          omega
        have hl := oneL_len hne h2
        rw [ih g _ _ (by simp; omega) (by simp; omega)]
      · rw [if_neg h2, if_neg h2]
theorem scanAt_eq (p : Nat) (l : List UInt8) : scanAt p l =
    if l.length ≤ skipS false l then ⟨0, 0, []⟩
    else if (oneL (l.drop (skipS false l))).bad = 0 then
      Res.cons ((oneL (l.drop (skipS false l))).tok.put (p + skipS false l)) (scanAt (p + skipS false l + (oneL (l.drop (skipS false l))).len) (l.drop (skipS false l + (oneL (l.drop (skipS false l))).len)))
    else ⟨(oneL (l.drop (skipS false l))).bad, p + skipS false l, []⟩ := by
  rw [scanAt, scanF]
  by_cases h1 : l.length ≤ skipS false l
  · rw [if_pos h1, if_pos h1]
  rw [if_neg h1, if_neg h1]
  by_cases h2 : (oneL (l.drop (skipS false l))).bad = 0
  · rw [if_pos h2, if_pos h2]
    have hne : l.drop (skipS false l) ≠ [] := by
      intro e
      have := congrArg List.length e
      simp at this
      omega
    have hl := oneL_len hne h2
    rw [scanAt, scanF_fuel _ _ _ _ _ (Nat.lt_succ_self _)]
    simp
    omega
  · rw [if_neg h2, if_neg h2]
theorem scanAt_pl (p : Nat) (l : List UInt8) : (scanAt p l).bad = 0 → (scanAt p l).pl = 0 := scanF_pl _ _ _

/-- A place at which a text stands that was scanned up to here: T are the tokens so far; the byte here is no blank's, nor a remark's. -/
def SAt (s : ByteArray) (p : Nat) (T : List Tk) : Prop := p ≤ s.size ∧ T.length ≤ p ∧ skipS false (s.data.toList.drop p) = 0 ∧ scanAt 0 s.data.toList = Res.app T (scanAt p (s.data.toList.drop p))
theorem skip_skip (l : List UInt8) : skipS false (l.drop (skipS false l)) = 0 := by
  have aux : ∀ (n : Nat) (r : Bool) (l : List UInt8), l.length ≤ n → skipS false (l.drop (skipS r l)) = 0 := by
    intro n
    induction n with
    | zero =>
      intro r l hl
      have : l = [] := List.length_eq_zero_iff.1 (by omega)
      subst this
      rfl
    | succ n ih =>
      intro r l hl
      cases l with
      | nil => rfl
      | cons c t =>
        have e : skipS r (c :: t) = if (r || c == 37) = false ∧ blankQ c = false then 0 else 1 + skipS (if c == 10 then false else r || c == 37) t := rfl
        by_cases h : (r || c == 37) = false ∧ blankQ c = false
        · rw [e, if_pos h]
          have h' := h.1
          simp only [Bool.or_eq_false_iff] at h'
          show skipS false (c :: t) = 0
          exact skipS_no h.2 h'.2 t
        · rw [e, if_neg h, Nat.add_comm, List.drop_succ_cons]
          exact ih _ t (by simp at hl; omega)
  exact aux l.length false l (Nat.le_refl _)
theorem scanAt_skip (p : Nat) (l : List UInt8) : scanAt p l = scanAt (p + skipS false l) (l.drop (skipS false l)) := by
  rw [scanAt_eq p l, scanAt_eq (p + skipS false l)]
  rw [skip_skip]
  simp only [List.drop_zero, Nat.add_zero, Nat.zero_add, List.length_drop]
  by_cases h1 : l.length ≤ skipS false l
  · rw [if_pos h1, if_pos (by omega)]
  · have h1' : ¬ l.length - skipS false l ≤ 0 := by omega
    rw [if_neg h1, if_neg h1']
    simp only [List.drop_drop]
theorem SAt.start (s : ByteArray) : SAt s (skipS false s.data.toList) [] := by
  refine ⟨by have := skipS_le false s.data.toList; simpa using this, Nat.zero_le _, skip_skip _, ?_⟩
  rw [Res.app_nil (scanAt_pl _ _)]
  have h := scanAt_skip 0 s.data.toList
  rw [Nat.zero_add] at h
  exact h
theorem SAt.bad {s : ByteArray} {p : Nat} {T : List Tk} (h : SAt s p T) (hp : p < s.size) (hb : (oneL (s.data.toList.drop p)).bad ≠ 0) : scanAt 0 s.data.toList = ⟨(oneL (s.data.toList.drop p)).bad, p, []⟩ := by
  obtain ⟨h1, -, h2, h3⟩ := h
  rw [h3, scanAt_eq, h2]
  simp only [List.drop_zero, Nat.add_zero]
  rw [if_neg (by simp; omega), if_neg hb]
  unfold Res.app
  rw [if_neg hb]
theorem SAt.done {s : ByteArray} {p : Nat} {T : List Tk} (h : SAt s p T) (hp : ¬ p < s.size) : scanAt 0 s.data.toList = ⟨0, 0, T⟩ := by
  obtain ⟨h1, -, h2, h3⟩ := h
  rw [h3, scanAt_eq, if_pos (by simp; omega)]
  simp [Res.app]
theorem drop_ne {s : ByteArray} {p : Nat} (hp : p < s.size) : s.data.toList.drop p ≠ [] := by
  intro e
  have := congrArg List.length e
  simp at this
  omega
theorem SAt.next {s : ByteArray} {p : Nat} {T : List Tk} (h : SAt s p T) (hp : p < s.size) (hb : (oneL (s.data.toList.drop p)).bad = 0) {p1 : Nat} (e1 : p1 = p + (oneL (s.data.toList.drop p)).len) :
    p1 ≤ s.size ∧ p < p1 ∧ SAt s (p1 + skipS false (s.data.toList.drop p1)) (T ++ [(oneL (s.data.toList.drop p)).tok.put p]) := by
  obtain ⟨h1, h4, h2, h3⟩ := h
  have hl := oneL_len (drop_ne hp) hb
  have hl2 := hl.2
  simp at hl2
  have hp1 : p1 ≤ s.size := by omega
  have hk := skipS_le false (s.data.toList.drop p1)
  simp at hk
  refine ⟨hp1, by omega, by omega, by simp; omega, ?_, ?_⟩
  · have := skip_skip (s.data.toList.drop p1)
    rw [List.drop_drop] at this
    exact this
  · rw [h3, scanAt_eq, h2]
    simp only [List.drop_zero, Nat.add_zero, Nat.zero_add]
    rw [if_neg (by simp; omega), if_pos hb, Res.app_cons, List.drop_drop, ← e1, scanAt_skip p1, List.drop_drop]
end Go.Proofs.YtbbmihojfcofdaaGreatDoor
