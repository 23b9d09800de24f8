/-
  What a text's tokens are as a program: terms, atoms, literals, rules, declarations, and how they are read. Plain facts; no walk.
-/
import Derived.Test.YtbbmihojfcofdaaGreatDoorKTok
import Derived.Test.YtbbmihojfcofdaaGreatDoorTextP
namespace Go.Proofs.YtbbmihojfcofdaaGreatDoor
set_option linter.unusedSimpArgs false
set_option linter.unusedVariables false
set_option linter.unusedSectionVars false
set_option maxRecDepth 100000
open Go.RowKit

/-- A term: is it a variable, its name, and its value. -/
structure Tm where
  v : Bool
  name : ByteArray
  k : Bool
  s : ByteArray
  n : Int
def Tm.zero : Tm := ⟨false, ⟨#[]⟩, false, ⟨#[]⟩, 0⟩
def Tm.cells (t : Tm) : List Value := [.bool t.v, .string t.name, .bool t.k, .string t.s, .int .i64 t.n]
structure Am where
  p : ByteArray
  args : List Tm
def Am.zero : Am := ⟨⟨#[]⟩, []⟩
structure Lt where
  kind : Int
  atom : Am
  op : ByteArray
  l : Tm
  r : Tm
def Lt.zero : Lt := ⟨0, Am.zero, ⟨#[]⟩, Tm.zero, Tm.zero⟩
structure Ru where
  head : Am
  body : List Lt
def Ru.zero : Ru := ⟨Am.zero, []⟩
structure De where
  p : ByteArray
  ar : Int
def De.zero : De := ⟨⟨#[]⟩, 0⟩
def De.cells (d : De) : List Value := [.string d.p, .int .i64 d.ar]
structure Pr where
  decls : List De
  rules : List Ru
def Pr.zero : Pr := ⟨[], []⟩

/-- What was read: an error's number (0: none), what it is, the tokens that are left. -/
structure Rd (α : Type) where
  bad : Nat
  val : α
  rest : List Tk

/-- The token so many places on; of none its kind is 0, its place the text's end. -/
def atT (e : Int) (L : List Tk) (k : Nat) : Tk := (L[k]?).getD ⟨0, ⟨#[]⟩, 0, false, e⟩
def isMk (m : List UInt8) (t : Tk) : Bool := (t.kind == 4) && (t.s.data.toList == m)
def isNg (t : Tk) : Bool := (t.kind == 1) && !t.q && (t.s.data.toList == [110, 111, 116])
def isNm (t : Tk) : Bool := (t.kind == 1) && !t.q && plainL t.s.data.toList
def opsL : List (List UInt8) := [[61], [33, 61], [60], [60, 61], [62], [62, 61]]
def isOp (t : Tk) : Bool := opsL.any (fun m => isMk m t)

def nameP (e : Int) (L : List Tk) : Rd ByteArray := if isNm (atT e L 0) = true then ⟨0, (atT e L 0).s, L.tail⟩ else ⟨2, ⟨#[]⟩, L⟩
/-- A token as a term; none: it is no term. -/
def termT (t : Tk) : Option Tm :=
  if t.kind = 2 then some ⟨true, t.s, false, ⟨#[]⟩, 0⟩
  else if t.kind = 3 then some ⟨false, ⟨#[]⟩, false, ⟨#[]⟩, t.n⟩
  else if t.kind = 1 ∧ isNg t = false then some ⟨false, ⟨#[]⟩, true, t.s, 0⟩ else none
def termO (o : Option Tm) (L : List Tk) : Rd Tm :=
  match o with
  | some x => ⟨0, x, L.tail⟩
  | none => ⟨2, Tm.zero, L⟩
def termP (e : Int) (L : List Tk) : Rd Tm := termO (termT (atT e L 0)) L
/-- One or more, with commas between; no more than so many. -/
def listP {α : Type} (rd : List Tk → Rd α) (e : Int) : Nat → List α → List Tk → Rd (List α)
  | 0, _, L => ⟨4, [], L⟩
  | n + 1, acc, L =>
    if (rd L).bad = 0 then
      if isMk [44] (atT e (rd L).rest 0) = true then listP rd e n (acc ++ [(rd L).val]) (rd L).rest.tail
      else ⟨0, acc ++ [(rd L).val], (rd L).rest⟩
    else ⟨(rd L).bad, [], (rd L).rest⟩
/-- Behind something a mark. -/
def endP {α : Type} (m : List UInt8) (e : Int) (v z : α) (L : List Tk) : Rd α := if isMk m (atT e L 0) = true then ⟨0, v, L.tail⟩ else ⟨2, z, L⟩
def argsP (e : Int) (p : ByteArray) (r : Rd (List Tm)) : Rd Am := if r.bad = 0 then endP [41] e ⟨p, r.val⟩ Am.zero r.rest else ⟨r.bad, Am.zero, r.rest⟩
def atomP (e : Int) (L : List Tk) : Rd Am :=
  if (nameP e L).bad = 0 then
    if isMk [40] (atT e (nameP e L).rest 0) = true then argsP e (nameP e L).val (listP (termP e) e 6 [] (nameP e L).rest.tail)
    else ⟨0, ⟨(nameP e L).val, []⟩, (nameP e L).rest⟩
  else ⟨(nameP e L).bad, Am.zero, (nameP e L).rest⟩
def litA (k : Int) (r : Rd Am) : Rd Lt := if r.bad = 0 then ⟨0, ⟨k, r.val, ⟨#[]⟩, Tm.zero, Tm.zero⟩, r.rest⟩ else ⟨r.bad, Lt.zero, r.rest⟩
def cmpR (l : Tm) (op : ByteArray) (r : Rd Tm) : Rd Lt := if r.bad = 0 then ⟨0, ⟨3, Am.zero, op, l, r.val⟩, r.rest⟩ else ⟨r.bad, Lt.zero, r.rest⟩
def cmpP (e : Int) (L : List Tk) : Rd Lt :=
  if (termP e L).bad = 0 then
    if isOp (atT e (termP e L).rest 0) = true then cmpR (termP e L).val (atT e (termP e L).rest 0).s (termP e (termP e L).rest.tail)
    else ⟨2, Lt.zero, (termP e L).rest⟩
  else ⟨(termP e L).bad, Lt.zero, (termP e L).rest⟩
def litP (e : Int) (L : List Tk) : Rd Lt :=
  if isNg (atT e L 0) = true then litA 2 (atomP e L.tail)
  else if isNm (atT e L 0) = true ∧ isOp (atT e L 1) = false then litA 1 (atomP e L) else cmpP e L
def bodyP (e : Int) (h : Am) (r : Rd (List Lt)) : Rd Ru := if r.bad = 0 then endP [46] e ⟨h, r.val⟩ Ru.zero r.rest else ⟨r.bad, Ru.zero, r.rest⟩
def ruleP (e : Int) (L : List Tk) : Rd Ru :=
  if (atomP e L).bad = 0 then
    if isMk [58, 45] (atT e (atomP e L).rest 0) = true then bodyP e (atomP e L).val (listP (litP e) e 8 [] (atomP e L).rest.tail)
    else endP [46] e ⟨(atomP e L).val, []⟩ Ru.zero (atomP e L).rest
  else ⟨(atomP e L).bad, Ru.zero, (atomP e L).rest⟩
def declN (e : Int) (p : ByteArray) (L : List Tk) : Rd De :=
  if (atT e L 0).kind = 3 then
    if (atT e L 0).n < 0 ∨ 6 < (atT e L 0).n then ⟨4, De.zero, L⟩ else endP [46] e ⟨p, (atT e L 0).n⟩ De.zero L.tail
  else ⟨2, De.zero, L⟩
def declP (e : Int) (L : List Tk) : Rd De :=
  if (nameP e L).bad = 0 then declN e (nameP e L).val (nameP e L).rest.tail else ⟨(nameP e L).bad, De.zero, (nameP e L).rest⟩
/-- One clause more. -/
def clauseP (e : Int) (g : Pr) (L : List Tk) : Rd Pr :=
  if isMk [47] (atT e L 1) = true then
    if g.decls.length = 400 then ⟨4, g, L⟩ else ⟨(declP e L).bad, ⟨g.decls ++ [(declP e L).val], g.rules⟩, (declP e L).rest⟩
  else if g.rules.length = 400 then ⟨4, g, L⟩ else ⟨(ruleP e L).bad, ⟨g.decls, g.rules ++ [(ruleP e L).val]⟩, (ruleP e L).rest⟩
def progF (e : Int) : Nat → Pr → List Tk → Rd Pr
  | 0, g, _ => ⟨0, g, []⟩
  | f + 1, g, L => if L = [] then ⟨0, g, []⟩ else if (clauseP e g L).bad = 0 then progF e f (clauseP e g L).val (clauseP e g L).rest else ⟨(clauseP e g L).bad, Pr.zero, (clauseP e g L).rest⟩
def progP (e : Int) (L : List Tk) : Rd Pr := progF e L.length Pr.zero L
/-- All that was read, with nothing behind it. -/
def wholeP {α : Type} (r : Rd α) : Nat := if r.bad = 0 then (if r.rest = [] then 0 else 2) else r.bad

theorem tail_len {L : List Tk} (h : L ≠ []) : L.tail.length < L.length := by
  cases L with
  | nil => exact absurd rfl h
  | cons a l => simp
theorem atT_nil (e : Int) (k : Nat) : atT e [] k = ⟨0, ⟨#[]⟩, 0, false, e⟩ := by simp [atT]
theorem at_ne {e : Int} {L : List Tk} {k : Nat} (h : (atT e L k).kind ≠ 0) : k < L.length := by
  unfold atT at h
  cases hk : L[k]? with
  | none => rw [hk] at h; exact absurd rfl h
  | some t => exact (List.getElem?_eq_some_iff.1 hk).1
theorem mk_kind {m : List UInt8} {t : Tk} (h : isMk m t = true) : t.kind = 4 := by simp [isMk] at h; exact h.1
theorem nm_kind {t : Tk} (h : isNm t = true) : t.kind = 1 := by simp [isNm] at h; exact h.1.1
theorem ng_kind {t : Tk} (h : isNg t = true) : t.kind = 1 := by simp [isNg] at h; exact h.1.1
theorem op_kind {t : Tk} (h : isOp t = true) : t.kind = 4 := by
  simp only [isOp, List.any_eq_true] at h
  obtain ⟨m, -, h⟩ := h
  exact mk_kind h
theorem at_lt {e : Int} {L : List Tk} {k : Nat} {c : Int} (h : (atT e L k).kind = c) (hc : c ≠ 0) : k < L.length := at_ne (by rw [h]; exact hc)
theorem ne_of_lt {L : List Tk} {k : Nat} (h : k < L.length) : L ≠ [] := by rintro rfl; simp at h
theorem tail_of_lt {L : List Tk} {k : Nat} (h : k < L.length) : L.tail.length < L.length := tail_len (ne_of_lt h)
theorem tail_le (L : List Tk) : L.tail.length ≤ L.length := by simp
theorem termT_kind {t : Tk} {x : Tm} (h : termT t = some x) : t.kind ≠ 0 := by
  unfold termT at h
  split at h
  · omega
  split at h
  · omega
  split at h
  · omega
  · cases h

/-- What is read takes a token at least; what isn't takes none back. -/
theorem nameP_len (e : Int) (L : List Tk) : (nameP e L).rest.length ≤ L.length ∧ ((nameP e L).bad = 0 → (nameP e L).rest.length < L.length) := by
  unfold nameP
  split
  · rename_i h
    have := tail_of_lt (at_lt (nm_kind h) (by decide))
    exact ⟨by simp, fun _ => this⟩
  · exact ⟨Nat.le_refl _, fun h => by cases h⟩
theorem termP_len (e : Int) (L : List Tk) : (termP e L).rest.length ≤ L.length ∧ ((termP e L).bad = 0 → (termP e L).rest.length < L.length) := by
  unfold termP
  cases h : termT (atT e L 0) with
  | none => exact ⟨Nat.le_refl _, fun h => by cases h⟩
  | some x =>
    have := tail_of_lt (at_ne (termT_kind h))
    exact ⟨by simp [termO], fun _ => this⟩
theorem listP_len {α : Type} {rd : List Tk → Rd α} {e : Int} (hr : ∀ L, (rd L).rest.length ≤ L.length ∧ ((rd L).bad = 0 → (rd L).rest.length < L.length)) : ∀ (n : Nat) (acc : List α) (L : List Tk), (listP rd e n acc L).rest.length ≤ L.length ∧ ((listP rd e n acc L).bad = 0 → (listP rd e n acc L).rest.length < L.length) := by
  intro n
  induction n with
  | zero => intro acc L; exact ⟨Nat.le_refl _, fun h => by cases h⟩
  | succ n ih =>
    intro acc L
    obtain ⟨h1, h2⟩ := hr L
    unfold listP
    split
    · rename_i hb
      have h3 := h2 hb
      split
      · obtain ⟨i1, i2⟩ := ih (acc ++ [(rd L).val]) (rd L).rest.tail
        have := tail_le (rd L).rest
        exact ⟨by omega, fun h => by have := i2 h; omega⟩
      · exact ⟨h1, fun _ => h3⟩
    · rename_i hb
      exact ⟨h1, fun h => absurd h hb⟩
theorem endP_len {α : Type} (m : List UInt8) (e : Int) (v z : α) (L : List Tk) : (endP m e v z L).rest.length ≤ L.length := by
  unfold endP
  split
  · exact tail_le L
  · exact Nat.le_refl _
theorem atomP_len (e : Int) (L : List Tk) : (atomP e L).rest.length ≤ L.length ∧ ((atomP e L).bad = 0 → (atomP e L).rest.length < L.length) := by
  obtain ⟨h1, h2⟩ := nameP_len e L
  unfold atomP
  split
  · rename_i hb
    have h3 := h2 hb
    split
    · obtain ⟨i1, -⟩ := listP_len (e := e) (termP_len e) 6 [] (nameP e L).rest.tail
      have i3 := tail_le (nameP e L).rest
      unfold argsP
      split
      · have := endP_len [41] e (⟨(nameP e L).val, (listP (termP e) e 6 [] (nameP e L).rest.tail).val⟩ : Am) Am.zero (listP (termP e) e 6 [] (nameP e L).rest.tail).rest
        exact ⟨by omega, fun _ => by omega⟩
      · exact ⟨by show (listP (termP e) e 6 [] (nameP e L).rest.tail).rest.length ≤ _; omega, fun _ => by show (listP (termP e) e 6 [] (nameP e L).rest.tail).rest.length < _; omega⟩
    · exact ⟨h1, fun _ => h3⟩
  · rename_i hb
    exact ⟨h1, fun h => absurd h hb⟩
theorem litA_rest (k : Int) (r : Rd Am) : (litA k r).rest = r.rest ∧ (litA k r).bad = r.bad := by
  unfold litA
  split
  · rename_i h; exact ⟨rfl, h.symm⟩
  · exact ⟨rfl, rfl⟩
theorem cmpR_rest (l : Tm) (op : ByteArray) (r : Rd Tm) : (cmpR l op r).rest = r.rest ∧ (cmpR l op r).bad = r.bad := by
  unfold cmpR
  split
  · rename_i h; exact ⟨rfl, h.symm⟩
  · exact ⟨rfl, rfl⟩
theorem cmpP_len (e : Int) (L : List Tk) : (cmpP e L).rest.length ≤ L.length ∧ ((cmpP e L).bad = 0 → (cmpP e L).rest.length < L.length) := by
  obtain ⟨h1, h2⟩ := termP_len e L
  unfold cmpP
  split
  · rename_i hb
    have h3 := h2 hb
    split
    · obtain ⟨i1, -⟩ := termP_len e (termP e L).rest.tail
      have i3 := tail_le (termP e L).rest
      rw [(cmpR_rest _ _ _).1]
      exact ⟨by omega, fun _ => by omega⟩
    · exact ⟨h1, fun h => by cases h⟩
  · rename_i hb
    exact ⟨h1, fun h => absurd h hb⟩
theorem litP_len (e : Int) (L : List Tk) : (litP e L).rest.length ≤ L.length ∧ ((litP e L).bad = 0 → (litP e L).rest.length < L.length) := by
  unfold litP
  split
  · rename_i hg
    obtain ⟨i1, -⟩ := atomP_len e L.tail
    have := tail_of_lt (at_lt (ng_kind hg) (by decide))
    rw [(litA_rest _ _).1]
    exact ⟨by omega, fun _ => by omega⟩
  split
  · rw [(litA_rest _ _).1, (litA_rest _ _).2]
    exact atomP_len e L
  · exact cmpP_len e L
theorem ruleP_len (e : Int) (L : List Tk) : (ruleP e L).rest.length ≤ L.length ∧ ((ruleP e L).bad = 0 → (ruleP e L).rest.length < L.length) := by
  obtain ⟨h1, h2⟩ := atomP_len e L
  unfold ruleP
  split
  · rename_i hb
    have h3 := h2 hb
    split
    · obtain ⟨i1, -⟩ := listP_len (e := e) (litP_len e) 8 [] (atomP e L).rest.tail
      have i3 := tail_le (atomP e L).rest
      unfold bodyP
      split
      · have := endP_len [46] e (⟨(atomP e L).val, (listP (litP e) e 8 [] (atomP e L).rest.tail).val⟩ : Ru) Ru.zero (listP (litP e) e 8 [] (atomP e L).rest.tail).rest
        exact ⟨by omega, fun _ => by omega⟩
      · exact ⟨by show (listP (litP e) e 8 [] (atomP e L).rest.tail).rest.length ≤ _; omega, fun _ => by show (listP (litP e) e 8 [] (atomP e L).rest.tail).rest.length < _; omega⟩
    · have := endP_len [46] e (⟨(atomP e L).val, []⟩ : Ru) Ru.zero (atomP e L).rest
      exact ⟨by omega, fun _ => by omega⟩
  · rename_i hb
    exact ⟨h1, fun h => absurd h hb⟩
theorem declN_len (e : Int) (p : ByteArray) (L : List Tk) : (declN e p L).rest.length ≤ L.length := by
  unfold declN
  split
  · split
    · exact Nat.le_refl _
    · exact Nat.le_trans (endP_len _ _ _ _ _) (tail_le L)
  · exact Nat.le_refl _
theorem declP_len (e : Int) (L : List Tk) : (declP e L).rest.length ≤ L.length ∧ ((declP e L).bad = 0 → (declP e L).rest.length < L.length) := by
  obtain ⟨h1, h2⟩ := nameP_len e L
  unfold declP
  split
  · rename_i hb
    have h3 := h2 hb
    have i1 := declN_len e (nameP e L).val (nameP e L).rest.tail
    have i2 := tail_le (nameP e L).rest
    exact ⟨by omega, fun _ => by omega⟩
  · rename_i hb
    exact ⟨h1, fun h => absurd h hb⟩
theorem clauseP_len (e : Int) (g : Pr) (L : List Tk) : (clauseP e g L).rest.length ≤ L.length ∧ ((clauseP e g L).bad = 0 → (clauseP e g L).rest.length < L.length) := by
  unfold clauseP
  split
  · split
    · exact ⟨Nat.le_refl _, fun h => by cases h⟩
    · exact declP_len e L
  · split
    · exact ⟨Nat.le_refl _, fun h => by cases h⟩
    · exact ruleP_len e L
/-- With a clause fewer to read the program is what it was. -/
theorem progF_fuel (e : Int) : ∀ (f f' : Nat) (g : Pr) (L : List Tk), L.length ≤ f → L.length ≤ f' → progF e f g L = progF e f' g L := by
  intro f
  induction f with
  | zero =>
    intro f' g L h h'
    have : L = [] := List.length_eq_zero_iff.1 (by omega)
    subst this
    cases f' with
    | zero => rfl
    | succ f' => simp [progF]
  | succ f ih =>
    intro f' g L h h'
    cases f' with
    | zero =>
      have : L = [] := List.length_eq_zero_iff.1 (by omega)
      subst this
      simp [progF]
    | succ f' =>
      unfold progF
      by_cases h0 : L = []
      · rw [if_pos h0, if_pos h0]
      rw [if_neg h0, if_neg h0]
      by_cases hb : (clauseP e g L).bad = 0
      · rw [if_pos hb, if_pos hb]
        have := (clauseP_len e g L).2 hb
        exact ih f' _ _ (by omega) (by omega)
      · rw [if_neg hb, if_neg hb]
/-- The program that the tokens L are, behind g. -/
def progG (e : Int) (g : Pr) (L : List Tk) : Rd Pr := progF e L.length g L
theorem progG_nil (e : Int) (g : Pr) : progG e g [] = ⟨0, g, []⟩ := rfl
theorem progG_step (e : Int) (g : Pr) {L : List Tk} (h : L ≠ []) : progG e g L = if (clauseP e g L).bad = 0 then progG e (clauseP e g L).val (clauseP e g L).rest else ⟨(clauseP e g L).bad, Pr.zero, (clauseP e g L).rest⟩ := by
  have hl : L.length = (L.length - 1) + 1 := by
    cases L with
    | nil => exact absurd rfl h
    | cons a l => simp
  show progF e L.length g L = _
  rw [hl, progF, if_neg h]
  by_cases hb : (clauseP e g L).bad = 0
  · rw [if_pos hb, if_pos hb]
    have := (clauseP_len e g L).2 hb
    exact progF_fuel e _ _ _ _ (by omega) (Nat.le_refl _)
  · rw [if_neg hb, if_neg hb]
theorem progP_eq (e : Int) (L : List Tk) : progP e L = progG e Pr.zero L := rfl
end Go.Proofs.YtbbmihojfcofdaaGreatDoor
