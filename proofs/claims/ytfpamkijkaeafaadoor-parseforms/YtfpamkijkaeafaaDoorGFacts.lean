/-
  What is parsed: names, terms, literals, rules, of which forms. Plain facts; no walk.
-/
import Derived.Test.YtfpamkijkaeafaaDoorGWhole
namespace Go.Proofs.YtfpamkijkaeafaaDoor
set_option linter.unusedSimpArgs false
set_option linter.unusedVariables false
set_option linter.unusedSectionVars false
set_option maxRecDepth 100000
open Go.RowKit

def TmOk (t : Tm) : Prop :=
  (t.v = true ∧ (∃ h : 0 < t.name.size, greatQ t.name[0] = true) ∧ t.k = false ∧ t.s = ⟨#[]⟩ ∧ t.n = 0) ∨ (t.v = false ∧ t.name = ⟨#[]⟩ ∧ ((t.k = true ∧ t.n = 0) ∨ (t.k = false ∧ t.s = ⟨#[]⟩)))
def NmOk (p : ByteArray) : Prop := (∃ h : 0 < p.size, smallQ p[0] = true) ∧ p.data.toList ≠ [110, 111, 116] ∧ p.size ≤ 32
def AmOk (a : Am) : Prop := NmOk a.p ∧ a.args.length ≤ 6 ∧ ∀ t ∈ a.args, TmOk t
def LtOk (l : Lt) : Prop := (l.kind = 3 ∧ l.op.data.toList ≠ [] ∧ TmOk l.l ∧ TmOk l.r ∧ l.atom = Am.zero) ∨ ((l.kind = 1 ∨ l.kind = 2) ∧ l.op = ⟨#[]⟩ ∧ AmOk l.atom ∧ l.l = Tm.zero ∧ l.r = Tm.zero)
def RuOk (r : Ru) : Prop := AmOk r.head ∧ r.body.length ≤ 8 ∧ ∀ l ∈ r.body, LtOk l
def PrOk (g : Pr) : Prop := g.decls.length ≤ 400 ∧ g.rules.length ≤ 400 ∧ ∀ r ∈ g.rules, RuOk r
/-- Tokens such as are scanned. -/
def Kinds (L : List Tk) : Prop := ∀ t ∈ L, KindOk t
theorem Kinds.tail {L : List Tk} (h : Kinds L) : Kinds L.tail := fun t ht => h t (List.mem_of_mem_tail ht)
theorem Kinds.at {L : List Tk} (h : Kinds L) {e : Int} {k : Nat} (hk : (atT e L k).kind ≠ 0) : KindOk (atT e L k) := by
  have hl := at_ne hk
  have e' : atT e L k = L[k] := by simp [atT, List.getElem?_eq_getElem hl]
  rw [e']
  exact h _ (List.getElem_mem hl)
theorem nm_ok {t : Tk} (h : KindOk t) (hn : isNm t = true) : NmOk t.s := by
  simp only [isNm, Bool.and_eq_true, Bool.not_eq_true', beq_iff_eq] at hn
  obtain ⟨⟨h1, h2⟩, h3⟩ := hn
  rcases h with ⟨-, h, -⟩ | ⟨-, -, -, hz, hs⟩ | ⟨h, -⟩ | ⟨h, -⟩ | ⟨h, -⟩
  · rw [h] at h2; cases h2
  · refine ⟨hs, ?_, hz⟩
    intro e
    rw [e] at h3
    revert h3; decide
  · omega
  · omega
  · omega
theorem nameP_ok (e : Int) {L : List Tk} (h : Kinds L) : Kinds (nameP e L).rest ∧ ((nameP e L).bad = 0 → NmOk (nameP e L).val) := by
  unfold nameP
  split
  · rename_i hn
    exact ⟨h.tail, fun _ => nm_ok (h.at (by rw [nm_kind hn]; decide)) hn⟩
  · exact ⟨h, fun hb => by cases hb⟩
theorem termT_ok {t : Tk} (h : KindOk t) {x : Tm} (hx : termT t = some x) : TmOk x := by
  unfold termT at hx
  split at hx
  · rename_i h2
    cases hx
    rcases h with ⟨h, -⟩ | ⟨h, -⟩ | ⟨-, -, -, -, hg⟩ | ⟨h, -⟩ | ⟨h, -⟩
    · omega
    · omega
    · exact .inl ⟨rfl, hg, rfl, rfl, rfl⟩
    · omega
    · omega
  split at hx
  · cases hx; exact .inr ⟨rfl, rfl, .inr ⟨rfl, rfl⟩⟩
  split at hx
  · cases hx; exact .inr ⟨rfl, rfl, .inl ⟨rfl, rfl⟩⟩
  · cases hx
theorem termP_ok (e : Int) {L : List Tk} (h : Kinds L) : Kinds (termP e L).rest ∧ ((termP e L).bad = 0 → TmOk (termP e L).val) := by
  unfold termP
  cases hx : termT (atT e L 0) with
  | none => exact ⟨h, fun hb => by cases hb⟩
  | some x => exact ⟨h.tail, fun _ => termT_ok (h.at (termT_kind hx)) hx⟩
theorem listP_ok {α : Type} {rd : List Tk → Rd α} {e : Int} {Q : α → Prop} (hr : ∀ L, Kinds L → Kinds (rd L).rest ∧ ((rd L).bad = 0 → Q (rd L).val)) : ∀ (n : Nat) (acc : List α) (L : List Tk), Kinds L → (∀ a ∈ acc, Q a) → Kinds (listP rd e n acc L).rest ∧ ((listP rd e n acc L).bad = 0 → (∀ a ∈ (listP rd e n acc L).val, Q a) ∧ (listP rd e n acc L).val.length ≤ acc.length + n) := by
  intro n
  induction n with
  | zero => intro acc L hL _; exact ⟨hL, fun h => by cases h⟩
  | succ n ih =>
    intro acc L hL hA
    obtain ⟨h1, h2⟩ := hr L hL
    unfold listP
    split
    · rename_i hb
      have hA' : ∀ a ∈ acc ++ [(rd L).val], Q a := fun a ha => by
        rcases List.mem_append.1 ha with ha | ha
        · exact hA a ha
        · simp at ha; rw [ha]; exact h2 hb
      split
      · obtain ⟨i1, i2⟩ := ih (acc ++ [(rd L).val]) (rd L).rest.tail h1.tail hA'
        refine ⟨i1, fun h => ⟨(i2 h).1, ?_⟩⟩
        have := (i2 h).2
        simp at this
        omega
      · exact ⟨h1, fun _ => ⟨hA', by simp⟩⟩
    · rename_i hb
      exact ⟨h1, fun h => absurd h hb⟩
theorem endP_ok {α : Type} {Q : α → Prop} (m : List UInt8) (e : Int) {v z : α} {L : List Tk} (h : Kinds L) (hv : Q v) : Kinds (endP m e v z L).rest ∧ ((endP m e v z L).bad = 0 → Q (endP m e v z L).val) := by
  unfold endP
  split
  · exact ⟨h.tail, fun _ => hv⟩
  · exact ⟨h, fun hb => by cases hb⟩
theorem atomP_ok (e : Int) {L : List Tk} (h : Kinds L) : Kinds (atomP e L).rest ∧ ((atomP e L).bad = 0 → AmOk (atomP e L).val) := by
  obtain ⟨h1, h2⟩ := nameP_ok e h
  unfold atomP
  split
  · rename_i hb
    split
    · obtain ⟨i1, i2⟩ := listP_ok (e := e) (Q := TmOk) (fun L hL => termP_ok e hL) 6 [] (nameP e L).rest.tail h1.tail (by simp)
      unfold argsP
      split
      · rename_i hq
        obtain ⟨j1, j2⟩ := i2 hq
        simp at j2
        exact endP_ok [41] e i1 ⟨h2 hb, j2, j1⟩
      · rename_i hq
        exact ⟨i1, fun h => absurd h hq⟩
    · exact ⟨h1, fun _ => ⟨h2 hb, by simp, by simp⟩⟩
  · rename_i hb
    exact ⟨h1, fun h => absurd h hb⟩
theorem litA_ok {k : Int} (hk : k = 1 ∨ k = 2) {r : Rd Am} (h : Kinds r.rest ∧ (r.bad = 0 → AmOk r.val)) : Kinds (litA k r).rest ∧ ((litA k r).bad = 0 → LtOk (litA k r).val) := by
  unfold litA
  split
  · rename_i hb
    exact ⟨h.1, fun _ => .inr ⟨hk, rfl, h.2 hb, rfl, rfl⟩⟩
  · rename_i hb
    exact ⟨h.1, fun h => absurd h hb⟩
theorem op_ne {t : Tk} (h : isOp t = true) : t.s.data.toList ≠ [] := by
  simp only [isOp, List.any_eq_true] at h
  obtain ⟨m, hm, h⟩ := h
  simp only [isMk, Bool.and_eq_true, beq_iff_eq] at h
  rw [h.2]
  have : ∀ m ∈ opsL, m ≠ [] := by decide
  exact this m hm
theorem cmpP_ok (e : Int) {L : List Tk} (h : Kinds L) : Kinds (cmpP e L).rest ∧ ((cmpP e L).bad = 0 → LtOk (cmpP e L).val) := by
  obtain ⟨h1, h2⟩ := termP_ok e h
  unfold cmpP
  split
  · rename_i hb
    split
    · rename_i ho
      obtain ⟨i1, i2⟩ := termP_ok e h1.tail
      unfold cmpR
      split
      · rename_i hq
        exact ⟨i1, fun _ => .inl ⟨rfl, op_ne ho, h2 hb, i2 hq, rfl⟩⟩
      · rename_i hq
        exact ⟨i1, fun h => absurd h hq⟩
    · exact ⟨h1, fun hb => by cases hb⟩
  · rename_i hb
    exact ⟨h1, fun h => absurd h hb⟩
theorem litP_ok (e : Int) {L : List Tk} (h : Kinds L) : Kinds (litP e L).rest ∧ ((litP e L).bad = 0 → LtOk (litP e L).val) := by
  unfold litP
  split
  · exact litA_ok (.inr rfl) (atomP_ok e h.tail)
  split
  · exact litA_ok (.inl rfl) (atomP_ok e h)
  · exact cmpP_ok e h
theorem ruleP_ok (e : Int) {L : List Tk} (h : Kinds L) : Kinds (ruleP e L).rest ∧ ((ruleP e L).bad = 0 → RuOk (ruleP e L).val) := by
  obtain ⟨h1, h2⟩ := atomP_ok e h
  unfold ruleP
  split
  · rename_i hb
    split
    · obtain ⟨i1, i2⟩ := listP_ok (e := e) (Q := LtOk) (fun L hL => litP_ok e hL) 8 [] (atomP e L).rest.tail h1.tail (by simp)
      unfold bodyP
      split
      · rename_i hq
        obtain ⟨j1, j2⟩ := i2 hq
        simp at j2
        exact endP_ok [46] e i1 ⟨h2 hb, j2, j1⟩
      · rename_i hq
        exact ⟨i1, fun h => absurd h hq⟩
    · exact endP_ok [46] e h1 ⟨h2 hb, by simp, by simp⟩
  · rename_i hb
    exact ⟨h1, fun h => absurd h hb⟩
theorem declP_ok (e : Int) {L : List Tk} (h : Kinds L) : Kinds (declP e L).rest := by
  obtain ⟨h1, -⟩ := nameP_ok e h
  unfold declP
  split
  · unfold declN
    split
    · split
      · exact h1.tail
      · exact (endP_ok (Q := fun _ => True) [46] e h1.tail.tail trivial).1
    · exact h1.tail
  · exact h1
theorem clauseP_ok (e : Int) {g : Pr} {L : List Tk} (h : Kinds L) (hg : PrOk g) : Kinds (clauseP e g L).rest ∧ ((clauseP e g L).bad = 0 → PrOk (clauseP e g L).val) := by
  obtain ⟨g1, g2, g3⟩ := hg
  unfold clauseP
  split
  · split
    · exact ⟨h, fun hb => by cases hb⟩
    · exact ⟨declP_ok e h, fun _ => ⟨by simp; omega, g2, g3⟩⟩
  · split
    · exact ⟨h, fun hb => by cases hb⟩
    · obtain ⟨h1, h2⟩ := ruleP_ok e h
      refine ⟨h1, fun hb => ⟨g1, by simp; omega, fun r hr => ?_⟩⟩
      rcases List.mem_append.1 hr with hr | hr
      · exact g3 r hr
      · simp at hr; rw [hr]; exact h2 hb
theorem progF_ok (e : Int) : ∀ (f : Nat) (g : Pr) (L : List Tk), Kinds L → PrOk g → PrOk (progF e f g L).val := by
  intro f
  induction f with
  | zero => intro g L _ hg; exact hg
  | succ f ih =>
    intro g L hL hg
    unfold progF
    split
    · exact hg
    · obtain ⟨h1, h2⟩ := clauseP_ok e (g := g) hL hg
      split
      · rename_i hb
        exact ih _ _ h1 (h2 hb)
      · exact ⟨by simp [Pr.zero], by simp [Pr.zero], by simp [Pr.zero]⟩
theorem prZero_ok : PrOk Pr.zero := ⟨by simp [Pr.zero], by simp [Pr.zero], by simp [Pr.zero]⟩
theorem parseR_ok (s : ByteArray) : PrOk (parseR s).g := by
  unfold parseR
  split
  · unfold parseL
    split
    · exact progF_ok _ _ _ _ (fun t ht => scan_kind ht) prZero_ok
    · exact prZero_ok
  · exact prZero_ok
theorem parseR_bad {s : ByteArray} (h : (parseR s).bad ≠ 0) : (parseR s).g = Pr.zero := by
  unfold parseR at h ⊢
  split
  · rename_i h1
    rw [if_pos h1] at h
    unfold parseL at h ⊢
    split
    · rename_i h2
      rw [if_pos h2] at h
      exact absurd rfl h
    · rfl
  · rfl
end Go.Proofs.YtfpamkijkaeafaaDoor
