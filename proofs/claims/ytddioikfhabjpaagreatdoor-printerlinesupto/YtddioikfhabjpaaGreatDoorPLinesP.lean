/-
  A program's text as lines: each ends in a point, and no line's end stands elsewhere. Plain facts; no walk.
-/
import Derived.Test.YtddioikfhabjpaaGreatDoorPA
namespace Go.Proofs.YtddioikfhabjpaaGreatDoor
set_option linter.unusedSimpArgs false
set_option linter.unusedVariables false
set_option linter.unusedSectionVars false
set_option maxRecDepth 100000
open Go.RowKit

/-- No line's end. -/
def NoNl (l : List UInt8) : Prop := ∀ c ∈ l, c ≠ 10
theorem NoNl.nil : NoNl [] := fun _ h => by simp at h
theorem NoNl.app {a b : List UInt8} (h : NoNl a) (k : NoNl b) : NoNl (a ++ b) := fun c hc => by
  rcases List.mem_append.1 hc with hc | hc
  · exact h c hc
  · exact k c hc
theorem nl_inner {c : UInt8} (h : innerQ c = true) : c ≠ 10 := fun e => by subst e; revert h; decide
theorem nl_figure {c : UInt8} (h : figureQ c = true) : c ≠ 10 := fun e => by subst e; revert h; decide
theorem nl_itoa (n : Int) : NoNl (Lib.itoa n) := by
  obtain ⟨c, t, e, h1, h2⟩ := itoa_form n
  rw [e]
  intro x hx
  rcases List.mem_cons.1 hx with rfl | hx
  · rcases h2 with h2 | ⟨h2, -⟩
    · exact nl_figure h2
    · rw [h2]; decide
  · exact nl_figure (h1 x hx)
theorem nl_esc (l : List UInt8) : NoNl (escL l) := fun c hc => by
  obtain ⟨b, -, hb⟩ := List.mem_flatMap.1 hc
  rcases escC_cases b with ⟨-, e⟩ | ⟨h, -, e⟩ | ⟨h, -, -, e⟩
  · rw [e] at hb; simp at hb; rcases hb with rfl | rfl <;> decide
  · rw [e] at hb; simp at hb; rcases hb with rfl | rfl
    · decide
    · exact h
  · rw [e] at hb; simp at hb; rw [hb]; exact h
theorem nl_plain {l : List UInt8} (h : shortPlain l = true) : NoNl l := by
  obtain ⟨⟨c, u, e, h1, h2, -⟩, -⟩ := small_plain h
  rw [e]
  intro x hx
  rcases List.mem_cons.1 hx with rfl | hx
  · exact nl_inner (by unfold innerQ; rw [h1]; rfl)
  · exact nl_inner (h2 x hx)
theorem nl_great {l : List UInt8} (h : GreatNm l) : NoNl l := by
  obtain ⟨c, u, e, h1, h2, -⟩ := h
  rw [e]
  intro x hx
  rcases List.mem_cons.1 hx with rfl | hx
  · exact nl_inner (by unfold innerQ; rw [h1]; simp)
  · exact nl_inner (h2 x hx)
theorem nl_lit {l : List UInt8} (h : decide (∀ c ∈ l, c ≠ (10 : UInt8)) = true) : NoNl l := fun c hc => (of_decide_eq_true h : ∀ c ∈ l, c ≠ (10 : UInt8)) c hc
theorem nl_term {t : Tm} (h : MayTm t) : NoNl (termTx t) := by
  obtain ⟨-, h⟩ := h
  unfold termTx
  rcases h with ⟨hv, hg, -⟩ | ⟨hv, -⟩
  · rw [hv]; exact nl_great hg
  · rw [hv]
    simp only [Bool.false_eq_true, if_false]
    unfold textL
    split
    · split
      · rename_i hp; exact nl_plain hp
      · unfold quoteL
        intro c hc
        rcases List.mem_cons.1 hc with rfl | hc
        · decide
        · exact ((nl_esc _).app (nl_lit (by decide))) c hc
    · exact nl_itoa _
theorem nl_sep {α : Type} {f : α → List UInt8} : ∀ {X : List α}, (∀ a ∈ X, NoNl (f a)) → NoNl (sepTx f X)
  | [], _ => NoNl.nil
  | [a], h => h a (by simp)
  | a :: b :: r, h => (h a (by simp)).app ((nl_lit (by decide)).app ((nl_lit (by decide)).app (nl_sep (X := b :: r) (fun x hx => h x (by simp at hx ⊢; exact .inr hx)))))
theorem nl_atom {a : Am} (h : MayAm a) : NoNl (atomTx a) := by
  obtain ⟨h1, -, h3⟩ := h
  unfold atomTx argsTx
  refine (nl_plain h1).app ?_
  split
  · exact NoNl.nil
  · exact (nl_lit (by decide)).app ((nl_sep (fun t ht => nl_term (h3 t ht))).app (nl_lit (by decide)))
theorem nl_op {o : ByteArray} (h : o.data.toList ∈ opsL) : NoNl o.data.toList := by
  unfold opsL at h
  simp only [List.mem_cons, List.not_mem_nil, or_false] at h
  rcases h with h | h | h | h | h | h <;> rw [h] <;> exact nl_lit (by decide)
theorem nl_litT {l : Lt} (h : MayLt l) : NoNl (litTx l) := by
  unfold litTx
  rcases h with ⟨hk | hk, -, -, -, ha⟩ | ⟨hk, ho, -, h1, h2⟩
  · rw [if_pos hk]; exact nl_atom ha
  · rw [if_neg (by omega), if_pos hk]; exact (nl_lit (by decide)).app ((nl_lit (by decide)).app (nl_atom ha))
  · rw [if_neg (by omega), if_neg (by omega), if_pos hk]
    exact (nl_term h1).app ((nl_lit (by decide)).app (((nl_op ho).app (nl_lit (by decide))).app (nl_term h2)))
/-- A clause's text ahead of its point. -/
theorem nl_rule {r : Ru} (h : MayRu r) : ∃ x, NoNl x ∧ ruleTx r ++ [10] = x ++ [46, 10] := by
  obtain ⟨h1, -, h3⟩ := h
  refine ⟨atomTx r.head ++ bodyTx r.body, (nl_atom h1).app ?_, by unfold ruleTx; simp⟩
  unfold bodyTx
  split
  · exact NoNl.nil
  · exact (nl_lit (by decide)).app (((nl_lit (by decide)).app (nl_lit (by decide))).app (nl_sep (fun l hl => nl_litT (h3 l hl))))
theorem nl_decl {d : De} (h : MayDe d) : ∃ x, NoNl x ∧ declTx d ++ [10] = x ++ [46, 10] :=
  ⟨d.p.data.toList ++ ([47] ++ Lib.itoa d.ar), (nl_plain h.1).app ((nl_lit (by decide)).app (nl_itoa _)), by unfold declTx; simp⟩

/-- So many lines, each with a point at its end. -/
def Lined (l : List UInt8) (n : Nat) : Prop := ∃ X : List (List UInt8), l = X.flatMap (fun x => x ++ [46, 10]) ∧ (∀ x ∈ X, NoNl x) ∧ X.length = n
theorem Lined.app {a b : List UInt8} {n m : Nat} (h : Lined a n) (k : Lined b m) : Lined (a ++ b) (n + m) := by
  obtain ⟨X, rfl, h1, rfl⟩ := h
  obtain ⟨Y, rfl, k1, rfl⟩ := k
  refine ⟨X ++ Y, by rw [List.flatMap_append], fun x hx => ?_, by simp⟩
  rcases List.mem_append.1 hx with hx | hx
  · exact h1 x hx
  · exact k1 x hx
theorem lined_all {α : Type} {f : α → List UInt8} : ∀ {L : List α}, (∀ a ∈ L, ∃ x, NoNl x ∧ f a ++ [10] = x ++ [46, 10]) → Lined (L.flatMap (fun a => f a ++ [10])) L.length
  | [], _ => ⟨[], rfl, fun _ h => by simp at h, rfl⟩
  | a :: L, h => by
    obtain ⟨x, h1, h2⟩ := h a (by simp)
    have h3 : Lined (f a ++ [10]) 1 := ⟨[x], by simp [h2], fun y hy => by simp at hy; rw [hy]; exact h1, rfl⟩
    have h4 := h3.app (lined_all (L := L) (fun y hy => h y (by simp [hy])))
    rw [List.flatMap_cons, List.length_cons, Nat.add_comm]
    exact h4
theorem lined_prog {g : Pr} (h : MayPr g) : Lined (progTx g) (g.decls.length + g.rules.length) :=
  (lined_all (fun d hd => nl_decl (h.2.2.1 d hd))).app (lined_all (fun r hr => nl_rule (h.2.2.2 r hr)))
/-- How many line ends. -/
def nls (l : List UInt8) : Nat := (l.filter (· == 10)).length
theorem nls_app (a b : List UInt8) : nls (a ++ b) = nls a + nls b := by unfold nls; rw [List.filter_append, List.length_append]
theorem nls_no {l : List UInt8} (h : NoNl l) : nls l = 0 := by
  unfold nls
  rw [List.length_eq_zero_iff, List.filter_eq_nil_iff]
  intro c hc
  simpa using h c hc
theorem Lined.count {l : List UInt8} {n : Nat} (h : Lined l n) : nls l = n := by
  obtain ⟨X, rfl, h1, rfl⟩ := h
  induction X with
  | nil => rfl
  | cons x X ih =>
    have e : nls [46, 10] = 1 := by decide
    rw [List.flatMap_cons, nls_app, nls_app, nls_no (h1 x (by simp)), ih (fun y hy => h1 y (by simp [hy])), e, List.length_cons]
    omega
theorem lined_ends (X : List (List UInt8)) (h1 : ∀ x ∈ X, NoNl x) : ∀ k : Nat, (X.flatMap (fun x => x ++ [46, 10]))[k]? = some 10 → ∃ m, k = m + 1 ∧ (X.flatMap (fun x => x ++ [46, 10]))[m]? = some 46 := by
  induction X with
  | nil => intro k hk; simp at hk
  | cons x X ih =>
    intro k hk
    have hx := h1 x (by simp)
    rw [List.flatMap_cons] at hk ⊢
    have hl : (x ++ [46, 10]).length = x.length + 2 := by simp
    by_cases h0 : k < x.length
    · rw [List.getElem?_append_left (by omega), List.getElem?_append_left h0] at hk
      exact absurd rfl (hx 10 (List.mem_of_getElem? hk))
    by_cases h2 : k < x.length + 2
    · rw [List.getElem?_append_left (by omega), List.getElem?_append_right (by omega)] at hk
      have hk1 : k = x.length + 1 := by
        by_cases h3 : k = x.length
        · rw [h3, Nat.sub_self] at hk; simp at hk
        · omega
      refine ⟨x.length, hk1, ?_⟩
      rw [List.getElem?_append_left (by omega), List.getElem?_append_right (Nat.le_refl _), Nat.sub_self]
      rfl
    · rw [List.getElem?_append_right (by omega), hl] at hk
      obtain ⟨m, e1, e2⟩ := ih (fun y hy => h1 y (by simp [hy])) _ hk
      refine ⟨m + (x.length + 2), by omega, ?_⟩
      rw [List.getElem?_append_right (by omega), hl, Nat.add_sub_cancel]
      exact e2
theorem Lined.ends {l : List UInt8} {n : Nat} (h : Lined l n) (k : Nat) (hk : l[k]? = some 10) : ∃ m, k = m + 1 ∧ l[m]? = some 46 := by
  obtain ⟨X, rfl, h1, -⟩ := h
  exact lined_ends X h1 k hk
theorem nls_take {l : List UInt8} {k : Nat} (hk : k < l.length) : nls (l.take (k + 1)) = nls (l.take k) + (if l[k] = 10 then 1 else 0) := by
  rw [List.take_succ_eq_append_getElem hk, nls_app]
  congr 1
  unfold nls
  by_cases h : l[k] = 10
  · rw [if_pos h]; simp [h]
  · rw [if_neg h]; simp [h]
/-- A program behind a program. -/
theorem prog_behind (g h : Pr) : progTx ⟨g.decls, g.rules ++ h.rules⟩ = progTx g ++ progTx ⟨[], h.rules⟩ := by
  unfold progTx
  simp
end Go.Proofs.YtddioikfhabjpaaGreatDoor
