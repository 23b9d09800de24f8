/-
  Plain facts: rows in order, each once, are one list, whoever makes it. No Go text.
-/
import Derived.Test.YtkkpcphmojegmaaTSortP
namespace Go.Proofs.Ytkkpcphmojegmaa
set_option linter.unusedSimpArgs false
set_option linter.unusedVariables false
set_option linter.unusedSectionVars false
set_option maxRecDepth 100000
variable [DecidableEq V]

/-- Each is ahead of all that are above it. -/
def Rise (l : List (List V)) : Prop := l.Pairwise (fun a b => rcmp a b < 0)
/-- The first one of those that are alike. -/
def First : List (List V) → List V → Prop
  | [], _ => False
  | x :: l, v => v = x ∨ (rcmp x v ≠ 0 ∧ First l v)
theorem rcmp_sym0 {a b : List V} (h : rcmp a b = 0) : rcmp b a = 0 := by have := rcmp_swap a b; omega
theorem rcmp_tr0 {a b c : List V} (h : rcmp a b = 0) (h2 : rcmp b c = 0) : rcmp a c = 0 := by have := rcmp_congr c h; omega
theorem rcmp_rc {a b c : List V} (h : rcmp b c = 0) : rcmp a b = rcmp a c := by
  have h1 := rcmp_congr a h
  have h2 := rcmp_swap a b
  have h3 := rcmp_swap a c
  omega
theorem rise_one : ∀ {A B : List (List V)}, Rise A → Rise B → (∀ v, v ∈ A ↔ v ∈ B) → A = B := by
  intro A
  induction A with
  | nil =>
    intro B _ _ h
    cases B with
    | nil => rfl
    | cons b B => exact absurd ((h b).2 (by simp)) (by simp)
  | cons a A ih =>
    intro B hA hB h
    cases B with
    | nil => exact absurd ((h a).1 (by simp)) (by simp)
    | cons b B =>
      obtain ⟨a1, a2⟩ := List.pairwise_cons.1 hA
      obtain ⟨b1, b2⟩ := List.pairwise_cons.1 hB
      have hab : a = b := by
        rcases List.mem_cons.1 ((h a).1 (by simp)) with e | e
        · exact e
        · rcases List.mem_cons.1 ((h b).2 (by simp)) with e' | e'
          · exact e'.symm
          · have r1 := b1 a e
            have r2 := a1 b e'
            have := rcmp_swap a b
            omega
      subst hab
      rw [ih a2 b2 (fun v => ?_)]
      have ne : ∀ v, rcmp a v < 0 → v ≠ a := fun v hv e => by rw [e, rcmp_self] at hv; omega
      constructor
      · intro hv
        rcases List.mem_cons.1 ((h v).1 (List.mem_cons_of_mem _ hv)) with e | e
        · exact absurd e (ne v (a1 v hv))
        · exact e
      · intro hv
        rcases List.mem_cons.1 ((h v).2 (List.mem_cons_of_mem _ hv)) with e | e
        · exact absurd e (ne v (b1 v hv))
        · exact e
theorem first_mem {l : List (List V)} {v : List V} (h : First l v) : v ∈ l := by
  induction l with
  | nil => exact h.elim
  | cons x l ih =>
    rcases h with rfl | ⟨-, h⟩
    · simp
    · exact List.mem_cons_of_mem _ (ih h)
theorem first_snoc (l : List (List V)) (x v : List V) : First (l ++ [x]) v ↔ First l v ∨ (v = x ∧ ∀ y ∈ l, rcmp y x ≠ 0) := by
  induction l with
  | nil => simp [First]
  | cons y l ih =>
    simp only [List.cons_append, First, ih, List.mem_cons, forall_eq_or_imp]
    constructor
    · rintro (rfl | ⟨h1, h2 | ⟨rfl, h2⟩⟩)
      · exact .inl (.inl rfl)
      · exact .inl (.inr ⟨h1, h2⟩)
      · exact .inr ⟨rfl, h1, h2⟩
    · rintro ((rfl | ⟨h1, h2⟩) | ⟨rfl, h1, h2⟩)
      · exact .inl rfl
      · exact .inr ⟨h1, .inl h2⟩
      · exact .inr ⟨h1, .inr ⟨rfl, h2⟩⟩
theorem first_some {l : List (List V)} {y : List V} (h : y ∈ l) : ∃ z, First l z ∧ rcmp z y = 0 := by
  induction l with
  | nil => simp at h
  | cons x l ih =>
    by_cases e : rcmp x y = 0
    · exact ⟨x, .inl rfl, e⟩
    · rcases List.mem_cons.1 h with rfl | h
      · exact absurd (rcmp_self y) e
      · obtain ⟨z, h1, h2⟩ := ih h
        exact ⟨z, .inr ⟨fun e' => e (rcmp_tr0 e' h2), h1⟩, h2⟩
/-- A row put where it belongs, unless one alike is there. -/
def ins (x : List V) : List (List V) → List (List V)
  | [] => [x]
  | y :: l => if rcmp y x < 0 then y :: ins x l else if rcmp y x = 0 then y :: l else x :: y :: l
def srt (l : List (List V)) : List (List V) := l.foldl (fun o x => ins x o) []
theorem srt_snoc (l : List (List V)) (x : List V) : srt (l ++ [x]) = ins x (srt l) := by simp [srt]
theorem ins_at {A : List (List V)} {x : List V} (h : ∀ y ∈ A, rcmp y x < 0) (B : List (List V)) : ins x (A ++ B) = A ++ ins x B := by
  induction A with
  | nil => rfl
  | cons a A ih => rw [List.cons_append, ins, if_pos (h a (by simp)), ih (fun y hy => h y (List.mem_cons_of_mem _ hy)), List.cons_append]
theorem ins_spec {x : List V} {o : List (List V)} (h : Rise o) : Rise (ins x o) ∧ ∀ v, v ∈ ins x o ↔ (v ∈ o ∨ (v = x ∧ ∀ y ∈ o, rcmp y x ≠ 0)) := by
  induction o with
  | nil => exact ⟨List.pairwise_singleton _ _, by simp [ins]⟩
  | cons y o ih =>
    obtain ⟨h1, h2⟩ := List.pairwise_cons.1 h
    obtain ⟨i1, i2⟩ := ih h2
    rw [ins]
    split
    · rename_i c
      refine ⟨List.pairwise_cons.2 ⟨fun v hv => ?_, i1⟩, fun v => ?_⟩
      · rcases (i2 v).1 hv with hv | ⟨rfl, -⟩
        · exact h1 v hv
        · exact c
      · have hne : rcmp y x ≠ 0 := by omega
        simp only [List.mem_cons, i2, forall_eq_or_imp]
        constructor
        · rintro (h | h | ⟨h, h'⟩)
          · exact .inl (.inl h)
          · exact .inl (.inr h)
          · exact .inr ⟨h, hne, h'⟩
        · rintro ((h | h) | ⟨h, -, h'⟩)
          · exact .inl h
          · exact .inr (.inl h)
          · exact .inr (.inr ⟨h, h'⟩)
    · rename_i c
      split
      · rename_i c2
        refine ⟨h, fun v => ⟨.inl, ?_⟩⟩
        rintro (h | ⟨-, h'⟩)
        · exact h
        · exact absurd c2 (h' y (by simp))
      · rename_i c2
        have hlt : rcmp x y < 0 := by have := rcmp_swap x y; omega
        refine ⟨List.pairwise_cons.2 ⟨fun v hv => ?_, h⟩, fun v => ?_⟩
        · rcases List.mem_cons.1 hv with rfl | hv
          · exact hlt
          · exact rcmp_lt_trans hlt (h1 v hv)
        · constructor
          · intro hv
            rcases List.mem_cons.1 hv with rfl | hv
            · refine .inr ⟨rfl, fun z hz => ?_⟩
              rcases List.mem_cons.1 hz with rfl | hz
              · exact c2
              · have a1 := rcmp_lt_trans hlt (h1 z hz)
                have := rcmp_swap v z
                omega
            · exact .inl hv
          · rintro (hv | ⟨rfl, -⟩)
            · exact List.mem_cons_of_mem _ hv
            · simp
theorem srt_go (l : List (List V)) : ∀ {o pre : List (List V)}, Rise o → (∀ v, v ∈ o ↔ First pre v) → Rise (l.foldl (fun o x => ins x o) o) ∧ ∀ v, v ∈ l.foldl (fun o x => ins x o) o ↔ First (pre ++ l) v := by
  induction l with
  | nil => intro o pre h1 h2; simpa using ⟨h1, h2⟩
  | cons x l ih =>
    intro o pre h1 h2
    obtain ⟨s1, s2⟩ := ins_spec (x := x) h1
    have := ih (o := ins x o) (pre := pre ++ [x]) s1 (fun v => ?_)
    · simpa using this
    · rw [s2, first_snoc, h2]
      have : (∀ y ∈ o, rcmp y x ≠ 0) ↔ ∀ y ∈ pre, rcmp y x ≠ 0 := by
        constructor
        · intro h y hy e
          obtain ⟨z, z1, z2⟩ := first_some hy
          exact h z ((h2 z).2 z1) (rcmp_tr0 z2 e)
        · intro h y hy
          exact h y (first_mem ((h2 y).1 hy))
      rw [this]
theorem srt_rise (l : List (List V)) : Rise (srt l) := (srt_go l (o := []) (pre := []) List.Pairwise.nil (fun v => by simp [First])).1
theorem srt_mem (l : List (List V)) (v : List V) : v ∈ srt l ↔ First l v := by
  have := (srt_go l (o := []) (pre := []) List.Pairwise.nil (fun v => by simp [First])).2 v
  simpa [srt] using this

/-- What a compacting leaves behind p. -/
def cpt : R → List R → List R
  | _, [] => []
  | p, y :: l => if rcmp y.vs p.vs = 0 then cpt y l else y :: cpt y l
def compact : List R → List R
  | [] => []
  | x :: l => x :: cpt x l
theorem cpt_snoc (l : List R) (p y : R) : cpt p (l ++ [y]) = cpt p l ++ (if rcmp y.vs ((p :: l)[l.length]'(by simp)).vs = 0 then [] else [y]) := by
  induction l generalizing p with
  | nil => simp [cpt]
  | cons z l ih =>
    rw [List.cons_append, cpt, cpt, ih z]
    simp only [List.length_cons, List.getElem_cons_succ]
    split <;> simp
theorem compact_step {Z : List R} {k k1 : Nat} (hk1 : k = k1 + 1) (hk : k < Z.length) : compact (Z.take (k + 1)) = compact (Z.take k) ++ (if rcmp Z[k].vs Z[k1].vs = 0 then [] else [Z[k]]) := by
  subst hk1
  cases Z with
  | nil => simp at hk
  | cons p l =>
    have hl : k1 < l.length := by simpa using hk
    rw [List.take_succ_eq_append_getElem hk]
    simp only [List.take_succ_cons, List.cons_append, compact, cpt_snoc, List.length_take, List.getElem_cons_succ]
    have : min k1 l.length = k1 := by omega
    have e : ((p :: l.take k1)[(l.take k1).length]'(by simp)) = (p :: l)[k1] := by
      simp only [List.length_take, this]
      cases k1 with
      | zero => rfl
      | succ j => simp
    simp only [List.length_take] at e
    rw [e]
theorem cpt_mem {l : List R} {p r : R} (h : r ∈ cpt p l) : r ∈ l := by
  induction l generalizing p with
  | nil => simp [cpt] at h
  | cons y l ih =>
    rw [cpt] at h
    split at h
    · exact List.mem_cons_of_mem _ (ih h)
    · rcases List.mem_cons.1 h with rfl | h
      · simp
      · exact List.mem_cons_of_mem _ (ih h)
theorem compact_mem {Z : List R} {r : R} (h : r ∈ compact Z) : r ∈ Z := by
  cases Z with
  | nil => simp [compact] at h
  | cons p l =>
    rcases List.mem_cons.1 h with rfl | h
    · simp
    · exact List.mem_cons_of_mem _ (cpt_mem h)
theorem cpt_spec (l : List R) : ∀ (p : R), Up (p :: l) → (∀ v ∈ (cpt p l).map R.vs, rcmp p.vs v < 0) ∧ Rise ((cpt p l).map R.vs) ∧ ∀ v, v ∈ (cpt p l).map R.vs ↔ (First (l.map R.vs) v ∧ rcmp p.vs v ≠ 0) := by
  induction l with
  | nil => intro p _; simp [cpt, First, Rise]
  | cons y l ih =>
    intro p h
    obtain ⟨h1, h2⟩ := List.pairwise_cons.1 h
    obtain ⟨i1, i2, i3⟩ := ih y h2
    have hpy := h1 y (by simp)
    rw [cpt]
    split
    · rename_i c
      have c' := rcmp_sym0 c
      refine ⟨fun v hv => by have := i1 v hv; have := rcmp_congr v c'; omega, i2, fun v => ?_⟩
      rw [i3, List.map_cons, First]
      have hc := rcmp_congr v c'
      constructor
      · rintro ⟨a, b⟩; exact ⟨.inr ⟨b, a⟩, by omega⟩
      · rintro ⟨rfl | ⟨a, b⟩, c1⟩
        · exact absurd c' c1
        · exact ⟨b, a⟩
    · rename_i c
      have hlt : rcmp p.vs y.vs < 0 := by
        rcases hpy with h | ⟨h, -⟩
        · exact h
        · exact absurd (rcmp_sym0 h) c
      have i1' : ∀ v ∈ (cpt y l).map R.vs, rcmp p.vs v < 0 := fun v hv => rcmp_lt_trans hlt (i1 v hv)
      refine ⟨fun v hv => ?_, List.pairwise_cons.2 ⟨i1, i2⟩, fun v => ?_⟩
      · rw [List.map_cons] at hv
        rcases List.mem_cons.1 hv with rfl | hv
        · exact hlt
        · exact i1' v hv
      · rw [List.map_cons, List.mem_cons, List.map_cons, First]
        constructor
        · rintro (rfl | hv)
          · exact ⟨.inl rfl, by omega⟩
          · have := i1' v hv
            obtain ⟨a, b⟩ := (i3 v).1 hv
            exact ⟨.inr ⟨b, a⟩, by omega⟩
        · rintro ⟨rfl | ⟨a, b⟩, -⟩
          · exact .inl rfl
          · exact .inr ((i3 v).2 ⟨b, a⟩)
theorem compact_spec {Z : List R} (h : Up Z) : Rise ((compact Z).map R.vs) ∧ ∀ v, v ∈ (compact Z).map R.vs ↔ First (Z.map R.vs) v := by
  cases Z with
  | nil => simp [compact, First, Rise]
  | cons p l =>
    obtain ⟨i1, i2, i3⟩ := cpt_spec l p h
    refine ⟨List.pairwise_cons.2 ⟨i1, i2⟩, fun v => ?_⟩
    simp only [compact, List.map_cons, List.mem_cons, First]
    rw [i3]
    constructor
    · rintro (h | ⟨a, b⟩)
      · exact .inl h
      · exact .inr ⟨b, a⟩
    · rintro (h | ⟨a, b⟩)
      · exact .inl h
      · exact .inr ⟨b, a⟩
/-- Alike rows stand in turn. -/
theorem first_ix {L : List R} (h : L.Pairwise (fun a b => rcmp a.vs b.vs = 0 → a.ix < b.ix)) (v : List V) :
    First (L.map R.vs) v ↔ ∃ r ∈ L, r.vs = v ∧ ∀ s ∈ L, rcmp s.vs v = 0 → r.ix ≤ s.ix := by
  induction L with
  | nil => simp [First]
  | cons x L ih =>
    obtain ⟨h1, h2⟩ := List.pairwise_cons.1 h
    rw [List.map_cons, First, ih h2]
    constructor
    · rintro (rfl | ⟨a, r, hr, rfl, hs⟩)
      · refine ⟨x, by simp, rfl, fun s hs e => ?_⟩
        rcases List.mem_cons.1 hs with rfl | hs
        · exact Nat.le_refl _
        · exact Nat.le_of_lt (h1 s hs (rcmp_sym0 e))
      · refine ⟨r, List.mem_cons_of_mem _ hr, rfl, fun s hs' e => ?_⟩
        rcases List.mem_cons.1 hs' with rfl | hs'
        · exact absurd e a
        · exact hs s hs' e
    · rintro ⟨r, hr, rfl, hs⟩
      rcases List.mem_cons.1 hr with rfl | hr
      · exact .inl rfl
      · by_cases e : rcmp x.vs r.vs = 0
        · have a1 := hs x (by simp) e
          have a2 := h1 r hr e
          omega
        · exact .inr ⟨e, r, hr, rfl, fun s hs' => hs s (List.mem_cons_of_mem _ hs')⟩
theorem hturn {D : List R} (ht : InTurn D) : D.Pairwise (fun a b => rcmp a.vs b.vs = 0 → a.ix < b.ix) := by
  unfold InTurn at ht
  exact List.Pairwise.imp (S := fun (a b : R) => rcmp a.vs b.vs = 0 → a.ix < b.ix) (fun h _ => h) ht
/-- A stable sort, compacted, is the document's list. -/
theorem compact_srt {Z D : List R} (hp : Z.Perm D) (hu : Up Z) (ht : InTurn D) : (compact Z).map R.vs = srt (D.map R.vs) := by
  obtain ⟨c1, c2⟩ := compact_spec hu
  refine rise_one c1 (srt_rise _) fun v => ?_
  rw [c2, srt_mem, first_ix (hu.imp fun {a b} h e => ?_), first_ix (hturn ht)]
  · simp only [hp.mem_iff]
  · rcases h with h | ⟨_, h⟩
    · omega
    · exact h
/-- No two rows are alike. -/
def Unlike (l : List (List V)) : Prop := l.Pairwise (fun a b => rcmp a b ≠ 0)
theorem first_unlike {l : List (List V)} (h : Unlike l) (v : List V) : First l v ↔ v ∈ l := by
  induction l with
  | nil => simp [First]
  | cons x l ih =>
    obtain ⟨h1, h2⟩ := List.pairwise_cons.1 h
    rw [First, ih h2, List.mem_cons]
    constructor
    · rintro (h | ⟨-, h⟩)
      · exact .inl h
      · exact .inr h
    · rintro (h | h)
      · exact .inl h
      · exact .inr ⟨h1 v h, h⟩
theorem Rise.unlike {l : List (List V)} (h : Rise l) : Unlike l := h.imp fun h => by omega
/-- Rows of which no two are alike: all stay, whatever order they came in. -/
theorem srt_one {l m : List (List V)} (hl : Unlike l) (hm : Unlike m) (h : ∀ v, v ∈ l ↔ v ∈ m) : srt l = srt m :=
  rise_one (srt_rise _) (srt_rise _) fun v => by rw [srt_mem, srt_mem, first_unlike hl, first_unlike hm, h]
theorem srt_rising {l : List (List V)} (h : Rise l) : srt l = l :=
  rise_one (srt_rise _) h fun v => by rw [srt_mem, first_unlike h.unlike]
theorem ins_len {x : List V} {o : List (List V)} (h : ∀ y ∈ o, rcmp y x ≠ 0) : (ins x o).length = o.length + 1 := by
  induction o with
  | nil => rfl
  | cons y o ih =>
    rw [ins]
    split
    · rw [List.length_cons, ih (fun z hz => h z (List.mem_cons_of_mem _ hz)), List.length_cons]
    · rw [if_neg (h y (by simp))]; rfl
theorem srt_len_go (l : List (List V)) : ∀ (o : List (List V)), Rise o → Unlike l → (∀ x ∈ l, ∀ y ∈ o, rcmp y x ≠ 0) → (l.foldl (fun o x => ins x o) o).length = o.length + l.length := by
  induction l with
  | nil => intro o _ _ _; rfl
  | cons x l ih =>
    intro o ho hu h
    obtain ⟨h1, h2⟩ := List.pairwise_cons.1 hu
    obtain ⟨s1, s2⟩ := ins_spec (x := x) ho
    rw [List.foldl_cons, ih _ s1 h2, ins_len (h x (by simp)), List.length_cons]
    · omega
    · intro z hz y hy
      rcases (s2 y).1 hy with hy | ⟨rfl, -⟩
      · exact h z (List.mem_cons_of_mem _ hz) y hy
      · exact h1 z hz
theorem srt_len {l : List (List V)} (h : Unlike l) : (srt l).length = l.length := by
  have := srt_len_go l [] List.Pairwise.nil h (fun _ _ _ hy => by simp at hy)
  simpa [srt] using this
theorem ins_le {x : List V} {o : List (List V)} : (ins x o).length ≤ o.length + 1 := by
  induction o with
  | nil => simp [ins]
  | cons y o ih =>
    rw [ins]
    split
    · simp only [List.length_cons]; omega
    · split <;> simp only [List.length_cons] <;> omega
theorem srt_le_go (l : List (List V)) : ∀ (o : List (List V)), (l.foldl (fun o x => ins x o) o).length ≤ o.length + l.length := by
  induction l with
  | nil => intro o; simp
  | cons x l ih => intro o; have := ih (ins x o); have := ins_le (x := x) (o := o); simp; omega
theorem srt_le (l : List (List V)) : (srt l).length ≤ l.length := by have := srt_le_go l []; simpa [srt] using this
end Go.Proofs.Ytkkpcphmojegmaa
