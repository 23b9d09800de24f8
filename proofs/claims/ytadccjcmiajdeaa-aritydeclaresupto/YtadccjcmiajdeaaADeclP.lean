/-
  The arities that are told, declared: what is told then; one of them declared twice, with another arity. Plain facts; no walk.
-/
import Derived.Test.YtadccjcmiajdeaaAOrderP
import Derived.Test.YtadccjcmiajdeaaQPack
namespace Go.Proofs.Ytadccjcmiajdeaa
set_option linter.unusedSimpArgs false
set_option linter.unusedVariables false
set_option linter.unusedSectionVars false
set_option maxRecDepth 100000
open Go.RowKit Go.Maps

theorem firsts_add (L V : List De) (h : ∀ v ∈ V, (findD L v.p).isSome = true) : firsts (L ++ V) = firsts L := by
  have aux : ∀ n (V : List De), V.length = n → (∀ v ∈ V, (findD L v.p).isSome = true) → firsts (L ++ V) = firsts L := by
    intro n
    induction n with
    | zero => intro V hn _; obtain rfl := List.length_eq_zero_iff.1 hn; simp
    | succ n ih =>
      intro V hn hV
      rcases List.eq_nil_or_concat V with rfl | ⟨M, u, rfl⟩
      · simp at hn
      · have hM : M.length = n := by simpa using hn
        rw [List.concat_eq_append] at hV ⊢
        rw [← List.append_assoc, firsts_snoc', if_pos, ih M hM (fun v hv => hV v (by simp [hv]))]
        rw [findD_app]
        have := hV u (by simp)
        cases hf : findD L u.p with
        | none => rw [hf] at this; cases this
        | some n => rfl
  exact aux _ V rfl h
theorem firsts_uniq {L : List De} (h : Uniq L) : firsts L = L := by
  have aux : ∀ n (L : List De), L.length = n → Uniq L → firsts L = L := by
    intro n
    induction n with
    | zero => intro L hn _; obtain rfl := List.length_eq_zero_iff.1 hn; rfl
    | succ n ih =>
      intro L hn hU
      rcases List.eq_nil_or_concat L with rfl | ⟨M, u, rfl⟩
      · simp at hn
      · have hM : M.length = n := by simpa using hn
        rw [List.concat_eq_append] at hU ⊢
        rw [firsts_snoc', hU M u [] rfl]
        simp [ih M hM (fun a v b e => hU a v (b ++ [u]) (by rw [e]; simp))]
  exact aux _ L rfl h
/-- What is told, declared ahead of the same rules. -/
def declP (g : Pr) : Pr := ⟨firsts (usesL g), g.rules⟩
theorem uses_decl (g : Pr) : usesL (declP g) = firsts (usesL g) ++ rulesU g.rules := rfl
theorem decl_sub (g : Pr) : ∀ u ∈ usesL (declP g), u ∈ usesL g := by
  intro u hu
  rcases List.mem_append.1 hu with h | h
  · exact firsts_sub _ u h
  · exact List.mem_append.2 (.inr h)
theorem told_decl {g : Pr} (h : Fine (usesL g)) : told (usesL (declP g)) = ⟨firsts (usesL g), 0, false⟩ := by
  have hA : Fine (usesL (declP g)) := (fine_iff _).2 (fun u hu v hv e => (fine_iff _).1 h u (decl_sub g u hu) v (decl_sub g v hv) e)
  rw [told_fine hA, uses_decl, firsts_add, firsts_uniq (uniq_firsts _)]
  intro v hv
  rw [findD_firsts]
  exact findD_mem (List.mem_append.2 (.inr hv))
theorem decl_len (g : Pr) : (usesL (declP g)).length ≤ 2 * (usesL g).length := by
  have h1 := firsts_len (usesL g)
  have h2 : (usesL g).length = g.decls.length + (rulesU g.rules).length := by simp [usesL]
  rw [uses_decl, List.length_append]
  omega
/-- One of them is declared with another arity, and then as it was. -/
def badL (L : List De) (k : Nat) (d : De) (z : Int) : List De := L.set k ⟨d.p, z⟩
def badP (g : Pr) (k : Nat) (d : De) (z : Int) : Pr := ⟨badL (firsts (usesL g)) k d z ++ [d], g.rules⟩
theorem set_names : ∀ (L : List De) (k : Nat) (hk : k < L.length) (z : Int), (L.set k ⟨(L[k]'hk).p, z⟩).map (·.p) = L.map (·.p)
  | d :: L, 0, _, z => by simp
  | d :: L, k + 1, hk, z => by
    have := set_names L k (by simpa using hk) z
    simpa using this
theorem agree_nodup {L : List De} (h : (L.map (·.p)).Nodup) : Agree L := by
  intro u hu v hv e
  obtain ⟨a, b, rfl⟩ := List.append_of_mem hu
  rw [List.map_append, List.map_cons, List.nodup_append, List.nodup_cons] at h
  rcases List.mem_append.1 hv with hv | hv
  · exact absurd e.symm (h.2.2 v.p (List.mem_map.2 ⟨v, hv, rfl⟩) u.p (by simp))
  · rcases List.mem_cons.1 hv with rfl | hv
    · rfl
    · exact absurd (List.mem_map.2 ⟨v, hv, e.symm⟩) h.2.1.1
theorem told_badP {g : Pr} {k : Nat} (hk : k < (firsts (usesL g)).length) {d : De} (hd : d = (firsts (usesL g))[k]'hk) {z : Int} (hz : z ≠ d.ar) :
    told (usesL (badP g k d z)) = ⟨[], (firsts (usesL g)).length, true⟩ := by
  have hn := uniq_nodup (uniq_firsts (usesL g))
  have hn2 : ((badL (firsts (usesL g)) k d z).map (·.p)).Nodup := by
    unfold badL
    rw [hd, set_names]
    exact hn
  have hF : Fine (badL (firsts (usesL g)) k d z) := (fine_iff _).2 (agree_nodup hn2)
  have hm : (⟨d.p, z⟩ : De) ∈ badL (firsts (usesL g)) k d z := List.mem_set hk _
  have hc : clash (badL (firsts (usesL g)) k d z) d = true := by
    unfold clash
    have := hF.find hm
    simp only at this
    rw [this]
    simp [hz]
  have e : usesL (badP g k d z) = badL (firsts (usesL g)) k d z ++ d :: rulesU g.rules := by simp [usesL, badP]
  rw [e, told_bad hF hc]
  simp [badL]
theorem badP_len (g : Pr) (k : Nat) (d : De) (z : Int) : (usesL (badP g k d z)).length ≤ 2 * (usesL g).length + 1 := by
  have h1 := firsts_len (usesL g)
  have h2 : (usesL g).length = g.decls.length + (rulesU g.rules).length := by simp [usesL]
  simp [usesL, badP, badL] at *
  omega
theorem badP_in {g : Pr} (h : ∀ u ∈ usesL g, DeV u) {k : Nat} (hk : k < (firsts (usesL g)).length) {d : De} (hd : d = (firsts (usesL g))[k]'hk) {z : Int} (hz : InR z) : ∀ u ∈ usesL (badP g k d z), DeV u := by
  have hdd : DeV d := h d (firsts_sub _ d (by rw [hd]; exact List.getElem_mem hk))
  intro u hu
  have e : usesL (badP g k d z) = badL (firsts (usesL g)) k d z ++ d :: rulesU g.rules := by simp [usesL, badP]
  rw [e] at hu
  rcases List.mem_append.1 hu with hu | hu
  · rcases List.mem_or_eq_of_mem_set hu with hu | rfl
    · exact h u (firsts_sub _ u hu)
    · exact ⟨hdd.1, hz⟩
  · rcases List.mem_cons.1 hu with rfl | hu
    · exact hdd
    · exact h u (List.mem_append.2 (.inr hu))
theorem flat_setD : ∀ (L : List De) (k : Nat) (hk : k < L.length) (z : Int), (L.flatMap De.cells).set (k * 2 + 1) (.int .i64 z) = (L.set k ⟨(L[k]'hk).p, z⟩).flatMap De.cells
  | d :: L, 0, _, z => by simp [De.cells]
  | d :: L, k + 1, hk, z => by
    have := flat_setD L k (by simpa using hk) z
    have e : (k + 1) * 2 + 1 = (k * 2 + 1) + 2 := by omega
    rw [e]
    simp [De.cells] at this ⊢
    exact this
/-- An own list of declarations. -/
theorem ownDe_iff {w0 W : World} {B : Nat} {v : Value} {L : List De} : OwnW DeI 39 2 w0 W B v L ↔ W.ownsRow B 39 2 v L.length (L.flatMap De.cells) := by
  have key : ∀ (L : List De) (cs : List (List Value)), AllR (CellW DeI 2 w0) L cs → cs.flatten = L.flatMap De.cells := by
    intro L
    induction L with
    | nil => intro cs h; cases cs with | nil => rfl | cons _ _ => exact h.elim
    | cons d L ih =>
      intro cs h
      cases cs with
      | nil => exact h.elim
      | cons c cs =>
        obtain ⟨⟨-, -, hc⟩, h2⟩ := h
        obtain rfl : c = d.cells := hc
        simp [ih cs h2]
  have made : ∀ (L : List De), AllR (CellW DeI 2 w0) L (L.map De.cells) := by
    intro L
    induction L with
    | nil => trivial
    | cons d L ih => exact ⟨⟨rfl, by simp [De.cells, Value.oneCell'], rfl⟩, ih⟩
  constructor
  · rintro ⟨cs, h1, h2⟩
    rw [key L cs h1] at h2
    exact h2
  · intro h
    exact ⟨_, made L, by rw [key L _ (made L)]; exact h⟩
/-- A cell of it is set: an arity. -/
theorem own_ar {w0 W : World} {B : Nat} {v : Value} {L : List De} (h : OwnW DeI 39 2 w0 W B v L) {k : Nat} (hk : k < L.length) :
    ∃ g cap, v = .slice (some ⟨g, 0, none⟩) L.length cap ∧ L.length ≤ cap ∧ B ≤ g ∧ g < W.heap.size ∧ W.cell? ⟨g, k * 2, none⟩ = some (.string (L[k]'hk).p) ∧ W.cell? ⟨g, k * 2 + 1, none⟩ = some (.int .i64 (L[k]'hk).ar) ∧ W.frozen? ⟨g, k * 2 + 1, none⟩ = false ∧
      ∀ z, OwnW DeI 39 2 w0 (W.setCell ⟨g, k * 2 + 1, none⟩ (.int .i64 z)) B v (badL L k (L[k]'hk) z) := by
  have h := ownDe_iff.1 h
  have h' := h
  rcases h.2 with ⟨rfl, h0⟩ | ⟨g, cap, cur, rfl, hB, hg, hc, -⟩
  · omega
  · have hcell : ∀ j u, (L.flatMap De.cells)[k * 2 + j]? = some u → k * 2 + j < L.length * 2 → W.cell? ⟨g, k * 2 + j, none⟩ = some u := fun j u e hl => (h'.cellAt _ hl).trans e
    have hat : ∀ (L : List De) (k : Nat) (hk : k < L.length) (j : Nat), j < 2 → (L.flatMap De.cells)[k * 2 + j]? = (L[k]'hk).cells[j]? := by
      intro L
      induction L with
      | nil => intro k hk; cases hk
      | cons d L ih =>
        intro k hk j hj
        cases k with
        | zero =>
          rw [List.flatMap_cons, List.getElem?_append_left (by simp [De.cells]; omega)]
          simp
        | succ k =>
          have e : (k + 1) * 2 + j = (k * 2 + j) + 2 := by omega
          rw [List.flatMap_cons, List.getElem?_append_right (by simp [De.cells]; omega), e]
          have := ih k (by simpa using hk) j hj
          simp only [De.cells, List.length_cons, List.length_nil, Nat.zero_add, Nat.add_sub_cancel] at this ⊢
          simpa [De.cells] using this
    refine ⟨g, cap, rfl, hc, hB, (Array.getElem?_eq_some_iff.1 hg).1, ?_, ?_, h'.frozenAt _, fun z => ?_⟩
    · have := hcell 0 (.string (L[k]'hk).p) (by rw [hat L k hk 0 (by omega)]; rfl) (by omega)
      simpa using this
    · exact hcell 1 (.int .i64 (L[k]'hk).ar) (by rw [hat L k hk 1 (by omega)]; rfl) (by omega)
    · refine ownDe_iff.2 ?_
      have h5 := (h'.stored (k * 2 + 1) (.int .i64 z)).1
      rw [flat_setD L k hk z] at h5
      have e : (badL L k (L[k]'hk) z).length = L.length := by simp [badL]
      rw [e]
      exact h5
end Go.Proofs.Ytadccjcmiajdeaa
