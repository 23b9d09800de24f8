/-
  append of a whole list of values onto one of the call's own.
-/
import Derived.Test.YtkkpcphmojegmaaTOwn
namespace Go.Proofs.Ytkkpcphmojegmaa
set_option linter.unusedSimpArgs false
set_option linter.unusedVariables false
set_option linter.unusedSectionVars false
set_option maxRecDepth 100000
open Go.RowKit Go.Deep Go.WideShapes
variable [DecidableEq V]

theorem flat_get (vs : List V) (j : Nat) (u : Value) (h : (vs.flatMap V.cells)[j]? = some u) : ∃ (i : Nat) (hi : i < vs.length), (j = i * 3 ∧ u = .bool vs[i].k) ∨ (j = i * 3 + 1 ∧ u = .string vs[i].s) ∨ (j = i * 3 + 2 ∧ u = .int .i64 vs[i].n) := by
  have hj : j < (vs.flatMap V.cells).length := (List.getElem?_eq_some_iff.1 h).1
  rw [cells_flat] at hj
  have hi : j / 3 < vs.length := by omega
  obtain ⟨e0, e1, e2⟩ := flat_at vs (j / 3) hi
  refine ⟨j / 3, hi, ?_⟩
  have hr : j = j / 3 * 3 ∨ j = j / 3 * 3 + 1 ∨ j = j / 3 * 3 + 2 := by omega
  rcases hr with hr | hr | hr
  · rw [← hr] at e0; rw [e0] at h; exact .inl ⟨hr, (Option.some.inj h).symm⟩
  · rw [← hr] at e1; rw [e1] at h; exact .inr (.inl ⟨hr, (Option.some.inj h).symm⟩)
  · rw [← hr] at e2; rw [e2] at h; exact .inr (.inr ⟨hr, (Option.some.inj h).symm⟩)
theorem Vals.cells {w : World} {ad : Addr} {n c : Nat} {vs : List V} (h : Vals w (.slice (some ad) n c) vs) : ∀ j u, (vs.flatMap V.cells)[j]? = some u → w.cell? (ad.add j) = some u := by
  intro j u hj
  obtain ⟨i, hi, hc⟩ := flat_get vs j u hj
  obtain ⟨ao, cap, e, h2, h3, h4⟩ := h
  injection e with e1 e2 e3
  subst e1
  obtain ⟨b, off, e, hlt, c0, c1, c2⟩ := h4 i hi
  cases e
  rw [add_none]
  rcases hc with ⟨rfl, rfl⟩ | ⟨rfl, rfl⟩ | ⟨rfl, rfl⟩
  · exact c0
  · simpa [Nat.add_assoc] using c1
  · simpa [Nat.add_assoc] using c2
theorem Own.join {w w' : World} {B : Nat} {x x' : Value} {L M : List V} (h : Own w B x L) (hM : ∀ v ∈ M, v.Ok) (hr : w'.ownsRow B 55 3 x' (L.length + M.length) (L.flatMap V.cells ++ M.flatMap V.cells)) : Own w' B x' (L ++ M) :=
  ⟨by rw [List.length_append, List.flatMap_append]; exact hr, fun u hu => by
    rcases List.mem_append.1 hu with hu | hu
    · exact h.2 u hu
    · exact hM u hu⟩
theorem Own.empty {w : World} {B : Nat} (hB : B ≤ w.heap.size) : Own (w.alloc (.cells #[] 55)) B (.slice (some ⟨w.heap.size, 0, none⟩) 0 0) [] :=
  ⟨⟨rfl, Or.inr ⟨w.heap.size, 0, #[], rfl, hB, (MapKept.heap_alloc w _).1, Nat.le_refl _, Nat.zero_le _, rfl, rfl⟩⟩, fun _ h => by simp at h⟩

theorem bulk_len (vs : List V) : 4 * vs.length ≤ bulkV vs := by
  induction vs with
  | nil => simp
  | cons v l ih => simp only [bulkV, List.map_cons, List.sum_cons, List.length_cons] at ih ⊢; omega

/-- A list that came in and is nil has no room. -/
theorem open_nilcap {H : Type} {enc : TypeId × Value → H} {W : World} {r : Reach} {b0 : Nat} {x : Value} {d : DataW H} {p : List MemPlace} {sp : Nat → Bool} {hd : Bool} {base : Nat}
    (hv : Value.okWide Try.prog W r b0 30 x) (h : DataW.Trod enc Try.prog W base sp hd 30 x d p) : ∀ n c, x = .slice none n c → c = 0 := by
  intro n c e
  obtain ⟨a0, len, cap, rfl⟩ := okWide_slice Try.underlying30 hv
  obtain ⟨fuel, hf⟩ := h
  rcases open_slice Try.underlying30 hf with ⟨hc, -⟩ | ⟨a, len', cap', m, n', D, Pl, hc, -⟩
  · simp [Value.cells] at hc
    obtain ⟨rfl, rfl, rfl⟩ := hc
    injection e with e1 e2 e3
    exact e3.symm
  · simp [Value.cells] at hc
    obtain ⟨rfl, rfl, rfl⟩ := hc
    injection e with e1
    cases e1

theorem wpList_append_vals {ops : Array Oper} {rest : List Oper} {o : Oper} {a : Act} {Q : Exit → Act → World → Prop} {w : World} (hgd : o.guard = none) (s x : Operand)
    (ho : o.op = .call { callee := .builtin .append, args := #[s, x], argTypes := #[30, 30] })
    (B : Nat) (v : Value) (L : List V) (hs : a.eval s = v) (hown : Own w B v L) (xv : Value) (vs : List V) (hx : a.eval x = xv) (hV : Vals w xv vs) (hN : ∀ n c, xv = .slice none n c → c = 0)
    (hbytes : (L.length + vs.length) * 32 ≤ 140737488355328) (hB : B ≤ w.heap.size)
    (h : ∀ v' w', Own w' B v' (L ++ vs) → Below B w w' → wpList Try.prog ops Q rest (a.put o.dst v') w') : wpList Try.prog ops Q (o :: rest) a w := by
  obtain ⟨i0, hi, hz0, hz1, hz2⟩ := info_parts infoVal
  refine wpList_plain hgd fun K hK => ?_
  obtain ⟨ao, c, rfl, hm⟩ := hV.len
  cases ao with
  | none =>
    have hvs : vs = [] := by
      cases vs with
      | nil => rfl
      | cons y l =>
        obtain ⟨ao', cap', e, h2, h3, h4⟩ := hV
        obtain ⟨b, off, e', _⟩ := h4 0 (by simp)
        injection e with e1
        rw [← e1] at e'; cases e'
    subst hvs
    have hc : c = 0 := hN _ _ rfl
    subst hc
    have hr := run_append_owned_none (P := Try.prog) w B 30 o.type 55 i0 3 Try.underlying30 hi v L.length (L.flatMap V.cells) hown.own
    unfold Oper.wp execOp
    simp only [ho, resolve, invoke, builtin, Sem.run_bind, Sem.run_pure, Result.andThen_ok, List.map_toArray, List.map_cons, List.map_nil, List.length_nil, hs, hx, hr]
    exact hK _ _ (h v w (by rw [List.append_nil]; exact hown) (Below.refl _ _))
  | some ad =>
    obtain ⟨v', w', hr, h2, h3, h4⟩ := run_append_own (P := Try.prog) w B 30 o.type 55 i0 _ 3 32 Try.underlying30 hi hz0 hz1 hz2 rfl (by decide) v L.length (L.flatMap V.cells) hown.own ad vs.length c (vs.flatMap V.cells) (cells_flat vs) hV.cells (flat_one vs) (by unfold maxLen; omega) hbytes hB
    unfold Oper.wp execOp
    simp only [ho, resolve, invoke, builtin, Sem.run_bind, Sem.run_pure, Result.andThen_ok, List.map_toArray, List.map_cons, List.map_nil, hs, hx, hr]
    exact hK _ _ (h v' w' (hown.join hV.ok h2) ((Below.refl _ _).grown h3 hB (fun k hk => (hown.own.lt k hk).1)))
end Go.Proofs.Ytkkpcphmojegmaa
