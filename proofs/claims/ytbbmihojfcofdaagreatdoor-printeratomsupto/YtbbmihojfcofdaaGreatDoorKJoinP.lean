/-
  Tokens as texts: what they are (textT, joinL); lists of tokens in memory (Tks). Plain facts; no walk.
-/
import Derived.Test.YtbbmihojfcofdaaGreatDoorKScan
import Derived.Test.YtbbmihojfcofdaaGreatDoorTextP
namespace Go.Proofs.YtbbmihojfcofdaaGreatDoor
set_option linter.unusedSimpArgs false
set_option linter.unusedVariables false
set_option linter.unusedSectionVars false
set_option maxRecDepth 100000
open Go.RowKit

/-- A token's text. -/
def textT (t : Tk) : List UInt8 :=
  if t.kind = 1 then (if t.q = false ∧ (plainL t.s.data.toList = true ∨ t.s.data.toList = [110, 111, 116]) then t.s.data.toList else quoteL t.s.data.toList)
  else if t.kind = 2 ∨ t.kind = 4 then t.s.data.toList else if t.kind = 3 then Lib.itoa t.n else []
def joinL (T : List Tk) : List UInt8 := T.flatMap (fun t => textT t ++ [32])
/-- A token whose text can be made. -/
structure Tk.Ok (t : Tk) : Prop where
  s : 2 * t.s.size + 2 ≤ 140737488355328
  lo : -9223372036854775808 ≤ t.n
  hi : t.n ≤ 9223372036854775807

/-- x is a list of the tokens T, in memory that is there. -/
def Tks (W : World) (x : Value) (T : List Tk) : Prop :=
  ∃ (ao : Option Addr) (cap : Nat), x = .slice ao T.length cap ∧ T.length ≤ cap ∧ T.length ≤ maxLen ∧
    ∀ i (hi : i < T.length), ∃ b off, ao = some ⟨b, off, none⟩ ∧ b < W.heap.size ∧ W.cell? ⟨b, off + i * 5, none⟩ = some (.int .i64 T[i].kind) ∧ W.cell? ⟨b, off + i * 5 + 1, none⟩ = some (.string T[i].s) ∧ W.cell? ⟨b, off + i * 5 + 2, none⟩ = some (.int .i64 T[i].n) ∧ W.cell? ⟨b, off + i * 5 + 3, none⟩ = some (.bool T[i].q) ∧ W.cell? ⟨b, off + i * 5 + 4, none⟩ = some (.int .i64 T[i].pl)
theorem Tks.below {W W' : World} {x : Value} {T : List Tk} (h : Tks W x T) (hb : Below W.heap.size W W') : Tks W' x T := by
  obtain ⟨ao, cap, e, h1, h2, h3⟩ := h
  refine ⟨ao, cap, e, h1, h2, fun i hi => ?_⟩
  obtain ⟨b, off, e1, hl, c0, c1, c2, c3, c4⟩ := h3 i hi
  exact ⟨b, off, e1, Nat.lt_of_lt_of_le hl hb.size, (hb.cell (p := ⟨b, _, none⟩) hl).trans c0, (hb.cell (p := ⟨b, _, none⟩) hl).trans c1, (hb.cell (p := ⟨b, _, none⟩) hl).trans c2, (hb.cell (p := ⟨b, _, none⟩) hl).trans c3, (hb.cell (p := ⟨b, _, none⟩) hl).trans c4⟩
theorem add_noneK {b off j : Nat} : (⟨b, off, none⟩ : Addr).add j = ⟨b, off + j, none⟩ := by unfold Addr.add; split <;> simp_all
theorem tk_flat (T : List Tk) : (T.flatMap Tk.cells).length = T.length * 5 := by
  induction T with
  | nil => rfl
  | cons v L ih => simp [Tk.cells, ih, Nat.add_mul]
theorem tk_flat_at (T : List Tk) (i : Nat) (hi : i < T.length) : (T.flatMap Tk.cells)[i * 5]? = some (.int .i64 T[i].kind) ∧ (T.flatMap Tk.cells)[i * 5 + 1]? = some (.string T[i].s) ∧ (T.flatMap Tk.cells)[i * 5 + 2]? = some (.int .i64 T[i].n) ∧ (T.flatMap Tk.cells)[i * 5 + 3]? = some (.bool T[i].q) ∧ (T.flatMap Tk.cells)[i * 5 + 4]? = some (.int .i64 T[i].pl) := by
  induction T generalizing i with
  | nil => simp at hi
  | cons t T ih =>
    cases i with
    | zero => simp [Tk.cells]
    | succ i =>
      have h := ih i (by simpa using hi)
      have e : ∀ j, (i + 1) * 5 + j = (i * 5 + j) + 5 := by intro j; omega
      have e0 : (i + 1) * 5 = (i * 5) + 5 := by omega
      simp only [List.flatMap_cons, e, e0, List.getElem_cons_succ]
      have hl : t.cells.length = 5 := rfl
      have hd : ∀ j, (t.cells ++ T.flatMap Tk.cells)[j + 5]? = (T.flatMap Tk.cells)[j]? := fun j => by
        rw [List.getElem?_append_right (by rw [hl]; omega), hl, Nat.add_sub_cancel]
      rw [hd, hd, hd, hd, hd]
      exact h
theorem TkOwn.tks {w : World} {B : Nat} {x : Value} {T : List Tk} (h : TkOwn w B x T) (hT : T.length ≤ maxLen) : Tks w x T := by
  have h' := h
  obtain ⟨h1, h2⟩ := h
  rcases h2 with ⟨e, h0⟩ | ⟨g, cap, cur, e, hB, hg, hc⟩
  · have : T = [] := List.length_eq_zero_iff.1 h0
    subst this
    exact ⟨none, 0, by rw [e]; rfl, by simp, hT, fun i hi => by simp at hi⟩
  · subst e
    refine ⟨some ⟨g, 0, none⟩, cap, rfl, ?_, hT, fun i hi => ?_⟩
    · first | exact hc.1 | exact hc.2.1 | omega
    · obtain ⟨c0, c1, c2, c3, c4⟩ := tk_flat_at T i hi
      have hc' := fun j u (hj : (T.flatMap Tk.cells)[j]? = some u) => World.ownsRow.cells h' (g := g) rfl j u hj
      refine ⟨g, 0, rfl, (Array.getElem?_eq_some_iff.1 hg).1, ?_, ?_, ?_, ?_, ?_⟩
      · have h := hc' _ _ c0; rw [add_noneK] at h; simpa [Nat.add_assoc] using h
      · have h := hc' _ _ c1; rw [add_noneK] at h; simpa [Nat.add_assoc] using h
      · have h := hc' _ _ c2; rw [add_noneK] at h; simpa [Nat.add_assoc] using h
      · have h := hc' _ _ c3; rw [add_noneK] at h; simpa [Nat.add_assoc] using h
      · have h := hc' _ _ c4; rw [add_noneK] at h; simpa [Nat.add_assoc] using h
/-- The first ones of a list. -/
theorem Tks.take {W : World} {ao : Option Addr} {cap : Nat} {T : List Tk} (h : Tks W (.slice ao T.length cap) T) {k : Nat} (hk : k ≤ T.length) : Tks W (.slice ao k cap) (T.take k) := by
  obtain ⟨ao', cap', e, h1, h2, h3⟩ := h
  cases e
  refine ⟨ao, cap, by rw [List.length_take, Nat.min_eq_left hk], by simp; omega, by simp; omega, fun i hi => ?_⟩
  simp at hi
  simp only [List.getElem_take]
  exact h3 i (by omega)
theorem Tks.form {W : World} {x : Value} {T : List Tk} (h : Tks W x T) : ∃ ao cap, x = .slice ao T.length cap ∧ T.length ≤ cap ∧ T.length ≤ maxLen := by
  obtain ⟨ao, cap, e, h1, h2, -⟩ := h
  exact ⟨ao, cap, e, h1, h2⟩
theorem joinL_take (T : List Tk) (k : Nat) (h : k < T.length) : joinL (T.take (k + 1)) = joinL (T.take k) ++ textT T[k] ++ [32] := by
  unfold joinL
  rw [List.take_succ_eq_append_getElem h]
  simp only [List.flatMap_append, List.flatMap_cons, List.flatMap_nil, List.append_nil, List.append_assoc]
theorem joinL_le (T : List Tk) (k : Nat) : (joinL (T.take k)).length ≤ (joinL T).length := by
  have e : joinL T = joinL (T.take k) ++ joinL (T.drop k) := by unfold joinL; rw [← List.flatMap_append, List.take_append_drop]
  rw [e, List.length_append]; omega
end Go.Proofs.YtbbmihojfcofdaaGreatDoor
