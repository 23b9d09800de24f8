/-
  Contract of a relation's table's put: a row's values' numbers; values that weren't there are added; nothing turns but the table's own blocks.
-/
import Derived.Test.YtfjkfblejfiglaaRKey
namespace Go.Proofs.Ytfjkfblejfiglaa
set_option linter.unusedSimpArgs false
set_option linter.unusedVariables false
set_option linter.unusedSectionVars false
set_option maxRecDepth 100000
open Go.RowKit Go.Maps
variable [DecidableEq V]

/-- A list's block isn't among F. -/
def Apart (F : Nat → Prop) (x : Value) : Prop := ∀ a n c, x = .slice (some a) n c → 0 < n → ¬ F a.block
theorem Vals.turns {W w1 : World} {F : Nat → Prop} {x : Value} {vs : List V} (h : Vals W x vs) (ht : Turns F W w1) (ha : Apart F x) : Vals w1 x vs := by
  obtain ⟨ao, cap, h1, h2, h3, h4⟩ := h
  refine ⟨ao, cap, h1, h2, h3, fun i hi => ?_⟩
  obtain ⟨b, off, e, hlt, c0, c1, c2⟩ := h4 i hi
  have hne := ha ⟨b, off, none⟩ _ _ (by rw [h1, e]) (by omega)
  have hb := ht.block b hlt hne
  exact ⟨b, off, e, Nat.lt_of_lt_of_le hlt ht.size, (World.cell?_of_block (a := ⟨b, off + i * 3, none⟩) hb).trans c0, (World.cell?_of_block (a := ⟨b, off + i * 3 + 1, none⟩) hb).trans c1, (World.cell?_of_block (a := ⟨b, off + i * 3 + 2, none⟩) hb).trans c2⟩
/-- The list with all values of a row put. -/
def addAll (L : List V) (vs : List V) : List V := vs.foldl (fun L v => addV L v.bare) L
theorem addAll_snoc (L : List V) (vs : List V) (v : V) : addAll L (vs ++ [v]) = addV (addAll L vs) v.bare := by simp [addAll]
theorem mem_addV {L : List V} {b u : V} : u ∈ addV L b ↔ u ∈ L ∨ u = b := by
  unfold addV
  split
  · rename_i h
    exact ⟨.inl, fun h' => h'.elim id (fun e => e ▸ h)⟩
  · simp
theorem idx_addV {L : List V} {b u : V} (h : u ∈ L) : (addV L b).idxOf u = L.idxOf u := by
  unfold addV
  split
  · rfl
  · rw [List.idxOf_append, if_pos h]
theorem idx_addV_self {L : List V} {b : V} : (addV L b).idxOf b = L.idxOf b := by
  unfold addV
  split
  · rfl
  · rename_i h
    rw [List.idxOf_append, if_neg h, List.idxOf_eq_length h]; simp
theorem addV_len {L : List V} {b : V} : (addV L b).length ≤ L.length + 1 := by unfold addV; split <;> simp
theorem addAll_len (vs : List V) : ∀ (L : List V), (addAll L vs).length ≤ L.length + vs.length := by
  induction vs with
  | nil => intro L; simp [addAll]
  | cons v vs ih => intro L; have := ih (addV L v.bare); have := addV_len (L := L) (b := v.bare); simp [addAll] at *; omega
/-- The numbers of a row's values. -/
def numsOf (L : List V) (vs : List V) : List Nat := vs.map (fun v => L.idxOf v.bare)
theorem six_set {q : List Nat} {k x : Nat} (hk : q.length = k) (h6 : k < 6) : (six q).set k (.int .i64 (x : Int)) = six (q ++ [x]) := by
  subst hk
  match q, h6 with
  | [], _ => rfl
  | [a], _ => rfl
  | [a, b], _ => rfl
  | [a, b, c], _ => rfl
  | [a, b, c, d], _ => rfl
  | [a, b, c, d, e], _ => rfl
  | a :: b :: c :: d :: e :: f :: l, h => simp at h; omega
/-- A block that holds a row's numbers. -/
def SixAt (w : World) (b : Nat) (q : List Nat) : Prop := w.heap[b]? = some (.cells (six q).toArray 78 (0, 0))
theorem SixAt.cells {w : World} {b : Nat} {q : List Nat} (h : SixAt w b q) : w.cell? ⟨b, 0, none⟩ = some (.int .i64 (q.getD 0 0 : Nat)) ∧ w.cell? ⟨b, 1, none⟩ = some (.int .i64 (q.getD 1 0 : Nat)) ∧ w.cell? ⟨b, 2, none⟩ = some (.int .i64 (q.getD 2 0 : Nat)) ∧
    w.cell? ⟨b, 3, none⟩ = some (.int .i64 (q.getD 3 0 : Nat)) ∧ w.cell? ⟨b, 4, none⟩ = some (.int .i64 (q.getD 4 0 : Nat)) ∧ w.cell? ⟨b, 5, none⟩ = some (.int .i64 (q.getD 5 0 : Nat)) := by
  have h' : w.heap[b]? = some (.cells (six q).toArray 78 (0, 0)) := h
  exact ⟨by rw [cell_of_row w b 0 _ _ _ h']; rfl, by rw [cell_of_row w b 1 _ _ _ h']; rfl, by rw [cell_of_row w b 2 _ _ _ h']; rfl, by rw [cell_of_row w b 3 _ _ _ h']; rfl, by rw [cell_of_row w b 4 _ _ _ h']; rfl, by rw [cell_of_row w b 5 _ _ _ h']; rfl⟩
theorem SixAt.lt {w : World} {b : Nat} {q : List Nat} (h : SixAt w b q) : b < w.heap.size := (Array.getElem?_eq_some_iff.1 h).1
theorem SixAt.frozen {w : World} {b : Nat} {q : List Nat} (h : SixAt w b q) (o : Nat) : w.frozen? ⟨b, o, none⟩ = false := by
  have h' : w.heap[b]? = some (.cells (six q).toArray 78 (0, 0)) := h
  simp [World.frozen?, h']
theorem SixAt.some {w : World} {b k : Nat} {q : List Nat} (h : SixAt w b q) (hk : k < 6) : ∃ u, w.cell? ⟨b, k, none⟩ = some u := by
  obtain ⟨c0, c1, c2, c3, c4, c5⟩ := h.cells
  match k, hk with
  | 0, _ => exact ⟨_, c0⟩
  | 1, _ => exact ⟨_, c1⟩
  | 2, _ => exact ⟨_, c2⟩
  | 3, _ => exact ⟨_, c3⟩
  | 4, _ => exact ⟨_, c4⟩
  | 5, _ => exact ⟨_, c5⟩
theorem SixAt.turns {w w' : World} {F : Nat → Prop} {b : Nat} {q : List Nat} (h : SixAt w b q) (ht : Turns F w w') (hF : ¬ F b) : SixAt w' b q := (ht.block b h.lt hF).trans h
theorem SixAt.set {w : World} {b k x : Nat} {q : List Nat} (h : SixAt w b q) (hk : q.length = k) (h6 : k < 6) : SixAt (w.setCell ⟨b, k, none⟩ (.int .i64 (x : Int))) b (q ++ [x]) := by
  have := heap_setCell_same w b k _ _ (.int .i64 (x : Int)) h
  unfold SixAt
  rw [this, ← six_set hk h6]
  simp
end Go.Proofs.Ytfjkfblejfiglaa
