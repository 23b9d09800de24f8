/-
  Rows that are sorted in place: what they are in memory; how they stay, and turn when two change places. Plain facts; no walk.
-/
import Derived.Test.YtkkpcphmojegmaaTOrdR
import Derived.Test.YtkkpcphmojegmaaTOwn
import Derived.BigRegion
namespace Go.Proofs.Ytkkpcphmojegmaa
set_option linter.unusedSimpArgs false
set_option linter.unusedVariables false
set_option linter.unusedSectionVars false
set_option maxRecDepth 100000
open Go.RowKit
variable [DecidableEq V]

/-- A row: its header, its values, where it stood. -/
structure R where
  hv : Value
  vs : List V
  ix : Nat

/-- Of old memory nothing turns but block g. -/
structure Only (g : Nat) (w w' : World) : Prop where
  os : w'.os = w.os
  tape : w'.tape = w.tape
  output : w'.output = w.output
  size : w.heap.size ≤ w'.heap.size
  block : ∀ k, k < w.heap.size → k ≠ g → w'.heap[k]? = w.heap[k]?
theorem Only.refl (g : Nat) (w : World) : Only g w w := ⟨rfl, rfl, rfl, Nat.le_refl _, fun _ _ _ => rfl⟩
theorem Only.of_below {g : Nat} {w w' : World} (h : Below w.heap.size w w') : Only g w w' := ⟨h.os, h.tape, h.output, h.size, fun k hk _ => h.block k hk⟩
theorem Only.trans {g : Nat} {a b c : World} (h : Only g a b) (k : Only g b c) : Only g a c :=
  ⟨k.os.trans h.os, k.tape.trans h.tape, k.output.trans h.output, Nat.le_trans h.size k.size, fun i hi hg => (k.block i (Nat.lt_of_lt_of_le hi h.size) hg).trans (h.block i hi hg)⟩
theorem Only.drew {g : Nat} {a w : World} (h : Only g a w) : Only g a w.drew := ⟨h.os, h.tape, h.output, h.size, h.block⟩
theorem Only.drewN {g : Nat} {a w : World} (h : Only g a w) (n : Nat) : Only g a (w.drewN n) := ⟨h.os, h.tape, h.output, h.size, h.block⟩
theorem Only.setCell {g : Nat} {a w : World} (h : Only g a w) (i : Nat) (u : Value) : Only g a (w.setCell ⟨g, i, none⟩ u) :=
  ⟨h.os, h.tape, h.output, by simpa using h.size, fun k hk hg => (Below.heap_setCell _ _ _ _ hg).trans (h.block k hk hg)⟩
theorem Only.below {g B : Nat} {w w' : World} (h : Only g w w') (hg : B ≤ g) (hB : B ≤ w.heap.size) : Below B w w' :=
  ⟨h.os, h.tape, h.output, h.size, fun k hk => h.block k (by omega) (by omega)⟩

/-- A row's values lie outside block g. -/
def RowOk (w : World) (g : Nat) (r : R) : Prop := Vals w r.hv r.vs ∧ ∀ a n c, r.hv = .slice (some a) n c → 0 < r.vs.length → a.block ≠ g
theorem RowOk.only {w w' : World} {g : Nat} {r : R} (h : RowOk w g r) (ho : Only g w w') : RowOk w' g r := by
  refine ⟨?_, h.2⟩
  obtain ⟨ao, cap, h1, h2, h3, h4⟩ := h.1
  refine ⟨ao, cap, h1, h2, h3, fun i hi => ?_⟩
  obtain ⟨b, off, e, hlt, c0, c1, c2⟩ := h4 i hi
  have hne : b ≠ g := by
    have := h.2 ⟨b, off, none⟩ _ _ (by rw [h1, e]) (by omega)
    exact this
  have hb := ho.block b hlt hne
  exact ⟨b, off, e, Nat.lt_of_lt_of_le hlt ho.size, (World.cell?_of_block (a := ⟨b, off + i * 3, none⟩) hb).trans c0, (World.cell?_of_block (a := ⟨b, off + i * 3 + 1, none⟩) hb).trans c1, (World.cell?_of_block (a := ⟨b, off + i * 3 + 2, none⟩) hb).trans c2⟩

/-- Block g holds the rows D, and has room for cap. -/
def Mat (w : World) (g cap : Nat) (D : List R) : Prop :=
  (∃ cur, w.heap[g]? = some (.cells cur 30 (0, 0)) ∧ cur.size = cap ∧ D.length ≤ cap ∧ cur.toList.take D.length = D.map R.hv) ∧ ∀ r ∈ D, RowOk w g r
theorem Mat.lt {w : World} {g cap : Nat} {D : List R} (h : Mat w g cap D) : g < w.heap.size := by
  obtain ⟨⟨cur, h0, -⟩, -⟩ := h; exact (Array.getElem?_eq_some_iff.1 h0).1
theorem Mat.cap {w : World} {g cap : Nat} {D : List R} (h : Mat w g cap D) : D.length ≤ cap := by
  obtain ⟨⟨cur, _, _, h2, _⟩, -⟩ := h; exact h2
theorem Mat.below {w w' : World} {g cap : Nat} {D : List R} (h : Mat w g cap D) (hb : Below w.heap.size w w') : Mat w' g cap D := by
  obtain ⟨⟨cur, h0, h1⟩, h2⟩ := h
  exact ⟨⟨cur, (hb.block g (Array.getElem?_eq_some_iff.1 h0).1).trans h0, h1⟩, fun r hr => (h2 r hr).only (Only.of_below hb)⟩
theorem Mat.cell {w : World} {g cap : Nat} {D : List R} (h : Mat w g cap D) (k : Nat) (hk : k < D.length) : w.cell? ⟨g, k, none⟩ = some D[k].hv := by
  obtain ⟨⟨cur, h0, h1, h2, h3⟩, -⟩ := h
  have : (cur.toList.take D.length)[k]? = (D.map R.hv)[k]? := by rw [h3]
  rw [List.getElem?_take_of_lt hk, List.getElem?_map, List.getElem?_eq_getElem hk] at this
  simp only [World.cell?, h0]
  simpa using this
theorem Mat.row {w : World} {g cap : Nat} {D : List R} (h : Mat w g cap D) (k : Nat) (hk : k < D.length) : Vals w D[k].hv D[k].vs := (h.2 _ (List.getElem_mem hk)).1

theorem set_mid {α : Type} (A : List α) (x y : α) (D : List α) : (A ++ x :: D).set A.length y = A ++ y :: D := by
  induction A with
  | nil => rfl
  | cons a A ih => simp [ih]
/-- Two rows change places. -/
theorem Mat.swap {w w' : World} {g cap : Nat} {P Q S : List R} {x y : R} (h : Mat w g cap (P ++ x :: (Q ++ y :: S)))
    (hw : ∀ cur, w.heap[g]? = some (.cells cur 30 (0, 0)) → w'.heap[g]? = some (.cells ((cur.setIfInBounds P.length y.hv).setIfInBounds (P.length + 1 + Q.length) x.hv) 30 (0, 0))) (ho : Only g w w') : Mat w' g cap (P ++ y :: (Q ++ x :: S)) := by
  obtain ⟨⟨cur, h0, h1, h2, h3⟩, h4⟩ := h
  refine ⟨⟨_, hw cur h0, by simp [h1], by simpa using h2, ?_⟩, fun r hr => (h4 r (by simp at hr ⊢; rcases hr with hr | hr | hr | hr | hr <;> simp [hr])).only ho⟩
  have e1 : (P ++ y :: (Q ++ x :: S)).length = (P ++ x :: (Q ++ y :: S)).length := by simp
  rw [e1, Array.toList_setIfInBounds, Array.toList_setIfInBounds, List.take_set, List.take_set, h3]
  simp only [List.map_append, List.map_cons]
  have hp : P.length = (P.map R.hv).length := by simp
  rw [hp, set_mid]
  have e2 : P.map R.hv ++ y.hv :: (Q.map R.hv ++ y.hv :: S.map R.hv) = (P.map R.hv ++ y.hv :: Q.map R.hv) ++ y.hv :: S.map R.hv := by simp
  have e3 : (P.map R.hv).length + 1 + Q.length = (P.map R.hv ++ y.hv :: Q.map R.hv).length := by simp; omega
  rw [e2, e3, set_mid]
  simp
theorem heap_two {w : World} {g i j : Nat} {u v : Value} {cur : Array Value} (h : w.heap[g]? = some (.cells cur 30 (0, 0))) :
    ((w.setCell ⟨g, i, none⟩ u).setCell ⟨g, j, none⟩ v).heap[g]? = some (.cells ((cur.setIfInBounds i u).setIfInBounds j v) 30 (0, 0)) := by
  have h1 := heap_setCell_same w g i cur _ u h
  exact heap_setCell_same _ g j _ _ v h1
theorem Mat.swapA {w : World} {g cap : Nat} {P Q S : List R} {x y : R} {i j : Nat} (h : Mat w g cap (P ++ x :: (Q ++ y :: S))) (hi : i = P.length) (hj : j = P.length + 1 + Q.length) :
    Mat ((w.setCell ⟨g, i, none⟩ y.hv).setCell ⟨g, j, none⟩ x.hv) g cap (P ++ y :: (Q ++ x :: S)) ∧ Only g w ((w.setCell ⟨g, i, none⟩ y.hv).setCell ⟨g, j, none⟩ x.hv) := by
  have ho : Only g w ((w.setCell ⟨g, i, none⟩ y.hv).setCell ⟨g, j, none⟩ x.hv) := ((Only.refl g w).setCell i _).setCell j _
  subst hi hj
  exact ⟨h.swap (fun cur h0 => heap_two h0) ho, ho⟩
theorem Mat.swapB {w : World} {g cap : Nat} {P Q S : List R} {x y : R} {i j : Nat} (h : Mat w g cap (P ++ x :: (Q ++ y :: S))) (hi : i = P.length) (hj : j = P.length + 1 + Q.length) :
    Mat ((w.setCell ⟨g, j, none⟩ x.hv).setCell ⟨g, i, none⟩ y.hv) g cap (P ++ y :: (Q ++ x :: S)) ∧ Only g w ((w.setCell ⟨g, j, none⟩ x.hv).setCell ⟨g, i, none⟩ y.hv) := by
  have ho : Only g w ((w.setCell ⟨g, j, none⟩ x.hv).setCell ⟨g, i, none⟩ y.hv) := ((Only.refl g w).setCell j _).setCell i _
  subst hi hj
  refine ⟨h.swap (fun cur h0 => ?_) ho, ho⟩
  rw [heap_two h0]
  have e : (cur.setIfInBounds (P.length + 1 + Q.length) x.hv).setIfInBounds P.length y.hv = (cur.setIfInBounds P.length y.hv).setIfInBounds (P.length + 1 + Q.length) x.hv := by
    apply Array.toList_inj.1
    simp only [Array.toList_setIfInBounds]
    exact List.set_comm _ _ (by omega)
  rw [e]
theorem Mat.drewN {w : World} {g cap : Nat} {D : List R} (h : Mat w g cap D) (n : Nat) : Mat (w.drewN n) g cap D := h.below ⟨rfl, rfl, rfl, Nat.le_refl _, fun _ _ => rfl⟩
theorem Mat.drew {w : World} {g cap : Nat} {D : List R} (h : Mat w g cap D) : Mat w.drew g cap D := h.below ⟨rfl, rfl, rfl, Nat.le_refl _, fun _ _ => rfl⟩
end Go.Proofs.Ytkkpcphmojegmaa
