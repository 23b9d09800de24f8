/-
  Contract of the document's Match of a relation (lambrequinref04).
-/
import Derived.Test.YtkkpcphmojegmaaRRef2
namespace Go.Proofs.Ytkkpcphmojegmaa
set_option linter.unusedSimpArgs false
set_option linter.unusedVariables false
set_option linter.unusedSectionVars false
set_option maxRecDepth 100000
open Go.RowKit Go.Maps
variable [DecidableEq V]

/-- A row has the value at the j-th place. -/
def colB (cols : List Int) (vs : List V) (j : Nat) (r : List V) : Bool := decide (r.getD (cols.getD j 0).toNat vZ = (vs.getD j vZ).bare)
/-- A row has the values at the first i places. -/
def holdI (cols : List Int) (vs : List V) (i : Nat) (r : List V) : Bool := (List.range i).all fun j => colB cols vs j r
theorem holdI_all (cols : List Int) (vs r : List V) : holdI cols vs cols.length r = holdB cols vs r := rfl
theorem holdI_zero (cols : List Int) (vs r : List V) : holdI cols vs 0 r = true := rfl
theorem filter_holdI (cols : List Int) (vs : List V) (i : Nat) (L : List (List V)) : (L.filter (holdI cols vs i)).filter (colB cols vs i) = L.filter (holdI cols vs (i + 1)) := by
  rw [List.filter_filter]
  apply List.filter_congr
  intro r _
  simp [holdI, List.range_succ, Bool.and_comm]
theorem map_filter_snoc {E : List R} {p : List V → Bool} {k : Nat} (hk : k < E.length) : ((E.take (k + 1)).map R.vs).filter p = ((E.take k).map R.vs).filter p ++ (if p E[k].vs = true then [E[k].vs] else []) := by
  rw [List.take_succ_eq_append_getElem hk, List.map_append, List.filter_append]
  congr 1
  simp [List.filter_cons]
/-- What the document's Match answers. -/
def RMatchOut (w : World) (ar : Nat) (cols : List Int) (vs : List V) (L : List (List V)) (e : Ending) (w' : World) : Prop :=
  (¬ (cols.length = vs.length ∧ Placed ar cols) ∧ e = .returned (.tuple #[.slice none 0 0, .int .i64 1]) ∧ Below w.heap.size w w') ∨ ((cols.length = vs.length ∧ Placed ar cols) ∧ ∃ x2, e = .returned (.tuple #[x2, .int .i64 0]) ∧ SortOut w (L.filter (holdB cols vs)) (.returned x2) w')
/-- Rows of older memory, each of the arity, without stray fields. -/
structure Rws (w : World) (ar : Nat) (L0 : List R) : Prop where
  vals : ∀ r ∈ L0, Vals w r.hv r.vs ∧ NilCap r.hv
  len : ∀ r ∈ L0, r.vs.length = ar
  bare : ∀ r ∈ L0, ∀ v ∈ r.vs, v.bare = v
theorem eleven_keep {wr W w' : World} {bl ol bc oc b o0 o1 o2 bv p0 p1 p2 : Nat} {x z x0 x1 x2 y0 y1 y2 : Value}
    (h : W.cell? ⟨bl, ol, none⟩ = some x ∧ bl < W.heap.size ∧ W.cell? ⟨bc, oc, none⟩ = some z ∧ bc < W.heap.size ∧ W.cell? ⟨b, o0, none⟩ = some x0 ∧ W.cell? ⟨b, o1, none⟩ = some x1 ∧ W.cell? ⟨b, o2, none⟩ = some x2 ∧ b < W.heap.size ∧ W.cell? ⟨bv, p0, none⟩ = some y0 ∧ W.cell? ⟨bv, p1, none⟩ = some y1 ∧ W.cell? ⟨bv, p2, none⟩ = some y2 ∧ bv < W.heap.size ∧ Below wr.heap.size wr W) (hb : Below W.heap.size W w') :
    w'.cell? ⟨bl, ol, none⟩ = some x ∧ bl < w'.heap.size ∧ w'.cell? ⟨bc, oc, none⟩ = some z ∧ bc < w'.heap.size ∧ w'.cell? ⟨b, o0, none⟩ = some x0 ∧ w'.cell? ⟨b, o1, none⟩ = some x1 ∧ w'.cell? ⟨b, o2, none⟩ = some x2 ∧ b < w'.heap.size ∧ w'.cell? ⟨bv, p0, none⟩ = some y0 ∧ w'.cell? ⟨bv, p1, none⟩ = some y1 ∧ w'.cell? ⟨bv, p2, none⟩ = some y2 ∧ bv < w'.heap.size ∧ Below wr.heap.size wr w' := by
  obtain ⟨h0, g0, h1, g1, h2, h3, h4, g2, h5, h6, h7, g3, hB⟩ := h
  have hs := hb.size
  exact ⟨(hb.cell (p := ⟨bl, ol, none⟩) g0).trans h0, by omega, (hb.cell (p := ⟨bc, oc, none⟩) g1).trans h1, by omega, (hb.cell (p := ⟨b, o0, none⟩) g2).trans h2, (hb.cell (p := ⟨b, o1, none⟩) g2).trans h3, (hb.cell (p := ⟨b, o2, none⟩) g2).trans h4, by omega, (hb.cell (p := ⟨bv, p0, none⟩) g3).trans h5, (hb.cell (p := ⟨bv, p1, none⟩) g3).trans h6, (hb.cell (p := ⟨bv, p2, none⟩) g3).trans h7, by omega, hB.trans (hb.mono hB.size)⟩
end Go.Proofs.Ytkkpcphmojegmaa
