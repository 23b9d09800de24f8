/-
  What RelationPlays keeps from round to round: the program's relation, and the document's in a block of its own. Calls of both, told alike. No walk.
-/
import Derived.Test.YtkkpcphmojegmaaRPlay0
import Derived.Test.YtkkpcphmojegmaaRRef3
import Derived.Test.YtkkpcphmojegmaaRRef4
import Derived.Test.YtkkpcphmojegmaaRDeeds
import Derived.Test.YtkkpcphmojegmaaRSmall
namespace Go.Proofs.Ytkkpcphmojegmaa
set_option linter.unusedSimpArgs false
set_option linter.unusedVariables false
set_option linter.unusedSectionVars false
set_option maxRecDepth 100000
open Go.RowKit Go.Maps
variable [DecidableEq V]

/-- The program's relation, told by M; the document's lists; the block qb of the document's relation, which holds y1, y2, y3. -/
structure Sd (w0 wr : World) (qb rb ar c : Nat) (F : Nat → Prop) (M : List (List V)) (s1 s2 : Nat) (xn xd xf : Value) (N D U : List (List V)) (y1 y2 y3 : Value) : Prop where
  rel : Rln wr w0.heap.size F rb ar c M s1 s2
  ref : RRelA (fun j => F j ∨ j = qb) wr xn xd xf N D U
  blk : Blk4 wr qb (.int .i64 (ar : Int)) y1 y2 y3
  nF : ¬ F qb
  lq : w0.heap.size ≤ qb
  below : Below w0.heap.size w0 wr
section
variable {w0 w w' W : World} {qb rb ar c : Nat} {F F' : Nat → Prop} {M M' : List (List V)} {s1 s2 t1 t2 : Nat} {xn xd xf y1 y2 y3 zn zd zf : Value} {N D U N' D' U' : List (List V)}
theorem Sd.qlt (h : Sd w0 w qb rb ar c F M s1 s2 xn xd xf N D U y1 y2 y3) : qb < w.heap.size := h.blk.cells.2.2.2.2.1
theorem Sd.glt (h : Sd w0 w qb rb ar c F M s1 s2 xn xd xf N D U y1 y2 y3) : ∀ k, (F k ∨ k = qb) → k < w.heap.size := fun k hk => by
  rcases hk with hk | rfl
  · exact (h.rel.low.1 k hk).2
  · exact h.qlt
theorem Sd.keep (h : Sd w0 w qb rb ar c F M s1 s2 xn xd xf N D U y1 y2 y3) (hb : Below w.heap.size w w') : Sd w0 w' qb rb ar c F M s1 s2 xn xd xf N D U y1 y2 y3 :=
  ⟨h.rel.below hb, h.ref.below hb, h.blk.keep hb h.qlt, h.nF, h.lq, h.below.trans (hb.mono h.below.size)⟩
theorem Rln.more (h : Rln w w0.heap.size F rb ar c M s1 s2) : Rln w w0.heap.size F rb ar (c + 1) M s1 s2 := by
  obtain ⟨FT, FR, L, RS, to, rv, h1, h2, h3, h4, h5⟩ := h
  exact ⟨FT, FR, L, RS, to, rv, h1, h2, h3, by omega, by omega⟩
theorem Sd.more (h : Sd w0 w qb rb ar c F M s1 s2 xn xd xf N D U y1 y2 y3) : Sd w0 w qb rb ar (c + 1) F M s1 s2 xn xd xf N D U y1 y2 y3 := ⟨h.rel.more, h.ref, h.blk, h.nF, h.lq, h.below⟩
/-- The program's relation turned. -/
theorem Sd.turned (h : Sd w0 w qb rb ar c F M s1 s2 xn xd xf N D U y1 y2 y3) (ht : Turns F w w') (hF : ∀ k, F' k → F k ∨ w.heap.size ≤ k ∧ k < w'.heap.size) {c' : Nat} (hR : Rln w' w0.heap.size F' rb ar c' M' t1 t2) :
    Sd w0 w' qb rb ar c' F' M' t1 t2 xn xd xf N D U y1 y2 y3 := by
  have h1 : RRelA (fun j => (F j ∨ F' j) ∨ j = qb) w xn xd xf N D U := h.ref.grow (fun k hk => by
    rcases hk with (hk | hk) | hk
    · exact .inl (.inl hk)
    · exact (hF k hk).imp .inl (fun h => h.1)
    · exact .inl (.inr hk))
  have h2 := h1.turns (ht.mono (fun k hk => .inl (.inl hk)))
  have hbl := ht.block qb h.qlt h.nF
  refine ⟨hR, h2.grow (fun k hk => .inl (hk.imp .inr id)), hbl.trans h.blk, fun g => ?_, h.lq, ?_⟩
  · rcases hF qb g with g | g
    · exact h.nF g
    · have := h.qlt; omega
  · exact h.below.trans (ht.below h.below.size (fun k hk => (h.rel.low.1 k hk).1))
/-- The document's answer told. -/
theorem Sd.told (h : Sd w0 w qb rb ar c F M s1 s2 xn xd xf N D U y1 y2 y3) (hb : Below w.heap.size w w') (hR : RRelA (fun j => F j ∨ j = qb) w' zn zd zf N' D' U') : Sd w0 w' qb rb ar c F M s1 s2 zn zd zf N' D' U' y1 y2 y3 :=
  let k := h.keep hb
  ⟨k.rel, hR, k.blk, k.nF, k.lq, k.below⟩
/-- The document's relation, stored. -/
theorem Sd.put (h : Sd w0 w qb rb ar c F M s1 s2 xn xd xf N D U y1 y2 y3) : Sd w0 ((((w.setCell ⟨qb, 0, none⟩ (.int .i64 (ar : Int))).setCell ⟨qb, 1, none⟩ xn).setCell ⟨qb, 2, none⟩ xd).setCell ⟨qb, 3, none⟩ xf) qb rb ar c F M s1 s2 xn xd xf N D U xn xd xf := by
  have ht : Turns (fun k => k = qb) w ((((w.setCell ⟨qb, 0, none⟩ (.int .i64 (ar : Int))).setCell ⟨qb, 1, none⟩ xn).setCell ⟨qb, 2, none⟩ xd).setCell ⟨qb, 3, none⟩ xf) :=
    ((((Turns.refl (fun k => k = qb) w).setCell (p := ⟨qb, 0, none⟩) (fun _ => rfl) _).setCell (p := ⟨qb, 1, none⟩) (fun _ => rfl) _).setCell (p := ⟨qb, 2, none⟩) (fun _ => rfl) _).setCell (p := ⟨qb, 3, none⟩) (fun _ => rfl) _
  refine ⟨h.rel.turns ht (fun k hk => by subst hk; exact h.nF), h.ref.turns (ht.mono (fun k hk => .inr hk)), h.blk.fill, h.nF, h.lq, ?_⟩
  exact h.below.trans (ht.below h.below.size (fun k hk => by subst hk; exact h.lq))
/-- A new relation on both sides. -/
theorem Sd.start {w1 : World} (hb : Below w0.heap.size w0 w1) (hR : Rln w1 w0.heap.size F rb ar c [] 0 0) : Sd w0 (w1.alloc (.cells #[.int .i64 (ar : Int), .slice none 0 0, .slice none 0 0, .slice none 0 0] 29)) w1.heap.size rb ar c F [] 0 0 (.slice none 0 0) (.slice none 0 0) (.slice none 0 0) [] [] [] (.slice none 0 0) (.slice none 0 0) (.slice none 0 0) := by
  have hb2 : Below w1.heap.size w1 (w1.alloc (.cells #[.int .i64 (ar : Int), .slice none 0 0, .slice none 0 0, .slice none 0 0] 29)) := (Below.refl _ _).alloc (Nat.le_refl _) _
  exact ⟨hR.below hb2, ⟨GrA.nil _ _, GrA.nil _ _, GrA.nil _ _⟩, (MapKept.heap_alloc w1 _).1, fun g => by have := (hR.low.1 _ g).2; omega, hb.size, hb.trans (hb2.mono hb.size)⟩
theorem Sd.small (h : Sd w0 w qb rb ar c F M s1 s2 xn xd xf N D U y1 y2 y3) (hB : Both M s1 s2 N D U) : N.length + D.length + U.length ≤ c := by
  have h1 := hB.len
  have h2 := h.rel.nums.1
  simp only [List.length_append] at h1
  omega
theorem Sd.rows (h : Sd w0 w qb rb ar c F M s1 s2 xn xd xf N D U y1 y2 y3) (hB : Both M s1 s2 N D U) : ∀ r ∈ D ++ U, r.length = ar ∧ ∀ v ∈ r, v.bare = v := fun r hr => h.rel.rows r (by
  rw [← hB.all]
  rcases List.mem_append.1 hr with hr | hr <;> simp [hr])
/-- A list of older memory lies apart from the relation's blocks. -/
theorem Sd.apart (h : Sd w0 w qb rb ar c F M s1 s2 xn xd xf N D U y1 y2 y3) {x : Value} {vs : List V} (hx : Vals w0 x vs) : Apart F x := apart_old hx (fun k hk => (h.rel.low.1 k hk).1)
end

/-- What the program's Add answers, of a row of any arity. -/
def AddB (w : World) (B : Nat) (F : Nat → Prop) (rb ar c : Nat) (M : List (List V)) (s1 s2 : Nat) (vs : List V) (e : Ending) (w' : World) : Prop :=
  ∃ (F' : Nat → Prop) (b : Bool) (z : Int) (M' : List (List V)), e = .returned (.tuple #[.bool b, .int .i64 z]) ∧ Turns F w w' ∧ (∀ k, F' k → F k ∨ w.heap.size ≤ k ∧ k < w'.heap.size) ∧ Rln w' B F' rb ar (c + 1) M' s1 s2 ∧
    ((vs.length ≠ ar ∧ b = false ∧ z = 1 ∧ M' = M) ∨ (vs.length = ar ∧ vs.map V.bare ∈ M ∧ b = false ∧ z = 0 ∧ M' = M) ∨ (vs.length = ar ∧ vs.map V.bare ∉ M ∧ b = true ∧ z = 0 ∧ M' = M ++ [vs.map V.bare]))
theorem add_both {w w0 : World} {F : Nat → Prop} {rb ar c : Nat} {M : List (List V)} {s1 s2 : Nat} (hR : Rln w w0.heap.size F rb ar c M s1 s2) {x : Value} {vs : List V} (hx : Vals w x vs) (ha : Apart F x) (hc : c < 10000) :
    Calls Try.prog 8 #[.pointer (some ⟨rb, 0, none⟩), x] w fun e w' => AddB w w0.heap.size F rb ar c M s1 s2 vs e w' := by
  by_cases hlen : vs.length = ar
  · refine (add_rln hR hx ha hlen hc).mono ?_
    rintro e w' ⟨F', b, M', rfl, ht, hF, hR', hcase⟩
    refine ⟨F', b, 0, M', rfl, ht, hF, hR', .inr ?_⟩
    rcases hcase with ⟨h1, h2, h3⟩ | ⟨h1, h2, h3⟩
    · exact .inl ⟨hlen, h2, h1, rfl, h3⟩
    · exact .inr ⟨hlen, h2, h1, rfl, h3⟩
  · refine (add_bad hR hx hlen).mono ?_
    rintro e w' ⟨rfl, rfl⟩
    exact ⟨F, false, 1, M, rfl, Turns.refl _ _, fun k hk => .inl hk, hR.more, .inl ⟨hlen, rfl, rfl, rfl⟩⟩
theorem add_agree {M M' N N' D U : List (List V)} {s1 s2 ar : Nat} {b b' : Bool} {z z' : Int} {vs : List V} (hB : Both M s1 s2 N D U) (hb : Bare M)
    (h : (vs.length ≠ ar ∧ b = false ∧ z = 1 ∧ M' = M) ∨ (vs.length = ar ∧ vs.map V.bare ∈ M ∧ b = false ∧ z = 0 ∧ M' = M) ∨ (vs.length = ar ∧ vs.map V.bare ∉ M ∧ b = true ∧ z = 0 ∧ M' = M ++ [vs.map V.bare]))
    (k : (vs.length ≠ ar ∧ b' = false ∧ z' = 1 ∧ N' = N) ∨ (vs.length = ar ∧ (inB N vs || inB D vs || inB U vs) = true ∧ b' = false ∧ z' = 0 ∧ N' = N) ∨ (vs.length = ar ∧ (inB N vs || inB D vs || inB U vs) = false ∧ b' = true ∧ z' = 0 ∧ N' = N ++ [vs.map V.bare])) :
    b' = b ∧ z' = z ∧ Both M' s1 s2 N' D U := by
  rw [hB.has hb vs] at k
  rcases h with ⟨h0, rfl, rfl, rfl⟩ | ⟨h0, h1, rfl, rfl, rfl⟩ | ⟨h0, h1, rfl, rfl, rfl⟩
  · rcases k with ⟨k0, rfl, rfl, rfl⟩ | ⟨k0, -⟩ | ⟨k0, -⟩
    · exact ⟨rfl, rfl, hB⟩
    · exact absurd k0 h0
    · exact absurd k0 h0
  · rcases k with ⟨k0, -⟩ | ⟨k0, k1, rfl, rfl, rfl⟩ | ⟨k0, k1, -⟩
    · exact absurd h0 k0
    · exact ⟨rfl, rfl, hB⟩
    · simp [h1] at k1
  · rcases k with ⟨k0, -⟩ | ⟨k0, k1, -⟩ | ⟨k0, k1, rfl, rfl, rfl⟩
    · exact absurd h0 k0
    · simp [h1] at k1
    · exact ⟨rfl, rfl, hB.add _⟩

/-- What both sides' Match answer: none of what can't be asked, else these rows. -/
def MB (w : World) (ok : Prop) (L : List (List V)) (e : Ending) (w' : World) : Prop :=
  ∃ (xo : Option Addr) (n xc : Nat) (z : Int) (E : List R), e = .returned (.tuple #[.slice xo n xc, .int .i64 z]) ∧ Below w.heap.size w w' ∧ Grid w' (.slice xo n xc) E ∧ ((¬ ok ∧ z = 1 ∧ E = []) ∨ (ok ∧ z = 0 ∧ E.map R.vs = srt L))
theorem MatchOut.mb {w w' : World} {M : List (List V)} {s1 s2 ar : Nat} {cols : List Int} {vs : List V} {o : Bool} {e : Ending} (h : MatchOut w M s1 s2 ar cols vs o e w') : MB w (cols.length = vs.length ∧ Placed ar cols) (sel M s1 s2 cols vs o) e w' := by
  obtain ⟨hb, ⟨h1, rfl⟩ | ⟨h1, xo, xc, D, rfl, hO, hE⟩⟩ := h
  · exact ⟨none, 0, 0, 1, [], rfl, hb, Grid.nothing _, .inl ⟨h1, rfl, rfl⟩⟩
  · exact ⟨xo, _, xc, 0, D, rfl, hb, hO.grid, .inr ⟨h1, rfl, hE⟩⟩
theorem RMatchOut.mb {w w' : World} {ar : Nat} {cols : List Int} {vs : List V} {L : List (List V)} {e : Ending} (h : RMatchOut w ar cols vs L e w') : MB w (cols.length = vs.length ∧ Placed ar cols) (L.filter (holdB cols vs)) e w' := by
  rcases h with ⟨h1, rfl, hb⟩ | ⟨h1, x2, rfl, ⟨x, D, e1, hb, hO, hE⟩⟩
  · exact ⟨none, 0, 0, 1, [], rfl, hb, Grid.nothing _, .inl ⟨h1, rfl, rfl⟩⟩
  · cases e1
    obtain ⟨xo, xc, rfl, -⟩ := hO.grid.len
    exact ⟨xo, _, xc, 0, D, rfl, hb, hO.grid, .inr ⟨h1, rfl, hE⟩⟩
theorem mb_agree {ok : Prop} {L L' : List (List V)} {z z' : Int} {E E' : List R} (hL : srt L = srt L') (h : (¬ ok ∧ z = 1 ∧ E = []) ∨ (ok ∧ z = 0 ∧ E.map R.vs = srt L)) (k : (¬ ok ∧ z' = 1 ∧ E' = []) ∨ (ok ∧ z' = 0 ∧ E'.map R.vs = srt L')) : z' = z ∧ E.map R.vs = E'.map R.vs := by
  rcases h with ⟨h1, rfl, rfl⟩ | ⟨h1, rfl, h2⟩
  · rcases k with ⟨k1, rfl, rfl⟩ | ⟨k1, -⟩
    · exact ⟨rfl, rfl⟩
    · exact absurd k1 h1
  · rcases k with ⟨k1, -⟩ | ⟨k1, rfl, k2⟩
    · exact absurd h1 k1
    · exact ⟨rfl, by rw [h2, k2, hL]⟩

/-- The box of a deed. -/
def BoxD (w : World) (bb : Nat) (kd : Int) (tv cv : Value) (od : Bool) : Prop := w.heap[bb]? = some (.cells #[.int .i64 kd, tv, cv, .bool od] 33 (0, 0))
section
variable {w w' : World} {bb : Nat} {kd : Int} {tv cv : Value} {od : Bool}
theorem BoxD.cells (h : BoxD w bb kd tv cv od) : w.cell? ⟨bb, 0, none⟩ = some (.int .i64 kd) ∧ w.cell? ⟨bb, 1, none⟩ = some tv ∧ w.cell? ⟨bb, 2, none⟩ = some cv ∧ w.cell? ⟨bb, 3, none⟩ = some (.bool od) ∧ bb < w.heap.size :=
  by
  have h' : w.heap[bb]? = some (.cells #[.int .i64 kd, tv, cv, .bool od] 33 (0, 0)) := h
  exact ⟨by rw [cell_of_row w bb 0 _ _ _ h']; rfl, by rw [cell_of_row w bb 1 _ _ _ h']; rfl, by rw [cell_of_row w bb 2 _ _ _ h']; rfl, by rw [cell_of_row w bb 3 _ _ _ h']; rfl, (Array.getElem?_eq_some_iff.1 h').1⟩
theorem BoxD.below (h : BoxD w bb kd tv cv od) (hb : Below w.heap.size w w') : BoxD w' bb kd tv cv od := (hb.block bb h.cells.2.2.2.2).trans h
theorem BoxD.turns {F : Nat → Prop} (h : BoxD w bb kd tv cv od) (ht : Turns F w w') (hF : ¬ F bb) : BoxD w' bb kd tv cv od := (ht.block bb h.cells.2.2.2.2 hF).trans h
theorem BoxD.four (h : BoxD w bb kd tv cv od) {q : Nat} (hq : bb ≠ q) {a0 a1 a2 a3 : Value} : BoxD ((((w.setCell ⟨q, 0, none⟩ a0).setCell ⟨q, 1, none⟩ a1).setCell ⟨q, 2, none⟩ a2).setCell ⟨q, 3, none⟩ a3) bb kd tv cv od := by
  unfold BoxD
  rw [Below.heap_setCell _ _ _ _ hq, Below.heap_setCell _ _ _ _ hq, Below.heap_setCell _ _ _ _ hq, Below.heap_setCell _ _ _ _ hq]
  exact h
end
/-- A list of rows, and what they are. -/
structure GS (w : World) (x : Value) (E : List R) (L : List (List V)) : Prop where
  grid : Grid w x E
  eq : E.map R.vs = L
theorem gs_below {w w' : World} {x : Value} {E : List R} {L : List (List V)} (h : GS w x E L) (hb : Below w.heap.size w w') : GS w' x E L := ⟨h.grid.below hb, h.eq⟩
theorem GS.same {w : World} {x y : Value} {E E' : List R} {L : List (List V)} (h : GS w x E L) (k : GS w y E' L) : Calls Try.prog 14 #[x, y] w fun e w' => e = .returned (.bool true) ∧ Below w.heap.size w w' := rows_same h.grid k.grid (h.eq.trans k.eq.symm)
end Go.Proofs.Ytkkpcphmojegmaa
