/-
  Lists of rows that lie apart from some blocks: they stay where only those turn. Plain facts; no walk.
-/
import Derived.Test.YtkkpcphmojegmaaRRef0
namespace Go.Proofs.Ytkkpcphmojegmaa
set_option linter.unusedSimpArgs false
set_option linter.unusedVariables false
set_option linter.unusedSectionVars false
set_option maxRecDepth 100000
open Go.RowKit Go.Maps
variable [DecidableEq V]

/-- x is a list of the rows L; neither it nor its rows lie in G's blocks. -/
def GrA (G : Nat → Prop) (w : World) (x : Value) (L : List (List V)) : Prop := ∃ D : List R, Grid w x D ∧ NilCap x ∧ D.map R.vs = L ∧ Apart G x ∧ ∀ r ∈ D, Apart G r.hv
section
variable {G G' : Nat → Prop} {w w' : World} {x : Value} {L : List (List V)}
theorem GrA.gr (h : GrA G w x L) : Gr w x L := let ⟨D, a, b, c, _, _⟩ := h; ⟨D, a, b, c⟩
theorem apart_none (G : Nat → Prop) : Apart G (.slice none 0 0) := fun _ _ _ e _ _ => by injection e with e1; cases e1
theorem GrA.nil (G : Nat → Prop) (w : World) : GrA G w (.slice none 0 0) [] := ⟨[], Grid.nothing w, fun n c e => by injection e with _ _ e; exact e.symm, rfl, apart_none G, fun _ h => by simp at h⟩
theorem Grid.turns {D : List R} (h : Grid w x D) (ht : Turns G w w') (hx : Apart G x) (hr : ∀ r ∈ D, Apart G r.hv) : Grid w' x D := by
  obtain ⟨ao, cap, h1, h2, h4⟩ := h
  refine ⟨ao, cap, h1, h2, fun i hi => ?_⟩
  obtain ⟨b, off, e, hlt, c0, c1, c2⟩ := h4 i hi
  have hne := hx ⟨b, off, none⟩ _ _ (by rw [h1, e]) (by omega)
  have hb := ht.block b hlt hne
  exact ⟨b, off, e, Nat.lt_of_lt_of_le hlt ht.size, (World.cell?_of_block (a := ⟨b, off + i, none⟩) hb).trans c0, c1.turns ht (hr _ (List.getElem_mem hi)), c2⟩
theorem GrA.turns (h : GrA G w x L) (ht : Turns G w w') : GrA G w' x L := by
  obtain ⟨D, a, b, c, d, e⟩ := h
  exact ⟨D, a.turns ht d e, b, c, d, e⟩
theorem GrA.below (h : GrA G w x L) (hb : Below w.heap.size w w') : GrA G w' x L := h.turns (Turns.of_below hb)
theorem Grid.lt {a : Addr} {n c : Nat} {D : List R} (h : Grid w (.slice (some a) n c) D) (h0 : 0 < n) : a.block < w.heap.size := by
  obtain ⟨ao', cap', e, h2, h4⟩ := h
  injection e with e1 e2 e3
  obtain ⟨b, off, e, hlt, -⟩ := h4 0 (by omega)
  rw [← e1] at e
  cases e
  exact hlt
/-- Blocks that are newer than the list may be among G. -/
theorem GrA.grow (h : GrA G w x L) (hG : ∀ k, G' k → G k ∨ w.heap.size ≤ k) : GrA G' w x L := by
  obtain ⟨D, a, b, c, d, e⟩ := h
  refine ⟨D, a, b, c, fun q n cp e0 h0 g => ?_, fun r hr q n cp e0 h0 g => ?_⟩
  · rcases hG _ g with g | g
    · exact d q n cp e0 h0 g
    · subst e0
      have := a.lt h0
      omega
  · rcases hG _ g with g | g
    · exact e r hr q n cp e0 h0 g
    · have hv := (a.vals r hr).1
      obtain ⟨vo, vc, ve, -⟩ := hv.len
      rw [e0] at hv ve
      injection ve with v1 v2 v3
      have := vals_lt hv (by omega)
      omega
theorem OwnG.apart {B : Nat} {E : List R} (h : OwnG w B x E) (hG : ∀ k, G k → k < B) : Apart G x := fun a n c e h0 g => by
  subst e
  rcases h.2 with ⟨e1, -⟩ | ⟨b, cap, e1, e2, -⟩
  · injection e1 with e1; cases e1
  · injection e1 with e1; cases e1; have := hG _ g; simp at this; omega
end
/-- The document's relation as a value; its lists lie apart from G's blocks. -/
structure RRelA (G : Nat → Prop) (w : World) (xn xd xf : Value) (N D F : List (List V)) : Prop where
  n : GrA G w xn N
  d : GrA G w xd D
  f : GrA G w xf F
section
variable {G G' : Nat → Prop} {w w' : World} {xn xd xf : Value} {N D F : List (List V)}
theorem RRelA.rel (h : RRelA G w xn xd xf N D F) : RRel w xn xd xf N D F := ⟨h.n.gr, h.d.gr, h.f.gr⟩
theorem RRelA.turns (h : RRelA G w xn xd xf N D F) (ht : Turns G w w') : RRelA G w' xn xd xf N D F := ⟨h.n.turns ht, h.d.turns ht, h.f.turns ht⟩
theorem RRelA.below (h : RRelA G w xn xd xf N D F) (hb : Below w.heap.size w w') : RRelA G w' xn xd xf N D F := ⟨h.n.below hb, h.d.below hb, h.f.below hb⟩
theorem RRelA.grow (h : RRelA G w xn xd xf N D F) (hG : ∀ k, G' k → G k ∨ w.heap.size ≤ k) : RRelA G' w xn xd xf N D F := ⟨h.n.grow hG, h.d.grow hG, h.f.grow hG⟩
end
end Go.Proofs.Ytkkpcphmojegmaa

/-
  Contracts of the document's Rows, All of a relation (lambrequinref04).
-/
namespace Go.Proofs.Ytkkpcphmojegmaa
set_option linter.unusedSimpArgs false
set_option linter.unusedVariables false
set_option linter.unusedSectionVars false
set_option maxRecDepth 100000
open Go.RowKit Go.Maps
variable [DecidableEq V]

/-- append of a list of rows, as one step of a region that draws. -/
theorem step_append_gr {ops : Array Oper} {o : Oper} {a : Act} {w : World} {K : Act → World → Prop} {Q : Exit → Act → World → Prop} {EE : Prop}
    (hg : o.guard = none) (s x : Operand) (hop : o.op = Op.call { callee := Callee.builtin Builtin.append, args := #[s, x], argTypes := #[27, 27] })
    (B : Nat) (v : Value) (E : List R) (hs : a.eval s = v) (hown : OwnG w B v E) (xv : Value) (M : List R) (hx : a.eval x = xv) (hV : Grid w xv M) (hN : NilCap xv) (hF : ∀ r ∈ M, Fit w v r)
    (hbytes : E.length + M.length ≤ 2000000) (hB : B ≤ w.heap.size)
    (hK : ∀ v' w', OwnG w' B v' (E ++ M) → Below B w w' → K (a.put o.dst v') w') :
    if Region.wanted o (yielded ops a.tmps) = true then Oper.wp Try.prog o a w K Q else EE := by
  have hw : Region.wanted o (yielded ops a.tmps) = true := by simp [Region.wanted, hg]
  rw [if_pos hw]
  obtain ⟨i0, hi, hz0, hz1, hz2⟩ := info_parts infoRow
  obtain ⟨ao, c, rfl, hm⟩ := hV.len
  cases ao with
  | none =>
    have hvs := hV.empty
    subst hvs
    have hc : c = 0 := hN _ _ rfl
    subst hc
    have hr := run_append_owned_none (P := Try.prog) w B 27 o.type 30 i0 1 Try.underlying27 hi v E.length (E.map R.hv) hown.own
    unfold Oper.wp
    simp only [List.length_nil] at hx
    simp [execOp, hop, resolve, invoke, builtin, hs, hx, hr, Result.andThen]
    exact hK v w (by rw [List.append_nil]; exact hown) (Below.refl _ _)
  | some ad =>
    obtain ⟨v', w', hr, h2, h3, h4, h5⟩ := run_append_own_at (P := Try.prog) w B 27 o.type 30 i0 _ 1 24 Try.underlying27 hi hz0 hz1 hz2 rfl (by decide) v E.length (E.map R.hv) hown.own ad M.length c (M.map R.hv) (rows_one M) hV.cells hV.oneCell (by unfold maxLen; omega) (by omega) hB
    unfold Oper.wp
    simp [execOp, hop, resolve, invoke, builtin, hs, hx, hr, Result.andThen]
    exact hK v' w' (hown.join hF h2 h3 h5) ((Below.refl _ _).grown h3 hB (fun k hk => (hown.own.lt k hk).1))
/-- Rows of older memory fit a list of the call's own. -/
theorem fit_old {W w : World} {B : Nat} {v : Value} {E M : List R} {x : Value} (hO : OwnG w B v E) (hG : Grid W x M) (hW : W.heap.size ≤ B) (hb : Below W.heap.size W w) : ∀ r ∈ M, Fit w v r := fun r hr =>
  hO.older (W := W) hW (hG.vals r hr).1 ((hG.vals r hr).1.below hb) (hG.vals r hr).2
/-- The struct's cells, and what has been since. -/
def Four (w0 w : World) (b : Nat) (a0 a1 a2 a3 : Value) : Prop := w.cell? ⟨b, 0, none⟩ = some a0 ∧ w.cell? ⟨b, 1, none⟩ = some a1 ∧ w.cell? ⟨b, 2, none⟩ = some a2 ∧ w.cell? ⟨b, 3, none⟩ = some a3 ∧ b < w.heap.size ∧ Below w0.heap.size w0 w
theorem Four.at {w0 w w' : World} {b : Nat} {a0 a1 a2 a3 : Value} (h : w.cell? ⟨b, 0, none⟩ = some a0 ∧ w.cell? ⟨b, 1, none⟩ = some a1 ∧ w.cell? ⟨b, 2, none⟩ = some a2 ∧ w.cell? ⟨b, 3, none⟩ = some a3 ∧ b < w.heap.size ∧ Below w0.heap.size w0 w) (hb : Below w0.heap.size w w') (hlt : b < w0.heap.size) :
    w'.cell? ⟨b, 0, none⟩ = some a0 ∧ w'.cell? ⟨b, 1, none⟩ = some a1 ∧ w'.cell? ⟨b, 2, none⟩ = some a2 ∧ w'.cell? ⟨b, 3, none⟩ = some a3 ∧ b < w'.heap.size ∧ Below w0.heap.size w0 w' :=
  ⟨(hb.cell (p := ⟨b, 0, none⟩) hlt).trans h.1, (hb.cell (p := ⟨b, 1, none⟩) hlt).trans h.2.1, (hb.cell (p := ⟨b, 2, none⟩) hlt).trans h.2.2.1, (hb.cell (p := ⟨b, 3, none⟩) hlt).trans h.2.2.2.1, Nat.lt_of_lt_of_le h.2.2.2.2.1 hb.size, h.2.2.2.2.2.trans hb⟩

set_option maxHeartbeats 1600000 in
theorem refRows_any {w : World} {ar : Int} {xn xd xf : Value} {N D F : List (List V)} (hR : RRel w xn xd xf N D F) (hl : N.length + D.length + F.length ≤ 1000000) :
    Calls Try.prog 18 #[.agg #[.int .i64 ar, xn, xd, xf]] w fun e w' => ∃ x', e = .returned x' ∧ Below w.heap.size w w' ∧ Gr w' x' (F ++ D ++ N) := by
  obtain ⟨no, nc, rfl, -⟩ := hR.n.form
  obtain ⟨eo, ec, rfl, -⟩ := hR.d.form
  obtain ⟨fo, fc, rfl, -⟩ := hR.f.form
  obtain ⟨⟨DN, gn, nn, rfl⟩, ⟨DD, gd, nd, rfl⟩, ⟨DF, gf, nf, rfl⟩⟩ := hR
  simp only [List.length_map] at *
  have HG : Hid (Grid w (.slice no DN.length nc) DN ∧ Grid w (.slice eo DD.length ec) DD ∧ Grid w (.slice fo DF.length fc) DF) := ⟨gn, gd, gf⟩
  have HN : Hid (NilCap (.slice no DN.length nc) ∧ NilCap (.slice eo DD.length ec) ∧ NilCap (.slice fo DF.length fc)) := ⟨nn, nd, nf⟩
  have HL := Lib.hid hl
  clear gn gd gf nn nd nf hl
  go_enter Try.func18, Try.ntmps18
  obtain ⟨w0, hw0⟩ : ∃ w0, w0 = w.alloc (.cells #[.int .i64 ar, .slice no DN.length nc, .slice eo DD.length ec, .slice fo DF.length fc] 29) := ⟨_, rfl⟩
  obtain ⟨c0, c1, c2, c3, c4⟩ : w0.cell? ⟨w.heap.size, 0, none⟩ = some (.int .i64 ar) ∧ w0.cell? ⟨w.heap.size, 1, none⟩ = some (.slice no DN.length nc) ∧ w0.cell? ⟨w.heap.size, 2, none⟩ = some (.slice eo DD.length ec) ∧ w0.cell? ⟨w.heap.size, 3, none⟩ = some (.slice fo DF.length fc) ∧ w.heap.size < w0.heap.size := by
    rw [hw0]; exact ⟨by simp, by simp, by simp, by simp, by simp⟩
  have HB0 : Hid (Below w.heap.size w w0) := by show Below _ _ _; rw [hw0]; exact (Below.refl _ _).alloc (Nat.le_refl _) _
  have HOLD : Hid (∀ W, Below w0.heap.size w0 W → Below w.heap.size w W) := fun W hb => HB0.out.trans (hb.mono HB0.out.size)
  go_wp2_with fail
  rw [← hw0]
  clear hw0
  go_region_held3 (fun w' => w'.cell? ⟨w.heap.size, 0, none⟩ = some (.int .i64 ar) ∧ w'.cell? ⟨w.heap.size, 1, none⟩ = some (.slice no DN.length nc) ∧ w'.cell? ⟨w.heap.size, 2, none⟩ = some (.slice eo DD.length ec) ∧ w'.cell? ⟨w.heap.size, 3, none⟩ = some (.slice fo DF.length fc) ∧ w.heap.size < w'.heap.size ∧ Below w0.heap.size w0 w')
    (first | assumption | exact Four.at (by assumption) hbN c4 | exact Four.at (by assumption) ((Below.refl _ _).alloc (by first | exact Nat.le_refl _ | (go_split_ands; rename_i q; exact q.size)) _) c4 | exact ⟨c0, c1, c2, c3, c4, (Below.refl _ _).drew⟩ | exact Four.at (w := w0) ⟨c0, c1, c2, c3, c4, Below.refl _ _⟩ (((Below.refl _ _).alloc (Nat.le_refl _) _).drew) c4)
    (first
      | (refine step_append_gr rfl (.tmp 4) (.tmp 6) rfl w0.heap.size _ [] rfl (OwnG.empty (Nat.le_refl _)) (.slice fo DF.length fc) DF rfl (HG.out.2.2.below (HOLD.out _ (by first | exact ((Below.refl _ _).drew).alloc (Nat.le_refl _) _ | exact ((Below.refl _ _).alloc (Nat.le_refl _) _).drew))) HN.out.2.2 (fit_old (W := w) (OwnG.empty (Nat.le_refl _)) HG.out.2.2 HB0.out.size (HOLD.out _ (by first | exact ((Below.refl _ _).drew).alloc (Nat.le_refl _) _ | exact ((Below.refl _ _).alloc (Nat.le_refl _) _).drew))) (by have := HL.out; simp; omega) (by simp) ?_; intro v1 w1 hO1 hbN; have HO1 := Lib.hid hO1; clear hO1)
      | (refine step_append_gr rfl (.tmp 7) (.tmp 9) rfl w0.heap.size _ _ rfl HO1.out (.slice eo DD.length ec) DD rfl (HG.out.2.1.below (HOLD.out _ (by go_split_ands; assumption))) HN.out.2.1 (fit_old (W := w) HO1.out HG.out.2.1 HB0.out.size (HOLD.out _ (by go_split_ands; assumption))) (by have := HL.out; simp; omega) (by go_split_ands; rename_i q; exact q.size) ?_; intro v2 w2 hO2 hbN; have HO2 := Lib.hid hO2; clear hO2))
  go_split_ands
  rename_i y0 y1 y2 y3 y4 y5
  obtain ⟨w3, hw3⟩ : ∃ w3, w3 = w2 := ⟨_, rfl⟩
  rw [← hw3] at y0 y1 y2 y3 y4 y5 HO2 ⊢
  clear hw3
  have HB3 := Lib.hid y5
  obtain ⟨vo, vc, hve⟩ : ∃ vo vc, v2 = .slice vo ([] ++ DF ++ DD).length vc := by obtain ⟨a, b, e, -⟩ := HO2.out.grid.len; exact ⟨a, b, e⟩
  have hs3 := y5.size
  clear HO1 hbN
  go_wp2_with (at_builtin; refine wpList_append_rows rfl _ _ rfl w0.heap.size v2 ([] ++ DF ++ DD) rfl HO2.out (.slice no DN.length nc) DN rfl (HG.out.1.below (HOLD.out _ HB3.out)) HN.out.1 (fit_old (W := w) HO2.out HG.out.1 HB0.out.size (HOLD.out _ HB3.out)) (by have := HL.out; simp; omega) hs3 ?_; intro v4 w4 hO4 hb4; have HO4 := Lib.hid hO4; have HB4 : Hid (Below w.heap.size w w4) := HOLD.out _ (HB3.out.trans hb4); clear hO4 hb4)
  go_ret
  exact ⟨_, rfl, HB4.out, Gr.own HO4.out (by simp)⟩

theorem Gr.sort {w : World} {x : Value} {L : List (List V)} (h : Gr w x L) (hl : L.length ≤ 1000000) :
    Calls Try.prog 22 #[x] w fun e w' => SortOut w L e w' := by
  obtain ⟨D, hG, -, rfl⟩ := h
  refine (refSort_any hG (by simpa using hl)).mono ?_
  rintro e w' ⟨x', D', rfl, hb, hO, hE, -⟩
  exact ⟨x', D', rfl, hb, hO, hE⟩

end Go.Proofs.Ytkkpcphmojegmaa
