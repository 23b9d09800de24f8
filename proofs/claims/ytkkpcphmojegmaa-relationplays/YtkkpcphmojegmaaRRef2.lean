/-
  Contracts of the document's All, Turn of a relation (lambrequinref04).
-/
import Derived.Test.YtkkpcphmojegmaaRApart
import Derived.Deep.RegionLawGrows
namespace Go.Proofs.Ytkkpcphmojegmaa
set_option linter.unusedSimpArgs false
set_option linter.unusedVariables false
set_option linter.unusedSectionVars false
set_option maxRecDepth 100000
open Go.RowKit Go.Maps
variable [DecidableEq V]

set_option maxHeartbeats 800000 in
theorem refAll_any {w : World} {ar : Int} {xn xd xf : Value} {N D F : List (List V)} (hR : RRel w xn xd xf N D F) (hl : N.length + D.length + F.length ≤ 1000000) :
    Calls Try.prog 20 #[.agg #[.int .i64 ar, xn, xd, xf]] w fun e w' => SortOut w (F ++ D ++ N) e w' := by
  obtain ⟨no, nc, rfl, -⟩ := hR.n.form
  obtain ⟨eo, ec, rfl, -⟩ := hR.d.form
  obtain ⟨fo, fc, rfl, -⟩ := hR.f.form
  have hb0 : Below w.heap.size w (w.alloc (.cells #[.int .i64 ar, .slice no N.length nc, .slice eo D.length ec, .slice fo F.length fc] 29)) := (Below.refl _ _).alloc (Nat.le_refl _) _
  have hRO := Lib.hid (refRows_any (ar := ar) (hR.below hb0) hl)
  have HB0 := Lib.hid hb0
  have HL : Hid ((F ++ D ++ N).length ≤ 1000000) := by show _ ≤ _; simp; omega
  obtain ⟨L, hL⟩ : ∃ L, F ++ D ++ N = L := ⟨_, rfl⟩
  rw [hL] at hRO HL
  have HLL := Lib.hid hL
  clear hR hb0 hl hL
  go_enter Try.func20, Try.ntmps20
  go_wp2_with fail
  refine (hRO.out).mono ?_
  rintro e w1 ⟨x1, rfl, hb1, hg1⟩
  have HB1 : Hid (Below w.heap.size w w1) := HB0.out.trans (hb1.mono HB0.out.size)
  have hS := Lib.hid (hg1.sort HL.out)
  obtain ⟨xo, xc, hxe, -⟩ := hg1.form
  subst hxe
  clear hb1 hg1 hRO
  go_wp2_with fail
  refine (hS.out).mono ?_
  rintro e w2 ⟨x2, D2, rfl, hb2, hO2, hE2⟩
  have HE : Hid (SortOut w (F ++ D ++ N) (.returned x2) w2) := by rw [HLL.out]; exact SortOut.past HB1.out ⟨x2, D2, rfl, hb2, hO2, hE2⟩
  clear hb2 hO2 hE2 hS
  go_wp2
  go_ret
  exact HE.out

/-- A struct of four cells in a block. -/
def Blk4 (w : World) (q : Nat) (a0 a1 a2 a3 : Value) : Prop := w.heap[q]? = some (.cells #[a0, a1, a2, a3] 29 (0, 0))
theorem Blk4.cells {w : World} {q : Nat} {a0 a1 a2 a3 : Value} (h : Blk4 w q a0 a1 a2 a3) : w.cell? ⟨q, 0, none⟩ = some a0 ∧ w.cell? ⟨q, 1, none⟩ = some a1 ∧ w.cell? ⟨q, 2, none⟩ = some a2 ∧ w.cell? ⟨q, 3, none⟩ = some a3 ∧ q < w.heap.size ∧ w.frozen? ⟨q, 0, none⟩ = false ∧ w.frozen? ⟨q, 1, none⟩ = false ∧ w.frozen? ⟨q, 2, none⟩ = false ∧ w.frozen? ⟨q, 3, none⟩ = false := by
  have h' : w.heap[q]? = some (.cells #[a0, a1, a2, a3] 29 (0, 0)) := h
  exact ⟨by rw [cell_of_row w q 0 _ _ _ h']; rfl, by rw [cell_of_row w q 1 _ _ _ h']; rfl, by rw [cell_of_row w q 2 _ _ _ h']; rfl, by rw [cell_of_row w q 3 _ _ _ h']; rfl, (Array.getElem?_eq_some_iff.1 h').1, by simp [World.frozen?, h'], by simp [World.frozen?, h'], by simp [World.frozen?, h'], by simp [World.frozen?, h']⟩
theorem Blk4.keep {w w' : World} {q B : Nat} {a0 a1 a2 a3 : Value} (h : Blk4 w q a0 a1 a2 a3) (hb : Below B w w') (hlt : q < B) : Blk4 w' q a0 a1 a2 a3 := (hb.block q hlt).trans h
theorem Gr.append {w : World} {x : Value} {L : List (List V)} (h : Gr w x L) : ∃ D : List R, Grid w x D ∧ NilCap x ∧ D.map R.vs = L := h

theorem OwnG.slice {w : World} {B : Nat} {x : Value} {E : List R} (h : OwnG w B x E) : ∃ ao n c, x = .slice ao n c := by
  obtain ⟨ao, c, e, -⟩ := h.grid.len
  exact ⟨ao, _, c, e⟩
/-- A list of older rows in a block of the call's own stays where that block stays. -/
theorem Gr.kept {w W W' : World} {B : Nat} {v : Value} {E : List R} (hO : OwnG W B v E) (hE : ∀ r ∈ E, Vals w r.hv r.vs) (hb : Below w.heap.size w W') (hs : ∀ k, B ≤ k → k < W.heap.size → W'.heap[k]? = W.heap[k]?) : Gr W' v (E.map R.vs) := by
  refine ⟨E, ?_, hO.nilcap, rfl⟩
  rcases hO.2 with ⟨rfl, rfl⟩ | ⟨g, cap, rfl, h2, h3, h4⟩
  · exact Grid.nothing _
  · have hk := hs g h2 h4.lt
    refine Mat.grid ⟨?_, fun r hr => ⟨(hE r hr).below hb, (h4.2 r hr).2⟩⟩ hO.1 h3
    obtain ⟨cur, m0, m1⟩ := h4.1
    exact ⟨cur, hk.trans m0, m1⟩
theorem GrA.kept {G : Nat → Prop} {w W W' : World} {B : Nat} {v : Value} {E : List R} (hO : OwnG W B v E) (hE : ∀ r ∈ E, Vals w r.hv r.vs) (hb : Below w.heap.size w W') (hs : ∀ k, B ≤ k → k < W.heap.size → W'.heap[k]? = W.heap[k]?) (hG : ∀ k, G k → k < B) (hA : ∀ r ∈ E, Apart G r.hv) : GrA G W' v (E.map R.vs) := by
  refine ⟨E, ?_, hO.nilcap, rfl, hO.apart hG, hA⟩
  rcases hO.2 with ⟨rfl, rfl⟩ | ⟨g, cap, rfl, h2, h3, h4⟩
  · exact Grid.nothing _
  · have hk := hs g h2 h4.lt
    refine Mat.grid ⟨?_, fun r hr => ⟨(hE r hr).below hb, (h4.2 r hr).2⟩⟩ hO.1 h3
    obtain ⟨cur, m0, m1⟩ := h4.1
    exact ⟨cur, hk.trans m0, m1⟩
theorem Blk4.set {w : World} {q : Nat} {a0 a1 a2 a3 : Value} (h : Blk4 w q a0 a1 a2 a3) (o : Nat) (v : Value) {b0 b1 b2 b3 : Value} (he : (#[a0, a1, a2, a3] : Array Value).setIfInBounds o v = #[b0, b1, b2, b3]) : Blk4 (w.setCell ⟨q, o, none⟩ v) q b0 b1 b2 b3 := by
  have := heap_setCell_same w q o _ _ v h
  rw [he] at this
  exact this
theorem Blk4.other {w : World} {q p : Nat} {a0 a1 a2 a3 : Value} (h : Blk4 w q a0 a1 a2 a3) (o : Nat) (v : Value) (hne : q ≠ p) : Blk4 (w.setCell ⟨p, o, none⟩ v) q a0 a1 a2 a3 := (Below.heap_setCell _ _ _ _ hne).trans h

set_option maxHeartbeats 1600000 in
theorem refTurn_any {G : Nat → Prop} {w : World} {ar : Int} {xn xd xf : Value} {N D F : List (List V)} (hR : RRelA G w xn xd xf N D F) (hG : ∀ k, G k → k < w.heap.size) (hl : N.length + D.length + F.length ≤ 1000000) :
    Calls Try.prog 11 #[.agg #[.int .i64 ar, xn, xd, xf]] w fun e w' => ∃ x', e = .returned (.tuple #[.agg #[.int .i64 ar, .slice none 0 0, xn, x'], .bool (decide (0 < N.length))]) ∧ Below w.heap.size w w' ∧ GrA G w' x' (F ++ D) := by
  obtain ⟨no, nc, rfl, -⟩ := hR.n.gr.form
  obtain ⟨eo, ec, rfl, -⟩ := hR.d.gr.form
  obtain ⟨fo, fc, rfl, -⟩ := hR.f.gr.form
  obtain ⟨⟨DN, gn, nn, rfl, -, -⟩, ⟨DD, gd, nd, rfl, -, pd⟩, ⟨DF, gf, nf, rfl, -, pf⟩⟩ := hR
  have HP : Hid ((∀ r ∈ DD, Apart G r.hv) ∧ (∀ r ∈ DF, Apart G r.hv) ∧ ∀ k, G k → k < w.heap.size) := ⟨pd, pf, hG⟩
  clear pd pf hG
  simp only [List.length_map] at *
  have HG : Hid (Grid w (.slice eo DD.length ec) DD ∧ Grid w (.slice fo DF.length fc) DF) := ⟨gd, gf⟩
  have HN : Hid (NilCap (.slice eo DD.length ec) ∧ NilCap (.slice fo DF.length fc)) := ⟨nd, nf⟩
  have HL := Lib.hid hl
  have n9 : (DN.length : Int) ≤ 1000000 := by omega
  clear gn gd gf nn nd nf hl
  go_enter Try.func11, Try.ntmps11
  obtain ⟨w0, hw0⟩ : ∃ w0, w0 = (w.alloc (.cells #[.int .i64 ar, .slice no DN.length nc, .slice eo DD.length ec, .slice fo DF.length fc] 29)).alloc (.cells #[.int .i64 0, .slice none 0 0, .slice none 0 0, .slice none 0 0] 29) := ⟨_, rfl⟩
  have hB0 : Below w.heap.size w w0 := by rw [hw0]; exact ((Below.refl _ _).alloc (Nat.le_refl _) _).alloc (by simp) _
  have hsz : w0.heap.size = w.heap.size + 2 := by rw [hw0]; simp
  have hQ1 : Blk4 w0 w.heap.size (.int .i64 ar) (.slice no DN.length nc) (.slice eo DD.length ec) (.slice fo DF.length fc) := by
    rw [hw0]
    unfold Blk4
    rw [Below.heap_alloc _ _ _ (by simp)]
    exact (MapKept.heap_alloc w _).1
  have hQ2 : Blk4 w0 (w.heap.size + 1) (.int .i64 0) (.slice none 0 0) (.slice none 0 0) (.slice none 0 0) := by
    rw [hw0]
    have := (MapKept.heap_alloc (w.alloc (.cells #[.int .i64 ar, .slice no DN.length nc, .slice eo DD.length ec, .slice fo DF.length fc] 29)) (.cells #[.int .i64 0, .slice none 0 0, .slice none 0 0, .slice none 0 0] 29)).1
    have hs : (w.alloc (.cells #[.int .i64 ar, .slice no DN.length nc, .slice eo DD.length ec, .slice fo DF.length fc] 29)).heap.size = w.heap.size + 1 := by simp
    rw [hs] at this
    exact this
  have HB0 := Lib.hid hB0
  have HQ1 := Lib.hid hQ1
  have HQ2 := Lib.hid hQ2
  have HSZ := Lib.hid hsz
  have HOLD : Hid (∀ W, Below w0.heap.size w0 W → Below w.heap.size w W) := fun W hb => HB0.out.trans (hb.mono HB0.out.size)
  have HCL : Hid (∀ W, Below w0.heap.size w0 W → W.cell? ⟨w.heap.size, 2, none⟩ = some (.slice eo DD.length ec) ∧ W.cell? ⟨w.heap.size, 3, none⟩ = some (.slice fo DF.length fc) ∧ w.heap.size < W.heap.size ∧ W.frozen? ⟨w.heap.size, 3, none⟩ = false) := fun W hb => by
    obtain ⟨-, -, h2, h3, h4, -, -, -, h8⟩ := (HQ1.out.keep hb (by rw [HSZ.out]; omega)).cells
    exact ⟨h2, h3, h4, h8⟩
  go_wp2_with fail
  rw [← hw0]
  obtain ⟨c2, c3, c4, c5⟩ := HCL.out w0 (Below.refl _ _)
  clear hw0 hB0 hsz hQ1 hQ2
  go_region_law (first
    | (refine step_append_gr rfl (.tmp 4) (.tmp 6) rfl w0.heap.size _ [] rfl (OwnG.empty (Nat.le_refl _)) (.slice fo DF.length fc) DF rfl (HG.out.2.below (HOLD.out _ (by first | exact ((Below.refl _ _).drew).alloc (Nat.le_refl _) _ | exact ((Below.refl _ _).alloc (Nat.le_refl _) _).drew))) HN.out.2 (fit_old (W := w) (OwnG.empty (Nat.le_refl _)) HG.out.2 HB0.out.size (HOLD.out _ (by first | exact ((Below.refl _ _).drew).alloc (Nat.le_refl _) _ | exact ((Below.refl _ _).alloc (Nat.le_refl _) _).drew))) (by have := HL.out; simp; omega) (by simp) ?_; intro v1 w1 hO1 hb1; have hb1' : Below w0.heap.size w0 w1 := (by first | exact (((Below.refl _ _).alloc (Nat.le_refl _) _).drew).trans hb1 | exact ((Below.refl _ _).alloc (Nat.le_refl _) _).trans hb1); obtain ⟨d2, d3, d4, d5⟩ := HCL.out w1 hb1'; have HO1 := Lib.hid hO1; have HB1 := Lib.hid hb1'; clear hO1 hb1 hb1')
    | (refine step_append_gr rfl (.tmp 7) (.tmp 9) rfl w0.heap.size _ _ rfl HO1.out (.slice eo DD.length ec) DD rfl (HG.out.1.below (HOLD.out _ HB1.out)) HN.out.1 (fit_old (W := w) HO1.out HG.out.1 HB0.out.size (HOLD.out _ HB1.out)) (by have := HL.out; simp; omega) HB1.out.size ?_; intro v2 w2 hO2 hb2; have hb2' : Below w0.heap.size w0 w2 := HB1.out.trans hb2; obtain ⟨f2, f3, f4, f5⟩ := HCL.out w2 hb2'; obtain ⟨vo, vn, vc, hv2⟩ := hO2.slice; subst hv2; have HO2 := Lib.hid hO2; have HB2 := Lib.hid hb2'; clear hO2 hb2 hb2'))
  all_goals
    obtain ⟨W3, hW3⟩ : ∃ W3, W3 = w2.setCell ⟨w.heap.size, 3, none⟩ (.slice vo vn vc) := ⟨_, rfl⟩
    have hq1 : Blk4 W3 w.heap.size (.int .i64 ar) (.slice no DN.length nc) (.slice eo DD.length ec) (.slice vo vn vc) := by rw [hW3]; exact (HQ1.out.keep HB2.out (by rw [HSZ.out]; omega)).set 3 _ rfl
    have hq2 : Blk4 W3 (w.heap.size + 1) (.int .i64 0) (.slice none 0 0) (.slice none 0 0) (.slice none 0 0) := by rw [hW3]; exact (HQ2.out.keep HB2.out (by rw [HSZ.out]; omega)).other 3 _ (by omega)
    have HBW : Hid (Below w.heap.size w W3) := by show Below _ _ _; rw [hW3]; exact (HOLD.out _ HB2.out).setCell (Nat.le_refl _) _
    have HKP : Hid (∀ k, w0.heap.size ≤ k → k < w2.heap.size → W3.heap[k]? = w2.heap[k]?) := by
      show ∀ k, _
      rw [hW3]
      exact fun k hk _ => Below.heap_setCell _ _ _ _ (by rw [HSZ.out] at hk; simp; omega)
    rw [← hW3]
    have h4 := hq1.set 2 (.slice no DN.length nc) rfl
    have h5 := h4.set 1 (.slice none 0 0) rfl
    have g5 := (hq2.other (p := w.heap.size) 2 (.slice no DN.length nc) (by omega)).other (p := w.heap.size) 1 (.slice none 0 0) (by omega)
    have HBW5 : Hid (Below w.heap.size w ((W3.setCell ⟨w.heap.size, 2, none⟩ (.slice no DN.length nc)).setCell ⟨w.heap.size, 1, none⟩ (.slice none 0 0))) := (HBW.out.setCell (Nat.le_refl _) _).setCell (Nat.le_refl _) _
    have HKP5 : Hid (∀ k, w0.heap.size ≤ k → k < w2.heap.size → ((W3.setCell ⟨w.heap.size, 2, none⟩ (.slice no DN.length nc)).setCell ⟨w.heap.size, 1, none⟩ (.slice none 0 0)).heap[k]? = w2.heap[k]?) := fun k hk hk2 => by
      have hne : k ≠ w.heap.size := by rw [HSZ.out] at hk; omega
      rw [Below.heap_setCell _ _ _ _ hne, Below.heap_setCell _ _ _ _ hne]
      exact HKP.out k hk hk2
    obtain ⟨p0, p1, p2, p3, p4, p5, p6, p7, p8⟩ := hq1.cells
    obtain ⟨q0, q1, q2, q3, q4, q5, q6, q7, q8⟩ := h4.cells
    have H5 := Lib.hid h5
    have G5 := Lib.hid g5
    clear hW3 hq1 hq2 h4 h5 g5 c2 c3 c4 c5 HO1 HB1 HBW HKP
    go_wp2_with fail
    clear p0 p1 p2 p3 p4 p5 p6 p7 p8 q0 q1 q2 q3 q4 q5 q6 q7 q8
    generalize ((W3.setCell ⟨w.heap.size, 2, none⟩ (.slice no DN.length nc)).setCell ⟨w.heap.size, 1, none⟩ (.slice none 0 0)) = W5 at *
    obtain ⟨p0, p1, p2, p3, p4, p5, p6, p7, p8⟩ := H5.out.cells
    obtain ⟨q0, q1, q2, q3, q4, q5, q6, q7, q8⟩ := G5.out.cells
    have hdz : decide ((DN.length : Int) > 0) = decide (0 < DN.length) := by simp
    have hdz2 : decide ((0 : Int) < (DN.length : Int)) = decide (0 < DN.length) := by simp
    have HFIN : Hid (∀ W, Below w.heap.size w W → (∀ k, w0.heap.size ≤ k → k < w2.heap.size → W.heap[k]? = W5.heap[k]?) → GrA G W (.slice vo vn vc) (DF.map R.vs ++ DD.map R.vs)) := fun W hb hs => by
      have := GrA.kept (G := G) (w := w) (W' := W) HO2.out (fun r hr => ?_) hb (fun k h1 h2 => (hs k h1 h2).trans (HKP5.out k h1 h2)) (fun k hk => Nat.lt_of_lt_of_le (HP.out.2.2 k hk) HB0.out.size) (fun r hr => ?_)
      · simpa using this
      · simp only [List.nil_append, List.mem_append] at hr
        rcases hr with hr | hr
        · exact (HG.out.2.vals r hr).1
        · exact (HG.out.1.vals r hr).1
      · simp only [List.nil_append, List.mem_append] at hr
        rcases hr with hr | hr
        · exact HP.out.2.1 r hr
        · exact HP.out.1 r hr
    have HSB : Hid (w0.heap.size = w.heap.size + 2) := HSZ.out
    go_region
    all_goals
      obtain ⟨WF, hWF⟩ : ∃ WF, WF = ((((W5.setCell ⟨w.heap.size + 1, 0, none⟩ (.int .i64 ar)).setCell ⟨w.heap.size + 1, 1, none⟩ (.slice none 0 0)).setCell ⟨w.heap.size + 1, 2, none⟩ (.slice no DN.length nc)).setCell ⟨w.heap.size + 1, 3, none⟩ (.slice vo vn vc)).drew := ⟨_, rfl⟩
      have hF : Blk4 WF (w.heap.size + 1) (.int .i64 ar) (.slice none 0 0) (.slice no DN.length nc) (.slice vo vn vc) := by rw [hWF]; exact (((G5.out.set 0 _ rfl).set 1 _ rfl).set 2 _ rfl).set 3 _ rfl
      have HBF : Hid (Below w.heap.size w WF) := by show Below _ _ _; rw [hWF]; exact ((((HBW5.out.setCell (by simp) _).setCell (by simp) _).setCell (by simp) _).setCell (by simp) _).drew
      have HKF : Hid (∀ k, w0.heap.size ≤ k → k < w2.heap.size → WF.heap[k]? = W5.heap[k]?) := fun k hk _ => by
        have hne : k ≠ w.heap.size + 1 := by rw [HSB.out] at hk; omega
        rw [hWF]
        show ((((W5.setCell ⟨w.heap.size + 1, 0, none⟩ (.int .i64 ar)).setCell ⟨w.heap.size + 1, 1, none⟩ (.slice none 0 0)).setCell ⟨w.heap.size + 1, 2, none⟩ (.slice no DN.length nc)).setCell ⟨w.heap.size + 1, 3, none⟩ (.slice vo vn vc)).heap[k]? = _
        rw [Below.heap_setCell _ _ _ _ hne, Below.heap_setCell _ _ _ _ hne, Below.heap_setCell _ _ _ _ hne, Below.heap_setCell _ _ _ _ hne]
      rw [← hWF]
      clear hWF
      obtain ⟨r0, r1, r2, r3, r4, -⟩ := hF.cells
      go_wp2
      exact bodyPost_ret (v := .tuple #[.agg #[.int .i64 ar, .slice none 0 0, .slice no DN.length nc, .slice vo vn vc], .bool (decide (0 < DN.length))]) (by simp [results, Try.results11, go_sem, r0, r1, r2, r3, r4]) rfl ⟨_, rfl, HBF.out, HFIN.out _ HBF.out HKF.out⟩
end Go.Proofs.Ytkkpcphmojegmaa
