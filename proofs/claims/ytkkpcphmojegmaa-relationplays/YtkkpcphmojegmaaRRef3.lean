/-
  Contract of the document's Add of a relation (lambrequinref04).
-/
import Derived.Test.YtkkpcphmojegmaaRRef2
import Derived.Test.YtkkpcphmojegmaaTRef3O
namespace Go.Proofs.Ytkkpcphmojegmaa
set_option linter.unusedSimpArgs false
set_option linter.unusedVariables false
set_option linter.unusedSectionVars false
set_option maxRecDepth 100000
open Go.RowKit Go.Maps
variable [DecidableEq V]

theorem GrA.turned {W W' : World} {B : Nat} {G H : Nat → Prop} {v : Value} {E : List R} (hO : OwnG W B v E) (hap : ∀ r ∈ E, Apart H r.hv) (ht : Turns H W W') (hH : ∀ k, H k → k < B) (hG : ∀ k, G k → k < B) (hA : ∀ r ∈ E, Apart G r.hv) : GrA G W' v (E.map R.vs) :=
  ⟨E, hO.grid.turns ht (hO.apart hH) hap, hO.nilcap, rfl, hO.apart hG, hA⟩
/-- A list of rows in a block of the call's own stays while nothing of it turns. -/
theorem Gr.turned {W W' : World} {B : Nat} {G : Nat → Prop} {v : Value} {E : List R} (hO : OwnG W B v E) (hap : ∀ r ∈ E, Apart G r.hv) (ht : Turns G W W') (hG : ∀ k, G k → k < B) : Gr W' v (E.map R.vs) := by
  refine ⟨E, ?_, hO.nilcap, rfl⟩
  rcases hO.2 with ⟨rfl, rfl⟩ | ⟨g, cap, rfl, h2, h3, h4⟩
  · exact Grid.nothing _
  · have hk := ht.block g h4.lt (fun hg => by have := hG g hg; omega)
    refine Mat.grid ⟨?_, fun r hr => ⟨(h4.2 r hr).1.turns ht (hap r hr), (h4.2 r hr).2⟩⟩ hO.1 h3
    obtain ⟨cur, m0, m1⟩ := h4.1
    exact ⟨cur, hk.trans m0, m1⟩
theorem apart_old {w : World} {G : Nat → Prop} {x : Value} {vs : List V} (hx : Vals w x vs) (hG : ∀ k, G k → w.heap.size ≤ k) : Apart G x := Apart.old (B := w.heap.size) hx hG (Nat.le_refl _)
theorem apart_new {w : World} {B : Nat} {G : Nat → Prop} {x : Value} {vs : List V} (hx : Own w B x vs) (hG : ∀ k, G k → k < B) : Apart G x := fun a n c e h0 g => by
  subst e
  rcases hx.1.2 with ⟨e1, -⟩ | ⟨b, cap, cur, e1, e2, -⟩
  · injection e1 with e1; cases e1
  · injection e1 with e1; cases e1; have := hG _ g; simp at this; omega
/-- What the document's Add answers. -/
def RAddOut (G : Nat → Prop) (w : World) (ar : Nat) (xd xf : Value) (N D F : List (List V)) (vs : List V) (e : Ending) (w' : World) : Prop :=
  ∃ (x' : Value) (b : Bool) (z : Int) (N' : List (List V)), e = .returned (.tuple #[.agg #[.int .i64 (ar : Int), x', xd, xf], .bool b, .int .i64 z]) ∧ Below w.heap.size w w' ∧ GrA G w' x' N' ∧
    ((vs.length ≠ ar ∧ b = false ∧ z = 1 ∧ N' = N) ∨ (vs.length = ar ∧ (inB N vs || inB D vs || inB F vs) = true ∧ b = false ∧ z = 0 ∧ N' = N) ∨ (vs.length = ar ∧ (inB N vs || inB D vs || inB F vs) = false ∧ b = true ∧ z = 0 ∧ N' = N ++ [vs.map V.bare]))
/-- The result's cells, behind the store of the whole struct. -/
theorem Blk4.fill {w : World} {q : Nat} {a0 a1 a2 a3 b0 b1 b2 b3 : Value} (h : Blk4 w q a0 a1 a2 a3) : Blk4 ((((w.setCell ⟨q, 0, none⟩ b0).setCell ⟨q, 1, none⟩ b1).setCell ⟨q, 2, none⟩ b2).setCell ⟨q, 3, none⟩ b3) q b0 b1 b2 b3 :=
  (((h.set 0 _ rfl).set 1 _ rfl).set 2 _ rfl).set 3 _ rfl

set_option maxHeartbeats 1600000 in
theorem refAdd_any {G : Nat → Prop} {w : World} {ar : Nat} {xn xd xf y : Value} {N D F : List (List V)} {vs : List V} (hR : RRelA G w xn xd xf N D F) (hG : ∀ k, G k → k < w.heap.size) (hy : Vals w y vs) (hl : N.length ≤ 1000000) (hv9 : vs.length ≤ 1000000) :
    Calls Try.prog 9 #[.agg #[.int .i64 (ar : Int), xn, xd, xf], y] w fun e w' => RAddOut G w ar xd xf N D F vs e w' := by
  obtain ⟨no, nc, rfl, -⟩ := hR.n.gr.form
  obtain ⟨eo, ec, rfl, -⟩ := hR.d.gr.form
  obtain ⟨fo, fc, rfl, -⟩ := hR.f.gr.form
  obtain ⟨bo, bc, rfl, -⟩ := hy.len
  have HR := Lib.hid hR
  have HG := Lib.hid hG
  clear hG
  have HY := Lib.hid hy
  have HL : Hid (N.length ≤ 1000000 ∧ vs.length ≤ 1000000) := ⟨hl, hv9⟩
  obtain ⟨w0, hw0⟩ : ∃ w0, w0 = (w.alloc (.cells #[.int .i64 (ar : Int), .slice no N.length nc, .slice eo D.length ec, .slice fo F.length fc] 29)).alloc (.cells #[.int .i64 0, .slice none 0 0, .slice none 0 0, .slice none 0 0] 29) := ⟨_, rfl⟩
  have hB0 : Below w.heap.size w w0 := by rw [hw0]; exact ((Below.refl _ _).alloc (Nat.le_refl _) _).alloc (by simp) _
  have hsz : w0.heap.size = w.heap.size + 2 := by rw [hw0]; simp
  have hQ1 : Blk4 w0 w.heap.size (.int .i64 (ar : Int)) (.slice no N.length nc) (.slice eo D.length ec) (.slice fo F.length fc) := by
    rw [hw0]
    unfold Blk4
    rw [Below.heap_alloc _ _ _ (by simp)]
    exact (MapKept.heap_alloc w _).1
  have hQ2 : Blk4 w0 (w.heap.size + 1) (.int .i64 0) (.slice none 0 0) (.slice none 0 0) (.slice none 0 0) := by
    rw [hw0]
    have := (MapKept.heap_alloc (w.alloc (.cells #[.int .i64 (ar : Int), .slice no N.length nc, .slice eo D.length ec, .slice fo F.length fc] 29)) (.cells #[.int .i64 0, .slice none 0 0, .slice none 0 0, .slice none 0 0] 29)).1
    have hs : (w.alloc (.cells #[.int .i64 (ar : Int), .slice no N.length nc, .slice eo D.length ec, .slice fo F.length fc] 29)).heap.size = w.heap.size + 1 := by simp
    rw [hs] at this
    exact this
  have HB0 := Lib.hid hB0
  have HQ1 := Lib.hid hQ1
  have HQ2 := Lib.hid hQ2
  have HSZ := Lib.hid hsz
  have v9 : (vs.length : Int) ≤ 1000000 := by omega
  obtain ⟨c0, c1, c2, c3, c4, k0, k1, k2, k3⟩ := hQ1.cells
  obtain ⟨d0, d1, d2, d3, d4, l0, l1, l2, l3⟩ := hQ2.cells
  have HFN : Hid (∀ W, Below w0.heap.size w0 W → Blk4 W (w.heap.size + 1) (.int .i64 0) (.slice none 0 0) (.slice none 0 0) (.slice none 0 0) ∧ Blk4 W w.heap.size (.int .i64 (ar : Int)) (.slice no N.length nc) (.slice eo D.length ec) (.slice fo F.length fc)) := fun W hb => ⟨HQ2.out.keep hb (by rw [HSZ.out]; omega), HQ1.out.keep hb (by rw [HSZ.out]; omega)⟩
  have HOLD : Hid (∀ W, Below w0.heap.size w0 W → Below w.heap.size w W) := fun W hb => HB0.out.trans (hb.mono HB0.out.size)
  by_cases hlen : vs.length = ar
  case neg =>
    have hlb : ((vs.length : Int) != (ar : Int)) = true := by simp; omega
    have HO : Hid (∀ W, Below w.heap.size w W → RAddOut G w ar (.slice eo D.length ec) (.slice fo F.length fc) N D F vs (.returned (.tuple #[.agg #[.int .i64 (ar : Int), .slice no N.length nc, .slice eo D.length ec, .slice fo F.length fc], .bool false, .int .i64 1])) W) := fun W hb => ⟨_, false, 1, N, rfl, hb, HR.out.n.below hb, .inl ⟨hlen, rfl, rfl, rfl⟩⟩
    clear hR hy hB0 hQ1 hQ2 hsz hlen hl hv9
    go_enter Try.func9, Try.ntmps9
    go_wp2
    exact bodyPost_ret (v := .tuple #[.agg #[.int .i64 (ar : Int), .slice no N.length nc, .slice eo D.length ec, .slice fo F.length fc], .bool false, .int .i64 1]) (by simp [results, Try.results9, go_sem]) rfl (HO.out _ (((Below.refl _ _).alloc (Nat.le_refl _) _).alloc (by simp) _))
  subst hlen
  have hlb : ((vs.length : Int) != (vs.length : Int)) = false := by simp
  have hHas := Lib.hid (refHas_any (ar := (vs.length : Int)) (hR.below hB0).rel (hy.below hB0))
  obtain ⟨bh, hbh⟩ : ∃ b, (inB N vs || inB D vs || inB F vs) = b := ⟨_, rfl⟩
  rw [hbh] at hHas
  have HBH := Lib.hid hbh
  clear hR hy hB0 hQ1 hQ2 hsz hl hv9 hbh
  go_enter Try.func9, Try.ntmps9
  go_wp2_with fail
  rw [← hw0]
  clear hw0
  refine (hHas.out).mono ?_
  rintro e w1 ⟨rfl, hb1⟩
  have HB1 := Lib.hid hb1
  obtain ⟨hz2, hz1⟩ := HFN.out w1 hb1
  have HZ2 := Lib.hid hz2
  have HZ1 := Lib.hid hz1
  clear c0 c1 c2 c3 c4 k0 k1 k2 k3 d0 d1 d2 d3 d4 l0 l1 l2 l3 hHas hb1
  obtain ⟨c0, c1, c2, c3, c4, k0, k1, k2, k3⟩ := hz1.cells
  obtain ⟨d0, d1, d2, d3, d4, l0, l1, l2, l3⟩ := hz2.cells
  clear hz1 hz2
  cases bh with
  | true =>
    have HO : Hid (∀ W, Below w.heap.size w W → RAddOut G w vs.length (.slice eo D.length ec) (.slice fo F.length fc) N D F vs (.returned (.tuple #[.agg #[.int .i64 (vs.length : Int), .slice no N.length nc, .slice eo D.length ec, .slice fo F.length fc], .bool false, .int .i64 0])) W) := fun W hb => ⟨_, false, 0, N, rfl, hb, HR.out.n.below hb, .inr (.inl ⟨rfl, HBH.out, rfl, rfl, rfl⟩)⟩
    go_wp2
    have hF := HZ2.out.fill (b0 := .int .i64 (vs.length : Int)) (b1 := .slice no N.length nc) (b2 := .slice eo D.length ec) (b3 := .slice fo F.length fc)
    have HBF : Hid (Below w.heap.size w ((((w1.setCell ⟨w.heap.size + 1, 0, none⟩ (.int .i64 (vs.length : Int))).setCell ⟨w.heap.size + 1, 1, none⟩ (.slice no N.length nc)).setCell ⟨w.heap.size + 1, 2, none⟩ (.slice eo D.length ec)).setCell ⟨w.heap.size + 1, 3, none⟩ (.slice fo F.length fc))) := ((((HOLD.out _ HB1.out).setCell (by simp) _).setCell (by simp) _).setCell (by simp) _).setCell (by simp) _
    generalize ((((w1.setCell ⟨w.heap.size + 1, 0, none⟩ (.int .i64 (vs.length : Int))).setCell ⟨w.heap.size + 1, 1, none⟩ (.slice no N.length nc)).setCell ⟨w.heap.size + 1, 2, none⟩ (.slice eo D.length ec)).setCell ⟨w.heap.size + 1, 3, none⟩ (.slice fo F.length fc)) = WF at *
    obtain ⟨r0, r1, r2, r3, r4, -⟩ := hF.cells
    exact bodyPost_ret (v := .tuple #[.agg #[.int .i64 (vs.length : Int), .slice no N.length nc, .slice eo D.length ec, .slice fo F.length fc], .bool false, .int .i64 0]) (by simp [results, Try.results9, go_sem, r0, r1, r2, r3, r4]) rfl (HO.out _ HBF.out)
  | false =>
    obtain ⟨DN, hGN0, hNN, hDN, -, hPN⟩ := HR.out.n
    have HPN := Lib.hid hPN
    clear hPN
    have hGN := hGN0.below (HOLD.out _ HB1.out)
    have HG0 := Lib.hid hGN0
    have hDl : DN.length = N.length := by rw [← hDN]; simp
    have HGN : Hid (Grid w1 (.slice no N.length nc) DN ∧ NilCap (.slice no N.length nc) ∧ DN.map R.vs = N ∧ DN.length = N.length) := ⟨hGN, hNN, hDN, hDl⟩
    have hs1 := HB1.out.size
    clear hGN hNN hDN hDl hGN0
    go_wp2_with (first
      | (at_builtin; refine wpList_append_rows rfl (.tmp 17) (.tmp 19) rfl w1.heap.size _ [] rfl (OwnG.empty (Nat.le_refl _)) (.slice no N.length nc) DN rfl (HGN.out.1.below ((Below.refl _ _).alloc (Nat.le_refl _) _)) HGN.out.2.1 (fit_old (W := w1) (OwnG.empty (Nat.le_refl _)) HGN.out.1 (Nat.le_refl _) ((Below.refl _ _).alloc (Nat.le_refl _) _)) (by have := HL.out.1; have := HGN.out.2.2.2; simp; omega) (by simp) ?_; intro v2 w2 hO2 hb2; have hb2' : Below w1.heap.size w1 w2 := ((Below.refl _ _).alloc (Nat.le_refl _) _).trans hb2; have HO2 := Lib.hid hO2; have HB2 := Lib.hid hb2'; clear hO2 hb2 hb2'))
    have HBw2 : Hid (Below w.heap.size w w2) := (HOLD.out _ HB1.out).trans (HB2.out.mono (HOLD.out _ HB1.out).size)
    refine (refOf_any (HY.out.below HBw2.out) (by have := HL.out.2; omega)).mono ?_
    rintro e w3 ⟨x3, rfl, hb3, hO3⟩
    have HB3 : Hid (Below w1.heap.size w1 w3) := HB2.out.trans (hb3.mono HB2.out.size)
    have HO3 := Lib.hid (HO2.out.below hb3)
    have HF3 := Lib.hid (HO3.out.newer HO2.out 0 hO3)
    have hs2 := HB2.out.size
    have hs3 := HB3.out.size
    have hqb : w.heap.size + 2 ≤ w1.heap.size := by have := HSZ.out; omega
    have HAP : Hid (∀ r ∈ ([] ++ DN ++ [(⟨x3, vs.map V.bare, 0⟩ : R)]), Apart (fun k => k = w.heap.size ∨ k = w.heap.size + 1) r.hv) := fun r hr => by
      rcases List.mem_append.1 hr with hr | hr
      · exact apart_old (HG0.out.vals r (by simpa using hr)).1 (fun k hk => by omega)
      · rw [List.mem_singleton.1 hr]
        exact apart_new hO3 (fun k hk => by omega)
    have HAG : Hid ((∀ k, G k → k < w1.heap.size) ∧ ∀ r ∈ ([] ++ DN ++ [(⟨x3, vs.map V.bare, 0⟩ : R)]), Apart G r.hv) := ⟨fun k hk => by have := HG.out k hk; omega, fun r hr => by
      rcases List.mem_append.1 hr with hr | hr
      · exact HPN.out r (by simpa using hr)
      · rw [List.mem_singleton.1 hr]
        exact apart_new hO3 (fun k hk => by have := HG.out k hk; omega)⟩
    obtain ⟨a3, n3, e3⟩ := hO3.form
    subst e3
    clear hb3 hO3 c0 c1 c2 c3 c4 k0 k1 k2 k3 d0 d1 d2 d3 d4 l0 l1 l2 l3
    generalize hvl : (vs.map V.bare).length = nv at *
    go_wp2_with (at_builtin; refine wpList_append_row rfl (.tmp 20) (.tmp 23) rfl w1.heap.size v2 ([] ++ DN) rfl HO3.out ⟨.slice a3 nv n3, vs.map V.bare, 0⟩ rfl HF3.out (by have := HL.out.1; have := HGN.out.2.2.2; simp; omega) hs3 ?_; intro v4 w4 hO4 hb4; have hb4' : Below w1.heap.size w1 w4 := HB3.out.trans hb4; obtain ⟨c0, c1, c2, c3, c4, k0, k1, k2, k3⟩ := (HZ1.out.keep hb4' (by omega)).cells; obtain ⟨d0, d1, d2, d3, d4, l0, l1, l2, l3⟩ := (HZ2.out.keep hb4' (by omega)).cells; obtain ⟨vo, vn, vc, hv4⟩ := hO4.slice; subst hv4; have HO4 := Lib.hid hO4; have HB4 := Lib.hid hb4'; clear hO4 hb4 hb4')
    obtain ⟨WF, hWF⟩ : ∃ WF, WF = ((((w4.setCell ⟨w.heap.size, 1, none⟩ (.slice vo vn vc)).setCell ⟨w.heap.size + 1, 0, none⟩ (.int .i64 (vs.length : Int))).setCell ⟨w.heap.size + 1, 1, none⟩ (.slice vo vn vc)).setCell ⟨w.heap.size + 1, 2, none⟩ (.slice eo D.length ec)).setCell ⟨w.heap.size + 1, 3, none⟩ (.slice fo F.length fc) := ⟨_, rfl⟩
    have hF : Blk4 WF (w.heap.size + 1) (.int .i64 (vs.length : Int)) (.slice vo vn vc) (.slice eo D.length ec) (.slice fo F.length fc) := by
      rw [hWF]
      exact ((HZ2.out.keep HB4.out (by omega)).other (p := w.heap.size) 1 (.slice vo vn vc) (by omega)).fill
    have HTF : Hid (Turns (fun k => k = w.heap.size ∨ k = w.heap.size + 1) w4 WF) := by
      show Turns _ _ _
      rw [hWF]
      exact (((((Turns.refl _ _).setCell (p := ⟨w.heap.size, 1, none⟩) (fun _ => .inl rfl) _).setCell (p := ⟨w.heap.size + 1, 0, none⟩) (fun _ => .inr rfl) _).setCell (p := ⟨w.heap.size + 1, 1, none⟩) (fun _ => .inr rfl) _).setCell (p := ⟨w.heap.size + 1, 2, none⟩) (fun _ => .inr rfl) _).setCell (p := ⟨w.heap.size + 1, 3, none⟩) (fun _ => .inr rfl) _
    have HBw4 : Hid (Below w.heap.size w w4) := (HOLD.out _ HB1.out).trans (HB4.out.mono (HOLD.out _ HB1.out).size)
    have HBF : Hid (Below w.heap.size w WF) := HBw4.out.trans (HTF.out.below HBw4.out.size (fun k hk => by omega))
    have HGF : Hid (GrA G WF (.slice vo vn vc) (N ++ [vs.map V.bare])) := by
      show GrA _ _ _ _
      have := GrA.turned (G := G) (B := w1.heap.size) HO4.out HAP.out HTF.out (fun k hk => by omega) HAG.out.1 HAG.out.2
      rw [List.map_append, List.nil_append, HGN.out.2.2.1] at this
      exact this
    rw [← hWF]
    clear hWF
    obtain ⟨r0, r1, r2, r3, r4, -⟩ := hF.cells
    exact bodyPost_ret (v := .tuple #[.agg #[.int .i64 (vs.length : Int), .slice vo vn vc, .slice eo D.length ec, .slice fo F.length fc], .bool true, .int .i64 0]) (by simp [results, Try.results9, go_sem, r0, r1, r2, r3, r4]) rfl ⟨_, true, 0, _, rfl, HBF.out, HGF.out, .inr (.inr ⟨rfl, HBH.out, rfl, rfl, rfl⟩)⟩
end Go.Proofs.Ytkkpcphmojegmaa
