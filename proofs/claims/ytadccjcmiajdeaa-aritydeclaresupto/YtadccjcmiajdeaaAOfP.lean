/-
  What arity.Of has in memory between two uses (OfSt): the names so far, their map, the count. Plain facts; no walk.
-/
import Derived.Test.YtadccjcmiajdeaaAUses
import Derived.Maps.OwnIn
import Derived.RangeFuncBox
import Derived.StringKeys
namespace Go.Proofs.Ytadccjcmiajdeaa
set_option linter.unusedSimpArgs false
set_option linter.unusedVariables false
set_option linter.unusedSectionVars false
set_option maxRecDepth 100000
open Go.RowKit Go.Shelf Go.Maps

/-- What the map tells: each name's arity. -/
def ReadsD (D : DataW Unit) (L : List De) : Prop :=
  ∀ p : ByteArray, Maps.has D (.string p.data.toList) = (findD L p).isSome ∧ D.atKey (.string p.data.toList) (.lit (.int .i64 0)) = .lit (.int .i64 ((findD L p).getD 0))
theorem readsD_nil : ReadsD (.map []) [] := fun p => by simp [Maps.has, DataW.atKey, findD]
theorem keyedS : Keyed Try.prog 9 := Maps.string_keyed Try.underlying9
theorem keyS {p : ByteArray} (h : p.size ≤ maxLen) : keyOf Try.prog 9 (.string p) = some (.string p.data.toList) := Go.WideMaps.keyOf_string_mk Try.underlying9 h
theorem readsD_put {D : DataW Unit} {L : List De} (h : ReadsD D L) (hD : IsMap D) {u : De} (hu : u.p.size ≤ maxLen) (hn : findD L u.p = none) : ReadsD (D.put (.string u.p.data.toList) (.lit (.int .i64 u.ar))) (L ++ [u]) := fun p => by
  rw [findD_snoc]
  by_cases e : u.p = p
  · subst e
    have hk := keyedS.key (keyS hu)
    rw [Maps.has_put_same hD hk, Maps.atKey_put_same hD hk, hn]
    simp
  · have hne : (Lit.string p.data.toList) ≠ .string u.p.data.toList := fun h => by
      simp at h
      exact e (Go.WideShapes.bytes_inj (by rw [h]))
    rw [Maps.has_put_other hne, Maps.atKey_put_other hne, (h p).1, (h p).2]
    cases findD L p <;> simp [e]

structure OfSt (n : Nat) (pre : List De) (W : World) : Prop where
  r2 : Boxed W (n + 1) 22 (.slice none 0 0)
  r3 : Boxed W (n + 2) 3 (.int .i64 0)
  r4 : Boxed W (n + 3) 28 (.int .i64 0)
  lst : ∃ v, Boxed W (n + 4) 22 v ∧ W.ownsRow n 39 2 v (firsts pre).length ((firsts pre).flatMap De.cells)
  mp : Boxed W (n + 6) 55 (.map (some (n + 5)))
  mm : ∃ D : DataW Unit, W.ownsMap Try.prog 9 (plainElem Try.prog 3) (n + 5) (firsts pre).length D ∧ ReadsD D (firsts pre)
  cnt : Boxed W (n + 7) 3 (.int .i64 (pre.length : Nat))
  fine : Fine pre

theorem OfSt.kept {n : Nat} {pre : List De} {W W' : World} {row : Option Nat} (h : OfSt n pre W) (hg : W.grownBy W' row) (hr : ∀ r, row = some r → n + 8 ≤ r ∧ ∃ o : Obj, W.heap[r]? = some o ∧ o.isCells = false) : OfSt n pre W' := by
  have b : ∀ k, k < n + 8 → some k ≠ row := fun k hk e => by have := (hr k e.symm).1; omega
  obtain ⟨v, hv, ho⟩ := h.lst
  obtain ⟨D, hD, hR⟩ := h.mm
  refine ⟨h.r2.kept hg (b _ (by omega)), h.r3.kept hg (b _ (by omega)), h.r4.kept hg (b _ (by omega)), ⟨v, hv.kept hg (b _ (by omega)), ho.kept hg ?_⟩, h.mp.kept hg (b _ (by omega)), ⟨D, hD.kept hg (b _ (by omega)), hR⟩, h.cnt.kept hg (b _ (by omega)), h.fine⟩
  rcases ho.2 with ⟨rfl, _⟩ | ⟨g, cap, cur, rfl, _, hgb, _⟩
  · exact .inl rfl
  · refine .inr fun e' => ?_
    obtain ⟨-, o, ho, hc⟩ := hr g (by simpa [Value.ownBlock] using e'.symm)
    rw [hgb] at ho; cases ho; cases hc
theorem OfSt.own (n C : Nat) (hC : n + 8 ≤ C) : OwnFrom C (OfSt n) := fun s X Y row hs hg hr => hs.kept hg (fun r e => ⟨Nat.le_trans hC (hr r e).1, (hr r e).2⟩)

/-- The look-up. -/
theorem OfSt.look {n : Nat} {pre : List De} {W : World} (h : OfSt n pre W) {p : ByteArray} (hp : p.size ≤ maxLen) :
    (Instr.lookup 55 (.map (some (n + 5))) (.string p) true).run Try.prog W = .ok (.tuple #[.int .i64 ((findD pre p).getD 0), .bool (findD pre p).isSome]) W := by
  obtain ⟨D, hD, hR⟩ := h.mm
  obtain ⟨x, ps, hrun, hx⟩ := hD.look_ok keyedS Try.underlying55 (show (zeroValue 3).run Try.prog W = .ok (.int .i64 0) W by kernel_rfl) (plainElem_int Try.underlying3 (by decide)) (keyS hp)
  obtain ⟨c, rfl, hc, _⟩ := plainElem_int_inv Try.underlying3 hx
  obtain ⟨b1, b2⟩ := hR p
  rw [b2] at hc
  simp at hc
  rw [b1, ← hc.1, findD_firsts] at hrun
  exact hrun

/-- One name more: behind the map's store (w1), the append (w2), and both boxes' stores. -/
theorem OfSt.store {n : Nat} {pre : List De} {W w1 : World} (h : OfSt n pre W) (hn : n ≤ W.heap.size) (hg : W.grownBy w1 (some (n + 5))) :
    Boxed w1 (n + 1) 22 (.slice none 0 0) ∧ Boxed w1 (n + 2) 3 (.int .i64 0) ∧ Boxed w1 (n + 3) 28 (.int .i64 0) ∧ Boxed w1 (n + 6) 55 (.map (some (n + 5))) ∧ Boxed w1 (n + 7) 3 (.int .i64 (pre.length : Nat)) ∧
    ∃ v, Boxed W (n + 4) 22 v ∧ Boxed w1 (n + 4) 22 v ∧ w1.ownsRow n 39 2 v (firsts pre).length ((firsts pre).flatMap De.cells) ∧ KpH n W w1 ∧ ∀ B, n + 6 ≤ B → KeepsFrom B W w1 := by
  obtain ⟨v, hv, ho⟩ := h.lst
  obtain ⟨D, hD, hR⟩ := h.mm
  have b : ∀ k, k ≠ n + 5 → some k ≠ some (n + 5) := fun k hk e => hk (Option.some.inj e)
  obtain ⟨es, ck, hmm, -⟩ := hD
  refine ⟨h.r2.kept hg (b _ (by omega)), h.r3.kept hg (b _ (by omega)), h.r4.kept hg (b _ (by omega)), h.mp.kept hg (b _ (by omega)), h.cnt.kept hg (b _ (by omega)), v, hv, hv.kept hg (b _ (by omega)), ho.kept hg ?_, ?_, fun B hB => KeepsFrom.of_grownBy hg (fun j e => by cases e; omega)⟩
  · rcases ho.2 with ⟨rfl, _⟩ | ⟨g, cap, cur, rfl, _, hgb, _⟩
    · exact .inl rfl
    · refine .inr fun e' => ?_
      obtain rfl : g = n + 5 := by simpa [Value.ownBlock] using e'
      rw [hmm] at hgb; cases hgb
  · exact KpH.grown hg hn (fun k e => by cases e; omega) (fun k cs ty fr e hk => by cases e; rw [hmm] at hk; cases hk)
/-- What Of has in its results when it leaves in the midst. -/
def OfBad (n : Nat) (pre' : List De) (W : World) : Prop :=
  ∃ pre x, pre' = pre ++ [x] ∧ Fine pre ∧ clash pre x = true ∧ Boxed W (n + 1) 22 (.slice none 0 0) ∧ Boxed W (n + 2) 3 (.int .i64 (pre.length : Nat)) ∧ Boxed W (n + 3) 28 (.int .i64 5)
theorem OfBad.kept {n : Nat} {pre : List De} {W W' : World} {row : Option Nat} (h : OfBad n pre W) (hg : W.grownBy W' row) (hr : ∀ r, row = some r → n + 8 ≤ r) : OfBad n pre W' := by
  have b : ∀ k, k < n + 8 → some k ≠ row := fun k hk e => by have := hr k e.symm; omega
  obtain ⟨p, x, h1, h2, h3, h4, h5, h6⟩ := h
  exact ⟨p, x, h1, h2, h3, h4.kept hg (b _ (by omega)), h5.kept hg (b _ (by omega)), h6.kept hg (b _ (by omega))⟩
theorem infoDe : (Try.prog.info? 39).map (fun i => (i.zero, i.size, i.bytes)) = some (some (.agg #[.string ⟨#[]⟩, .int .i64 0]), 2, 24) := by kernel_rfl
theorem mixedO : Try.prog.follows Departure.mixedOrders = true := by kernel_rfl
theorem set3 {n : Nat} {W : World} {u1 u2 u3 : Value} (hn : n ≤ W.heap.size) : Below n W (((W.setCell ⟨n + 1, 0, none⟩ u1).setCell ⟨n + 2, 0, none⟩ u2).setCell ⟨n + 3, 0, none⟩ u3) ∧ ∀ B, KeepsFrom B W (((W.setCell ⟨n + 1, 0, none⟩ u1).setCell ⟨n + 2, 0, none⟩ u2).setCell ⟨n + 3, 0, none⟩ u3) :=
  ⟨(((Below.refl n W).setCell (p := ⟨n + 1, 0, none⟩) (Nat.le_succ n) _).setCell (p := ⟨n + 2, 0, none⟩) (show n ≤ n + 2 by omega) _).setCell (p := ⟨n + 3, 0, none⟩) (show n ≤ n + 3 by omega) _,
    fun B => (((KeepsOthers.setCell _ _ _).trans (KeepsOthers.setCell _ _ _)).trans (KeepsOthers.setCell _ _ _)).from B⟩
theorem OfSt.leave {n : Nat} {pre : List De} {W : World} {x : De} (h : OfSt n pre W) (hc : clash pre x = true) :
    OfBad n (pre ++ [x]) (((W.setCell ⟨n + 1, 0, none⟩ (.slice none 0 0)).setCell ⟨n + 2, 0, none⟩ (.int .i64 (pre.length : Nat))).setCell ⟨n + 3, 0, none⟩ (.int .i64 5)) :=
  ⟨pre, x, rfl, h.fine, hc, ((h.r2.set _).other (by omega) _).other (by omega) _, ((h.r3.other (by omega) _).set _).other (by omega) _, ((h.r4.other (by omega) _).other (by omega) _).set _⟩
theorem not_heldI : ¬ Held 3 := by unfold Held; decide
theorem not_heldL : ¬ Held 22 := by unfold Held; decide
theorem not_heldD : ¬ Held 39 := by unfold Held; decide
/-- A name that was there. -/
theorem OfSt.same {n : Nat} {pre : List De} {W : World} {x : De} (h : OfSt n pre W) (hc : clash pre x = false) (hf : firsts (pre ++ [x]) = firsts pre) (hn : n ≤ W.heap.size) :
    OfSt n (pre ++ [x]) (W.setCell ⟨n + 7, 0, none⟩ (.int .i64 ((pre.length : Int) + 1))) ∧ KpH n W (W.setCell ⟨n + 7, 0, none⟩ (.int .i64 ((pre.length : Int) + 1))) := by
  obtain ⟨v, hv, ho⟩ := h.lst
  obtain ⟨D, hD, hR⟩ := h.mm
  refine ⟨⟨h.r2.other (by omega) _, h.r3.other (by omega) _, h.r4.other (by omega) _, ⟨v, hv.other (by omega) _, ?_⟩, h.mp.other (by omega) _, ⟨D, ?_, by rw [hf]; exact hR⟩, ?_, h.fine.snoc hc⟩, KpH.store h.cnt (by omega) not_heldI⟩
  · rw [hf]
    exact ho.kept (grownBy_setCell' W _ _) (.inr (h.cnt.not_row (by decide) ho).symm)
  · rw [hf]
    exact hD.kept (grownBy_setCell' W _ _) (fun e => by have := Option.some.inj e; omega)
  · have := h.cnt.set (.int .i64 ((pre.length : Int) + 1))
    simpa using this
/-- A name that is new. -/
theorem OfSt.more {n : Nat} {pre : List De} {W w1 w2 : World} {x : De} {v v' : Value} {tmp : Obj} (h : OfSt n pre W) (hc : clash pre x = false) (hf : firsts (pre ++ [x]) = firsts pre ++ [x]) (hn : n ≤ W.heap.size) {D' : DataW Unit}
    (hg1 : W.grownBy w1 (some (n + 5))) (hm1 : w1.ownsMap Try.prog 9 (plainElem Try.prog 3) (n + 5) ((firsts pre).length + 1) D') (hR1 : ReadsD D' (firsts pre ++ [x]))
    (hv : Boxed w1 (n + 4) 22 v) (hrow : w1.ownsRow n 39 2 v (firsts pre).length ((firsts pre).flatMap De.cells))
    (hg2 : (w1.alloc tmp).grownBy w2 v.ownBlock) (hr2 : w2.ownsRow n 39 2 v' ((firsts pre).length + 1) ((firsts pre).flatMap De.cells ++ x.cells)) :
    OfSt n (pre ++ [x]) ((w2.setCell ⟨n + 4, 0, none⟩ v').setCell ⟨n + 7, 0, none⟩ (.int .i64 ((pre.length : Int) + 1))) ∧ KpH n W ((w2.setCell ⟨n + 4, 0, none⟩ v').setCell ⟨n + 7, 0, none⟩ (.int .i64 ((pre.length : Int) + 1))) ∧
    ∀ B, n + 6 ≤ B → KeepsFrom B W ((w2.setCell ⟨n + 4, 0, none⟩ v').setCell ⟨n + 7, 0, none⟩ (.int .i64 ((pre.length : Int) + 1))) := by
  obtain ⟨a2, a3, a4, a6, a7, v0, -, -, -, hk1, hkf1⟩ := h.store hn hg1
  have hn1 : n ≤ w1.heap.size := Nat.le_trans hn hg1.size
  obtain ⟨hv2, hv3, hr3, hk3, hb3⟩ := hv.appended (by decide) hrow hn1 (by omega) hr2 hg2
  have hb2 : ∀ (b : Nat) (t : TypeId) (u : Value), t ≠ 39 → Boxed w1 b t u → Boxed w2 b t u := fun b t u ht hb => (hb.alloc tmp).kept hg2 (hb.not_row ht hrow)
  have hmm2 : w2.ownsMap Try.prog 9 (plainElem Try.prog 3) (n + 5) ((firsts pre).length + 1) D' := (hm1.alloc tmp).kept hg2 (fun e => by
    rcases hrow.2 with ⟨rfl, _⟩ | ⟨g, cap, cur, rfl, _, hgb, _⟩
    · simp [Value.ownBlock] at e
    · obtain rfl : n + 5 = g := by simpa [Value.ownBlock] using e
      obtain ⟨es, ck, hh, -⟩ := hm1
      rw [hh] at hgb; cases hgb)
  have c7 := hb2 _ _ _ (by decide) a7
  have c7' : Boxed (w2.setCell ⟨n + 4, 0, none⟩ v') (n + 7) 3 (.int .i64 (pre.length : Nat)) := c7.other (by omega) _
  have hkA : KpH n w1 (w1.alloc tmp) := KpH.alloc w1 tmp hn1
  have hkB : KpH n (w1.alloc tmp) w2 := KpH.grown hg2 (by simp; omega) (fun k e => by
      rcases hrow.2 with ⟨rfl, _⟩ | ⟨g, cap, cur, rfl, hb, _, _⟩
      · simp [Value.ownBlock] at e
      · obtain rfl : g = k := by simpa [Value.ownBlock] using e
        exact hb) (fun k cs ty fr e hk => by
      rcases hrow.2 with ⟨rfl, _⟩ | ⟨g, cap, cur, rfl, hb, hgb, _⟩
      · simp [Value.ownBlock] at e
      · obtain rfl : g = k := by simpa [Value.ownBlock] using e
        have h1 := (Below.heap_alloc w1 tmp g (Array.getElem?_eq_some_iff.1 hgb).1).trans hgb
        rw [h1] at hk
        cases hk
        exact not_heldD)
  refine ⟨⟨((hb2 _ _ _ (by decide) a2).other (by omega) _).other (by omega) _, ((hb2 _ _ _ (by decide) a3).other (by omega) _).other (by omega) _, ((hb2 _ _ _ (by decide) a4).other (by omega) _).other (by omega) _, ⟨v', hv3.other (by omega) _, ?_⟩,
    ((hb2 _ _ _ (by decide) a6).other (by omega) _).other (by omega) _, ⟨D', ?_, by rw [hf]; exact hR1⟩, ?_, h.fine.snoc hc⟩, ?_, fun B hB => ?_⟩
  · rw [hf, List.length_append, List.flatMap_append]
    refine World.ownsRow.kept ?_ (grownBy_setCell' _ _ _) (.inr (c7'.not_row (by decide) hr3).symm)
    simpa using hr3
  · rw [hf, List.length_append]
    exact (hmm2.kept (grownBy_setCell' _ _ _) (fun e => by have := Option.some.inj e; omega)).kept (grownBy_setCell' _ _ _) (fun e => by have := Option.some.inj e; omega)
  · have := c7'.set (.int .i64 ((pre.length : Int) + 1))
    simpa using this
  · exact ((hk1.trans hkA).trans hkB).trans ((KpH.store hv2 (by omega) not_heldL).trans (KpH.store c7' (by omega) not_heldI))
  · exact (hkf1 B hB).trans ((hk3.from B).trans ((KeepsOthers.setCell _ _ _).from B))
/-- What Of has at its end. -/
def OfAll (n : Nat) (v : Value) (a b : Int) (cs : List Value) (k : Nat) (w W : World) : Prop :=
  Boxed W (n + 1) 22 v ∧ Boxed W (n + 2) 3 (.int .i64 a) ∧ Boxed W (n + 3) 28 (.int .i64 b) ∧ W.ownsRow n 39 2 v k cs ∧ Below n w W
theorem OfAll.own {n C : Nat} {v : Value} {a b : Int} {cs : List Value} {k : Nat} {w : World} (hC : n + 8 ≤ C) : OwnFrom C (fun (_ : Unit) W => OfAll n v a b cs k w W) := fun _ X Y row hs hg hr => by
  obtain ⟨h1, h2, h3, h4, h5⟩ := hs
  have ne : ∀ j, j < n + 8 → some j ≠ row := fun j hj e => by have := (hr j e.symm).1; omega
  refine ⟨h1.kept hg (ne _ (by omega)), h2.kept hg (ne _ (by omega)), h3.kept hg (ne _ (by omega)), h4.kept hg ?_, h5.grown hg (by have := h1.lt; omega) (fun j e => by have := (hr j e).1; omega)⟩
  rcases h4.2 with ⟨rfl, _⟩ | ⟨g, cap, cur, rfl, _, hgb, _⟩
  · exact .inl rfl
  · refine .inr fun e' => ?_
    obtain ⟨-, o, ho, hc⟩ := hr g (by simpa [Value.ownBlock] using e'.symm)
    rw [hgb] at ho; cases ho; cases hc
theorem OfSt.close {n : Nat} {pre : List De} {w W : World} {u v : Value} (h : OfSt n pre W) (hu : W.ownsRow n 39 2 u (firsts pre).length ((firsts pre).flatMap De.cells)) (ho : W.ownsRow n 39 2 v (firsts pre).length ((firsts pre).flatMap De.cells)) (hB : Below n w W) :
    OfAll n v 0 0 ((firsts pre).flatMap De.cells) (firsts pre).length w (((W.setCell ⟨n + 1, 0, none⟩ v).setCell ⟨n + 2, 0, none⟩ (.int .i64 0)).setCell ⟨n + 3, 0, none⟩ (.int .i64 0)) := by
  have a1 : (W.setCell ⟨n + 1, 0, none⟩ v).ownsRow n 39 2 v (firsts pre).length ((firsts pre).flatMap De.cells) := ho.kept (grownBy_setCell' _ _ _) (.inr (h.r2.not_row (by decide) ho).symm)
  have b3 : Boxed (W.setCell ⟨n + 1, 0, none⟩ v) (n + 2) 3 (.int .i64 0) := h.r3.other (by omega) _
  have a2 := a1.kept (grownBy_setCell' (W.setCell ⟨n + 1, 0, none⟩ v) (n + 2) (.int .i64 0)) (.inr (b3.not_row (by decide) a1).symm)
  have b4 : Boxed ((W.setCell ⟨n + 1, 0, none⟩ v).setCell ⟨n + 2, 0, none⟩ (.int .i64 0)) (n + 3) 28 (.int .i64 0) := (h.r4.other (by omega) _).other (by omega) _
  exact ⟨((h.r2.set _).other (by omega) _).other (by omega) _, ((h.r3.other (by omega) _).set _).other (by omega) _, b4.set _, a2.kept (grownBy_setCell' _ _ _) (.inr (b4.not_row (by decide) a2).symm), hB.trans (set3 (by have := h.r2.lt; omega)).1⟩
end Go.Proofs.Ytadccjcmiajdeaa
