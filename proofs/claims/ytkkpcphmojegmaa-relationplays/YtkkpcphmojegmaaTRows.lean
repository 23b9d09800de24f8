/-
  Lists of rows in a block of the call's own; append of a row, and of a list of rows, onto one. No contract.
-/
import Derived.Test.YtkkpcphmojegmaaTGrid
import Derived.Maps.AppendAt
namespace Go.Proofs.Ytkkpcphmojegmaa
set_option linter.unusedSimpArgs false
set_option linter.unusedVariables false
set_option linter.unusedSectionVars false
set_option maxRecDepth 100000
open Go.RowKit Go.Deep Go.WideShapes Go.Maps
variable [DecidableEq V]

/-- A nil list has no room. -/
def NilCap (v : Value) : Prop := ∀ n c, v = .slice none n c → c = 0
theorem Own.nilcap {w : World} {B : Nat} {x : Value} {L : List V} (h : Own w B x L) : NilCap x := by
  intro n c e
  rcases h.1.2 with ⟨e', -⟩ | ⟨g, cap, cur, e', -⟩
  · rw [e] at e'; injection e' with _ _ e3
  · rw [e] at e'; injection e' with e1; cases e1
/-- x is a list of the rows E, in a block of the call's own, from B on. -/
def OwnG (w : World) (B : Nat) (x : Value) (E : List R) : Prop :=
  (∀ r ∈ E, NilCap r.hv) ∧ ((x = .slice none 0 0 ∧ E = []) ∨ ∃ g cap, x = .slice (some ⟨g, 0, none⟩) E.length cap ∧ B ≤ g ∧ cap ≤ maxLen ∧ Mat w g cap E)
theorem OwnG.nil (w : World) (B : Nat) : OwnG w B (.slice none 0 0) [] := ⟨fun _ h => by simp at h, .inl ⟨rfl, rfl⟩⟩
theorem OwnG.own {w : World} {B : Nat} {x : Value} {E : List R} (h : OwnG w B x E) : w.ownsRow B 30 1 x E.length (E.map R.hv) := by
  refine ⟨by simp, ?_⟩
  rcases h.2 with ⟨h1, rfl⟩ | ⟨g, cap, h1, h2, h3, ⟨cur, m0, m1, m2, m3⟩, m4⟩
  · exact .inl ⟨h1, rfl⟩
  · exact .inr ⟨g, cap, cur, h1, h2, m0, m2, h3, by omega, by rw [Nat.mul_one]; exact m3⟩
theorem OwnG.below {w w' : World} {B : Nat} {x : Value} {E : List R} (h : OwnG w B x E) (hb : Below w.heap.size w w') : OwnG w' B x E := by
  refine ⟨h.1, ?_⟩
  rcases h.2 with h1 | ⟨g, cap, h1, h2, h3, h4⟩
  · exact .inl h1
  · exact .inr ⟨g, cap, h1, h2, h3, h4.below hb⟩
theorem OwnG.mono {w : World} {B B' : Nat} {x : Value} {E : List R} (h : OwnG w B x E) (hB : B' ≤ B) : OwnG w B' x E := by
  refine ⟨h.1, ?_⟩
  rcases h.2 with h1 | ⟨g, cap, h1, h2, h3, h4⟩
  · exact .inl h1
  · exact .inr ⟨g, cap, h1, by omega, h3, h4⟩
theorem Mat.grid {w : World} {g cap : Nat} {E : List R} (h : Mat w g cap E) (hn : ∀ r ∈ E, NilCap r.hv) (hc : cap ≤ maxLen) : Grid w (.slice (some ⟨g, 0, none⟩) E.length cap) E :=
  ⟨some ⟨g, 0, none⟩, cap, rfl, Nat.le_trans h.cap hc, fun i hi => ⟨g, 0, rfl, h.lt, by rw [Nat.zero_add]; exact h.cell i hi, h.row i hi, hn _ (List.getElem_mem hi)⟩⟩
theorem Grid.nothing (w : World) : Grid w (.slice none 0 0) [] := ⟨none, 0, rfl, by simp [maxLen], fun i hi => by simp at hi⟩
theorem OwnG.grid {w : World} {B : Nat} {x : Value} {E : List R} (h : OwnG w B x E) : Grid w x E := by
  rcases h.2 with ⟨rfl, rfl⟩ | ⟨g, cap, rfl, h2, h3, h4⟩
  · exact Grid.nothing _
  · exact h4.grid h.1 h3
theorem OwnG.nilcap {w : World} {B : Nat} {x : Value} {E : List R} (h : OwnG w B x E) : NilCap x := by
  intro n c e
  rcases h.2 with ⟨e', -⟩ | ⟨g, cap, e', -⟩
  · rw [e] at e'; injection e' with _ _ e3
  · rw [e] at e'; injection e' with e1; cases e1
theorem OwnG.empty {w : World} {B : Nat} (hB : B ≤ w.heap.size) : OwnG (w.alloc (.cells #[] 30)) B (.slice (some ⟨w.heap.size, 0, none⟩) 0 0) [] :=
  ⟨fun _ h => by simp at h, .inr ⟨w.heap.size, 0, rfl, hB, Nat.zero_le _, ⟨#[], (MapKept.heap_alloc w _).1, rfl, Nat.le_refl _, rfl⟩, fun _ h => by simp at h⟩⟩
theorem OwnG.made {w : World} {B : Nat} {x : Value} (h : w.ownsRow B 30 1 x 0 []) : OwnG w B x [] := by
  refine ⟨fun _ h => by simp at h, ?_⟩
  rcases h.2 with ⟨h1, -⟩ | ⟨g, cap, cur, h1, h2, h3, h4, h5, h6, h7⟩
  · exact .inl ⟨h1, rfl⟩
  · exact .inr ⟨g, cap, h1, h2, h5, ⟨cur, h3, by omega, Nat.zero_le _, by simp⟩, fun _ h => by simp at h⟩
theorem vals_lt {w : World} {a : Addr} {n c : Nat} {vs : List V} (h : Vals w (.slice (some a) n c) vs) (h0 : 0 < vs.length) : a.block < w.heap.size := by
  obtain ⟨ao, cap, e, _, _, h4⟩ := h
  obtain ⟨b, off, e', hlt, -⟩ := h4 0 h0
  injection e with e1
  rw [← e1] at e'
  cases e'
  exact hlt
theorem vals_grown {w w' : World} {o : Option Nat} {hv : Value} {vs : List V} (h : Vals w hv vs) (ha : ∀ a n c, hv = .slice (some a) n c → 0 < vs.length → o ≠ some a.block) (hg : w.grownBy w' o) : Vals w' hv vs := by
  obtain ⟨ao, cap, h1, h2, h3, h4⟩ := h
  refine ⟨ao, cap, h1, h2, h3, fun i hi => ?_⟩
  obtain ⟨b, off, e, hlt, c0, c1, c2⟩ := h4 i hi
  have hne := ha ⟨b, off, none⟩ _ _ (by rw [h1, e]) (by omega)
  have hb := hg.block b hlt (fun e => hne e.symm)
  exact ⟨b, off, e, Nat.lt_of_lt_of_le hlt hg.size, (World.cell?_of_block (a := ⟨b, off + i * 3, none⟩) hb).trans c0, (World.cell?_of_block (a := ⟨b, off + i * 3 + 1, none⟩) hb).trans c1, (World.cell?_of_block (a := ⟨b, off + i * 3 + 2, none⟩) hb).trans c2⟩
/-- A row that may go into the list v. -/
def Fit (w : World) (v : Value) (r : R) : Prop := Vals w r.hv r.vs ∧ NilCap r.hv ∧ ∀ a n c, r.hv = .slice (some a) n c → 0 < r.vs.length → v.ownBlock ≠ some a.block
theorem OwnG.fit {w : World} {B : Nat} {x : Value} {E : List R} (h : OwnG w B x E) : ∀ r ∈ E, Fit w x r := by
  intro r hr
  rcases h.2 with ⟨rfl, rfl⟩ | ⟨g, cap, rfl, h2, h3, h4⟩
  · simp at hr
  · obtain ⟨k1, k2⟩ := h4.2 r hr
    exact ⟨k1, h.1 r hr, fun a n c e h0 e' => k2 a n c e h0 (by simpa [Value.ownBlock] using e'.symm)⟩
/-- A row of older memory fits. -/
theorem OwnG.older {w : World} {B : Nat} {x : Value} {E : List R} (h : OwnG w B x E) {W : World} (hW : W.heap.size ≤ B) {r : R} (h0 : Vals W r.hv r.vs) (h1 : Vals w r.hv r.vs) (hn : NilCap r.hv) : Fit w x r := by
  refine ⟨h1, hn, fun a n c e hl e' => ?_⟩
  have hlt := vals_lt (e ▸ h0) hl
  rcases h.2 with ⟨rfl, rfl⟩ | ⟨g, cap, rfl, h2, h3, h4⟩
  · simp [Value.ownBlock] at e'
  · simp [Value.ownBlock] at e'; omega
/-- A row of newer memory fits. -/
theorem OwnG.newer {w : World} {B : Nat} {x : Value} {E : List R} (h : OwnG w B x E) {W : World} (hW : OwnG W B x E) {xr : Value} {vs : List V} (ix : Nat) (ho : Own w W.heap.size xr vs) : Fit w x ⟨xr, vs, ix⟩ := by
  refine ⟨ho.vals, ho.nilcap, fun a n c e hl e' => ?_⟩
  rcases hW.2 with ⟨rfl, rfl⟩ | ⟨g, cap, rfl, h2, h3, h4⟩
  · simp [Value.ownBlock] at e'
  · have hgl := h4.lt
    simp [Value.ownBlock] at e'
    rcases ho.1.2 with ⟨e1, -⟩ | ⟨g', cap', cur, e1, e2, -⟩
    · rw [e1] at e; injection e with e; cases e
    · rw [e1] at e; injection e with e; cases e; simp at e'; omega
theorem OwnG.join {w w' : World} {B : Nat} {v v' : Value} {E M : List R} (h : OwnG w B v E) (hM : ∀ r ∈ M, Fit w v r) (hr : w'.ownsRow B 30 1 v' (E.length + M.length) (E.map R.hv ++ M.map R.hv)) (hg : w.grownBy w' v.ownBlock)
    (hat : v'.ownBlock = v.ownBlock ∨ v'.ownBlock = some w.heap.size) : OwnG w' B v' (E ++ M) := by
  have all : ∀ r ∈ E ++ M, Fit w v r := fun r hr => by
    rcases List.mem_append.1 hr with hr | hr
    · exact h.fit r hr
    · exact hM r hr
  refine ⟨fun r hr => (all r hr).2.1, ?_⟩
  rcases hr.2 with ⟨h1, h2⟩ | ⟨g, cap, cur, rfl, h2, h3, h4, h5, h6, h7⟩
  · exact .inl ⟨h1, List.eq_nil_of_length_eq_zero (by rw [List.length_append]; exact h2)⟩
  · refine .inr ⟨g, cap, by rw [List.length_append], h2, h5, ⟨cur, h3, by omega, by rw [List.length_append]; exact h4, by rw [List.length_append, List.map_append]; simpa using h7⟩, fun r hr => ?_⟩
    obtain ⟨f1, f2, f3⟩ := all r hr
    refine ⟨vals_grown f1 f3 hg, fun a n c e hl => ?_⟩
    rcases hat with hat | hat
    · have := f3 a n c e hl
      rw [← hat] at this
      intro e'
      apply this
      simp [Value.ownBlock, e']
    · have := vals_lt (e ▸ f1) hl
      simp [Value.ownBlock] at hat
      omega
theorem rows_one (E : List R) : (E.map R.hv).length = E.length * 1 := by simp
theorem Grid.oneCell {w : World} {x : Value} {M : List R} (h : Grid w x M) : ∀ u ∈ M.map R.hv, u.oneCell' = true := by
  intro u hu
  obtain ⟨r, hr, rfl⟩ := List.mem_map.1 hu
  obtain ⟨i, hi, rfl⟩ := List.mem_iff_getElem.1 hr
  obtain ⟨ao, cap, h1, h2, h4⟩ := h
  obtain ⟨b, off, e, hlt, c0, c1, c2⟩ := h4 i hi
  obtain ⟨a', c', e', -⟩ := c1.len
  rw [e']; rfl
theorem Grid.cells {w : World} {ad : Addr} {n c : Nat} {M : List R} (h : Grid w (.slice (some ad) n c) M) : ∀ j u, (M.map R.hv)[j]? = some u → w.cell? (ad.add j) = some u := by
  intro j u hj
  rw [List.getElem?_map] at hj
  obtain ⟨r, hr, rfl⟩ := Option.map_eq_some_iff.1 hj
  obtain ⟨hi, rfl⟩ := List.getElem?_eq_some_iff.1 hr
  obtain ⟨ao, cap, e, h2, h4⟩ := h
  injection e with e1
  subst e1
  obtain ⟨b, off, e, hlt, c0, c1, c2⟩ := h4 j hi
  cases e
  rw [add_none]; exact c0
theorem Grid.vals {w : World} {x : Value} {M : List R} (h : Grid w x M) : ∀ r ∈ M, Vals w r.hv r.vs ∧ NilCap r.hv := by
  intro r hr
  obtain ⟨i, hi, rfl⟩ := List.mem_iff_getElem.1 hr
  obtain ⟨ao, cap, h1, h2, h4⟩ := h
  obtain ⟨b, off, e, hlt, c0, c1, c2⟩ := h4 i hi
  exact ⟨c1, c2⟩
theorem Grid.empty {w : World} {n c : Nat} {M : List R} (h : Grid w (.slice none n c) M) : M = [] := by
  cases M with
  | nil => rfl
  | cons y l =>
    obtain ⟨ao', cap', e, h2, h4⟩ := h
    obtain ⟨b, off, e', _⟩ := h4 0 (by simp)
    injection e with e1
    rw [← e1] at e'; cases e'

/-- append of a list of rows. -/
theorem wpList_append_rows {ops : Array Oper} {rest : List Oper} {o : Oper} {a : Act} {Q : Exit → Act → World → Prop} {w : World} (hgd : o.guard = none) (s x : Operand)
    (ho : o.op = .call { callee := .builtin .append, args := #[s, x], argTypes := #[27, 27] })
    (B : Nat) (v : Value) (E : List R) (hs : a.eval s = v) (hown : OwnG w B v E) (xv : Value) (M : List R) (hx : a.eval x = xv) (hV : Grid w xv M) (hN : NilCap xv) (hF : ∀ r ∈ M, Fit w v r)
    (hbytes : E.length + M.length ≤ 2000000) (hB : B ≤ w.heap.size)
    (h : ∀ v' w', OwnG w' B v' (E ++ M) → Below B w w' → wpList Try.prog ops Q rest (a.put o.dst v') w') : wpList Try.prog ops Q (o :: rest) a w := by
  obtain ⟨i0, hi, hz0, hz1, hz2⟩ := info_parts infoRow
  refine wpList_plain hgd fun K hK => ?_
  obtain ⟨ao, c, rfl, hm⟩ := hV.len
  cases ao with
  | none =>
    have hvs := hV.empty
    subst hvs
    have hc : c = 0 := hN _ _ rfl
    subst hc
    have hr := run_append_owned_none (P := Try.prog) w B 27 o.type 30 i0 1 Try.underlying27 hi v E.length (E.map R.hv) hown.own
    unfold Oper.wp execOp
    simp only [ho, resolve, invoke, builtin, Sem.run_bind, Sem.run_pure, Result.andThen_ok, List.map_toArray, List.map_cons, List.map_nil, List.length_nil, hs, hx, hr]
    exact hK _ _ (h v w (by rw [List.append_nil]; exact hown) (Below.refl _ _))
  | some ad =>
    obtain ⟨v', w', hr, h2, h3, h4, h5⟩ := run_append_own_at (P := Try.prog) w B 27 o.type 30 i0 _ 1 24 Try.underlying27 hi hz0 hz1 hz2 rfl (by decide) v E.length (E.map R.hv) hown.own ad M.length c (M.map R.hv) (rows_one M) hV.cells hV.oneCell (by unfold maxLen; omega) (by omega) hB
    unfold Oper.wp execOp
    simp only [ho, resolve, invoke, builtin, Sem.run_bind, Sem.run_pure, Result.andThen_ok, List.map_toArray, List.map_cons, List.map_nil, hs, hx, hr]
    exact hK _ _ (h v' w' (hown.join hF h2 h3 h5) ((Below.refl _ _).grown h3 hB (fun k hk => (hown.own.lt k hk).1)))
/-- A list of one row, made for a call. -/
theorem grid_new {w : World} {r : R} (h : Vals w r.hv r.vs) (hn : NilCap r.hv) : Grid (w.alloc (.cells #[r.hv] 30)) (.slice (some ⟨w.heap.size, 0, none⟩) 1 1) [r] := by
  refine ⟨some ⟨w.heap.size, 0, none⟩, 1, rfl, by simp [maxLen], fun i hi => ?_⟩
  have : i = 0 := by simpa using hi
  subst this
  exact ⟨w.heap.size, 0, rfl, by simp, by simp, h.below ((Below.refl _ _).alloc (Nat.le_refl _) _), hn⟩
theorem Fit.below {w w' : World} {x : Value} {r : R} (h : Fit w x r) (hb : Below w.heap.size w w') : Fit w' x r := ⟨h.1.below hb, h.2⟩
theorem NilCap.at {ad : Addr} {n c : Nat} : NilCap (.slice (some ad) n c) := fun n c e => by injection e with e; cases e
/-- append of a row: behind what makes a list of it. -/
theorem wpList_append_row {ops : Array Oper} {rest : List Oper} {o : Oper} {a : Act} {Q : Exit → Act → World → Prop} {w : World} (hgd : o.guard = none) (s x : Operand)
    (ho : o.op = .call { callee := .builtin .append, args := #[s, x], argTypes := #[27, 27] })
    (B : Nat) (v : Value) (E : List R) (hs : a.eval s = v) (hown : OwnG w B v E) (r : R) (hx : a.eval x = .slice (some ⟨w.heap.size, 0, none⟩) 1 1) (hF : Fit w v r)
    (hbytes : E.length + 1 ≤ 2000000) (hB : B ≤ w.heap.size)
    (h : ∀ v' w', OwnG w' B v' (E ++ [r]) → Below B w w' → wpList Try.prog ops Q rest (a.put o.dst v') w') : wpList Try.prog ops Q (o :: rest) a (w.alloc (.cells #[r.hv] 30)) := by
  have hb : Below w.heap.size w (w.alloc (.cells #[r.hv] 30)) := (Below.refl _ _).alloc (Nat.le_refl _) _
  refine wpList_append_rows hgd s x ho B v E hs (hown.below hb) _ [r] hx (grid_new hF.1 hF.2.1) NilCap.at ?_ (by simpa using hbytes) (by simp; omega) ?_
  · intro r' hr'
    rw [List.mem_singleton.1 hr']
    exact hF.below hb
  · intro v' w' h1 h2
    exact h v' w' h1 ((hb.mono hB).trans h2)
theorem Grid.take {w : World} {ao : Option Addr} {n c k : Nat} {M : List R} (h : Grid w (.slice ao n c) M) (hk : k ≤ M.length) : Grid w (.slice ao k c) (M.take k) := by
  obtain ⟨ao', cap', e, h2, h4⟩ := h
  injection e with e1 e2 e3
  subst e1
  refine ⟨ao, c, by simp [Nat.min_eq_left hk], by simp; omega, fun i hi => ?_⟩
  simp only [List.length_take] at hi
  rw [List.getElem_take]
  exact h4 i (by omega)
theorem Grid.drop {w : World} {b off n c k m c' : Nat} {M : List R} (h : Grid w (.slice (some ⟨b, off, none⟩) n c) M) (hm : m = M.length - k) : Grid w (.slice (some ⟨b, off + k, none⟩) m c') (M.drop k) := by
  obtain ⟨ao', cap', e, h2, h4⟩ := h
  injection e with e1 e2 e3
  subst e1
  refine ⟨some ⟨b, off + k, none⟩, c', by simp [hm], by simp; omega, fun i hi => ?_⟩
  simp only [List.length_drop] at hi
  rw [List.getElem_drop]
  obtain ⟨b', off', e, hlt, c0, c1, c2⟩ := h4 (k + i) (by omega)
  cases e
  exact ⟨b, off + k, rfl, hlt, by simpa [Nat.add_assoc] using c0, c1, c2⟩
end Go.Proofs.Ytkkpcphmojegmaa
