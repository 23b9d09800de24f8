/-
  Plain facts for the walks of symtab's laws: a list that came in, read later; a list of numbers of the call's own; which numbers were told.
-/
import Derived.Test.YtffibgladjmeaaaSVals
namespace Go.Proofs.Ytffibgladjmeaaa
set_option linter.unusedSimpArgs false
set_option linter.unusedVariables false
set_option linter.unusedSectionVars false
open Go.RowKit Go.Maps
variable [DecidableEq V]

/-- The k-th value of a list that came in, in a later world. -/
theorem Vals.at {W wr : World} {ao : Option Addr} {n cap : Nat} {vs : List V} (h : Vals W (.slice ao n cap) vs) (hb : Below W.heap.size W wr) (k : Nat) (hk : k < vs.length) :
    ∃ b off, ao = some ⟨b, off, none⟩ ∧ wr.cell? ⟨b, off + k * 3, none⟩ = some (.bool vs[k].k) ∧ wr.cell? ⟨b, off + k * 3 + 1, none⟩ = some (.string vs[k].s) ∧ wr.cell? ⟨b, off + k * 3 + 2, none⟩ = some (.int .i64 vs[k].n) ∧ vs[k].Ok ∧ b < W.heap.size := by
  obtain ⟨ao', cap', e, h2, h3, h4⟩ := h.below hb
  injection e with e1 e2 e3
  subst e1
  obtain ⟨b, off, e, hlt, c0, c1, c2⟩ := h4 k hk
  obtain ⟨_, _, e', _, _, h5⟩ := h
  injection e' with e1' e2' e3'
  subst e1'
  obtain ⟨b', off', e'', hlt', _⟩ := h5 k hk
  rw [e] at e''
  simp at e''
  exact ⟨b, off, e, c0, c1, c2, h3 _ (List.getElem_mem hk), by omega⟩
theorem Vals.len {W : World} {x : Value} {vs : List V} (h : Vals W x vs) : ∃ ao cap, x = .slice ao vs.length cap ∧ vs.length ≤ maxLen := by
  obtain ⟨ao, cap, h1, h2, -⟩ := h; exact ⟨ao, cap, h1, h2⟩

theorem addV_in {L : List V} {b : V} (h : b ∈ L) : addV L b = L ∧ L.idxOf b < L.length := ⟨if_pos h, List.idxOf_lt_length_iff.2 h⟩
theorem addV_out {L : List V} {b : V} (h : b ∉ L) : addV L b = L ++ [b] ∧ L.idxOf b = L.length := ⟨if_neg h, List.idxOf_eq_length h⟩

theorem infoInt : (Try.prog.info? 3).map (fun i => (i.zero, i.size, i.bytes)) = some (some (.int .i64 0), 1, 8) := by kernel_rfl

/-- x is a list of the numbers zs in a block of the call's own, from B on, that the table doesn't list. -/
def Nums (w : World) (B : Nat) (F : Nat → Prop) (x : Value) (zs : List Int) : Prop :=
  w.ownsRow B 3 1 x zs.length (zs.map (Value.int .i64)) ∧ ∀ g, x.ownBlock = some g → ¬ F g

theorem nums_nil (w : World) (B : Nat) (F : Nat → Prop) : Nums w B F (.slice none 0 0) [] := ⟨World.ownsRow_nil _ _ _ _, fun g h => by simp [Value.ownBlock] at h⟩

section
variable {w w' : World} {B : Nat} {F F' : Nat → Prop} {x : Value} {zs : List Int}
theorem Nums.put (h : Nums w B F x zs) (ht : Turns F w w') (hF : ∀ k, F' k → F k ∨ w.heap.size ≤ k) : Nums w' B F' x zs :=
  ⟨ownsRow_block h.1 (fun k hk => ht.block k (h.1.lt k hk).2 (h.2 k hk)), fun g hg hF' => (hF g hF').elim (h.2 g hg) (fun h' => by have := (h.1.lt g hg).2; omega)⟩
theorem Nums.below (h : Nums w B F x zs) (hb : Below w.heap.size w w') : Nums w' B F x zs :=
  ⟨ownsRow_block h.1 (fun k hk => hb.block k (h.1.lt k hk).2), h.2⟩
theorem Nums.form (h : Nums w B F x zs) : ∃ ao cap, x = .slice ao zs.length cap ∧ zs.length ≤ maxLen := by
  rcases h.1.2 with ⟨rfl, hn⟩ | ⟨g, cap, cur, rfl, _, _, h1, h2, _⟩
  · exact ⟨none, 0, by rw [hn], by rw [hn]; exact Nat.zero_le _⟩
  · exact ⟨_, _, rfl, by omega⟩
theorem Nums.at {ao : Option Addr} {n cap : Nat} (h : Nums w B F (.slice ao n cap) zs) (i : Nat) (hi : i < zs.length) : ∃ g, ao = some ⟨g, 0, none⟩ ∧ w.cell? ⟨g, i, none⟩ = some (.int .i64 zs[i]) ∧ g < w.heap.size ∧ n = zs.length := by
  rcases h.1.2 with ⟨_, hn⟩ | ⟨g, cap', cur, e, _, hg, _⟩
  · omega
  · injection e with e1 e2 e3
    subst e1
    have c := h.1.cells (g := g) rfl i (.int .i64 zs[i]) (by simp [hi])
    rw [add_none] at c
    exact ⟨g, rfl, by simpa using c, (Array.getElem?_eq_some_iff.1 hg).1, e2⟩

/-- Behind an append of one more number. -/
theorem Nums.app {tb : Nat} {L : List V} {B' : Nat} {v' : Value} {z : Int} {o : Obj} (h : Nums w B F x zs) (hT : Tbl w B' F tb L) (hr : w'.ownsRow B 3 1 v' (zs.length + 1) (zs.map (Value.int .i64) ++ [.int .i64 z])) (hg : (w.alloc o).grownBy w' x.ownBlock)
    (hl : v'.ownBlock = x.ownBlock ∨ v'.ownBlock = some (w.alloc o).heap.size) (hB : B ≤ w.heap.size) (hBB : B ≤ B') : Nums w' B F v' (zs ++ [z]) ∧ Tbl w' B' F tb L ∧ Below B w w' := by
  have hF : ∀ k, F k → k < w.heap.size := by obtain ⟨_, _, _, _, _, _, _, _, _, h7, _⟩ := hT; exact fun k hk => (h7 k hk).2
  have ht : Turns (fun k => x.ownBlock = some k) w w' := ((Turns.refl _ _).alloc o).grown hg (fun k e _ => e)
  refine ⟨⟨by simpa using hr, fun g hg' hFg => ?_⟩, hT.turns ht (fun k e hk => h.2 k e hk), ht.below hB (fun k e => (h.1.lt k e).1)⟩
  rcases hl with hl | hl
  · exact h.2 g (hl ▸ hg') hFg
  · rw [hl] at hg'
    have := hF g hFg
    simp at hg'
    omega
end

theorem idx_addV {L : List V} {b c : V} (h : c ∈ L) : (addV L b).idxOf c = L.idxOf c ∧ c ∈ addV L b := by
  unfold addV
  split
  · exact ⟨rfl, h⟩
  · exact ⟨by rw [List.idxOf_append, if_pos h], by simp [h]⟩
theorem idx_addV_self (L : List V) (b : V) : (addV L b).idxOf b = L.idxOf b ∧ b ∈ addV L b := by
  unfold addV
  split
  · exact ⟨rfl, by assumption⟩
  · rename_i h
    exact ⟨by rw [List.idxOf_append, if_neg h, List.idxOf_eq_length h]; simp, by simp⟩
theorem addV_len (L : List V) (b : V) : (addV L b).length ≤ L.length + 1 := by
  unfold addV; split <;> simp
theorem idx_lt {L : List V} {c : V} (h : c ∈ L) : L.idxOf c < L.length := List.idxOf_lt_length_iff.2 h

/-- The numbers zs are what the table told of us, and tells still. -/
def Told (L us : List V) (zs : List Int) : Prop := zs.length = us.length ∧ ∀ i (h : i < us.length), us[i].bare ∈ L ∧ zs[i]? = some ((L.idxOf us[i].bare : Nat) : Int)
theorem told_nil (L : List V) : Told L [] [] := ⟨rfl, fun i h => by simp at h⟩
theorem Told.put {L us : List V} {zs : List Int} (h : Told L us zs) (b : V) : Told (addV L b) us zs :=
  ⟨h.1, fun i hi => by obtain ⟨h1, h2⟩ := h.2 i hi; exact ⟨(idx_addV h1).2, by rw [h2, (idx_addV h1).1]⟩⟩
theorem Told.snoc {L us : List V} {zs : List Int} (h : Told L us zs) (v : V) : Told (addV L v.bare) (us ++ [v]) (zs ++ [((L.idxOf v.bare : Nat) : Int)]) := by
  refine ⟨by simp [h.1], fun i hi => ?_⟩
  by_cases hlt : i < us.length
  · rw [List.getElem_append_left hlt, List.getElem?_append_left (by rw [h.1]; exact hlt)]
    exact (h.put v.bare).2 i hlt
  · have e : i = us.length := by simp at hi; omega
    subst e
    rw [List.getElem_append_right (by simp), List.getElem?_append_right (by rw [h.1]; simp)]
    simp [h.1, idx_addV_self]
theorem take_snocV (vs : List V) (k : Nat) (h : k < vs.length) : vs.take (k + 1) = vs.take k ++ [vs[k]] := List.take_succ_eq_append_getElem h

theorem Box.belowB {w w' : World} {b B : Nat} {v : V} (h : Box w b v) (hb : Below B w w') (hB : b < B) : Box w' b v :=
  ⟨(hb.cell (p := ⟨b, 0, none⟩) hB).trans h.1, (hb.cell (p := ⟨b, 1, none⟩) hB).trans h.2.1, (hb.cell (p := ⟨b, 2, none⟩) hB).trans h.2.2.1, Nat.lt_of_lt_of_le h.2.2.2 hb.size⟩

theorem Told.at {L vs : List V} {zs : List Int} {k : Nat} (h : Told L (vs.take k) zs) (j : Nat) (hk : j < k) (hj : j < vs.length) : vs[j].bare ∈ L ∧ ∃ hz : j < zs.length, zs[j] = ((L.idxOf vs[j].bare : Nat) : Int) := by
  have hj' : j < (vs.take k).length := by simp; omega
  obtain ⟨h1, h2⟩ := h.2 j hj'
  rw [List.getElem_take] at h1 h2
  obtain ⟨hz, e⟩ := List.getElem?_eq_some_iff.1 h2
  exact ⟨h1, hz, e⟩

end Go.Proofs.Ytffibgladjmeaaa
