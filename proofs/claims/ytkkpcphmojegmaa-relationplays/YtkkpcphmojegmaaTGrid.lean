/-
  A list of rows that came in: what it holds. Contracts of few, slices.Clone at rows.
-/
import Derived.Test.YtkkpcphmojegmaaTSortM
import Derived.Test.YtkkpcphmojegmaaTApp
namespace Go.Proofs.Ytkkpcphmojegmaa
set_option linter.unusedSimpArgs false
set_option linter.unusedVariables false
set_option linter.unusedSectionVars false
set_option maxRecDepth 100000
open Go.RowKit Go.Deep Go.WideShapes
variable [DecidableEq V]

theorem vals_trod {H : Type} {enc : TypeId × Value → H} {W : World} {sp : Nat → Bool} {hd : Bool} {base fuel : Nat} {cs : List Value} {y : DataW H × List MemPlace}
    (hf : DataW.trod enc Try.prog W base sp hd fuel 30 cs = some y) : ∃ (hv : Value) (vs : List V), cs = [hv] ∧ Vals W hv vs ∧ ∀ n c, hv = .slice none n c → c = 0 := by
  rcases open_slice Try.underlying30 hf with ⟨rfl, -⟩ | ⟨a, len, cap, m, n, D, Pl, rfl, hb, hl, hm, hmm, hdat, hx⟩
  · exact ⟨_, [], rfl, Vals.nil _, fun n c e => by injection e with _ _ e; exact e.symm⟩
  · have hlm : len ≤ m := by rw [hmm]; split <;> omega
    have each : ∀ i, i < len → ∃ v : V, v.Ok ∧ W.cell? (a.add (i * 3)) = some (.bool v.k) ∧ W.cell? (a.add (i * 3 + 1)) = some (.string v.s) ∧ W.cell? (a.add (i * 3 + 2)) = some (.int .i64 v.n) := fun i hi => by
      obtain ⟨cs', h1, h2⟩ := hx i (by omega)
      rw [cellsVal] at h1
      obtain ⟨_, hlen, hcell⟩ := World.cells?_some h1
      obtain ⟨y0, y1, y2, k, -, -, g0, g1, g2⟩ := trod_struct3 Try.underlying55 h2
      match cs', hlen with
      | [c0, c1, c2], _ =>
        simp [cellsB, cellsS, cellsI] at g0 g1 g2
        obtain ⟨x0, e0, -⟩ := DataW.trod_bool Try.underlying4 g0
        obtain ⟨x1, e1, -, hs⟩ := DataW.trod_string Try.underlying9 g1
        obtain ⟨x2, e2, -, wn⟩ := DataW.trod_int Try.underlying2 g2
        simp at e0 e1 e2
        subst e0 e1 e2
        have hb' := bounds_i64 wn
        have q0 := hcell 0 (by omega)
        have q1 := hcell 1 (by omega)
        have q2 := hcell 2 (by omega)
        rw [add_add] at q0 q1 q2
        exact ⟨⟨x0, x1, x2⟩, ⟨hs, hb'.1, hb'.2⟩, by simpa using q0, by simpa using q1, by simpa using q2⟩
    have : Inhabited V := ⟨⟨false, ⟨#[]⟩, 0⟩⟩
    obtain ⟨f, hfx⟩ := choose_lt each
    refine ⟨_, (List.range len).map f, rfl, ⟨some a, cap, by simp, by simp; omega, ?_, ?_⟩, fun n c e => by injection e with e; cases e⟩
    · intro v hv'
      obtain ⟨i, hi, rfl⟩ := List.mem_map.1 hv'
      exact (hfx i (by simpa using hi)).1
    · intro i hi
      simp at hi
      obtain ⟨-, e0, e1, e2⟩ := hfx i hi
      have hsp : a.spot = none := by
        have := World.cell?_spot (hfx 0 (by omega)).2.1
        simpa [Addr.add] using this
      obtain ⟨b, off, sp'⟩ := a
      simp at hsp
      subst hsp
      rw [add_none] at e0 e1 e2
      exact ⟨b, off, rfl, lt_of_cell e0, by simpa using e0, by simpa [Nat.add_assoc] using e1, by simpa [Nat.add_assoc] using e2⟩

/-- x is a list of the rows D, in memory that is there. -/
def Grid (W : World) (x : Value) (D : List R) : Prop :=
  ∃ (ao : Option Addr) (cap : Nat), x = .slice ao D.length cap ∧ D.length ≤ maxLen ∧
    ∀ i (hi : i < D.length), ∃ b off, ao = some ⟨b, off, none⟩ ∧ b < W.heap.size ∧ W.cell? ⟨b, off + i, none⟩ = some D[i].hv ∧ Vals W D[i].hv D[i].vs ∧ ∀ n c, D[i].hv = .slice none n c → c = 0
theorem cellsRow : Try.prog.cellsOf 30 = 1 := by kernel_rfl
theorem infoRow : (Try.prog.info? 30).map (fun i => (i.zero, i.size, i.bytes)) = some (some (.slice none 0 0), 1, 24) := by kernel_rfl
/-- A list of rows that came in. -/
theorem open_rows {H : Type} {enc : TypeId × Value → H} {W : World} {r : Reach} {b0 : Nat} {x : Value} {d : DataW H} {p : List MemPlace} {sp : Nat → Bool} {hd : Bool} {base : Nat}
    (hv : Value.okWide Try.prog W r b0 27 x) (h : DataW.Trod enc Try.prog W base sp hd 27 x d p) :
    ∃ D : List R, Grid W x D := by
  obtain ⟨a0, len, cap, rfl⟩ := okWide_slice Try.underlying27 hv
  obtain ⟨fuel, hf⟩ := h
  rcases open_slice Try.underlying27 hf with ⟨hc, -⟩ | ⟨a, len', cap', m, n, D, Pl, hc, hb, hl, hm, hmm, hdat, hx⟩
  · simp [Value.cells] at hc
    obtain ⟨rfl, rfl, rfl⟩ := hc
    exact ⟨[], none, 0, rfl, by simp [maxLen], fun i hi => by simp at hi⟩
  · simp [Value.cells] at hc
    obtain ⟨rfl, rfl, rfl⟩ := hc
    have hlm : len ≤ m := by rw [hmm]; split <;> omega
    have each : ∀ i, i < len → ∃ r : R, W.cell? (a.add i) = some r.hv ∧ Vals W r.hv r.vs ∧ ∀ n c, r.hv = .slice none n c → c = 0 := fun i hi => by
      obtain ⟨cs', h1, h2⟩ := hx i (by omega)
      rw [cellsRow] at h1
      obtain ⟨_, hlen, hcell⟩ := World.cells?_some h1
      obtain ⟨hv', vs, rfl, hV, hN⟩ := vals_trod h2
      have q0 := hcell 0 (by omega)
      rw [add_add] at q0
      exact ⟨⟨hv', vs, i⟩, by simpa using q0, hV, hN⟩
    have : Inhabited R := ⟨⟨.slice none 0 0, [], 0⟩⟩
    obtain ⟨f, hfx⟩ := choose_lt each
    refine ⟨(List.range len).map f, some a, cap, by simp, by simp; omega, fun i hi => ?_⟩
    simp at hi
    obtain ⟨e0, e1, e2⟩ := hfx i hi
    have hsp : a.spot = none := by
      have := World.cell?_spot (hfx 0 (by omega)).1
      simpa [Addr.add] using this
    obtain ⟨b, off, sp'⟩ := a
    simp at hsp
    subst hsp
    rw [add_none] at e0
    exact ⟨b, off, rfl, lt_of_cell e0, by simpa using e0, by simpa using e1, by simpa using e2⟩
theorem Grid.len {W : World} {x : Value} {D : List R} (h : Grid W x D) : ∃ ao cap, x = .slice ao D.length cap ∧ D.length ≤ maxLen := by
  obtain ⟨ao, cap, h1, h2, -⟩ := h; exact ⟨ao, cap, h1, h2⟩
theorem Grid.at {W wr : World} {ao : Option Addr} {n cap : Nat} {D : List R} (h : Grid W (.slice ao n cap) D) (hb : Below W.heap.size W wr) (k : Nat) (hk : k < D.length) :
    ∃ b off, ao = some ⟨b, off, none⟩ ∧ wr.cell? ⟨b, off + k, none⟩ = some D[k].hv ∧ b < W.heap.size ∧ Vals wr D[k].hv D[k].vs ∧ ∀ n c, D[k].hv = .slice none n c → c = 0 := by
  obtain ⟨ao', cap', e, h2, h4⟩ := h
  injection e with e1 e2 e3
  subst e1
  obtain ⟨b, off, e, hlt, c0, c1, c2⟩ := h4 k hk
  exact ⟨b, off, e, (hb.cell (p := ⟨b, off + k, none⟩) hlt).trans c0, hlt, c1.below hb, c2⟩
theorem Grid.below {W w1 : World} {x : Value} {D : List R} (h : Grid W x D) (hb : Below W.heap.size W w1) : Grid w1 x D := by
  obtain ⟨ao, cap, h1, h2, h4⟩ := h
  refine ⟨ao, cap, h1, h2, fun i hi => ?_⟩
  obtain ⟨b, off, e, hlt, c0, c1, c2⟩ := h4 i hi
  exact ⟨b, off, e, Nat.lt_of_lt_of_le hlt hb.size, (hb.cell (p := ⟨b, off + i, none⟩) hlt).trans c0, c1.below hb, c2⟩

set_option maxHeartbeats 1600000 in
theorem clone_any {x : Value} {vs : List V} {w : World} (hx : Vals w x vs) (hN : ∀ n c, x = .slice none n c → c = 0) (hK : vs.length * 32 ≤ 140737488355328) :
    Calls Try.prog 45 #[x] w fun e w' => ∃ x', e = .returned x' ∧ Below w.heap.size w w' ∧ Own w' w.heap.size x' vs := by
  obtain ⟨ao, cap, rfl, hm⟩ := hx.len
  have HX := Lib.hid hx
  have HN := Lib.hid hN
  clear hx hN
  cases ao with
  | none =>
    have h0 : vs = [] := by
      cases vs with
      | nil => rfl
      | cons y l =>
        obtain ⟨ao', cap', e, h2, h3, h4⟩ := HX.out
        obtain ⟨b, off, e', _⟩ := h4 0 (by simp)
        injection e with e1
        rw [← e1] at e'; cases e'
    subst h0
    obtain rfl := HN.out _ _ rfl
    simp only [List.length_nil]
    have hq : ∀ w, (binOp .eql 30 (.slice none 0 0) (.slice none 0 0)).run Try.prog w = .ok (.bool true) w := fun w => by kernel_rfl
    go_enter Try.func45, Try.ntmps45
    go_wp2
    go_ret
    exact ⟨_, rfl, Below.refl _ _, Own.nil _ _⟩
  | some ad =>
    have hq : ∀ w, (binOp .eql 30 (.slice (some ad) vs.length cap) (.slice none 0 0)).run Try.prog w = .ok (.bool false) w := fun w => by kernel_rfl
    go_enter Try.func45, Try.ntmps45
    go_wp2_with (at_builtin; refine wpList_append_vals rfl _ _ rfl w.heap.size _ [] rfl (Own.empty (Nat.le_refl _)) (.slice (some ad) vs.length cap) vs rfl (HX.out.below ((Below.refl _ _).alloc (Nat.le_refl _) _)) HN.out (by simp; omega) (by simp) ?_; intro v2 w2 hO2 hb2; have HO2 := Lib.hid hO2; have HB2 : Hid (Below w.heap.size w w2) := ((Below.refl _ _).alloc (Nat.le_refl _) _).trans hb2; clear hO2 hb2)
    go_ret
    have := HO2.out
    rw [List.nil_append] at this
    exact ⟨_, rfl, HB2.out, this⟩
end Go.Proofs.Ytkkpcphmojegmaa
