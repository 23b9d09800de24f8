/-
  A list of values that came in: what it holds; a value that came in.
-/
import Derived.Test.YtffibgladjmeaaaSShown
import Derived.Deep.Strs
namespace Go.Proofs.Ytffibgladjmeaaa
set_option linter.unusedSimpArgs false
set_option linter.unusedVariables false
set_option linter.unusedSectionVars false
open Go.RowKit Go.Deep Go.WideShapes
variable [DecidableEq V]

/-- x is a list of the values vs, in memory that is there. -/
def Vals (W : World) (x : Value) (vs : List V) : Prop :=
  ∃ (ao : Option Addr) (cap : Nat), x = .slice ao vs.length cap ∧ vs.length ≤ maxLen ∧ (∀ v ∈ vs, v.Ok) ∧
    ∀ i (hi : i < vs.length), ∃ b off, ao = some ⟨b, off, none⟩ ∧ b < W.heap.size ∧ W.cell? ⟨b, off + i * 3, none⟩ = some (.bool vs[i].k) ∧ W.cell? ⟨b, off + i * 3 + 1, none⟩ = some (.string vs[i].s) ∧ W.cell? ⟨b, off + i * 3 + 2, none⟩ = some (.int .i64 vs[i].n)

theorem lt_of_cell {w : World} {b o : Nat} {x : Value} (h : w.cell? ⟨b, o, none⟩ = some x) : b < w.heap.size := by
  unfold World.cell? at h
  split at h
  · rename_i hb; exact (Array.getElem?_eq_some_iff.1 hb).1
  · cases h

theorem add_none {b off j : Nat} : (⟨b, off, none⟩ : Addr).add j = ⟨b, off + j, none⟩ := by unfold Addr.add; split <;> simp_all

theorem open_vals {H : Type} {enc : TypeId × Value → H} {W : World} {r : Reach} {b0 : Nat} {x : Value} {d : DataW H} {p : List MemPlace} {sp : Nat → Bool} {hd : Bool} {base : Nat}
    (hv : Value.okWide Try.prog W r b0 22 x) (h : DataW.Trod enc Try.prog W base sp hd 22 x d p) : ∃ vs : List V, Vals W x vs := by
  obtain ⟨a0, len, cap, rfl⟩ := okWide_slice Try.underlying22 hv
  obtain ⟨fuel, hf⟩ := h
  rcases open_slice Try.underlying22 hf with ⟨hc, -⟩ | ⟨a, len', cap', m, n, D, Pl, hc, hb, hl, hm, hmm, -, hx⟩
  · simp [Value.cells] at hc
    obtain ⟨rfl, rfl, rfl⟩ := hc
    exact ⟨[], none, 0, rfl, by simp [maxLen], by simp, fun i hi => by simp at hi⟩
  · simp [Value.cells] at hc
    obtain ⟨rfl, rfl, rfl⟩ := hc
    have hlm : len ≤ m := by rw [hmm]; split <;> omega
    have each : ∀ i, i < len → ∃ v : V, v.Ok ∧ W.cell? (a.add (i * 3)) = some (.bool v.k) ∧ W.cell? (a.add (i * 3 + 1)) = some (.string v.s) ∧ W.cell? (a.add (i * 3 + 2)) = some (.int .i64 v.n) := fun i hi => by
      obtain ⟨cs', h1, h2⟩ := hx i (by omega)
      rw [cellsVal] at h1
      obtain ⟨_, hlen, hcell⟩ := World.cells?_some h1
      obtain ⟨y0, y1, y2, k, -, -, g0, g1, g2⟩ := trod_struct3 Try.underlying24 h2
      match cs', hlen with
      | [c0, c1, c2], _ =>
        simp [cellsB, cellsS, cellsI] at g0 g1 g2
        obtain ⟨x0, e0, -⟩ := DataW.trod_bool Try.underlying4 g0
        obtain ⟨x1, e1, -, hs⟩ := DataW.trod_string Try.underlying9 g1
        obtain ⟨x2, e2, -, wn⟩ := DataW.trod_int Try.underlying2 g2
        simp at e0 e1 e2
        subst e0 e1 e2
        have hb' := bounds_i64 wn
        have q0 := hcell 0 (by omega)
        have q1 := hcell 1 (by omega)
        have q2 := hcell 2 (by omega)
        rw [add_add] at q0 q1 q2
        exact ⟨⟨x0, x1, x2⟩, ⟨hs, hb'.1, hb'.2⟩, by simpa using q0, by simpa using q1, by simpa using q2⟩
    have : Inhabited V := ⟨va⟩
    obtain ⟨f, hfx⟩ := choose_lt each
    refine ⟨(List.range len).map f, some a, cap, by simp, by simp; omega, ?_, ?_⟩
    · intro v hv'
      obtain ⟨i, hi, rfl⟩ := List.mem_map.1 hv'
      exact (hfx i (by simpa using hi)).1
    · intro i hi
      simp at hi
      obtain ⟨-, e0, e1, e2⟩ := hfx i hi
      have hsp : a.spot = none := by
        have := World.cell?_spot (hfx 0 (by omega)).2.1
        simpa [Addr.add] using this
      obtain ⟨b, off, sp'⟩ := a
      simp at hsp
      subst hsp
      rw [add_none] at e0 e1 e2
      exact ⟨b, off, rfl, lt_of_cell e0, by simpa using e0, by simpa [Nat.add_assoc] using e1, by simpa [Nat.add_assoc] using e2⟩

/-- A value that came in, as V. -/
theorem open_v {H : Type} {enc : TypeId × Value → H} {W : World} {r : Reach} {b0 : Nat} {v : Value} {d : DataW H} {p : List MemPlace} {sp : Nat → Bool} {hd : Bool} {base : Nat}
    (hv : Value.okWide Try.prog W r b0 24 v) (h : DataW.Trod enc Try.prog W base sp hd 24 v d p) : ∃ x : V, v = .agg #[.bool x.k, .string x.s, .int .i64 x.n] ∧ x.Ok := by
  obtain ⟨k, s, n, rfl, -, h1, h2, h3⟩ := open_val hv h
  exact ⟨⟨k, s, n⟩, rfl, h1, h2, h3⟩

/-- The list stays while nothing old turns. -/
theorem Vals.below {W w1 : World} {x : Value} {vs : List V} (h : Vals W x vs) (hb : Below W.heap.size W w1) : Vals w1 x vs := by
  obtain ⟨ao, cap, h1, h2, h3, h4⟩ := h
  refine ⟨ao, cap, h1, h2, h3, fun i hi => ?_⟩
  obtain ⟨b, off, e, hlt, c0, c1, c2⟩ := h4 i hi
  exact ⟨b, off, e, Nat.lt_of_lt_of_le hlt hb.size, (hb.cell (p := ⟨b, off + i * 3, none⟩) hlt).trans c0, (hb.cell (p := ⟨b, off + i * 3 + 1, none⟩) hlt).trans c1, (hb.cell (p := ⟨b, off + i * 3 + 2, none⟩) hlt).trans c2⟩
end Go.Proofs.Ytffibgladjmeaaa
