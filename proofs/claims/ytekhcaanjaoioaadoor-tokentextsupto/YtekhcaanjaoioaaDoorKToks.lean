/-
  A list of tokens that came in: what it holds, and how much. Plain facts; no walk.
-/
import Derived.Test.YtekhcaanjaoioaaDoorKJoin
import Derived.Test.YtekhcaanjaoioaaDoorKDig
import Derived.Test.YtekhcaanjaoioaaDoorLift
import Derived.Test.YtekhcaanjaoioaaDoorRows
import Derived.Deep.Strs
import Derived.Maps.OwnSet
import Derived.Maps.AppendAt
import Derived.SizedLaws
namespace Go.Proofs.YtekhcaanjaoioaaDoor
set_option linter.unusedSimpArgs false
set_option linter.unusedVariables false
set_option linter.unusedSectionVars false
set_option maxRecDepth 100000
open Go.RowKit Go.Maps Go.Deep Go.WideShapes

theorem cellsTok : Tryd.prog.cellsOf 34 = 5 := by kernel_rfl
theorem cellsTkB : Tryd.prog.cellsOf 4 = 1 := by kernel_rfl
theorem cellsTkS : Tryd.prog.cellsOf 9 = 1 := by kernel_rfl
theorem cellsTkN : Tryd.prog.cellsOf 3 = 1 := by kernel_rfl
theorem cellsTkI : Tryd.prog.cellsOf 2 = 1 := by kernel_rfl
/-- How much a list of tokens holds. -/
def bulkT (T : List Tk) : Nat := (T.map fun t => t.s.size + 6).sum
theorem bulkAllT {H : Type} (l : List (DataW H)) : Rows.uptoBulkAll l = (l.map Rows.uptoBulk).sum := by
  induction l with
  | nil => simp [Rows.uptoBulkAll]
  | cons a l ih => simp [Rows.uptoBulkAll, ih]
theorem trod_tok {H : Type} {enc : TypeId × Value → H} {W : World} {sp : Nat → Bool} {hd : Bool} {base fuel : Nat} {c0 c1 c2 c3 c4 : Value} {y : DataW H × List MemPlace}
    (hf : DataW.trod enc Tryd.prog W base sp hd fuel 34 [c0, c1, c2, c3, c4] = some y) : ∃ t : Tk, c0 = .int .i64 t.kind ∧ c1 = .string t.s ∧ c2 = .int .i64 t.n ∧ c3 = .bool t.q ∧ c4 = .int .i64 t.pl ∧ t.s.size ≤ maxLen ∧ InR t.n ∧ Rows.uptoBulk y.1 = t.s.size + 6 := by
  obtain ⟨xs, n, _, rfl, hl, hlen, hf⟩ := DataW.trod_struct Tryd.underlying34 hf
  match xs, hlen with
  | [y0, y1, y2, y3, y4], _ =>
    have g0 := hf 0 _ rfl
    have g1 := hf 1 _ rfl
    have g2 := hf 2 _ rfl
    have g3 := hf 3 _ rfl
    have g4 := hf 4 _ rfl
    simp [cellsTkB, cellsTkS, cellsTkN, cellsTkI] at g0 g1 g2 g3 g4
    obtain ⟨x0, e0, f0, -⟩ := DataW.trod_int Tryd.underlying3 g0
    obtain ⟨x1, e1, f1, hs⟩ := DataW.trod_string Tryd.underlying9 g1
    obtain ⟨x2, e2, f2, wn⟩ := DataW.trod_int Tryd.underlying2 g2
    obtain ⟨x3, e3, f3⟩ := DataW.trod_bool Tryd.underlying4 g3
    obtain ⟨x4, e4, f4, -⟩ := DataW.trod_int Tryd.underlying3 g4
    simp at e0 e1 e2 e3 e4
    have hb' := bounds_i64 wn
    refine ⟨⟨x0, x1, x2, x3, x4⟩, e0, e1, e2, e3, e4, hs, ⟨hb'.1, by have := hb'.2; omega⟩, ?_⟩
    simp [f0, f1, f2, f3, f4, Rows.uptoBulk, Rows.uptoBulkAll]
    omega
/-- A list of tokens that came in. -/
theorem open_toks {H : Type} {enc : TypeId × Value → H} {W : World} {r : Reach} {b0 : Nat} {x : Value} {d : DataW H} {p : List MemPlace} {sp : Nat → Bool} {hd : Bool} {base : Nat}
    (hv : Value.okWide Tryd.prog W r b0 23 x) (h : DataW.Trod enc Tryd.prog W base sp hd 23 x d p) :
    ∃ T : List Tk, Tks W x T ∧ (∀ t ∈ T, t.s.size ≤ maxLen ∧ InR t.n) ∧ bulkT T ≤ Rows.uptoBulk d := by
  obtain ⟨a0, len, cap, rfl⟩ := okWide_slice Tryd.underlying23 hv
  obtain ⟨fuel, hf⟩ := h
  rcases open_slice Tryd.underlying23 hf with ⟨hc, -⟩ | ⟨a, len', cap', m, n, D, Pl, hc, hb, hl, hm, hmm, hdat, hx⟩
  · simp [Value.cells] at hc
    obtain ⟨rfl, rfl, rfl⟩ := hc
    exact ⟨[], ⟨none, 0, rfl, by simp, by simp [maxLen], fun i hi => by simp at hi⟩, by simp, by simp [bulkT]⟩
  · simp [Value.cells] at hc
    obtain ⟨rfl, rfl, rfl⟩ := hc
    have hlm : len ≤ m := by rw [hmm]; split <;> omega
    have each : ∀ i, i < len → ∃ t : Tk, (t.s.size ≤ maxLen ∧ InR t.n) ∧ W.cell? (a.add (i * 5)) = some (.int .i64 t.kind) ∧ W.cell? (a.add (i * 5 + 1)) = some (.string t.s) ∧ W.cell? (a.add (i * 5 + 2)) = some (.int .i64 t.n) ∧ W.cell? (a.add (i * 5 + 3)) = some (.bool t.q) ∧ W.cell? (a.add (i * 5 + 4)) = some (.int .i64 t.pl) ∧ Rows.uptoBulk (D i) = t.s.size + 6 := fun i hi => by
      obtain ⟨cs', h1, h2⟩ := hx i (by omega)
      rw [cellsTok] at h1
      obtain ⟨_, hlen, hcell⟩ := World.cells?_some h1
      match cs', hlen with
      | [c0, c1, c2, c3, c4], _ =>
        obtain ⟨t, rfl, rfl, rfl, rfl, rfl, hs, hn, hbk⟩ := trod_tok h2
        have q0 := hcell 0 (by omega)
        have q1 := hcell 1 (by omega)
        have q2 := hcell 2 (by omega)
        have q3 := hcell 3 (by omega)
        have q4 := hcell 4 (by omega)
        rw [add_add] at q0 q1 q2 q3 q4
        exact ⟨t, ⟨hs, hn⟩, by simpa using q0, by simpa using q1, by simpa using q2, by simpa using q3, by simpa using q4, hbk⟩
    have : Inhabited Tk := ⟨Tk.zero⟩
    obtain ⟨f, hfx⟩ := choose_lt each
    have hdd : d = .slice ((List.range len).map D) ((List.range (m - len)).map fun j => D (len + j)) := by
      have := congrArg Prod.fst hdat; simpa using this
    refine ⟨(List.range len).map f, ⟨some a, cap, by simp, by simp; omega, by simp; omega, ?_⟩, ?_, ?_⟩
    · intro i hi
      simp at hi
      obtain ⟨-, e0, e1, e2, e3, e4, -⟩ := hfx i hi
      have hsp : a.spot = none := by
        have := World.cell?_spot (hfx 0 (by omega)).2.1
        simpa [Addr.add] using this
      obtain ⟨b, off, sp'⟩ := a
      simp at hsp
      subst hsp
      rw [add_noneK] at e0 e1 e2 e3 e4
      exact ⟨b, off, rfl, lt_of_cell e0, by simpa using e0, by simpa [Nat.add_assoc] using e1, by simpa [Nat.add_assoc] using e2, by simpa [Nat.add_assoc] using e3, by simpa [Nat.add_assoc] using e4⟩
    · intro t ht
      obtain ⟨i, hi, rfl⟩ := List.mem_map.1 ht
      exact (hfx i (by simpa using hi)).1
    · rw [hdd]
      have : bulkT ((List.range len).map f) = Rows.uptoBulkAll ((List.range len).map D) := by
        rw [bulkAllT, bulkT, List.map_map, List.map_map]
        congr 1
        apply List.map_congr_left
        intro i hi
        simp at hi
        exact ((hfx i hi).2.2.2.2.2.2).symm
      simp only [Rows.uptoBulk, this]
      omega
theorem bulk_mem {T : List Tk} {t : Tk} (h : t ∈ T) : t.s.size + 6 ≤ bulkT T := by
  unfold bulkT
  induction T with
  | nil => simp at h
  | cons a T ih =>
    simp only [List.map_cons, List.sum_cons]
    rcases List.mem_cons.1 h with rfl | h
    · omega
    · have := ih h; omega
/-- Tokens that are not too much can be joined. -/
theorem text_le {t : Tk} (hn : InR t.n) : (textT t).length ≤ 2 * t.s.size + 22 := by
  have hl := Lib.itoa_length_le t.n (by have := hn.1; omega) (by have := hn.2; omega)
  have hz : t.s.data.toList.length = t.s.size := by simp
  have hq : (quoteL t.s.data.toList).length ≤ 2 * t.s.size + 2 := by
    have h := (escL_len t.s.data.toList).2
    simp only [quoteL, List.length_cons, List.length_append, List.length_nil]
    omega
  unfold textT
  split
  · split <;> omega
  · split
    · omega
    · split
      · omega
      · simp
theorem joinL_bulk {T : List Tk} (h : ∀ t ∈ T, InR t.n) : (joinL T).length ≤ 4 * bulkT T := by
  induction T with
  | nil => simp [joinL, bulkT]
  | cons t T ih =>
    have h1 := text_le (h t (by simp))
    have h2 := ih (fun u hu => h u (by simp [hu]))
    have e : joinL (t :: T) = textT t ++ 32 :: joinL T := by simp [joinL]
    have e2 : bulkT (t :: T) = t.s.size + 6 + bulkT T := by simp [bulkT]
    rw [e, e2, List.length_append, List.length_cons]
    omega
end Go.Proofs.YtekhcaanjaoioaaDoor
