/-
  Values and rows of values: what they are in memory, how they came in, how they stay. Plain facts; no walk.
-/
import Derived.Test.YtkkpcphmojegmaaCmpP
import Derived.Test.YtkkpcphmojegmaaLift
import Derived.Maps.OwnSet
import Derived.Maps.AppendAt
import Derived.DeepKeys5
import Derived.Deep.Strs
import Derived.Lib.Hide
import Derived.SizedLaws
namespace Go.Proofs.Ytkkpcphmojegmaa
set_option linter.unusedSimpArgs false
set_option linter.unusedVariables false
set_option linter.unusedSectionVars false
set_option maxRecDepth 100000
open Go.RowKit Go.Maps Go.Deep Go.WideShapes

theorem below_drewN' {B : Nat} {a w : World} (h : Below B a w) (n : Nat) : Below B a (w.drewN n) := h.trans ⟨rfl, rfl, rfl, Nat.le_refl _, fun _ _ => rfl⟩

/-- A value without what plays no part. -/
def bareS (k : Bool) (s : ByteArray) : ByteArray := if k then s else ⟨#[]⟩
def bareN (k : Bool) (n : Int) : Int := if k then 0 else n

/-- A value: is it a symbol, its symbol, its number. -/
structure V where
  k : Bool
  s : ByteArray
  n : Int

variable [DecidableEq V]

def V.val (v : V) : Value := .agg #[.bool v.k, .string v.s, .int .i64 v.n]
def V.cells (v : V) : List Value := [.bool v.k, .string v.s, .int .i64 v.n]
def V.bare (v : V) : V := ⟨v.k, bareS v.k v.s, bareN v.k v.n⟩
/-- Its symbol is no longer than may be, its number fits. -/
structure V.Ok (v : V) : Prop where
  s : v.s.size ≤ maxLen
  lo : -9223372036854775808 ≤ v.n
  hi : v.n ≤ 9223372036854775807

theorem V.Ok.wf {v : V} (h : v.Ok) : (Lit.int .i64 v.n).wf = true := WalkArith.wf_i64 ⟨h.lo, h.hi⟩
theorem V.Ok.bare {v : V} (h : v.Ok) : v.bare.Ok := by
  obtain ⟨k, s, n⟩ := v
  cases k
  · exact ⟨(by decide : (⟨#[]⟩ : ByteArray).size ≤ maxLen), h.lo, h.hi⟩
  · exact ⟨h.s, by simp [V.bare, bareN], by simp [V.bare, bareN]⟩
theorem V.bare_bare (v : V) : v.bare.bare = v.bare := by
  obtain ⟨k, s, n⟩ := v; cases k <;> rfl

theorem rowVal : (55 : TypeId) < Try.prog.types.size := of_decide_eq_true (by kernel_rfl)
theorem wideVal : (match Try.prog.underlying 55 with | some (.array _ _) | some (.struct _) => true | _ => false) = true := by kernel_rfl
theorem lawVal : Keyed Try.prog 55 := Keyed.of_law (deep_law_laid laidOut (m := 3) (by omega) rowVal (by kernel_rfl) wideVal)

/-- What a value is as a key. -/
def V.lit (v : V) : Lit := .string (keyBytes [.bool v.k, .string v.s.data.toList, .int .i64 v.n])
theorem keyTypeVal : Try.prog.keyType 55 = true := by kernel_rfl
theorem cellsB : Try.prog.cellsOf 4 = 1 := by kernel_rfl
theorem cellsS : Try.prog.cellsOf 9 = 1 := by kernel_rfl
theorem cellsI : Try.prog.cellsOf 2 = 1 := by kernel_rfl
theorem bytesVal : Try.prog.bytesOf 55 = 32 := by kernel_rfl
theorem infoVal : (Try.prog.info? 55).map (fun i => (i.zero, i.size, i.bytes)) = some (some (.agg #[.bool false, .string ⟨#[]⟩, .int .i64 0]), 3, 32) := by kernel_rfl
theorem infoInt : (Try.prog.info? 3).map (fun i => (i.zero, i.size, i.bytes)) = some (some (.int .i64 0), 1, 8) := by kernel_rfl
theorem keyOf_three {P : Program} {t : TypeId} {f0 f1 f2 : Field} (ht : P.underlying t = some (.struct #[f0, f1, f2])) (hk : P.keyType t = true) (ct : P.cellsOf t = 3) (hrow : t < P.types.size)
    (o0 : f0.offset = 0) (o1 : f1.offset = 1) (o2 : f2.offset = 2) (c0 : P.cellsOf f0.type = 1) (c1 : P.cellsOf f1.type = 1) (c2 : P.cellsOf f2.type = 1) (n0 : f0.name ≠ "_") (n1 : f1.name ≠ "_") (n2 : f2.name ≠ "_")
    (u0 : P.underlying f0.type = some .bool) (u1 : P.underlying f1.type = some .string) (u2 : P.underlying f2.type = some (.int .i64)) {v : V} (h : v.Ok) :
    keyOf P t (.agg #[.bool v.k, .string v.s, .int .i64 v.n]) = some v.lit := by
  obtain ⟨m, hm⟩ : ∃ m, P.types.size = m + 1 := ⟨P.types.size - 1, by have h0 : 0 < P.types.size := Nat.lt_of_le_of_lt (Nat.zero_le _) hrow; omega⟩
  have hs := h.s
  have hw := h.wf
  simp [keyOf, ht, hk, Value.formed, ct, hm, Program.keyLits, o0, o1, o2, c0, c1, c2, n0, n1, n2, u0, u1, u2, Value.cells, hs, hw, V.lit]
theorem keyVal {v : V} (h : v.Ok) : keyOf Try.prog 55 (.agg #[.bool v.k, .string v.s, .int .i64 v.n]) = some v.lit :=
  keyOf_three Try.underlying55 keyTypeVal cellsVal rowVal rfl rfl rfl cellsB cellsS cellsI (by decide) (by decide) (by decide) Try.underlying4 Try.underlying9 Try.underlying2 h
theorem lit_inj {v u : V} (hv : v.Ok) (hu : u.Ok) (h : v.lit = u.lit) : v = u := by
  have a := lawVal.inj (keyVal hv) (h ▸ keyVal hu)
  obtain ⟨k, s, n⟩ := v
  obtain ⟨k', s', n'⟩ := u
  simp at a
  obtain ⟨rfl, rfl, rfl⟩ := a
  rfl
/-- A value held against a value. -/
theorem neq_run {v u : V} (hv : v.Ok) (hu : u.Ok) (w : World) : (binOp .neq 55 (.agg #[.bool v.k, .string v.s, .int .i64 v.n]) (.agg #[.bool u.k, .string u.s, .int .i64 u.n])).run Try.prog w = .ok (.bool (decide (v ≠ u))) w := by
  obtain ⟨r, hr, hiff⟩ := run_equal_deep (P := Try.prog) w (m := 3) (by omega) (k := 55) (by kernel_rfl) wideVal (keyVal hv) (keyVal hu)
  have : r = decide (v = u) := by
    by_cases e : v = u
    · rw [decide_eq_true e]; exact hiff.2 (by rw [e])
    · rw [decide_eq_false e]
      cases r with
      | false => rfl
      | true => exact absurd (lit_inj hv hu (hiff.1 rfl)) e
  subst this
  simp [binOp, hr, Result.andThen]
theorem eql_run {v u : V} (hv : v.Ok) (hu : u.Ok) (w : World) : (binOp .eql 55 (.agg #[.bool v.k, .string v.s, .int .i64 v.n]) (.agg #[.bool u.k, .string u.s, .int .i64 u.n])).run Try.prog w = .ok (.bool (decide (v = u))) w := by
  obtain ⟨r, hr, hiff⟩ := run_equal_deep (P := Try.prog) w (m := 3) (by omega) (k := 55) (by kernel_rfl) wideVal (keyVal hv) (keyVal hu)
  have : r = decide (v = u) := by
    by_cases e : v = u
    · rw [decide_eq_true e]; exact hiff.2 (by rw [e])
    · rw [decide_eq_false e]
      cases r with
      | false => rfl
      | true => exact absurd (lit_inj hv hu (hiff.1 rfl)) e
  subst this
  simp [binOp, hr, Result.andThen]

/-- Of old memory nothing turns but what F lists. -/
theorem ownsRow_block {w w' : World} {base size : Nat} {e : TypeId} {v : Value} {n : Nat} {xs : List Value} (h : w.ownsRow base e size v n xs) (hb : ∀ k, v.ownBlock = some k → w'.heap[k]? = w.heap[k]?) : w'.ownsRow base e size v n xs := by
  refine ⟨h.1, ?_⟩
  rcases h.2 with hn | ⟨g, cap, cur, rfl, hb', hgg, rest⟩
  · exact .inl hn
  · exact .inr ⟨g, cap, cur, rfl, hb', by rw [hb g rfl]; exact hgg, rest⟩
theorem cells_flat (L : List V) : (L.flatMap V.cells).length = L.length * 3 := by
  induction L with
  | nil => rfl
  | cons v L ih => simp [V.cells, ih, Nat.add_mul]

/-- x is a list of the values vs, in memory that is there. -/
def Vals (W : World) (x : Value) (vs : List V) : Prop :=
  ∃ (ao : Option Addr) (cap : Nat), x = .slice ao vs.length cap ∧ vs.length ≤ maxLen ∧ (∀ v ∈ vs, v.Ok) ∧
    ∀ i (hi : i < vs.length), ∃ b off, ao = some ⟨b, off, none⟩ ∧ b < W.heap.size ∧ W.cell? ⟨b, off + i * 3, none⟩ = some (.bool vs[i].k) ∧ W.cell? ⟨b, off + i * 3 + 1, none⟩ = some (.string vs[i].s) ∧ W.cell? ⟨b, off + i * 3 + 2, none⟩ = some (.int .i64 vs[i].n)

theorem lt_of_cell {w : World} {b o : Nat} {x : Value} (h : w.cell? ⟨b, o, none⟩ = some x) : b < w.heap.size := by
  unfold World.cell? at h
  split at h
  · rename_i hb; exact (Array.getElem?_eq_some_iff.1 hb).1
  · cases h
theorem add_none {b off j : Nat} : (⟨b, off, none⟩ : Addr).add j = ⟨b, off + j, none⟩ := by unfold Addr.add; split <;> simp_all

/-- How much a list holds. -/
def bulkV (vs : List V) : Nat := (vs.map fun v => v.s.size + 4).sum
theorem bulkAll_sum {H : Type} (l : List (DataW H)) : Rows.uptoBulkAll l = (l.map Rows.uptoBulk).sum := by
  induction l with
  | nil => simp [Rows.uptoBulkAll]
  | cons a l ih => simp [Rows.uptoBulkAll, ih]

/-- A list that came in: what it holds; how much; how long. -/
theorem open_vals {H : Type} {enc : TypeId × Value → H} {W : World} {r : Reach} {b0 : Nat} {x : Value} {d : DataW H} {p : List MemPlace} {sp : Nat → Bool} {hd : Bool} {base : Nat}
    (hv : Value.okWide Try.prog W r b0 30 x) (h : DataW.Trod enc Try.prog W base sp hd 30 x d p) :
    ∃ vs : List V, Vals W x vs ∧ bulkV vs ≤ Rows.uptoBulk d ∧ (vs = [] ∨ ∃ elems spare, d = .slice elems spare ∧ elems.length = vs.length) := by
  obtain ⟨a0, len, cap, rfl⟩ := okWide_slice Try.underlying30 hv
  obtain ⟨fuel, hf⟩ := h
  rcases open_slice Try.underlying30 hf with ⟨hc, -⟩ | ⟨a, len', cap', m, n, D, Pl, hc, hb, hl, hm, hmm, hdat, hx⟩
  · simp [Value.cells] at hc
    obtain ⟨rfl, rfl, rfl⟩ := hc
    exact ⟨[], ⟨none, 0, rfl, by simp [maxLen], by simp, fun i hi => by simp at hi⟩, by simp [bulkV], .inl rfl⟩
  · simp [Value.cells] at hc
    obtain ⟨rfl, rfl, rfl⟩ := hc
    have hlm : len ≤ m := by rw [hmm]; split <;> omega
    have each : ∀ i, i < len → ∃ v : V, v.Ok ∧ W.cell? (a.add (i * 3)) = some (.bool v.k) ∧ W.cell? (a.add (i * 3 + 1)) = some (.string v.s) ∧ W.cell? (a.add (i * 3 + 2)) = some (.int .i64 v.n) ∧ Rows.uptoBulk (D i) = v.s.size + 4 := fun i hi => by
      obtain ⟨cs', h1, h2⟩ := hx i (by omega)
      rw [cellsVal] at h1
      obtain ⟨_, hlen, hcell⟩ := World.cells?_some h1
      obtain ⟨y0, y1, y2, k, hD, -, g0, g1, g2⟩ := trod_struct3 Try.underlying55 h2
      match cs', hlen with
      | [c0, c1, c2], _ =>
        simp [cellsB, cellsS, cellsI] at g0 g1 g2
        obtain ⟨x0, e0, f0⟩ := DataW.trod_bool Try.underlying4 g0
        obtain ⟨x1, e1, f1, hs⟩ := DataW.trod_string Try.underlying9 g1
        obtain ⟨x2, e2, f2, wn⟩ := DataW.trod_int Try.underlying2 g2
        simp at e0 e1 e2
        subst e0 e1 e2
        have hb' := bounds_i64 wn
        have q0 := hcell 0 (by omega)
        have q1 := hcell 1 (by omega)
        have q2 := hcell 2 (by omega)
        rw [add_add] at q0 q1 q2
        have hDi : Rows.uptoBulk (D i) = x1.size + 4 := by
          have : D i = .agg [y0.1, y1.1, y2.1] := by
            have := congrArg Prod.fst hD; simpa using this
          rw [this, f0, f1, f2]
          simp [Rows.uptoBulk, Rows.uptoBulkAll]
          omega
        exact ⟨⟨x0, x1, x2⟩, ⟨hs, hb'.1, hb'.2⟩, by simpa using q0, by simpa using q1, by simpa using q2, hDi⟩
    have : Inhabited V := ⟨⟨false, ⟨#[]⟩, 0⟩⟩
    obtain ⟨f, hfx⟩ := choose_lt each
    have hdd : d = .slice ((List.range len).map D) ((List.range (m - len)).map fun j => D (len + j)) := by
      have := congrArg Prod.fst hdat; simpa using this
    refine ⟨(List.range len).map f, ⟨some a, cap, by simp, by simp; omega, ?_, ?_⟩, ?_, .inr ⟨_, _, hdd, by simp⟩⟩
    · intro v hv'
      obtain ⟨i, hi, rfl⟩ := List.mem_map.1 hv'
      exact (hfx i (by simpa using hi)).1
    · intro i hi
      simp at hi
      obtain ⟨-, e0, e1, e2, -⟩ := hfx i hi
      have hsp : a.spot = none := by
        have := World.cell?_spot (hfx 0 (by omega)).2.1
        simpa [Addr.add] using this
      obtain ⟨b, off, sp'⟩ := a
      simp at hsp
      subst hsp
      rw [add_none] at e0 e1 e2
      exact ⟨b, off, rfl, lt_of_cell e0, by simpa using e0, by simpa [Nat.add_assoc] using e1, by simpa [Nat.add_assoc] using e2⟩
    · rw [hdd]
      have : bulkV ((List.range len).map f) = Rows.uptoBulkAll ((List.range len).map D) := by
        rw [bulkAll_sum, bulkV, List.map_map, List.map_map]
        congr 1
        apply List.map_congr_left
        intro i hi
        simp at hi
        exact ((hfx i hi).2.2.2.2).symm
      simp only [Rows.uptoBulk, this]
      omega

/-- A value that came in, as V. -/
theorem open_v {H : Type} {enc : TypeId × Value → H} {W : World} {r : Reach} {b0 : Nat} {v : Value} {d : DataW H} {p : List MemPlace} {sp : Nat → Bool} {hd : Bool} {base : Nat}
    (hv : Value.okWide Try.prog W r b0 55 v) (h : DataW.Trod enc Try.prog W base sp hd 55 v d p) : ∃ x : V, v = .agg #[.bool x.k, .string x.s, .int .i64 x.n] ∧ x.Ok := by
  obtain ⟨k, s, n, rfl, -, h1, h2, h3⟩ := open_val hv h
  exact ⟨⟨k, s, n⟩, rfl, h1, h2, h3⟩

/-- The list stays while nothing old turns. -/
theorem Vals.below {W w1 : World} {x : Value} {vs : List V} (h : Vals W x vs) (hb : Below W.heap.size W w1) : Vals w1 x vs := by
  obtain ⟨ao, cap, h1, h2, h3, h4⟩ := h
  refine ⟨ao, cap, h1, h2, h3, fun i hi => ?_⟩
  obtain ⟨b, off, e, hlt, c0, c1, c2⟩ := h4 i hi
  exact ⟨b, off, e, Nat.lt_of_lt_of_le hlt hb.size, (hb.cell (p := ⟨b, off + i * 3, none⟩) hlt).trans c0, (hb.cell (p := ⟨b, off + i * 3 + 1, none⟩) hlt).trans c1, (hb.cell (p := ⟨b, off + i * 3 + 2, none⟩) hlt).trans c2⟩
/-- The k-th value of a list, in a later world. -/
theorem Vals.at {W wr : World} {ao : Option Addr} {n cap : Nat} {vs : List V} (h : Vals W (.slice ao n cap) vs) (hb : Below W.heap.size W wr) (k : Nat) (hk : k < vs.length) :
    ∃ b off, ao = some ⟨b, off, none⟩ ∧ wr.cell? ⟨b, off + k * 3, none⟩ = some (.bool vs[k].k) ∧ wr.cell? ⟨b, off + k * 3 + 1, none⟩ = some (.string vs[k].s) ∧ wr.cell? ⟨b, off + k * 3 + 2, none⟩ = some (.int .i64 vs[k].n) ∧ vs[k].Ok ∧ b < W.heap.size := by
  obtain ⟨ao', cap', e, h2, h3, h4⟩ := h.below hb
  injection e with e1 e2 e3
  subst e1
  obtain ⟨b, off, e, hlt, c0, c1, c2⟩ := h4 k hk
  obtain ⟨_, _, e', _, _, h5⟩ := h
  injection e' with e1' e2' e3'
  subst e1'
  obtain ⟨b', off', e'', hlt', _⟩ := h5 k hk
  rw [e] at e''
  simp at e''
  exact ⟨b, off, e, c0, c1, c2, h3 _ (List.getElem_mem hk), by omega⟩
theorem Vals.len {W : World} {x : Value} {vs : List V} (h : Vals W x vs) : ∃ ao cap, x = .slice ao vs.length cap ∧ vs.length ≤ maxLen := by
  obtain ⟨ao, cap, h1, h2, -⟩ := h; exact ⟨ao, cap, h1, h2⟩
theorem Vals.ok {W : World} {x : Value} {vs : List V} (h : Vals W x vs) : ∀ v ∈ vs, v.Ok := by
  obtain ⟨ao, cap, h1, h2, h3, -⟩ := h; exact h3
theorem Vals.nil (W : World) : Vals W (.slice none 0 0) [] := ⟨none, 0, rfl, by simp [maxLen], by simp, fun i hi => by simp at hi⟩

/-- A value that lies in a block. -/
def Box (w : World) (b : Nat) (v : V) : Prop := w.cell? ⟨b, 0, none⟩ = some (.bool v.k) ∧ w.cell? ⟨b, 1, none⟩ = some (.string v.s) ∧ w.cell? ⟨b, 2, none⟩ = some (.int .i64 v.n) ∧ b < w.heap.size
theorem Box.new (w : World) (v : V) : Box (w.alloc (.cells #[.bool v.k, .string v.s, .int .i64 v.n] 55)) w.heap.size v := ⟨by simp, by simp, by simp, by simp⟩
theorem Box.below {w w' : World} {b : Nat} {v : V} (h : Box w b v) (hb : Below w.heap.size w w') : Box w' b v :=
  ⟨(hb.cell (p := ⟨b, 0, none⟩) h.2.2.2).trans h.1, (hb.cell (p := ⟨b, 1, none⟩) h.2.2.2).trans h.2.1, (hb.cell (p := ⟨b, 2, none⟩) h.2.2.2).trans h.2.2.1, Nat.lt_of_lt_of_le h.2.2.2 hb.size⟩

theorem flat_at (L : List V) (i : Nat) (hi : i < L.length) : (L.flatMap V.cells)[i * 3]? = some (.bool L[i].k) ∧ (L.flatMap V.cells)[i * 3 + 1]? = some (.string L[i].s) ∧ (L.flatMap V.cells)[i * 3 + 2]? = some (.int .i64 L[i].n) := by
  induction L generalizing i with
  | nil => simp at hi
  | cons v L ih =>
    cases i with
    | zero => simp [V.cells]
    | succ i =>
      have := ih i (by simpa using hi)
      have e0 : (i + 1) * 3 = i * 3 + 3 := by omega
      have e1 : i * 3 + 3 + 1 = i * 3 + 1 + 3 := by omega
      have e2 : i * 3 + 3 + 2 = i * 3 + 2 + 3 := by omega
      rw [e0, e1, e2]
      simpa [V.cells] using this
/-- A list in a block of its own is a list of values. -/
theorem vals_row {w : World} {B : Nat} {x : Value} {L : List V} (h : w.ownsRow B 55 3 x L.length (L.flatMap V.cells)) (hok : ∀ v ∈ L, v.Ok) : Vals w x L := by
  have h' := h
  rcases h.2 with ⟨rfl, hn⟩ | ⟨g, cap, cur, rfl, _, hg, h1, h2, _⟩
  · exact ⟨none, 0, by rw [hn], by rw [hn]; exact Nat.zero_le _, hok, fun i hi => absurd hi (by omega)⟩
  · refine ⟨some ⟨g, 0, none⟩, cap, rfl, by omega, hok, fun i hi => ⟨g, 0, rfl, (Array.getElem?_eq_some_iff.1 hg).1, ?_⟩⟩
    obtain ⟨e0, e1, e2⟩ := flat_at L i hi
    have c := h'.cells (g := g) rfl
    have c0 := c _ _ e0
    have c1 := c _ _ e1
    have c2 := c _ _ e2
    rw [add_none] at c0 c1 c2
    exact ⟨c0, by simpa [Nat.add_assoc] using c1, by simpa [Nat.add_assoc] using c2⟩
theorem three_new (w : World) (x y z : Value) (t : TypeId) : ∀ j u, [x, y, z][j]? = some u → (w.alloc (.cells #[x, y, z] t)).cell? ((⟨w.heap.size, 0, none⟩ : Addr).add j) = some u := by
  intro j u hj
  match j, hj with
  | 0, hj => simp at hj; subst hj; simp [Addr.add]
  | 1, hj => simp at hj; subst hj; simp [Addr.add]
  | 2, hj => simp at hj; subst hj; simp [Addr.add]
theorem flat_one (L : List V) : ∀ u ∈ L.flatMap V.cells, u.oneCell' = true := by
  intro u hu
  obtain ⟨v, _, hv⟩ := List.mem_flatMap.1 hu
  simp [V.cells] at hv
  rcases hv with rfl | rfl | rfl <;> rfl
theorem cells_one (v : V) : ∀ u ∈ v.cells, u.oneCell' = true := by
  intro u hv
  simp [V.cells] at hv
  rcases hv with rfl | rfl | rfl <;> rfl
theorem take_snocV (vs : List V) (k : Nat) (h : k < vs.length) : vs.take (k + 1) = vs.take k ++ [vs[k]] := List.take_succ_eq_append_getElem h

/-- Three cells of an element and three of another one, kept. -/
theorem six_keep {w W w' : World} {b1 o1 b2 o2 : Nat} {a0 a1 a2 c0 c1 c2 : Value}
    (h : W.cell? ⟨b1, o1, none⟩ = some a0 ∧ W.cell? ⟨b1, o1 + 1, none⟩ = some a1 ∧ W.cell? ⟨b1, o1 + 2, none⟩ = some a2 ∧ W.cell? ⟨b2, o2, none⟩ = some c0 ∧ W.cell? ⟨b2, o2 + 1, none⟩ = some c1 ∧ W.cell? ⟨b2, o2 + 2, none⟩ = some c2 ∧ b1 < W.heap.size ∧ b2 < W.heap.size ∧ Below w.heap.size w W)
    (hb : Below W.heap.size W w') : w'.cell? ⟨b1, o1, none⟩ = some a0 ∧ w'.cell? ⟨b1, o1 + 1, none⟩ = some a1 ∧ w'.cell? ⟨b1, o1 + 2, none⟩ = some a2 ∧ w'.cell? ⟨b2, o2, none⟩ = some c0 ∧ w'.cell? ⟨b2, o2 + 1, none⟩ = some c1 ∧ w'.cell? ⟨b2, o2 + 2, none⟩ = some c2 ∧ b1 < w'.heap.size ∧ b2 < w'.heap.size ∧ Below w.heap.size w w' := by
  obtain ⟨h1, h2, h3, h4, h5, h6, h7, h8, h9⟩ := h
  have hs := hb.size
  exact ⟨(hb.cell (p := ⟨b1, o1, none⟩) h7).trans h1, (hb.cell (p := ⟨b1, o1 + 1, none⟩) h7).trans h2, (hb.cell (p := ⟨b1, o1 + 2, none⟩) h7).trans h3, (hb.cell (p := ⟨b2, o2, none⟩) h8).trans h4, (hb.cell (p := ⟨b2, o2 + 1, none⟩) h8).trans h5, (hb.cell (p := ⟨b2, o2 + 2, none⟩) h8).trans h6, by omega, by omega, h9.trans (hb.mono h9.size)⟩
end Go.Proofs.Ytkkpcphmojegmaa
