/-
  A list of numbers that lies in memory. Contracts of a relation's hasPlaces and holds. Plain facts for Match.
-/
import Derived.Test.YtkkpcphmojegmaaRLaw0
namespace Go.Proofs.Ytkkpcphmojegmaa
set_option linter.unusedSimpArgs false
set_option linter.unusedVariables false
set_option linter.unusedSectionVars false
set_option maxRecDepth 100000
open Go.RowKit Go.Maps Go.Deep Go.WideShapes
variable [DecidableEq V]

/-- y is a list of the numbers zs, in memory that is there. -/
def Ints (W : World) (y : Value) (zs : List Int) : Prop :=
  ∃ (ao : Option Addr) (cap : Nat), y = .slice ao zs.length cap ∧ zs.length ≤ maxLen ∧ ∀ i (hi : i < zs.length), ∃ b off, ao = some ⟨b, off, none⟩ ∧ b < W.heap.size ∧ W.cell? ⟨b, off + i, none⟩ = some (.int .i64 zs[i])
theorem Ints.below {W w1 : World} {x : Value} {zs : List Int} (h : Ints W x zs) (hb : Below W.heap.size W w1) : Ints w1 x zs := by
  obtain ⟨ao, cap, h1, h2, h4⟩ := h
  refine ⟨ao, cap, h1, h2, fun i hi => ?_⟩
  obtain ⟨b, off, e, hlt, c0⟩ := h4 i hi
  exact ⟨b, off, e, Nat.lt_of_lt_of_le hlt hb.size, (hb.cell (p := ⟨b, off + i, none⟩) hlt).trans c0⟩
theorem Ints.at {W wr : World} {ao : Option Addr} {n cap : Nat} {zs : List Int} (h : Ints W (.slice ao n cap) zs) (hb : Below W.heap.size W wr) (k : Nat) (hk : k < zs.length) :
    ∃ b off, ao = some ⟨b, off, none⟩ ∧ wr.cell? ⟨b, off + k, none⟩ = some (.int .i64 zs[k]) ∧ b < W.heap.size := by
  obtain ⟨ao', cap', e, h2, h4⟩ := h
  injection e with e1 e2 e3
  subst e1
  obtain ⟨b, off, e, hlt, c0⟩ := h4 k hk
  exact ⟨b, off, e, (hb.cell (p := ⟨b, off + k, none⟩) hlt).trans c0, hlt⟩
theorem Ints.len {W : World} {x : Value} {zs : List Int} (h : Ints W x zs) : ∃ ao cap, x = .slice ao zs.length cap ∧ zs.length ≤ maxLen := by
  obtain ⟨ao, cap, h1, h2, -⟩ := h; exact ⟨ao, cap, h1, h2⟩
theorem Ints.nil (W : World) : Ints W (.slice none 0 0) [] := ⟨none, 0, rfl, by simp [maxLen], fun i hi => by simp at hi⟩
theorem Ints.one (w : World) (z : Int) : Ints (w.alloc (.cells #[.int .i64 z] 3)) (.slice (some ⟨w.heap.size, 0, none⟩) 1 1) [z] := by
  refine ⟨_, _, rfl, by simp [maxLen], fun i hi => ⟨w.heap.size, 0, rfl, by simp, ?_⟩⟩
  match i, hi with
  | 0, _ => simp
theorem Ints.two (w : World) (z z' : Int) : Ints (w.alloc (.cells #[.int .i64 z, .int .i64 z'] 3)) (.slice (some ⟨w.heap.size, 0, none⟩) 2 2) [z, z'] := by
  refine ⟨_, _, rfl, by simp [maxLen], fun i hi => ⟨w.heap.size, 0, rfl, by simp, ?_⟩⟩
  match i, hi with
  | 0, _ => simp
  | 1, _ => simp
theorem Ints.row {w : World} {B : Nat} {x : Value} {zs : List Int} (h : w.ownsRow B 3 1 x zs.length (zs.map (Value.int .i64))) : Ints w x zs := by
  rcases h.2 with ⟨rfl, hn⟩ | ⟨g, cap, cur, rfl, _, hg, h1, h2, _⟩
  · exact ⟨none, 0, by rw [hn], by rw [hn]; exact Nat.zero_le _, fun i hi => absurd hi (by omega)⟩
  · refine ⟨some ⟨g, 0, none⟩, cap, rfl, by omega, fun i hi => ⟨g, 0, rfl, (Array.getElem?_eq_some_iff.1 hg).1, ?_⟩⟩
    have c := h.cells (g := g) rfl i (.int .i64 zs[i]) (by simp [hi])
    rwa [add_none] at c


theorem NumsN.ints {w : World} {B : Nat} {x : Value} {q : List Nat} (h : NumsN w B x q) : Ints w x (q.map (fun n : Nat => (n : Int))) := by
  apply Ints.row (B := B)
  have h' : w.ownsRow B 3 1 x q.length (q.map (fun n : Nat => Value.int .i64 (n : Int))) := h
  simpa [List.map_map, Function.comp_def] using h'
/-- Whether P holds; of old memory nothing turns. -/
def Asked (P : Prop) (w : World) (e : Ending) (w' : World) : Prop := ∃ c : Bool, e = .returned (.bool c) ∧ (c = true ↔ P) ∧ Below w.heap.size w w'
/-- Places of the arity. -/
def Placed (ar : Nat) (cols : List Int) : Prop := ∀ z ∈ cols, 0 ≤ z ∧ z < (ar : Int)

set_option maxHeartbeats 800000 in
theorem hasPlaces_rel {w : World} {rb ar : Nat} (c2 : w.cell? ⟨rb, 2, none⟩ = some (.int .i64 (ar : Int))) (hrb : rb < w.heap.size) {x : Value} {cols : List Int} (hx : Ints w x cols) :
    Calls Try.prog 26 #[.pointer (some ⟨rb, 0, none⟩), x] w fun e w' => Asked (Placed ar cols) w e w' := by
  obtain ⟨ao, cap, rfl, hm⟩ := hx.len
  unfold maxLen at hm
  have HX := Lib.hid hx
  clear hx
  go_enter Try.func26, Try.ntmps26
  go_wp2_with fail
  go_loopw [9] (fun i wr => ∃ k : Nat, k ≤ cols.length ∧ i = .int .i64 k ∧ wr = w ∧ Hid (Placed ar (cols.take k))) (fun i _ => cols.length - (intOf i).toNat)
  case atStart => exact ⟨0, Nat.zero_le _, rfl, rfl, fun z hz => by simp at hz⟩
  case round =>
    obtain ⟨k, hk, rfl, rfl, HP⟩ := hrel
    by_cases hlt : k < cols.length
    · have h1I : (k : Int) < (cols.length : Int) := by omega
      obtain ⟨b, off, rfl, c0, hbl⟩ := HX.out.at (Below.refl _ _) k hlt
      have HP2 : Hid (0 ≤ cols[k] ∧ cols[k] < (ar : Int) → Placed ar (cols.take (k + 1))) := fun h z hz => by
        rw [List.take_succ_eq_append_getElem hlt] at hz
        rcases List.mem_append.1 hz with hz | hz
        · exact HP.out z hz
        · rw [List.mem_singleton.1 hz]; exact h
      have HN : Hid (¬ (0 ≤ cols[k] ∧ cols[k] < (ar : Int)) → ¬ Placed ar cols) := fun h hp => h (hp _ (List.getElem_mem hlt))
      generalize cols[k] = z at *
      clear HP
      by_cases h0 : z < 0
      · have HN2 := Lib.hid (HN.out (by omega))
        go_wp2
        go_ret
        exact ⟨false, rfl, by simp [HN2.out], Below.refl _ _⟩
      · by_cases ha : z ≥ (ar : Int)
        · have HN2 := Lib.hid (HN.out (by omega))
          go_wp2
          go_ret
          exact ⟨false, rfl, by simp [HN2.out], Below.refl _ _⟩
        · have HP3 := Lib.hid (HP2.out (by omega))
          go_wp2
          go_roundw
          case rel => exact ⟨k + 1, by omega, by go_num, by first | rfl | trivial, HP3⟩
          case measure => simp [intOf]; omega
    · have h1I : ¬ (k : Int) < (cols.length : Int) := by omega
      have HA : Hid (Placed ar cols) := by
        have := HP.out
        rwa [List.take_of_length_le (by omega)] at this
      go_wp2
      go_ret
      exact ⟨true, rfl, by simp [HA.out], Below.refl _ _⟩

/-- A row of numbers has the wanted ones at the places. -/
def FitsQ (cols : List Int) (wn q : List Nat) : Prop := ∀ j, j < cols.length → q.getD (cols.getD j 0).toNat 0 = wn.getD j 0
theorem getD_at {α : Type} {l : List α} {d : α} {i : Nat} (h : i < l.length) : l.getD i d = l[i] := by rw [List.getD_eq_getElem?_getD, List.getElem?_eq_getElem h]; rfl

set_option maxHeartbeats 1600000 in
theorem holds_rel {w : World} {ar : Nat} {q : List Nat} (hq : q.length = ar) (h6 : ar ≤ 6) {x y : Value} {cols : List Int} {wn : List Nat} (hx : Ints w x cols) (hy : Ints w y (wn.map (fun n : Nat => (n : Int)))) (hl : wn.length = cols.length) (hp : Placed ar cols) :
    Calls Try.prog 29 #[.agg #[.int .i64 (q.getD 0 0 : Nat), .int .i64 (q.getD 1 0 : Nat), .int .i64 (q.getD 2 0 : Nat), .int .i64 (q.getD 3 0 : Nat), .int .i64 (q.getD 4 0 : Nat), .int .i64 (q.getD 5 0 : Nat)], x, y] w fun e w' => Asked (FitsQ cols wn q) w e w' := by
  obtain ⟨ao, cap, rfl, hm⟩ := hx.len
  unfold maxLen at hm
  obtain ⟨bo, bcap, hye, -⟩ := hy.len
  rw [List.length_map, hl] at hye
  subst hye
  have HX := Lib.hid hx
  have HY := Lib.hid hy
  have HP := Lib.hid hp
  have HQ : Hid (q.length = ar ∧ ar ≤ 6 ∧ wn.length = cols.length) := ⟨hq, h6, hl⟩
  have HS6 : Hid (∀ (W : World) b, W.heap[b]? = some (.cells #[.int .i64 (q.getD 0 0 : Nat), .int .i64 (q.getD 1 0 : Nat), .int .i64 (q.getD 2 0 : Nat), .int .i64 (q.getD 3 0 : Nat), .int .i64 (q.getD 4 0 : Nat), .int .i64 (q.getD 5 0 : Nat)] 72 (0, 0)) → SixAt W b q) := fun W b h => h
  generalize ((q.getD 0 0 : Nat) : Int) = x0 at *
  generalize ((q.getD 1 0 : Nat) : Int) = x1 at *
  generalize ((q.getD 2 0 : Nat) : Int) = x2 at *
  generalize ((q.getD 3 0 : Nat) : Int) = x3 at *
  generalize ((q.getD 4 0 : Nat) : Int) = x4 at *
  generalize ((q.getD 5 0 : Nat) : Int) = x5 at *
  clear hx hy hp hq hl
  go_enter Try.func29, Try.ntmps29
  obtain ⟨W0, hW0⟩ : ∃ W0, W0 = w.alloc (.cells #[.int .i64 x0, .int .i64 x1, .int .i64 x2, .int .i64 x3, .int .i64 x4, .int .i64 x5] 72) := ⟨_, rfl⟩
  have HB0 : Hid (Below w.heap.size w W0) := by show Below _ _ _; rw [hW0]; exact (Below.refl _ _).alloc (Nat.le_refl _) _
  have HX0 : Hid (SixAt W0 w.heap.size q) := by show SixAt _ _ _; rw [hW0]; exact HS6.out _ _ (MapKept.heap_alloc w _).1
  go_wp2_with fail
  rw [← hW0]
  clear hW0 HS6
  go_loopw [11] (fun i wr => ∃ k : Nat, k ≤ cols.length ∧ i = .int .i64 k ∧ Hid (Below W0.heap.size W0 wr) ∧ Hid (∀ j, j < k → q.getD (cols.getD j 0).toNat 0 = wn.getD j 0)) (fun i _ => cols.length - (intOf i).toNat)
  case atStart => exact ⟨0, Nat.zero_le _, rfl, Below.refl _ _, fun j hj => absurd hj (by omega)⟩
  case round =>
    obtain ⟨k, hk, rfl, HB, HF⟩ := hrel
    by_cases hlt : k < cols.length
    · have h1I : (k : Int) < (cols.length : Int) := by omega
      obtain ⟨q1, q2, q3⟩ := HQ.out
      have HBw : Hid (Below w.heap.size w wr) := HB0.out.trans (HB.out.mono HB0.out.size)
      obtain ⟨b, off, rfl, c0, hbl⟩ := HX.out.at HBw.out k hlt
      obtain ⟨b2, off2, rfl, c1, hbl2⟩ := HY.out.at HBw.out k (by simp; omega)
      have hs := HBw.out.size
      have hpl := HP.out _ (List.getElem_mem hlt)
      obtain ⟨pn, hpn⟩ : ∃ pn : Nat, cols[k] = (pn : Int) := ⟨cols[k].toNat, by omega⟩
      have hpq : pn < q.length := by omega
      have c2 := six_cell (HX0.out.below HB.out) (by omega) hpq
      have e1 : (wn.map (fun n : Nat => (n : Int)))[k]'(by simp; omega) = ((wn[k]'(by omega) : Nat) : Int) := by simp
      rw [e1] at c1
      rw [hpn] at c0
      have hp6 : (pn : Int) < 6 := by omega
      have HFN : Hid (q[pn] = wn[k]'(by omega) → ∀ j, j < k + 1 → q.getD (cols.getD j 0).toNat 0 = wn.getD j 0) := fun h j hj => by
        by_cases e : j = k
        · subst e
          rw [getD_at hlt, hpn, getD_at (show j < wn.length by omega)]
          show q.getD pn 0 = _
          rw [getD_at hpq]; exact h
        · exact HF.out j (by omega)
      have HNO : Hid (q[pn] ≠ wn[k]'(by omega) → ¬ FitsQ cols wn q) := fun h hf => h (by
        have := hf k hlt
        rw [getD_at hlt, hpn, getD_at (show k < wn.length by omega)] at this
        have this : q.getD pn 0 = _ := this
        rwa [getD_at hpq] at this)
      have hsb : w.heap.size < wr.heap.size := by have := HX0.out.lt; have := HB.out.size; omega
      generalize q[pn] = z at *
      generalize wn[k]'(by omega) = t at *
      clear hpl hpn hpq e1 HF q1 q2 q3
      have hb1 : b < wr.heap.size := by omega
      have hb2 : b2 < wr.heap.size := by omega
      by_cases hz : z = t
      · have HF2 := Lib.hid (HFN.out hz)
        subst hz
        go_wp2_with fail
        go_quiet (fail)
        go_wp2
        go_roundw
        case rel => exact ⟨k + 1, by omega, by go_num, below_drewN' HB.out _, HF2⟩
        case measure => simp [intOf]; omega
      · have HN2 := Lib.hid (HNO.out hz)
        have hzb : ((z : Int) != (t : Int)) = true := by simp; omega
        have hzI : ¬ (z : Int) = (t : Int) := by omega
        go_wp2_with fail
        go_quiet (fail)
        go_wp2
        go_ret
        exact ⟨false, rfl, by simp [HN2.out], below_drewN' HBw.out _⟩
    · have h1I : ¬ (k : Int) < (cols.length : Int) := by omega
      obtain rfl : k = cols.length := by omega
      have HA : Hid (FitsQ cols wn q) := HF.out
      have HBw : Hid (Below w.heap.size w wr) := HB0.out.trans (HB.out.mono HB0.out.size)
      go_wp2
      go_ret
      exact ⟨true, rfl, by simp [HA.out], HBw.out⟩
end Go.Proofs.Ytkkpcphmojegmaa

/-
  Contract of a relation's Match: the rows that are full or delta (or delta alone) with some values at some places, in order, or a refusal; of old memory nothing turns.
-/
namespace Go.Proofs.Ytkkpcphmojegmaa
set_option linter.unusedSimpArgs false
set_option linter.unusedVariables false
set_option linter.unusedSectionVars false
set_option maxRecDepth 100000
open Go.RowKit Go.Maps
variable [DecidableEq V]

def fitsB (cols : List Int) (wn q : List Nat) : Bool := (List.range cols.length).all fun j => q.getD (cols.getD j 0).toNat 0 == wn.getD j 0
theorem fitsB_iff {cols : List Int} {wn q : List Nat} : fitsB cols wn q = true ↔ FitsQ cols wn q := by simp [fitsB, FitsQ]
/-- A row has the values at the places. -/
def holdB (cols : List Int) (vs r : List V) : Bool := (List.range cols.length).all fun j => decide (r.getD (cols.getD j 0).toNat vZ = (vs.getD j vZ).bare)
/-- The rows that are asked for. -/
def sel (M : List (List V)) (s1 s2 : Nat) (cols : List Int) (vs : List V) (o : Bool) : List (List V) := ((M.drop (if o then s1 else 0)).take (s2 - (if o then s1 else 0))).filter (holdB cols vs)
/-- What Match answers. -/
def MatchOut (w : World) (M : List (List V)) (s1 s2 ar : Nat) (cols : List Int) (vs : List V) (o : Bool) (e : Ending) (w' : World) : Prop :=
  Below w.heap.size w w' ∧ ((¬ (cols.length = vs.length ∧ Placed ar cols) ∧ e = .returned (.tuple #[.slice none 0 0, .int .i64 1])) ∨
    ((cols.length = vs.length ∧ Placed ar cols) ∧ ∃ xo xc D, e = .returned (.tuple #[.slice xo (sel M s1 s2 cols vs o).length xc, .int .i64 0]) ∧ OwnG w' w.heap.size (.slice xo (sel M s1 s2 cols vs o).length xc) D ∧ D.map R.vs = srt (sel M s1 s2 cols vs o)))

/-- Rows of numbers, in memory of the call's own. -/
def NumRows (w : World) (B : Nat) (x : Value) (QS : List (List Nat)) : Prop := w.ownsRow B 72 6 x QS.length (QS.flatMap six)
theorem NumRows.below {w w' : World} {B : Nat} {x : Value} {QS : List (List Nat)} (h : NumRows w B x QS) (hb : Below w.heap.size w w') : NumRows w' B x QS := ownsRow_block h (fun k hk => hb.block k (World.ownsRow.lt h k hk).2)
theorem NumRows.snoc {w : World} {B : Nat} {x : Value} {QS : List (List Nat)} {q : List Nat} (h : w.ownsRow B 72 6 x (QS.length + 1) (QS.flatMap six ++ six q)) : NumRows w B x (QS ++ [q]) := by
  unfold NumRows; simpa using h
theorem NumRows.mtx {w : World} {B : Nat} {x : Value} {QS : List (List Nat)} (h : NumRows w B x QS) : Mtx w x QS := by
  have hr : w.ownsRow B 72 6 x QS.length (QS.flatMap six) := h
  rcases hr.2 with ⟨h1, h2⟩ | ⟨g, cap, cur, h1, h2, h3, h4, h5, h6, h7⟩
  · exact ⟨none, 0, by rw [h1, h2], by rw [h2]; exact Nat.zero_le _, fun i hi => absurd hi (by omega)⟩
  · refine ⟨some ⟨g, 0, none⟩, cap, h1, by omega, fun i hi => ⟨g, 0, rfl, (Array.getElem?_eq_some_iff.1 h3).1, fun j u hj => ?_⟩⟩
    subst h1
    have := hr.cells (g := g) rfl _ _ (flat6_at hi hj)
    rw [add_none] at this
    rw [Nat.zero_add] at this ⊢
    exact this
theorem six_new0 (w : World) (c : Array Value) (t : TypeId) : ∀ j u, c.toList[j]? = some u → (w.alloc (.cells c t)).cell? ((⟨w.heap.size, 0, none⟩ : Addr).add j) = some u := by
  intro j u hj
  rw [add_none, Nat.zero_add, World.cell?_alloc_at _ _ _ _ rfl]
  simpa using hj
theorem filter_snoc {α : Type} (p : α → Bool) (T : List α) {k : Nat} (hk : k < T.length) : (T.take (k + 1)).filter p = (T.take k).filter p ++ (if p T[k] = true then [T[k]] else []) := by
  rw [List.take_succ_eq_append_getElem hk, List.filter_append]
  congr 1
  simp [List.filter_cons]

theorem rowOf_get {L : List V} {q : List Nat} {i : Nat} (hi : i < q.length) : (rowOf L q).getD i vZ = L.getD (q.getD i 0) vZ := by
  rw [getD_at (show i < (rowOf L q).length by simpa [rowOf] using hi), getD_at hi]; simp [rowOf]
/-- Rows of numbers fit just if their values do. -/
theorem fits_hold {L : List V} (hn : L.Nodup) {ar : Nat} {q : List Nat} (hq : q.length = ar ∧ ∀ n ∈ q, n < L.length) {cols : List Int} {vs : List V} (hl : cols.length = vs.length) (hp : Placed ar cols) (hin : ∀ v ∈ vs, v.bare ∈ L) : fitsB cols (numsOf L vs) q = holdB cols vs (rowOf L q) := by
  unfold fitsB holdB
  apply Bool.eq_iff_iff.2
  simp only [List.all_eq_true, List.mem_range, beq_iff_eq, decide_eq_true_eq]
  refine forall_congr' fun j => forall_congr' fun hj => ?_
  have hz := hp _ (List.getElem_mem hj)
  rw [← getD_at (d := 0) hj] at hz
  obtain ⟨pn, hpn⟩ : ∃ pn : Nat, cols.getD j 0 = (pn : Int) := ⟨(cols.getD j 0).toNat, by omega⟩
  rw [hpn]
  show q.getD pn 0 = _ ↔ (rowOf L q).getD pn vZ = _
  have hpq : pn < q.length := by omega
  have hjv : j < vs.length := by omega
  rw [rowOf_get hpq, getD_at hpq, getD_at (show j < (numsOf L vs).length by simpa [numsOf] using hjv), getD_at hjv]
  have hm := hin _ (List.getElem_mem hjv)
  have hlt := List.idxOf_lt_length_iff.2 hm
  have e1 : (numsOf L vs)[j]'(by simpa [numsOf] using hjv) = L.idxOf vs[j].bare := by simp [numsOf]
  rw [e1]
  have hnl := hq.2 _ (List.getElem_mem hpq)
  rw [getD_lt hnl]
  constructor
  · intro e
    have : L[q[pn]] = L[L.idxOf vs[j].bare] := by congr 1
    rw [this]; exact List.getElem_idxOf hlt
  · intro e
    exact nodup_at hn hnl hlt (e.trans (List.getElem_idxOf hlt).symm)
theorem hold_none {L : List V} {ar : Nat} {q : List Nat} (hq : q.length = ar ∧ ∀ n ∈ q, n < L.length) {cols : List Int} {vs : List V} (hl : cols.length = vs.length) (hp : Placed ar cols) (hno : ∃ v ∈ vs, v.bare ∉ L) : holdB cols vs (rowOf L q) = false := by
  obtain ⟨v, hv, hn⟩ := hno
  obtain ⟨j, hj, rfl⟩ := List.mem_iff_getElem.1 hv
  apply Bool.eq_false_iff.2
  intro h
  have h1 := List.all_eq_true.1 h j (by simp; omega)
  simp only [decide_eq_true_eq] at h1
  have hjc : j < cols.length := by omega
  have hz := hp _ (List.getElem_mem hjc)
  rw [← getD_at (d := 0) hjc] at hz
  obtain ⟨pn, hpn⟩ : ∃ pn : Nat, cols.getD j 0 = (pn : Int) := ⟨(cols.getD j 0).toNat, by omega⟩
  rw [hpn] at h1
  have h1 : (rowOf L q).getD pn vZ = _ := h1
  have hpq : pn < q.length := by omega
  rw [rowOf_get hpq, getD_at hpq, getD_lt (hq.2 _ (List.getElem_mem hpq)), getD_at hj] at h1
  exact hn (by rw [← h1]; exact List.getElem_mem _)
theorem sel_fits {L : List V} (hn : L.Nodup) {ar : Nat} {T : List (List Nat)} (hT : ∀ q ∈ T, q.length = ar ∧ ∀ n ∈ q, n < L.length) {cols : List Int} {vs : List V} (hl : cols.length = vs.length) (hp : Placed ar cols) (hin : ∀ v ∈ vs, v.bare ∈ L) :
    (T.filter (fitsB cols (numsOf L vs))).map (rowOf L) = (T.map (rowOf L)).filter (holdB cols vs) := by
  rw [List.filter_map]
  congr 1
  apply List.filter_congr
  intro q hq
  exact fits_hold hn (hT q hq) hl hp hin
theorem sel_none {L : List V} {ar : Nat} {T : List (List Nat)} (hT : ∀ q ∈ T, q.length = ar ∧ ∀ n ∈ q, n < L.length) {cols : List Int} {vs : List V} (hl : cols.length = vs.length) (hp : Placed ar cols) (hno : ∃ v ∈ vs, v.bare ∉ L) :
    (T.map (rowOf L)).filter (holdB cols vs) = [] := by
  rw [List.filter_eq_nil_iff]
  intro r hr
  obtain ⟨q, hq, rfl⟩ := List.mem_map.1 hr
  rw [hold_none (hT q hq) hl hp hno]; simp

set_option maxHeartbeats 3200000 in
set_option maxRecDepth 100000 in
theorem match_rln {w : World} {B : Nat} {F : Nat → Prop} {rb ar c : Nat} {M : List (List V)} {s1 s2 : Nat} (hR : Rln w B F rb ar c M s1 s2) {x y : Value} {cols : List Int} {vs : List V} (hx : Ints w x cols) (hy : Vals w y vs) (hc : c < 10000) (hv9 : vs.length ≤ 1000000) (o : Bool) :
    Calls Try.prog 12 #[.pointer (some ⟨rb, 0, none⟩), x, y, .bool o] w fun e w' => MatchOut w M s1 s2 ar cols vs o e w' := by
  obtain ⟨ao, cap, rfl, hm⟩ := hx.len
  unfold maxLen at hm
  obtain ⟨bo, bc, hye, -⟩ := hy.len
  subst hye
  by_cases hlen : cols.length = vs.length
  case neg =>
    have hlb : ((cols.length : Int) != (vs.length : Int)) = true := by simp; omega
    have HO : Hid (MatchOut w M s1 s2 ar cols vs o (.returned (.tuple #[.slice none 0 0, .int .i64 1])) w) := ⟨Below.refl _ _, .inl ⟨fun h => hlen h.1, rfl⟩⟩
    clear hR hx hy hlen
    go_enter Try.func12, Try.ntmps12
    go_wp2
    go_ret2
    exact HO.out
  have hUN : Unlike (sel M s1 s2 cols vs o) := (hR.cut _ _).sublist List.filter_sublist
  obtain ⟨FT, FR, L, RS, to, rv, h1, h2, h3, h4, h5⟩ := hR
  obtain ⟨c2, c3, c4, c5, c6, c7, hrb, -⟩ := h1.cells
  have hHP := Lib.hid (hasPlaces_rel c2 hrb hx)
  obtain ⟨T, hT⟩ : ∃ T, T = (RS.drop (if o then s1 else 0)).take (s2 - (if o then s1 else 0)) := ⟨_, rfl⟩
  have hs12 : (if o then s1 else 0) ≤ s2 := by have := h1.h1; split <;> omega
  have hTl : T.length = s2 - (if o then s1 else 0) := by rw [hT]; simp; have := h1.h2; omega
  have hTm : ∀ q ∈ T, q ∈ RS := fun q hq => by rw [hT] at hq; exact List.mem_of_mem_drop (List.mem_of_mem_take hq)
  have hTr : ∀ q ∈ T, q.length = ar ∧ ∀ n ∈ q, n < L.length := fun q hq => h1.rows q (hTm q hq)
  have hsel : sel M s1 s2 cols vs o = (T.map (rowOf L)).filter (holdB cols vs) := by rw [sel, h3, hT, List.map_take, List.map_drop]
  have T9 : (T.length : Int) ≤ 10000 := by have := h1.h2; omega
  have HR := Lib.hid h1
  have HX := Lib.hid hx
  have HY := Lib.hid hy
  have HTR : Hid ((∀ q ∈ T, q ∈ RS) ∧ ∀ q ∈ T, q.length = ar ∧ ∀ n ∈ q, n < L.length) := ⟨hTm, hTr⟩
  have HL9 : Hid (L.length < 100000000 ∧ ar ≤ 6) := ⟨by omega, h1.ar6⟩
  have HBAD : Hid (∀ W, Below w.heap.size w W → ¬ Placed ar cols → MatchOut w M s1 s2 ar cols vs o (.returned (.tuple #[.slice none 0 0, .int .i64 1])) W) := fun W hb hn => ⟨hb, .inl ⟨fun h => hn h.2, rfl⟩⟩
  have HNO : Hid (∀ W, Below w.heap.size w W → Placed ar cols → (∃ v ∈ vs, v.bare ∉ L) → MatchOut w M s1 s2 ar cols vs o (.returned (.tuple #[.slice none 0 0, .int .i64 0])) W) := fun W hb hp hno => by
    have e0 : sel M s1 s2 cols vs o = [] := by rw [hsel]; exact sel_none hTr hlen hp hno
    refine ⟨hb, .inr ⟨⟨hlen, hp⟩, none, 0, [], ?_, ?_, ?_⟩⟩
    · rw [e0]; rfl
    · rw [e0]; exact OwnG.nil _ _
    · rw [e0]; rfl
  have HYES : Hid (∀ W x2 w', Below w.heap.size w W → Placed ar cols → (∀ v ∈ vs, v.bare ∈ L) → SortOut W ((T.filter (fitsB cols (numsOf L vs))).map (rowOf L)) (.returned x2) w' → MatchOut w M s1 s2 ar cols vs o (.returned (.tuple #[x2, .int .i64 0])) w') := fun W x2 w' hb hp hin hS => by
    rw [sel_fits h1.ndL hTr hlen hp hin, ← hsel] at hS
    obtain ⟨xo, xc, D, e, hb2, hO, hE⟩ := (hS.past hb).tell hUN
    injection e with e
    subst e
    exact ⟨hb2, .inr ⟨⟨hlen, hp⟩, xo, xc, D, rfl, hO, hE⟩⟩
  have hTU : Hid (∀ W, Below w.heap.size w W → Calls Try.prog 28 #[.pointer (some ⟨rb, 0, none⟩), .int .i64 (if o then 1 else 0)] W fun e w' => ∃ yo yc, e = .returned (.slice yo T.length yc) ∧ Below W.heap.size W w' ∧ Mtx w' (.slice yo T.length yc) T) := fun W hb => by
    refine (turned_rel (h1.below hb) (by omega) o).mono ?_
    rintro e w' ⟨y, yo, yc, rfl, rfl, hb', hM⟩
    rw [← hT, ← hTl] at hM
    exact ⟨yo, yc, by rw [hTl], hb', hM⟩
  have HLEN : Hid (cols.length = vs.length) := hlen
  rw [← hlen]
  obtain ⟨i0, hi, hz0, hz1, hz2⟩ := info_parts infoNum
  clear h1 h2 h3 h4 h5 hx hy hUN hT hs12 hTl hTm hTr hsel
  have HY' : Hid (Vals w (.slice bo cols.length bc) vs) := by show Vals _ _ _; rw [hlen]; exact HY.out
  have HV9 := Lib.hid hv9
  clear HY hlen hv9
  go_enter Try.func12, Try.ntmps12
  go_wp2_with fail
  refine (hHP.out).mono ?_
  rintro e w1 ⟨cb, rfl, hcb, hb1⟩
  have HB1 := Lib.hid hb1
  clear hHP hb1
  cases cb with
  | false =>
    have HO := Lib.hid (HBAD.out w1 HB1.out (fun h => by simpa using hcb.2 h))
    clear hcb
    go_wp2
    go_ret2
    exact HO.out
  | true =>
    have HPL : Hid (Placed ar cols) := hcb.1 rfl
    have hF := Lib.hid (find_rel (HR.out.below HB1.out).tab (HY'.out.below HB1.out) HV9.out)
    have hrb1 : rb < w1.heap.size := by have := HB1.out.size; omega
    clear hcb HBAD
    go_wp2_with fail
    refine (hF.out).mono ?_
    rintro e w2 ⟨hb2, ⟨hall, x', rfl, hN⟩ | ⟨hno, rfl⟩⟩
    · have HB2 : Hid (Below w.heap.size w w2) := HB1.out.trans (hb2.mono HB1.out.size)
      have HALL := Lib.hid hall
      have hwl : (numsOf L vs).length = cols.length := by simp [numsOf]; exact HLEN.out.symm
      obtain ⟨no, nc, rfl, -⟩ := hN.src
      rw [hwl] at hN ⊢
      have HN : Hid (Ints w2 (.slice no cols.length nc) ((numsOf L vs).map (fun n : Nat => (n : Int)))) := hN.ints
      have HWL := Lib.hid hwl
      have hTU2 := Lib.hid (hTU.out w2 HB2.out)
      clear hall hN hwl hb2 hF HNO hTU HB1 hrb1
      have rest : Hid (∀ w3 yo yc, Below w2.heap.size w2 w3 → Mtx w3 (.slice yo T.length yc) T → True) := fun _ _ _ _ _ => trivial
      cases o with
      | true =>
        simp only [if_true] at hTU2
        go_wp2_with fail
        refine (hTU2.out).mono ?_
        rintro e w3 ⟨yo, yc, rfl, hb3, hM⟩
        have HB3 : Hid (Below w.heap.size w w3) := HB2.out.trans (hb3.mono HB2.out.size)
        have HN3 := Lib.hid (HN.out.below hb3)
        have HM3 := Lib.hid hM
        clear hb3 hM hTU2 HN HB2
        go_wp2_with fail
        go_loopw [13, 46] (fun v i wr => ∃ (k : Nat), k ≤ T.length ∧ i = .int .i64 k ∧ Hid (NumRows wr w3.heap.size v ((T.take k).filter (fitsB cols (numsOf L vs)))) ∧ Hid (Below w3.heap.size w3 wr)) (fun _ i _ => T.length - (intOf i).toNat)
        case atStart => exact ⟨0, Nat.zero_le _, rfl, World.ownsRow_nil _ _ _ _, Below.refl _ _⟩
        case round =>
          obtain ⟨k, hk, rfl, HQ, HBr⟩ := hrel
          have hw3 := HB3.out.size
          have hwr := HBr.out.size
          by_cases hlt : k < T.length
          · have h1I : (k : Int) < (T.length : Int) := by omega
            obtain ⟨b, off, rfl, hbl, d0, d1, d2, d3, d4, d5⟩ := HM3.out.at HBr.out k hlt
            obtain ⟨hql, hqn⟩ := HTR.out.2 _ (List.getElem_mem hlt)
            have HS6 : Hid (∀ (W : World) bb, W.heap[bb]? = some (.cells #[.int .i64 (T[k].getD 0 0 : Nat), .int .i64 (T[k].getD 1 0 : Nat), .int .i64 (T[k].getD 2 0 : Nat), .int .i64 (T[k].getD 3 0 : Nat), .int .i64 (T[k].getD 4 0 : Nat), .int .i64 (T[k].getD 5 0 : Nat)] 72 (0, 0)) → SixAt W bb T[k]) := fun W b h => h
            have HSC : Hid (∀ (W : World) b, SixAt W b T[k] → W.cell? ⟨b, 0, none⟩ = some (.int .i64 (T[k].getD 0 0 : Nat)) ∧ W.cell? ⟨b, 1, none⟩ = some (.int .i64 (T[k].getD 1 0 : Nat)) ∧ W.cell? ⟨b, 2, none⟩ = some (.int .i64 (T[k].getD 2 0 : Nat)) ∧ W.cell? ⟨b, 3, none⟩ = some (.int .i64 (T[k].getD 3 0 : Nat)) ∧ W.cell? ⟨b, 4, none⟩ = some (.int .i64 (T[k].getD 4 0 : Nat)) ∧ W.cell? ⟨b, 5, none⟩ = some (.int .i64 (T[k].getD 5 0 : Nat))) := fun W b h => h.cells
            have HSIX : Hid (six T[k] = [.int .i64 (T[k].getD 0 0 : Nat), .int .i64 (T[k].getD 1 0 : Nat), .int .i64 (T[k].getD 2 0 : Nat), .int .i64 (T[k].getD 3 0 : Nat), .int .i64 (T[k].getD 4 0 : Nat), .int .i64 (T[k].getD 5 0 : Nat)]) := rfl
            have hH : Hid (∀ W, Below w3.heap.size w3 W → Calls Try.prog 29 #[.agg #[.int .i64 (T[k].getD 0 0 : Nat), .int .i64 (T[k].getD 1 0 : Nat), .int .i64 (T[k].getD 2 0 : Nat), .int .i64 (T[k].getD 3 0 : Nat), .int .i64 (T[k].getD 4 0 : Nat), .int .i64 (T[k].getD 5 0 : Nat)], .slice ao cols.length cap, .slice no cols.length nc] W fun e w' => Asked (FitsQ cols (numsOf L vs) T[k]) W e w') := fun W hb => holds_rel hql HL9.out.2 ((HX.out.below HB3.out).below hb) (HN3.out.below hb) HWL.out HPL.out
            have HNXT := Lib.hid (filter_snoc (fitsB cols (numsOf L vs)) T hlt)
            have HIFF : Hid (FitsQ cols (numsOf L vs) T[k] ↔ fitsB cols (numsOf L vs) T[k] = true) := fitsB_iff.symm
            have hQl : ((T.take k).filter (fitsB cols (numsOf L vs))).length ≤ k := by refine Nat.le_trans (List.length_filter_le _ _) ?_; simp; omega
            generalize hx0 : ((T[k].getD 0 0 : Nat) : Int) = x0 at *
            generalize hx1 : ((T[k].getD 1 0 : Nat) : Int) = x1 at *
            generalize hx2 : ((T[k].getD 2 0 : Nat) : Int) = x2 at *
            generalize hx3 : ((T[k].getD 3 0 : Nat) : Int) = x3 at *
            generalize hx4 : ((T[k].getD 4 0 : Nat) : Int) = x4 at *
            generalize hx5 : ((T[k].getD 5 0 : Nat) : Int) = x5 at *
            generalize T[k] = q at *
            clear hx0 hx1 hx2 hx3 hx4 hx5 hql hqn
            generalize (T.take k).filter (fitsB cols (numsOf L vs)) = QS at *
            go_wp2_with fail
            obtain ⟨W0, hW0⟩ : ∃ W0, W0 = wr.alloc (.cells #[.int .i64 x0, .int .i64 x1, .int .i64 x2, .int .i64 x3, .int .i64 x4, .int .i64 x5] 72) := ⟨_, rfl⟩
            have hb0 : Below wr.heap.size wr W0 := by rw [hW0]; exact (Below.refl _ _).alloc (Nat.le_refl _) _
            have hx0 : SixAt W0 wr.heap.size q := by rw [hW0]; exact HS6.out _ _ (MapKept.heap_alloc wr _).1
            have HBW : Hid (Below w3.heap.size w3 W0) := HBr.out.trans (hb0.mono HBr.out.size)
            have HQ0 := Lib.hid (HQ.out.below hb0)
            have HX0 := Lib.hid hx0
            have hH0 := Lib.hid (hH.out W0 HBW.out)
            try rw [← hW0]
            clear hW0 hb0 hx0 hH HS6 d0 d1 d2 d3 d4 d5 HQ HBr
            refine (hH0.out).mono ?_
            rintro e w4 ⟨cq, rfl, hcq, hb4⟩
            have HB4 : Hid (Below w3.heap.size w3 w4) := HBW.out.trans (hb4.mono HBW.out.size)
            have HQ4 := Lib.hid (HQ0.out.below hb4)
            have HX4 := Lib.hid (HX0.out.below hb4)
            have hw4 := HB4.out.size
            clear hb4 hH0 HQ0 HX0 HBW
            cases cq with
            | true =>
              have hft := HIFF.out.1 (hcq.1 rfl)
              have HN1 : Hid ((T.take (k + 1)).filter (fitsB cols (numsOf L vs)) = QS ++ [q]) := by have := HNXT.out; rw [if_pos hft] at this; exact this
              obtain ⟨k0, k1, k2, k3, k4, k5⟩ := HSC.out _ _ HX4.out
              have kl := HX4.out.lt
              clear hft hcq HNXT HIFF HSC HX4
              go_wp2_with (at_builtin; refine wpList_append_own _ rfl _ _ 67 rfl w3.heap.size 72 i0 _ 6 48 Try.underlying67 hi hz0 hz1 hz2 rfl (by decide) _ QS.length (QS.flatMap six) rfl (World.ownsRow.alloc HQ4.out _) ⟨w4.heap.size, 0, none⟩ 1 1 [.int .i64 x0, .int .i64 x1, .int .i64 x2, .int .i64 x3, .int .i64 x4, .int .i64 x5] rfl rfl (six_new0 w4 #[.int .i64 x0, .int .i64 x1, .int .i64 x2, .int .i64 x3, .int .i64 x4, .int .i64 x5] _) (by simp [Value.oneCell']) (by unfold maxLen; omega) (by omega) (by simp; omega) ?_; intro v5 w5 hown5 hg5 hnil5; have HR5 : Hid (w5.ownsRow w3.heap.size 72 6 v5 (QS.length + 1) (QS.flatMap six ++ [.int .i64 x0, .int .i64 x1, .int .i64 x2, .int .i64 x3, .int .i64 x4, .int .i64 x5])) := hown5; have HB5 : Hid (Below w3.heap.size w3 w5) := (HB4.out.alloc hw4 _).trans ⟨hg5.os, hg5.tape, hg5.output, hg5.size, fun j hj => hg5.block j (by simp; omega) (fun e => by have := (World.ownsRow.lt HQ4.out j e.symm).1; omega)⟩; clear hown5 hg5 hnil5)
              have HR6 := HR5.out
              rw [← HSIX.out] at HR6
              have HR7 := Lib.hid (NumRows.snoc HR6)
              rw [← HN1.out] at HR7
              clear HR6 HR5
              go_roundw
              case rel => exact ⟨k + 1, by omega, by go_num, HR7, HB5⟩
              case measure => simp [intOf]; omega
            | false =>
              have hft : ¬ fitsB cols (numsOf L vs) q = true := fun h => by simpa using hcq.2 (HIFF.out.2 h)
              have HN1 : Hid ((T.take (k + 1)).filter (fitsB cols (numsOf L vs)) = QS) := by have := HNXT.out; rw [if_neg hft, List.append_nil] at this; exact this
              rw [← HN1.out] at HQ4
              clear hft hcq HNXT HIFF HSC HX4 HN1
              go_wp2
              go_roundw
              case rel => exact ⟨k + 1, by omega, by go_num, HQ4, HB4⟩
              case measure => simp [intOf]; omega
          · obtain rfl : k = T.length := by omega
            have h1I : ¬ (T.length : Int) < (T.length : Int) := by omega
            have HQ' := HQ.out
            rw [List.take_of_length_le (Nat.le_refl _)] at HQ'
            have HBw : Hid (Below w.heap.size w wr) := HB3.out.trans (HBr.out.mono hw3)
            have hTL := Lib.hid (tell_rel (HR.out.below HBw.out) HQ'.mtx (fun q hq => HTR.out.1 q (List.mem_filter.1 hq).1) HL9.out.1 (by have := List.length_filter_le (fitsB cols (numsOf L vs)) T; omega))
            clear HQ' HQ
            go_wp2_with fail
            refine (hTL.out).mono ?_
            rintro e w5 ⟨x5, D5, rfl, hb5, hO5, hE5⟩
            have HO := Lib.hid (HYES.out wr x5 w5 HBw.out HPL.out HALL.out ⟨x5, D5, rfl, hb5, hO5, hE5⟩)
            clear hb5 hO5 hE5 hTL
            go_wp2
            go_ret2
            exact HO.out
      | false =>
        simp only [Bool.false_eq_true, if_false] at hTU2
        go_wp2_with fail
        refine (hTU2.out).mono ?_
        rintro e w3 ⟨yo, yc, rfl, hb3, hM⟩
        have HB3 : Hid (Below w.heap.size w w3) := HB2.out.trans (hb3.mono HB2.out.size)
        have HN3 := Lib.hid (HN.out.below hb3)
        have HM3 := Lib.hid hM
        clear hb3 hM hTU2 HN HB2
        go_wp2_with fail
        go_loopw [13, 46] (fun v i wr => ∃ (k : Nat), k ≤ T.length ∧ i = .int .i64 k ∧ Hid (NumRows wr w3.heap.size v ((T.take k).filter (fitsB cols (numsOf L vs)))) ∧ Hid (Below w3.heap.size w3 wr)) (fun _ i _ => T.length - (intOf i).toNat)
        case atStart => exact ⟨0, Nat.zero_le _, rfl, World.ownsRow_nil _ _ _ _, Below.refl _ _⟩
        case round =>
          obtain ⟨k, hk, rfl, HQ, HBr⟩ := hrel
          have hw3 := HB3.out.size
          have hwr := HBr.out.size
          by_cases hlt : k < T.length
          · have h1I : (k : Int) < (T.length : Int) := by omega
            obtain ⟨b, off, rfl, hbl, d0, d1, d2, d3, d4, d5⟩ := HM3.out.at HBr.out k hlt
            obtain ⟨hql, hqn⟩ := HTR.out.2 _ (List.getElem_mem hlt)
            have HS6 : Hid (∀ (W : World) bb, W.heap[bb]? = some (.cells #[.int .i64 (T[k].getD 0 0 : Nat), .int .i64 (T[k].getD 1 0 : Nat), .int .i64 (T[k].getD 2 0 : Nat), .int .i64 (T[k].getD 3 0 : Nat), .int .i64 (T[k].getD 4 0 : Nat), .int .i64 (T[k].getD 5 0 : Nat)] 72 (0, 0)) → SixAt W bb T[k]) := fun W b h => h
            have HSC : Hid (∀ (W : World) b, SixAt W b T[k] → W.cell? ⟨b, 0, none⟩ = some (.int .i64 (T[k].getD 0 0 : Nat)) ∧ W.cell? ⟨b, 1, none⟩ = some (.int .i64 (T[k].getD 1 0 : Nat)) ∧ W.cell? ⟨b, 2, none⟩ = some (.int .i64 (T[k].getD 2 0 : Nat)) ∧ W.cell? ⟨b, 3, none⟩ = some (.int .i64 (T[k].getD 3 0 : Nat)) ∧ W.cell? ⟨b, 4, none⟩ = some (.int .i64 (T[k].getD 4 0 : Nat)) ∧ W.cell? ⟨b, 5, none⟩ = some (.int .i64 (T[k].getD 5 0 : Nat))) := fun W b h => h.cells
            have HSIX : Hid (six T[k] = [.int .i64 (T[k].getD 0 0 : Nat), .int .i64 (T[k].getD 1 0 : Nat), .int .i64 (T[k].getD 2 0 : Nat), .int .i64 (T[k].getD 3 0 : Nat), .int .i64 (T[k].getD 4 0 : Nat), .int .i64 (T[k].getD 5 0 : Nat)]) := rfl
            have hH : Hid (∀ W, Below w3.heap.size w3 W → Calls Try.prog 29 #[.agg #[.int .i64 (T[k].getD 0 0 : Nat), .int .i64 (T[k].getD 1 0 : Nat), .int .i64 (T[k].getD 2 0 : Nat), .int .i64 (T[k].getD 3 0 : Nat), .int .i64 (T[k].getD 4 0 : Nat), .int .i64 (T[k].getD 5 0 : Nat)], .slice ao cols.length cap, .slice no cols.length nc] W fun e w' => Asked (FitsQ cols (numsOf L vs) T[k]) W e w') := fun W hb => holds_rel hql HL9.out.2 ((HX.out.below HB3.out).below hb) (HN3.out.below hb) HWL.out HPL.out
            have HNXT := Lib.hid (filter_snoc (fitsB cols (numsOf L vs)) T hlt)
            have HIFF : Hid (FitsQ cols (numsOf L vs) T[k] ↔ fitsB cols (numsOf L vs) T[k] = true) := fitsB_iff.symm
            have hQl : ((T.take k).filter (fitsB cols (numsOf L vs))).length ≤ k := by refine Nat.le_trans (List.length_filter_le _ _) ?_; simp; omega
            generalize hx0 : ((T[k].getD 0 0 : Nat) : Int) = x0 at *
            generalize hx1 : ((T[k].getD 1 0 : Nat) : Int) = x1 at *
            generalize hx2 : ((T[k].getD 2 0 : Nat) : Int) = x2 at *
            generalize hx3 : ((T[k].getD 3 0 : Nat) : Int) = x3 at *
            generalize hx4 : ((T[k].getD 4 0 : Nat) : Int) = x4 at *
            generalize hx5 : ((T[k].getD 5 0 : Nat) : Int) = x5 at *
            generalize T[k] = q at *
            clear hx0 hx1 hx2 hx3 hx4 hx5 hql hqn
            generalize (T.take k).filter (fitsB cols (numsOf L vs)) = QS at *
            go_wp2_with fail
            obtain ⟨W0, hW0⟩ : ∃ W0, W0 = wr.alloc (.cells #[.int .i64 x0, .int .i64 x1, .int .i64 x2, .int .i64 x3, .int .i64 x4, .int .i64 x5] 72) := ⟨_, rfl⟩
            have hb0 : Below wr.heap.size wr W0 := by rw [hW0]; exact (Below.refl _ _).alloc (Nat.le_refl _) _
            have hx0 : SixAt W0 wr.heap.size q := by rw [hW0]; exact HS6.out _ _ (MapKept.heap_alloc wr _).1
            have HBW : Hid (Below w3.heap.size w3 W0) := HBr.out.trans (hb0.mono HBr.out.size)
            have HQ0 := Lib.hid (HQ.out.below hb0)
            have HX0 := Lib.hid hx0
            have hH0 := Lib.hid (hH.out W0 HBW.out)
            try rw [← hW0]
            clear hW0 hb0 hx0 hH HS6 d0 d1 d2 d3 d4 d5 HQ HBr
            refine (hH0.out).mono ?_
            rintro e w4 ⟨cq, rfl, hcq, hb4⟩
            have HB4 : Hid (Below w3.heap.size w3 w4) := HBW.out.trans (hb4.mono HBW.out.size)
            have HQ4 := Lib.hid (HQ0.out.below hb4)
            have HX4 := Lib.hid (HX0.out.below hb4)
            have hw4 := HB4.out.size
            clear hb4 hH0 HQ0 HX0 HBW
            cases cq with
            | true =>
              have hft := HIFF.out.1 (hcq.1 rfl)
              have HN1 : Hid ((T.take (k + 1)).filter (fitsB cols (numsOf L vs)) = QS ++ [q]) := by have := HNXT.out; rw [if_pos hft] at this; exact this
              obtain ⟨k0, k1, k2, k3, k4, k5⟩ := HSC.out _ _ HX4.out
              have kl := HX4.out.lt
              clear hft hcq HNXT HIFF HSC HX4
              go_wp2_with (at_builtin; refine wpList_append_own _ rfl _ _ 67 rfl w3.heap.size 72 i0 _ 6 48 Try.underlying67 hi hz0 hz1 hz2 rfl (by decide) _ QS.length (QS.flatMap six) rfl (World.ownsRow.alloc HQ4.out _) ⟨w4.heap.size, 0, none⟩ 1 1 [.int .i64 x0, .int .i64 x1, .int .i64 x2, .int .i64 x3, .int .i64 x4, .int .i64 x5] rfl rfl (six_new0 w4 #[.int .i64 x0, .int .i64 x1, .int .i64 x2, .int .i64 x3, .int .i64 x4, .int .i64 x5] _) (by simp [Value.oneCell']) (by unfold maxLen; omega) (by omega) (by simp; omega) ?_; intro v5 w5 hown5 hg5 hnil5; have HR5 : Hid (w5.ownsRow w3.heap.size 72 6 v5 (QS.length + 1) (QS.flatMap six ++ [.int .i64 x0, .int .i64 x1, .int .i64 x2, .int .i64 x3, .int .i64 x4, .int .i64 x5])) := hown5; have HB5 : Hid (Below w3.heap.size w3 w5) := (HB4.out.alloc hw4 _).trans ⟨hg5.os, hg5.tape, hg5.output, hg5.size, fun j hj => hg5.block j (by simp; omega) (fun e => by have := (World.ownsRow.lt HQ4.out j e.symm).1; omega)⟩; clear hown5 hg5 hnil5)
              have HR6 := HR5.out
              rw [← HSIX.out] at HR6
              have HR7 := Lib.hid (NumRows.snoc HR6)
              rw [← HN1.out] at HR7
              clear HR6 HR5
              go_roundw
              case rel => exact ⟨k + 1, by omega, by go_num, HR7, HB5⟩
              case measure => simp [intOf]; omega
            | false =>
              have hft : ¬ fitsB cols (numsOf L vs) q = true := fun h => by simpa using hcq.2 (HIFF.out.2 h)
              have HN1 : Hid ((T.take (k + 1)).filter (fitsB cols (numsOf L vs)) = QS) := by have := HNXT.out; rw [if_neg hft, List.append_nil] at this; exact this
              rw [← HN1.out] at HQ4
              clear hft hcq HNXT HIFF HSC HX4 HN1
              go_wp2
              go_roundw
              case rel => exact ⟨k + 1, by omega, by go_num, HQ4, HB4⟩
              case measure => simp [intOf]; omega
          · obtain rfl : k = T.length := by omega
            have h1I : ¬ (T.length : Int) < (T.length : Int) := by omega
            have HQ' := HQ.out
            rw [List.take_of_length_le (Nat.le_refl _)] at HQ'
            have HBw : Hid (Below w.heap.size w wr) := HB3.out.trans (HBr.out.mono hw3)
            have hTL := Lib.hid (tell_rel (HR.out.below HBw.out) HQ'.mtx (fun q hq => HTR.out.1 q (List.mem_filter.1 hq).1) HL9.out.1 (by have := List.length_filter_le (fitsB cols (numsOf L vs)) T; omega))
            clear HQ' HQ
            go_wp2_with fail
            refine (hTL.out).mono ?_
            rintro e w5 ⟨x5, D5, rfl, hb5, hO5, hE5⟩
            have HO := Lib.hid (HYES.out wr x5 w5 HBw.out HPL.out HALL.out ⟨x5, D5, rfl, hb5, hO5, hE5⟩)
            clear hb5 hO5 hE5 hTL
            go_wp2
            go_ret2
            exact HO.out
    · have HB2 : Hid (Below w.heap.size w w2) := HB1.out.trans (hb2.mono HB1.out.size)
      have HO := Lib.hid (HNO.out w2 HB2.out HPL.out hno)
      clear hno hb2 hF HNO
      go_wp2
      go_ret2
      exact HO.out
end Go.Proofs.Ytkkpcphmojegmaa
