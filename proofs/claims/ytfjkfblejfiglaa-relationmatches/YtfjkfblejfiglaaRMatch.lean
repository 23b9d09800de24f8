/-
  A list of numbers that lies in memory. Contracts of a relation's hasPlaces and holds. Plain facts for Match.
-/
import Derived.Test.YtfjkfblejfiglaaRLaw0
namespace Go.Proofs.Ytfjkfblejfiglaa
set_option linter.unusedSimpArgs false
set_option linter.unusedVariables false
set_option linter.unusedSectionVars false
set_option maxRecDepth 100000
open Go.RowKit Go.Maps Go.Deep Go.WideShapes
variable [DecidableEq V]

/-- y is a list of the numbers zs, in memory that is there. -/
def Ints (W : World) (y : Value) (zs : List Int) : Prop :=
  ∃ (ao : Option Addr) (cap : Nat), y = .slice ao zs.length cap ∧ zs.length ≤ maxLen ∧ ∀ i (hi : i < zs.length), ∃ b off, ao = some ⟨b, off, none⟩ ∧ b < W.heap.size ∧ W.cell? ⟨b, off + i, none⟩ = some (.int .i64 zs[i])
theorem Ints.below {W w1 : World} {x : Value} {zs : List Int} (h : Ints W x zs) (hb : Below W.heap.size W w1) : Ints w1 x zs := by
  obtain ⟨ao, cap, h1, h2, h4⟩ := h
  refine ⟨ao, cap, h1, h2, fun i hi => ?_⟩
  obtain ⟨b, off, e, hlt, c0⟩ := h4 i hi
  exact ⟨b, off, e, Nat.lt_of_lt_of_le hlt hb.size, (hb.cell (p := ⟨b, off + i, none⟩) hlt).trans c0⟩
theorem Ints.at {W wr : World} {ao : Option Addr} {n cap : Nat} {zs : List Int} (h : Ints W (.slice ao n cap) zs) (hb : Below W.heap.size W wr) (k : Nat) (hk : k < zs.length) :
    ∃ b off, ao = some ⟨b, off, none⟩ ∧ wr.cell? ⟨b, off + k, none⟩ = some (.int .i64 zs[k]) ∧ b < W.heap.size := by
  obtain ⟨ao', cap', e, h2, h4⟩ := h
  injection e with e1 e2 e3
  subst e1
  obtain ⟨b, off, e, hlt, c0⟩ := h4 k hk
  exact ⟨b, off, e, (hb.cell (p := ⟨b, off + k, none⟩) hlt).trans c0, hlt⟩
theorem Ints.len {W : World} {x : Value} {zs : List Int} (h : Ints W x zs) : ∃ ao cap, x = .slice ao zs.length cap ∧ zs.length ≤ maxLen := by
  obtain ⟨ao, cap, h1, h2, -⟩ := h; exact ⟨ao, cap, h1, h2⟩
theorem Ints.nil (W : World) : Ints W (.slice none 0 0) [] := ⟨none, 0, rfl, by simp [maxLen], fun i hi => by simp at hi⟩
theorem Ints.one (w : World) (z : Int) : Ints (w.alloc (.cells #[.int .i64 z] 3)) (.slice (some ⟨w.heap.size, 0, none⟩) 1 1) [z] := by
  refine ⟨_, _, rfl, by simp [maxLen], fun i hi => ⟨w.heap.size, 0, rfl, by simp, ?_⟩⟩
  match i, hi with
  | 0, _ => simp
theorem Ints.two (w : World) (z z' : Int) : Ints (w.alloc (.cells #[.int .i64 z, .int .i64 z'] 3)) (.slice (some ⟨w.heap.size, 0, none⟩) 2 2) [z, z'] := by
  refine ⟨_, _, rfl, by simp [maxLen], fun i hi => ⟨w.heap.size, 0, rfl, by simp, ?_⟩⟩
  match i, hi with
  | 0, _ => simp
  | 1, _ => simp
theorem Ints.row {w : World} {B : Nat} {x : Value} {zs : List Int} (h : w.ownsRow B 3 1 x zs.length (zs.map (Value.int .i64))) : Ints w x zs := by
  rcases h.2 with ⟨rfl, hn⟩ | ⟨g, cap, cur, rfl, _, hg, h1, h2, _⟩
  · exact ⟨none, 0, by rw [hn], by rw [hn]; exact Nat.zero_le _, fun i hi => absurd hi (by omega)⟩
  · refine ⟨some ⟨g, 0, none⟩, cap, rfl, by omega, fun i hi => ⟨g, 0, rfl, (Array.getElem?_eq_some_iff.1 hg).1, ?_⟩⟩
    have c := h.cells (g := g) rfl i (.int .i64 zs[i]) (by simp [hi])
    rwa [add_none] at c


theorem NumsN.ints {w : World} {B : Nat} {x : Value} {q : List Nat} (h : NumsN w B x q) : Ints w x (q.map (fun n : Nat => (n : Int))) := by
  apply Ints.row (B := B)
  have h' : w.ownsRow B 3 1 x q.length (q.map (fun n : Nat => Value.int .i64 (n : Int))) := h
  simpa [List.map_map, Function.comp_def] using h'
/-- Whether P holds; of old memory nothing turns. -/
def Asked (P : Prop) (w : World) (e : Ending) (w' : World) : Prop := ∃ c : Bool, e = .returned (.bool c) ∧ (c = true ↔ P) ∧ Below w.heap.size w w'
/-- Places of the arity. -/
def Placed (ar : Nat) (cols : List Int) : Prop := ∀ z ∈ cols, 0 ≤ z ∧ z < (ar : Int)

set_option maxHeartbeats 800000 in
theorem hasPlaces_rel {w : World} {rb ar : Nat} (c2 : w.cell? ⟨rb, 2, none⟩ = some (.int .i64 (ar : Int))) (hrb : rb < w.heap.size) {x : Value} {cols : List Int} (hx : Ints w x cols) :
    Calls Try.prog 32 #[.pointer (some ⟨rb, 0, none⟩), x] w fun e w' => Asked (Placed ar cols) w e w' := by
  obtain ⟨ao, cap, rfl, hm⟩ := hx.len
  unfold maxLen at hm
  have HX := Lib.hid hx
  clear hx
  go_enter Try.func32, Try.ntmps32
  go_wp2_with fail
  go_loopw [9] (fun i wr => ∃ k : Nat, k ≤ cols.length ∧ i = .int .i64 k ∧ wr = w ∧ Hid (Placed ar (cols.take k))) (fun i _ => cols.length - (intOf i).toNat)
  case atStart => exact ⟨0, Nat.zero_le _, rfl, rfl, fun z hz => by simp at hz⟩
  case round =>
    obtain ⟨k, hk, rfl, rfl, HP⟩ := hrel
    by_cases hlt : k < cols.length
    · have h1I : (k : Int) < (cols.length : Int) := by omega
      obtain ⟨b, off, rfl, c0, hbl⟩ := HX.out.at (Below.refl _ _) k hlt
      have HP2 : Hid (0 ≤ cols[k] ∧ cols[k] < (ar : Int) → Placed ar (cols.take (k + 1))) := fun h z hz => by
        rw [List.take_succ_eq_append_getElem hlt] at hz
        rcases List.mem_append.1 hz with hz | hz
        · exact HP.out z hz
        · rw [List.mem_singleton.1 hz]; exact h
      have HN : Hid (¬ (0 ≤ cols[k] ∧ cols[k] < (ar : Int)) → ¬ Placed ar cols) := fun h hp => h (hp _ (List.getElem_mem hlt))
      generalize cols[k] = z at *
      clear HP
      by_cases h0 : z < 0
      · have HN2 := Lib.hid (HN.out (by omega))
        go_wp2
        go_ret
        exact ⟨false, rfl, by simp [HN2.out], Below.refl _ _⟩
      · by_cases ha : z ≥ (ar : Int)
        · have HN2 := Lib.hid (HN.out (by omega))
          go_wp2
          go_ret
          exact ⟨false, rfl, by simp [HN2.out], Below.refl _ _⟩
        · have HP3 := Lib.hid (HP2.out (by omega))
          go_wp2
          go_roundw
          case rel => exact ⟨k + 1, by omega, by go_num, by first | rfl | trivial, HP3⟩
          case measure => simp [intOf]; omega
    · have h1I : ¬ (k : Int) < (cols.length : Int) := by omega
      have HA : Hid (Placed ar cols) := by
        have := HP.out
        rwa [List.take_of_length_le (by omega)] at this
      go_wp2
      go_ret
      exact ⟨true, rfl, by simp [HA.out], Below.refl _ _⟩

/-- A row of numbers has the wanted ones at the places. -/
def FitsQ (cols : List Int) (wn q : List Nat) : Prop := ∀ j, j < cols.length → q.getD (cols.getD j 0).toNat 0 = wn.getD j 0
theorem getD_at {α : Type} {l : List α} {d : α} {i : Nat} (h : i < l.length) : l.getD i d = l[i] := by rw [List.getD_eq_getElem?_getD, List.getElem?_eq_getElem h]; rfl

set_option maxHeartbeats 1600000 in
theorem holds_rel {w : World} {ar : Nat} {q : List Nat} (hq : q.length = ar) (h6 : ar ≤ 6) {x y : Value} {cols : List Int} {wn : List Nat} (hx : Ints w x cols) (hy : Ints w y (wn.map (fun n : Nat => (n : Int)))) (hl : wn.length = cols.length) (hp : Placed ar cols) :
    Calls Try.prog 35 #[.agg #[.int .i64 (q.getD 0 0 : Nat), .int .i64 (q.getD 1 0 : Nat), .int .i64 (q.getD 2 0 : Nat), .int .i64 (q.getD 3 0 : Nat), .int .i64 (q.getD 4 0 : Nat), .int .i64 (q.getD 5 0 : Nat)], x, y] w fun e w' => Asked (FitsQ cols wn q) w e w' := by
  obtain ⟨ao, cap, rfl, hm⟩ := hx.len
  unfold maxLen at hm
  obtain ⟨bo, bcap, hye, -⟩ := hy.len
  rw [List.length_map, hl] at hye
  subst hye
  have HX := Lib.hid hx
  have HY := Lib.hid hy
  have HP := Lib.hid hp
  have HQ : Hid (q.length = ar ∧ ar ≤ 6 ∧ wn.length = cols.length) := ⟨hq, h6, hl⟩
  have HS6 : Hid (∀ (W : World) b, W.heap[b]? = some (.cells #[.int .i64 (q.getD 0 0 : Nat), .int .i64 (q.getD 1 0 : Nat), .int .i64 (q.getD 2 0 : Nat), .int .i64 (q.getD 3 0 : Nat), .int .i64 (q.getD 4 0 : Nat), .int .i64 (q.getD 5 0 : Nat)] 78 (0, 0)) → SixAt W b q) := fun W b h => h
  generalize ((q.getD 0 0 : Nat) : Int) = x0 at *
  generalize ((q.getD 1 0 : Nat) : Int) = x1 at *
  generalize ((q.getD 2 0 : Nat) : Int) = x2 at *
  generalize ((q.getD 3 0 : Nat) : Int) = x3 at *
  generalize ((q.getD 4 0 : Nat) : Int) = x4 at *
  generalize ((q.getD 5 0 : Nat) : Int) = x5 at *
  clear hx hy hp hq hl
  go_enter Try.func35, Try.ntmps35
  obtain ⟨W0, hW0⟩ : ∃ W0, W0 = w.alloc (.cells #[.int .i64 x0, .int .i64 x1, .int .i64 x2, .int .i64 x3, .int .i64 x4, .int .i64 x5] 78) := ⟨_, rfl⟩
  have HB0 : Hid (Below w.heap.size w W0) := by show Below _ _ _; rw [hW0]; exact (Below.refl _ _).alloc (Nat.le_refl _) _
  have HX0 : Hid (SixAt W0 w.heap.size q) := by show SixAt _ _ _; rw [hW0]; exact HS6.out _ _ (MapKept.heap_alloc w _).1
  go_wp2_with fail
  rw [← hW0]
  clear hW0 HS6
  go_loopw [11] (fun i wr => ∃ k : Nat, k ≤ cols.length ∧ i = .int .i64 k ∧ Hid (Below W0.heap.size W0 wr) ∧ Hid (∀ j, j < k → q.getD (cols.getD j 0).toNat 0 = wn.getD j 0)) (fun i _ => cols.length - (intOf i).toNat)
  case atStart => exact ⟨0, Nat.zero_le _, rfl, Below.refl _ _, fun j hj => absurd hj (by omega)⟩
  case round =>
    obtain ⟨k, hk, rfl, HB, HF⟩ := hrel
    by_cases hlt : k < cols.length
    · have h1I : (k : Int) < (cols.length : Int) := by omega
      obtain ⟨q1, q2, q3⟩ := HQ.out
      have HBw : Hid (Below w.heap.size w wr) := HB0.out.trans (HB.out.mono HB0.out.size)
      obtain ⟨b, off, rfl, c0, hbl⟩ := HX.out.at HBw.out k hlt
      obtain ⟨b2, off2, rfl, c1, hbl2⟩ := HY.out.at HBw.out k (by simp; omega)
      have hs := HBw.out.size
      have hpl := HP.out _ (List.getElem_mem hlt)
      obtain ⟨pn, hpn⟩ : ∃ pn : Nat, cols[k] = (pn : Int) := ⟨cols[k].toNat, by omega⟩
      have hpq : pn < q.length := by omega
      have c2 := six_cell (HX0.out.below HB.out) (by omega) hpq
      have e1 : (wn.map (fun n : Nat => (n : Int)))[k]'(by simp; omega) = ((wn[k]'(by omega) : Nat) : Int) := by simp
      rw [e1] at c1
      rw [hpn] at c0
      have hp6 : (pn : Int) < 6 := by omega
      have HFN : Hid (q[pn] = wn[k]'(by omega) → ∀ j, j < k + 1 → q.getD (cols.getD j 0).toNat 0 = wn.getD j 0) := fun h j hj => by
        by_cases e : j = k
        · subst e
          rw [getD_at hlt, hpn, getD_at (show j < wn.length by omega)]
          show q.getD pn 0 = _
          rw [getD_at hpq]; exact h
        · exact HF.out j (by omega)
      have HNO : Hid (q[pn] ≠ wn[k]'(by omega) → ¬ FitsQ cols wn q) := fun h hf => h (by
        have := hf k hlt
        rw [getD_at hlt, hpn, getD_at (show k < wn.length by omega)] at this
        have this : q.getD pn 0 = _ := this
        rwa [getD_at hpq] at this)
      have hsb : w.heap.size < wr.heap.size := by have := HX0.out.lt; have := HB.out.size; omega
      generalize q[pn] = z at *
      generalize wn[k]'(by omega) = t at *
      clear hpl hpn hpq e1 HF q1 q2 q3
      have hb1 : b < wr.heap.size := by omega
      have hb2 : b2 < wr.heap.size := by omega
      by_cases hz : z = t
      · have HF2 := Lib.hid (HFN.out hz)
        subst hz
        go_wp2_with fail
        go_quiet (fail)
        go_wp2
        go_roundw
        case rel => exact ⟨k + 1, by omega, by go_num, below_drewN' HB.out _, HF2⟩
        case measure => simp [intOf]; omega
      · have HN2 := Lib.hid (HNO.out hz)
        have hzb : ((z : Int) != (t : Int)) = true := by simp; omega
        have hzI : ¬ (z : Int) = (t : Int) := by omega
        go_wp2_with fail
        go_quiet (fail)
        go_wp2
        go_ret
        exact ⟨false, rfl, by simp [HN2.out], below_drewN' HBw.out _⟩
    · have h1I : ¬ (k : Int) < (cols.length : Int) := by omega
      obtain rfl : k = cols.length := by omega
      have HA : Hid (FitsQ cols wn q) := HF.out
      have HBw : Hid (Below w.heap.size w wr) := HB0.out.trans (HB.out.mono HB0.out.size)
      go_wp2
      go_ret
      exact ⟨true, rfl, by simp [HA.out], HBw.out⟩
end Go.Proofs.Ytfjkfblejfiglaa
