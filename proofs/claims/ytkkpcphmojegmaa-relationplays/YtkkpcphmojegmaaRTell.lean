/-
  Contract of a relation's table's valuesOf: a row's values, in memory of the call's own.
-/
import Derived.Test.YtkkpcphmojegmaaRFindR
namespace Go.Proofs.Ytkkpcphmojegmaa
set_option linter.unusedSimpArgs false
set_option linter.unusedVariables false
set_option linter.unusedSectionVars false
set_option maxRecDepth 100000
open Go.RowKit Go.Maps
variable [DecidableEq V]

theorem six_get {q : List Nat} {k : Nat} (h6 : q.length ≤ 6) (hk : k < q.length) : (six q)[k]? = some (.int .i64 ((q[k] : Nat) : Int)) := by
  have e : q.getD k 0 = q[k] := by rw [List.getD_eq_getElem?_getD, List.getElem?_eq_getElem hk]; rfl
  rw [← e]
  have : k < 6 := by omega
  match k, this with
  | 0, _ => rfl
  | 1, _ => rfl
  | 2, _ => rfl
  | 3, _ => rfl
  | 4, _ => rfl
  | 5, _ => rfl
theorem six_cell {w : World} {b k : Nat} {q : List Nat} (h : SixAt w b q) (h6 : q.length ≤ 6) (hk : k < q.length) : w.cell? ⟨b, k, none⟩ = some (.int .i64 ((q[k] : Nat) : Int)) := by
  have h' : w.heap[b]? = some (.cells (six q).toArray 72 (0, 0)) := h
  rw [cell_of_row w b k _ _ _ h', List.getElem?_toArray, six_get h6 hk]
theorem SixAt.below {w w' : World} {b : Nat} {q : List Nat} (h : SixAt w b q) (hb : Below w.heap.size w w') : SixAt w' b q := (hb.block b h.lt).trans h
theorem rowOf_snoc (L : List V) (q : List Nat) (n : Nat) : rowOf L (q ++ [n]) = rowOf L q ++ [L.getD n vZ] := by simp [rowOf]
theorem Tbl.ok {w : World} {B : Nat} {F : Nat → Prop} {tb : Nat} {X : Ex} {L : List V} (h : Tbl w B F tb X L) : ∀ v ∈ L, v.Ok := by
  obtain ⟨_, _, _, _, _, _, _, _, _, _, h8⟩ := h; exact h8

theorem three_new1 (w : World) (u : V) : ∀ j x, u.cells[j]? = some x → ((w.alloc (.cells #[.bool u.k, .string u.s, .int .i64 u.n] 55)).alloc (.cells #[.bool u.k, .string u.s, .int .i64 u.n] 55)).cell? ((⟨w.heap.size + 1, 0, none⟩ : Addr).add j) = some x := by
  have h := three_new (w.alloc (.cells #[.bool u.k, .string u.s, .int .i64 u.n] 55)) (.bool u.k) (.string u.s) (.int .i64 u.n) 55
  have hs : (w.alloc (.cells #[.bool u.k, .string u.s, .int .i64 u.n] 55)).heap.size = w.heap.size + 1 := by simp
  rw [hs] at h
  exact h
set_option maxHeartbeats 3200000 in
theorem valuesOf_rel {w : World} {B : Nat} {F : Nat → Prop} {tb : Nat} {X : Ex} {L : List V} (hT : Tbl w B F tb X L) {qb ar c : Nat} {q : List Nat} (hq : SixAt w qb q) (hl : q.length = ar) (h6 : ar ≤ 6) (hn : ∀ n ∈ q, n < L.length) (hLm : L.length < 100000000) :
    Calls Try.prog 38 #[.pointer (some ⟨tb, 0, none⟩), .slice (some ⟨qb, 0, none⟩) ar c] w fun e w' => ∃ x', e = .returned x' ∧ Below w.heap.size w w' ∧ Own w' w.heap.size x' (rowOf L q) := by
  obtain ⟨i0, hi, hz0, hz1, hz2⟩ := info_parts infoVal
  have HQ := Lib.hid hq
  have HT := Lib.hid hT
  have HQL : Hid (q.length = ar ∧ ∀ n ∈ q, n < L.length) := ⟨hl, hn⟩
  have hlt := hT.lt
  have hqlt := hq.lt
  have l9 : (ar : Int) ≤ 6 := by omega
  have HLm := Lib.hid hLm
  clear hq hT hl hn hLm
  go_enter Try.func38, Try.ntmps38
  go_wp2_with (at_make; refine wpList_make_own _ rfl _ _ 30 rfl w.heap.size 55 i0 _ 3 Try.underlying30 hi hz0 hz1 .i64 .i64 _ ar rfl rfl (by omega) (by rw [hz2]; omega) (by unfold maxLen; omega) (Nat.le_refl _) ?_; intro w1 hown1 hg1; have HR1 : Hid (Own w1 w.heap.size (.slice (some ⟨w.heap.size, 0, none⟩) 0 ar) []) := ⟨hown1, fun _ h => by simp at h⟩; have HB1 : Hid (Below w.heap.size w w1) := (Below.refl _ _).grown hg1 (Nat.le_refl _) (fun k hk => by cases hk); clear hown1 hg1)
  go_loopw [5, 15] (fun v i wr => ∃ k : Nat, k ≤ ar ∧ i = .int .i64 k ∧ Hid (Own wr w.heap.size v (rowOf L (q.take k))) ∧ Hid (Below w.heap.size w wr)) (fun _ i _ => ar - (intOf i).toNat)
  case atStart => exact ⟨0, Nat.zero_le _, rfl, HR1, HB1⟩
  case round =>
    clear HR1 HB1
    obtain ⟨k, hk, rfl, HR, HB⟩ := hrel
    obtain ⟨hl, hn⟩ := HQL.out
    by_cases hltk : k < ar
    · have h1I : (k : Int) < (ar : Int) := by omega
      have hkq : k < q.length := by omega
      have c0 := six_cell (HQ.out.below HB.out) (by omega) hkq
      have hnk := hn _ (List.getElem_mem hkq)
      have hA := Lib.hid (at_yes (HT.out.below HB.out) q[k] hnk)
      have HS : Hid (rowOf L (q.take (k + 1)) = rowOf L (q.take k) ++ [L[q[k]]]) := by
        show rowOf _ _ = _
        rw [List.take_succ_eq_append_getElem hkq, rowOf_snoc, getD_lt hnk]
      have HV : Hid (L[q[k]]).Ok := HT.out.ok _ (List.getElem_mem hnk)
      have hlk : (rowOf L (q.take k)).length = k := by simp [rowOf]; omega
      have hnI : ((q[k] : Nat) : Int) < 100000000 := by have := HLm.out; omega
      generalize L[q[k]] = u at *
      generalize q[k] = z at *
      generalize rowOf L (q.take k) = Q at *
      clear hl hn hkq
      go_wp2_with fail
      refine (hA.out).mono ?_
      rintro e w2 ⟨rfl, hb2⟩
      have HR2 := Lib.hid (HR.out.below hb2)
      have HB2 : Hid (Below w.heap.size w w2) := HB.out.trans (hb2.mono HB.out.size)
      have hw2 : w.heap.size ≤ w2.heap.size := HB2.out.size
      clear hb2 HR HB c0 hA
      go_wp2_with (at_builtin; refine wpList_append_own _ rfl _ _ 30 rfl w.heap.size 55 i0 _ 3 32 Try.underlying30 hi hz0 hz1 hz2 rfl (by decide) _ Q.length (Q.flatMap V.cells) rfl ((HR2.out.own.alloc _).alloc _) ⟨w2.heap.size + 1, 0, none⟩ 1 1 u.cells rfl rfl (three_new1 w2 u) (cells_one u) (by unfold maxLen; omega) (by omega) (by simp; omega) ?_; intro v3 w3 hown3 hg3 hnil3; have HR3 := Lib.hid (HR2.out.app HV.out hown3); have HB3 : Hid (Below w.heap.size w w3) := ((HB2.out.alloc hw2 _).alloc (by simp; omega) _).grown hg3 (by simp; omega) (fun k hk => (HR2.out.own.lt k hk).1); rw [← HS.out] at HR3; clear hown3 hg3 hnil3)
      go_roundw
      case rel => exact ⟨k + 1, by omega, by go_num, HR3, HB3⟩
      case measure => simp [intOf]; omega
    · obtain rfl : k = ar := by omega
      have h1I : ¬ (k : Int) < (k : Int) := by omega
      have HR' := HR.out
      rw [List.take_of_length_le (by omega)] at HR'
      have H2 := Lib.hid HR'
      clear HR HR' hl hn
      go_wp2
      go_ret
      exact ⟨_, rfl, HB.out, H2.out⟩
end Go.Proofs.Ytkkpcphmojegmaa

/-
  A list of rows of numbers that lies in memory: what it holds. Plain facts; no walk.
-/
namespace Go.Proofs.Ytkkpcphmojegmaa
set_option linter.unusedSimpArgs false
set_option linter.unusedVariables false
set_option linter.unusedSectionVars false
set_option maxRecDepth 100000
open Go.RowKit Go.Maps
variable [DecidableEq V]

/-- x is a list of rows of numbers, in memory that is there. -/
def Mtx (w : World) (x : Value) (QS : List (List Nat)) : Prop :=
  ∃ (ao : Option Addr) (cap : Nat), x = .slice ao QS.length cap ∧ QS.length ≤ maxLen ∧
    ∀ i (hi : i < QS.length), ∃ b off, ao = some ⟨b, off, none⟩ ∧ b < w.heap.size ∧ ∀ j u, (six QS[i])[j]? = some u → w.cell? ⟨b, off + i * 6 + j, none⟩ = some u
theorem Mtx.len {W : World} {x : Value} {QS : List (List Nat)} (h : Mtx W x QS) : ∃ ao cap, x = .slice ao QS.length cap ∧ QS.length ≤ maxLen := by
  obtain ⟨ao, cap, h1, h2, -⟩ := h; exact ⟨ao, cap, h1, h2⟩
theorem Mtx.at {W wr : World} {ao : Option Addr} {n cap : Nat} {QS : List (List Nat)} (h : Mtx W (.slice ao n cap) QS) (hb : Below W.heap.size W wr) (k : Nat) (hk : k < QS.length) :
    ∃ b off, ao = some ⟨b, off, none⟩ ∧ b < W.heap.size ∧ wr.cell? ⟨b, off + k * 6, none⟩ = some (.int .i64 (QS[k].getD 0 0 : Nat)) ∧ wr.cell? ⟨b, off + k * 6 + 1, none⟩ = some (.int .i64 (QS[k].getD 1 0 : Nat)) ∧ wr.cell? ⟨b, off + k * 6 + 2, none⟩ = some (.int .i64 (QS[k].getD 2 0 : Nat)) ∧
      wr.cell? ⟨b, off + k * 6 + 3, none⟩ = some (.int .i64 (QS[k].getD 3 0 : Nat)) ∧ wr.cell? ⟨b, off + k * 6 + 4, none⟩ = some (.int .i64 (QS[k].getD 4 0 : Nat)) ∧ wr.cell? ⟨b, off + k * 6 + 5, none⟩ = some (.int .i64 (QS[k].getD 5 0 : Nat)) := by
  obtain ⟨ao', cap', e, h2, h4⟩ := h
  injection e with e1
  subst e1
  obtain ⟨b, off, e, hlt, hc⟩ := h4 k hk
  have c : ∀ j u, (six QS[k])[j]? = some u → wr.cell? ⟨b, off + k * 6 + j, none⟩ = some u := fun j u hj => (hb.cell (p := ⟨b, off + k * 6 + j, none⟩) hlt).trans (hc j u hj)
  exact ⟨b, off, e, hlt, c 0 _ rfl, c 1 _ rfl, c 2 _ rfl, c 3 _ rfl, c 4 _ rfl, c 5 _ rfl⟩
theorem six_len (q : List Nat) : (six q).length = 6 := rfl
theorem flat6_len (QS : List (List Nat)) : (QS.flatMap six).length = QS.length * 6 := by
  induction QS with
  | nil => rfl
  | cons q QS ih => simp [six_len, ih, Nat.add_mul]; omega
theorem flat6_at {QS : List (List Nat)} : ∀ {i : Nat} (hi : i < QS.length) {j : Nat} {u : Value}, (six QS[i])[j]? = some u → (QS.flatMap six)[i * 6 + j]? = some u := by
  induction QS with
  | nil => intro i hi; simp at hi
  | cons q QS ih =>
    intro i hi j u h
    have hj : j < 6 := by have := (List.getElem?_eq_some_iff.1 h).1; rwa [six_len] at this
    cases i with
    | zero =>
      rw [List.flatMap_cons, Nat.zero_mul, Nat.zero_add, List.getElem?_append_left (by rw [six_len]; exact hj)]
      exact h
    | succ i =>
      have e : (i + 1) * 6 + j = i * 6 + j + 6 := by omega
      rw [List.flatMap_cons, List.getElem?_append_right (by rw [six_len]; omega), six_len, e, Nat.add_sub_cancel]
      exact ih (by simpa using hi) h
theorem Rl.mtx {w : World} {B : Nat} {FT FR : Nat → Prop} {rb ar : Nat} {L : List V} {RS : List (List Nat)} {to : Option Nat} {rv : Value} {s1 s2 : Nat} (h : Rl w B FT FR rb ar L RS to rv s1 s2) : Mtx w rv RS := by
  have hr := h.row
  rcases hr.2 with ⟨h1, h2⟩ | ⟨g, cap, cur, h1, h2, h3, h4, h5, h6, h7⟩
  · exact ⟨none, 0, by rw [h1, h2], by rw [h2]; exact Nat.zero_le _, fun i hi => absurd hi (by omega)⟩
  · refine ⟨some ⟨g, 0, none⟩, cap, h1, by omega, fun i hi => ⟨g, 0, rfl, (Array.getElem?_eq_some_iff.1 h3).1, fun j u hj => ?_⟩⟩
    subst h1
    have := hr.cells (g := g) rfl _ _ (flat6_at hi hj)
    rw [add_none] at this
    rw [Nat.zero_add] at this ⊢
    exact this
end Go.Proofs.Ytkkpcphmojegmaa
