/-
  Contract of a relation's table's valuesOf: a row's values, in memory of the call's own.
-/
import Derived.Test.YtfjkfblejfiglaaRFindR
namespace Go.Proofs.Ytfjkfblejfiglaa
set_option linter.unusedSimpArgs false
set_option linter.unusedVariables false
set_option linter.unusedSectionVars false
set_option maxRecDepth 100000
open Go.RowKit Go.Maps
variable [DecidableEq V]

theorem six_get {q : List Nat} {k : Nat} (h6 : q.length ≤ 6) (hk : k < q.length) : (six q)[k]? = some (.int .i64 ((q[k] : Nat) : Int)) := by
  have e : q.getD k 0 = q[k] := by rw [List.getD_eq_getElem?_getD, List.getElem?_eq_getElem hk]; rfl
  rw [← e]
  have : k < 6 := by omega
  match k, this with
  | 0, _ => rfl
  | 1, _ => rfl
  | 2, _ => rfl
  | 3, _ => rfl
  | 4, _ => rfl
  | 5, _ => rfl
theorem six_cell {w : World} {b k : Nat} {q : List Nat} (h : SixAt w b q) (h6 : q.length ≤ 6) (hk : k < q.length) : w.cell? ⟨b, k, none⟩ = some (.int .i64 ((q[k] : Nat) : Int)) := by
  have h' : w.heap[b]? = some (.cells (six q).toArray 78 (0, 0)) := h
  rw [cell_of_row w b k _ _ _ h', List.getElem?_toArray, six_get h6 hk]
theorem SixAt.below {w w' : World} {b : Nat} {q : List Nat} (h : SixAt w b q) (hb : Below w.heap.size w w') : SixAt w' b q := (hb.block b h.lt).trans h
theorem rowOf_snoc (L : List V) (q : List Nat) (n : Nat) : rowOf L (q ++ [n]) = rowOf L q ++ [L.getD n vZ] := by simp [rowOf]
theorem Tbl.ok {w : World} {B : Nat} {F : Nat → Prop} {tb : Nat} {X : Ex} {L : List V} (h : Tbl w B F tb X L) : ∀ v ∈ L, v.Ok := by
  obtain ⟨_, _, _, _, _, _, _, _, _, _, h8⟩ := h; exact h8

theorem three_new1 (w : World) (u : V) : ∀ j x, u.cells[j]? = some x → ((w.alloc (.cells #[.bool u.k, .string u.s, .int .i64 u.n] 55)).alloc (.cells #[.bool u.k, .string u.s, .int .i64 u.n] 55)).cell? ((⟨w.heap.size + 1, 0, none⟩ : Addr).add j) = some x := by
  have h := three_new (w.alloc (.cells #[.bool u.k, .string u.s, .int .i64 u.n] 55)) (.bool u.k) (.string u.s) (.int .i64 u.n) 55
  have hs : (w.alloc (.cells #[.bool u.k, .string u.s, .int .i64 u.n] 55)).heap.size = w.heap.size + 1 := by simp
  rw [hs] at h
  exact h
set_option maxHeartbeats 3200000 in
theorem valuesOf_rel {w : World} {B : Nat} {F : Nat → Prop} {tb : Nat} {X : Ex} {L : List V} (hT : Tbl w B F tb X L) {qb ar c : Nat} {q : List Nat} (hq : SixAt w qb q) (hl : q.length = ar) (h6 : ar ≤ 6) (hn : ∀ n ∈ q, n < L.length) (hLm : L.length < 100000000) :
    Calls Try.prog 43 #[.pointer (some ⟨tb, 0, none⟩), .slice (some ⟨qb, 0, none⟩) ar c] w fun e w' => ∃ x', e = .returned x' ∧ Below w.heap.size w w' ∧ Own w' w.heap.size x' (rowOf L q) := by
  obtain ⟨i0, hi, hz0, hz1, hz2⟩ := info_parts infoVal
  have HQ := Lib.hid hq
  have HT := Lib.hid hT
  have HQL : Hid (q.length = ar ∧ ∀ n ∈ q, n < L.length) := ⟨hl, hn⟩
  have hlt := hT.lt
  have hqlt := hq.lt
  have l9 : (ar : Int) ≤ 6 := by omega
  have HLm := Lib.hid hLm
  clear hq hT hl hn hLm
  go_enter Try.func43, Try.ntmps43
  go_wp2_with (at_make; refine wpList_make_own _ rfl _ _ 30 rfl w.heap.size 55 i0 _ 3 Try.underlying30 hi hz0 hz1 .i64 .i64 _ ar rfl rfl (by omega) (by rw [hz2]; omega) (by unfold maxLen; omega) (Nat.le_refl _) ?_; intro w1 hown1 hg1; have HR1 : Hid (Own w1 w.heap.size (.slice (some ⟨w.heap.size, 0, none⟩) 0 ar) []) := ⟨hown1, fun _ h => by simp at h⟩; have HB1 : Hid (Below w.heap.size w w1) := (Below.refl _ _).grown hg1 (Nat.le_refl _) (fun k hk => by cases hk); clear hown1 hg1)
  go_loopw [5, 15] (fun v i wr => ∃ k : Nat, k ≤ ar ∧ i = .int .i64 k ∧ Hid (Own wr w.heap.size v (rowOf L (q.take k))) ∧ Hid (Below w.heap.size w wr)) (fun _ i _ => ar - (intOf i).toNat)
  case atStart => exact ⟨0, Nat.zero_le _, rfl, HR1, HB1⟩
  case round =>
    clear HR1 HB1
    obtain ⟨k, hk, rfl, HR, HB⟩ := hrel
    obtain ⟨hl, hn⟩ := HQL.out
    by_cases hltk : k < ar
    · have h1I : (k : Int) < (ar : Int) := by omega
      have hkq : k < q.length := by omega
      have c0 := six_cell (HQ.out.below HB.out) (by omega) hkq
      have hnk := hn _ (List.getElem_mem hkq)
      have hA := Lib.hid (at_yes (HT.out.below HB.out) q[k] hnk)
      have HS : Hid (rowOf L (q.take (k + 1)) = rowOf L (q.take k) ++ [L[q[k]]]) := by
        show rowOf _ _ = _
        rw [List.take_succ_eq_append_getElem hkq, rowOf_snoc, getD_lt hnk]
      have HV : Hid (L[q[k]]).Ok := HT.out.ok _ (List.getElem_mem hnk)
      have hlk : (rowOf L (q.take k)).length = k := by simp [rowOf]; omega
      have hnI : ((q[k] : Nat) : Int) < 100000000 := by have := HLm.out; omega
      generalize L[q[k]] = u at *
      generalize q[k] = z at *
      generalize rowOf L (q.take k) = Q at *
      clear hl hn hkq
      go_wp2_with fail
      refine (hA.out).mono ?_
      rintro e w2 ⟨rfl, hb2⟩
      have HR2 := Lib.hid (HR.out.below hb2)
      have HB2 : Hid (Below w.heap.size w w2) := HB.out.trans (hb2.mono HB.out.size)
      have hw2 : w.heap.size ≤ w2.heap.size := HB2.out.size
      clear hb2 HR HB c0 hA
      go_wp2_with (at_builtin; refine wpList_append_own _ rfl _ _ 30 rfl w.heap.size 55 i0 _ 3 32 Try.underlying30 hi hz0 hz1 hz2 rfl (by decide) _ Q.length (Q.flatMap V.cells) rfl ((HR2.out.own.alloc _).alloc _) ⟨w2.heap.size + 1, 0, none⟩ 1 1 u.cells rfl rfl (three_new1 w2 u) (cells_one u) (by unfold maxLen; omega) (by omega) (by simp; omega) ?_; intro v3 w3 hown3 hg3 hnil3; have HR3 := Lib.hid (HR2.out.app HV.out hown3); have HB3 : Hid (Below w.heap.size w w3) := ((HB2.out.alloc hw2 _).alloc (by simp; omega) _).grown hg3 (by simp; omega) (fun k hk => (HR2.out.own.lt k hk).1); rw [← HS.out] at HR3; clear hown3 hg3 hnil3)
      go_roundw
      case rel => exact ⟨k + 1, by omega, by go_num, HR3, HB3⟩
      case measure => simp [intOf]; omega
    · obtain rfl : k = ar := by omega
      have h1I : ¬ (k : Int) < (k : Int) := by omega
      have HR' := HR.out
      rw [List.take_of_length_le (by omega)] at HR'
      have H2 := Lib.hid HR'
      clear HR HR' hl hn
      go_wp2
      go_ret
      exact ⟨_, rfl, HB.out, H2.out⟩
end Go.Proofs.Ytfjkfblejfiglaa
