/-
  The library's ready contract of slices.BinarySearch at []string, laid at the seat's translation by hand (the kit's command does not lay it); the searched place in names that rise.
-/
import Derived.Test.YtcpdikhiodbdjaaProg
import Derived.Test.YtcpdikhiodbdjaaSfSort
import Derived.Test.YtcpdikhiodbdjaaSfMem
import Derived.Shelf.Spec.SearchS
import Derived.Sort.Walk0
namespace Go.Proofs.Ytcpdikhiodbdjaa
set_option linter.unusedSimpArgs false
set_option linter.unusedVariables false
set_option linter.unusedSectionVars false
set_option maxRecDepth 100000
open Go.RowKit Go.Shelf

def lays26_ren : Go.Shelf.Ren := ⟨fun | 26 => 29 | 33 => 32 | 34 => 33 | 38 => 44 | n => n, fun | 0 => 0 | 3 => 3 | 4 => 4 | 9 => 9 | 24 => 44 | 27 => 67 | 40 => 74 | n => n, fun | n => n⟩
theorem lays26 : Go.Proofs.Lays2.n26 Try.prog lays26_ren := {
  mixed := by kernel_rfl
  f26 := Try.func29.trans (congrArg some (by kernel_rfl))
  f33 := Try.func32.trans (congrArg some (by kernel_rfl))
  f34 := Try.func33.trans (congrArg some (by kernel_rfl))
  f38 := Try.func44.trans (congrArg some (by kernel_rfl))
  t0 := Try.underlying0
  a0 := Try.isAgg0
  z0 := Try.sizeOf0
  v0 := Try.zeroValue0
  t3 := Try.underlying3
  a3 := Try.isAgg3
  z3 := Try.sizeOf3
  v3 := Try.zeroValue3
  t4 := Try.underlying4
  a4 := Try.isAgg4
  z4 := Try.sizeOf4
  v4 := Try.zeroValue4
  t9 := Try.underlying9
  a9 := Try.isAgg9
  z9 := Try.sizeOf9
  v9 := Try.zeroValue9
  t24 := Try.underlying44
  a24 := Try.isAgg44
  z24 := Try.sizeOf44
  v24 := Try.zeroValue44
  t40 := Try.underlying74
  a40 := Try.isAgg74
  z40 := Try.sizeOf74
  v40 := Try.zeroValue74 }

/-- How many names stand ahead of s. -/
def cntN (L : List ByteArray) (s : ByteArray) : Nat := (L.takeWhile (fun y => bLtB y s)).length
theorem cnt_lo : ∀ {L : List ByteArray} {s : ByteArray} {t : Nat} (_ : t < cntN L s) (h : t < L.length), bLt (L[t]'h) s
  | [], s, t, ht, h => by simp at h
  | y :: L, s, t, ht, h => by
    unfold cntN at ht
    rw [List.takeWhile_cons] at ht
    by_cases hy : bLtB y s = true
    · rw [if_pos hy] at ht
      cases t with
      | zero => exact bLtB_iff.1 hy
      | succ t => exact cnt_lo (L := L) (s := s) (t := t) (by unfold cntN; simpa using ht) (by simpa using h)
    · rw [if_neg hy] at ht
      simp at ht
theorem cnt_hi : ∀ {L : List ByteArray} {s : ByteArray} {t : Nat}, Rising L → cntN L s ≤ t → ∀ (h : t < L.length), ¬ bLt (L[t]'h) s
  | [], s, t, _, ht, h => by simp at h
  | y :: L, s, t, hR, ht, h => by
    obtain ⟨h1, h2⟩ := List.pairwise_cons.1 hR
    unfold cntN at ht
    rw [List.takeWhile_cons] at ht
    by_cases hy : bLtB y s = true
    · rw [if_pos hy] at ht
      cases t with
      | zero => simp at ht
      | succ t => exact cnt_hi (L := L) (s := s) (t := t) h2 (by unfold cntN; simpa using ht) (by simpa using h)
    · have hy' : ¬ bLt y s := fun h => hy (bLtB_iff.2 h)
      cases t with
      | zero => exact hy'
      | succ t =>
        intro hl
        have hm : L[t]'(by simpa using h) ∈ L := List.getElem_mem _
        exact hy' (bLt_trans (h1 _ hm) hl)
theorem cnt_le (L : List ByteArray) (s : ByteArray) : cntN L s ≤ L.length := by
  unfold cntN
  exact (List.takeWhile_sublist _).length_le
theorem gd_in {L : List ByteArray} (s : ByteArray) {t : Nat} (h : t < L.length) : L.getD t s = L[t]'h := by simp [h]
theorem gd_no {L : List ByteArray} (s : ByteArray) {t : Nat} (h : L.length ≤ t) : L.getD t s = s := by simp [h]
theorem less_bLt (a b : ByteArray) : Op.bytesLess a.toList b.toList = bLtB a b := by
  rw [bytesLess_eq, ByteArray.toList_eq, ByteArray.toList_eq]; rfl
/-- The searched place. -/
theorem bs_at {L : List ByteArray} (hR : Rising L) (s : ByteArray) : Lib.bsGo (fun t => Op.bytesLess (L.getD t s).toList s.toList) L.length 0 L.length = cntN L s := by
  refine Lib.bsGo_spec _ _ (fun t ht => ?_) (fun t ht => ?_) _ _ _ (by omega) (Nat.zero_le _) (cnt_le _ _)
  · have h := Nat.lt_of_lt_of_le ht (cnt_le L s)
    rw [less_bLt, gd_in _ h]
    exact bLtB_iff.2 (cnt_lo ht h)
  · rw [less_bLt]
    by_cases h : t < L.length
    · rw [gd_in _ h]
      exact bLtB_no (cnt_hi hR ht h)
    · rw [gd_no _ (by omega)]
      exact bLtB_no (bLt_irrefl _)
theorem bs_in {L : List ByteArray} (hR : Rising L) (s : ByteArray) : decide (cntN L s < L.length ∧ L.getD (cntN L s) s = s) = inN L s := by
  cases hi : inN L s with
  | false =>
    refine decide_eq_false ?_
    rintro ⟨h1, h2⟩
    rw [gd_in _ h1] at h2
    exact (inN_no _ _).1 hi (h2 ▸ List.getElem_mem h1)
  | true =>
    refine decide_eq_true ?_
    obtain ⟨i, hl, e⟩ := List.mem_iff_getElem.1 ((inN_iff _ _).1 hi)
    have h1 : cntN L s ≤ i := by
      rcases Nat.lt_or_ge i (cntN L s) with h | h
      · have := cnt_lo h hl
        rw [e] at this
        exact absurd this (bLt_irrefl s)
      · exact h
    have hk : cntN L s < L.length := by omega
    refine ⟨hk, ?_⟩
    rw [gd_in _ hk]
    rcases Nat.lt_or_ge (cntN L s) i with h | h
    · have h2 := List.pairwise_iff_getElem.1 hR _ _ hk hl h
      rw [e] at h2
      exact absurd h2 (cnt_hi hR (Nat.le_refl _) hk)
    · have : cntN L s = i := by omega
      simp only [this]
      exact e

/-- slices.BinarySearch of names that rise. -/
theorem search_any {x : Value} {L : List ByteArray} {w : World} (hx : Nms w x L) (hl : L.length ≤ 10000000) (hR : Rising L) (s : ByteArray) :
    Calls Try.prog 29 #[x, .string s] w fun e w' => ∃ i : Int, e = .returned (.tuple #[.int .i64 i, .bool (inN L s)]) ∧ ∃ q, w' = w.drewN q := by
  obtain ⟨ao, cap, rfl, hcap, hm⟩ := hx.form
  unfold maxLen at hm
  cases hL : L with
  | nil =>
    refine (Any2.slices_BinarySearch_string_empty lays26 ao cap s w).mono ?_
    rintro e w' ⟨rfl, rfl⟩
    exact ⟨0, rfl, 0, rfl⟩
  | cons y M =>
    rw [← hL]
    obtain ⟨b, off, rfl, -, -⟩ := hx.at 0 (by rw [hL]; simp)
    refine (Any2.slices_BinarySearch_string lays26 b off L.length cap (fun t => L.getD t s) s w (by omega) (fun j hj => ?_)).mono ?_
    · obtain ⟨b', off', e, -, hc⟩ := hx.at j hj
      cases e
      rw [hc, gd_in _ hj]
    · rintro e w' ⟨rfl, hw⟩
      rw [bs_at hR, bs_in hR]
      exact ⟨_, rfl, hw⟩
end Go.Proofs.Ytcpdikhiodbdjaa
