/-
  Plain facts for the walk of RelationMatches; Match as that calls it: by one value; by a row's own two; on a place that is none; without values.
-/
import Derived.Test.YtfjkfblejfiglaaRLaw1
import Derived.Test.YtfjkfblejfiglaaTRefSort
namespace Go.Proofs.Ytfjkfblejfiglaa
set_option linter.unusedSimpArgs false
set_option linter.unusedVariables false
set_option linter.unusedSectionVars false
set_option maxRecDepth 100000
open Go.RowKit Go.Maps
variable [DecidableEq V]

/-- A row has a value at a place. -/
def pvB (cn : Nat) (v : V) (r : List V) : Bool := decide (r.getD cn vZ = v.bare)
theorem sel_one {M : List (List V)} {N : Nat} (hN : M.length = N) (cn : Nat) (v : V) : sel M 0 N [(cn : Int)] [v] false = M.filter (pvB cn v) := by
  unfold sel
  simp only [Bool.false_eq_true, if_false, List.drop_zero, Nat.sub_zero]
  rw [List.take_of_length_le (by omega)]
  apply List.filter_congr
  intro r _
  simp [holdB, pvB]
theorem two_at {r : List V} (h : r.length = 2) : r = [r.getD 0 vZ, r.getD 1 vZ] := by
  match r, h with
  | [a, b], _ => rfl
theorem sel_own {M : List (List V)} {N : Nat} (hN : M.length = N) (hb : ∀ r ∈ M, r.length = 2 ∧ ∀ v ∈ r, v.bare = v) (hn : M.Nodup) {r0 : List V} (h0 : r0 ∈ M) : sel M 0 N [0, 1] r0 false = [r0] := by
  unfold sel
  simp only [Bool.false_eq_true, if_false, List.drop_zero, Nat.sub_zero]
  rw [List.take_of_length_le (by omega)]
  obtain ⟨l0, b0⟩ := hb r0 h0
  have key : ∀ r ∈ M, holdB [0, 1] r0 r = decide (r = r0) := fun r hr => by
    obtain ⟨l1, b1⟩ := hb r hr
    match r0, l0, r, l1 with
    | [a, b], _, [x, y], _ =>
      have ea : a.bare = a := b0 a (by simp)
      have eb : b.bare = b := b0 b (by simp)
      simp [holdB, List.range, List.range.loop, ea, eb]
  rw [List.filter_congr key]
  clear key hb hN l0 b0
  induction M with
  | nil => simp at h0
  | cons r M ih =>
    have hn' := List.nodup_cons.1 hn
    by_cases e : r = r0
    · subst e
      rw [List.filter_cons_of_pos (by simp)]
      congr 1
      rw [List.filter_eq_nil_iff]
      intro x hx h
      simp at h
      subst h
      exact hn'.1 hx
    · rw [List.filter_cons_of_neg (by simp [e])]
      exact ih hn'.2 (by rcases List.mem_cons.1 h0 with h | h; exact absurd h.symm e; exact h)
theorem srt_filter {M : List (List V)} (hu : Unlike M) (p : List V → Bool) : srt (M.filter p) = (srt M).filter p := by
  apply rise_one (srt_rise _) ((srt_rise M).sublist List.filter_sublist)
  intro v
  rw [srt_mem, first_unlike (hu.sublist List.filter_sublist), List.mem_filter, List.mem_filter, srt_mem, first_unlike hu]
/-- How many of the first i are so. -/
def cnt (p : List V → Bool) (A : List (List V)) (i : Nat) : Nat := ((A.take i).filter p).length
theorem cnt_step {p : List V → Bool} {A : List (List V)} {i : Nat} (hi : i < A.length) : cnt p A (i + 1) = cnt p A i + (if p A[i] = true then 1 else 0) := by
  unfold cnt
  rw [filter_snoc p A hi, List.length_append]
  split <;> simp
theorem cnt_at {p : List V → Bool} {A : List (List V)} {i : Nat} (hi : i < A.length) (hp : p A[i] = true) : ∃ h : cnt p A i < (A.filter p).length, (A.filter p)[cnt p A i] = A[i] := by
  have e : A.filter p = (A.take i).filter p ++ ([A[i]] ++ (A.drop (i + 1)).filter p) := by
    conv => lhs; rw [← List.take_append_drop i A, List.drop_eq_getElem_cons hi]
    rw [List.filter_append, List.filter_cons_of_pos hp]
    rfl
  have hl : cnt p A i < (A.filter p).length := by rw [e]; simp [cnt]
  refine ⟨hl, ?_⟩
  have := List.getElem_of_eq e hl
  rw [this, List.getElem_append_right (by simp [cnt])]
  simp [cnt]
theorem cnt_all (p : List V → Bool) (A : List (List V)) : cnt p A A.length = (A.filter p).length := by unfold cnt; rw [List.take_of_length_le (Nat.le_refl _)]
theorem cnt_le (p : List V → Bool) (A : List (List V)) (i : Nat) : cnt p A i ≤ i := by
  unfold cnt
  refine Nat.le_trans (List.length_filter_le _ _) ?_
  simp; omega
theorem pv_cmp {r : List V} {v : V} {cn : Nat} (hr : ∀ u ∈ r, u.bare = u) (h : cn < r.length) : (rcmp [r[cn]] [v] == 0) = pvB cn v r := by
  unfold pvB
  apply Bool.eq_iff_iff.2
  rw [beq_iff_eq, rcmp_bare, decide_eq_true_eq, getD_at h]
  have := hr _ (List.getElem_mem h)
  simp [this]

theorem vals_second1 (w : World) (o : Obj) {u : V} (hu : u.Ok) : Vals ((w.alloc o).alloc (.cells #[.bool u.k, .string u.s, .int .i64 u.n] 55)) (.slice (some ⟨w.heap.size + 1, 0, none⟩) 1 1) [u] := by
  have := vals_new1 (w.alloc o) hu
  have hs : (w.alloc o).heap.size = w.heap.size + 1 := by simp
  rwa [hs] at this
section
variable {w : World} {B : Nat} {F : Nat → Prop} {rb c N : Nat} {M : List (List V)} {v : V}
theorem one_below (w : World) (z : Int) (v : V) : Below w.heap.size w ((w.alloc (.cells #[.int .i64 z] 3)).alloc (.cells #[.bool v.k, .string v.s, .int .i64 v.n] 55)) := ((Below.refl _ _).alloc (Nat.le_refl _) _).alloc (by simp) _
theorem match_one (hR : Rln w B F rb 2 c M 0 N) (hN : M.length = N) (hc : c < 10000) (hv : v.Ok) (cn : Nat) (hcn : cn < 2) {z : Int} (hz : z = (cn : Int)) :
    Calls Try.prog 16 #[.pointer (some ⟨rb, 0, none⟩), .slice (some ⟨w.heap.size, 0, none⟩) 1 1, .slice (some ⟨w.heap.size + 1, 0, none⟩) 1 1, .bool false] ((w.alloc (.cells #[.int .i64 z] 3)).alloc (.cells #[.bool v.k, .string v.s, .int .i64 v.n] 55))
      fun e w' => ∃ xo xc D, e = .returned (.tuple #[.slice xo D.length xc, .int .i64 0]) ∧ Below w.heap.size w w' ∧ Grid w' (.slice xo D.length xc) D ∧ D.map R.vs = (srt M).filter (pvB cn v) := by
  have hW := one_below w z v
  refine (match_rln (hR.below hW) ((Ints.one w z).below ((Below.refl _ _).alloc (Nat.le_refl _) _)) (vals_second1 w _ hv) hc (by simp) false).mono ?_
  subst hz
  rintro e w' ⟨hb, ⟨hno, -⟩ | ⟨-, xo, xc, D, rfl, hO, hE⟩⟩
  · exact absurd ⟨rfl, fun z hz => by rw [List.mem_singleton.1 hz]; omega⟩ hno
  · rw [sel_one hN] at hO hE
    have hu := hR.unlike
    have hl : D.length = (M.filter (pvB cn v)).length := by
      have := congrArg List.length hE
      rw [srt_len (hu.sublist List.filter_sublist)] at this
      simpa using this
    rw [sel_one hN, ← hl]
    rw [← hl] at hO
    exact ⟨xo, xc, D, rfl, hW.trans (hb.mono hW.size), hO.grid, by rw [hE, srt_filter hu]⟩
theorem match_own (hR : Rln w B F rb 2 c M 0 N) (hN : M.length = N) (hc : c < 10000) {y : Value} {r0 : List V} (hy : Vals w y r0) (h0 : r0 ∈ M) :
    Calls Try.prog 16 #[.pointer (some ⟨rb, 0, none⟩), .slice (some ⟨w.heap.size, 0, none⟩) 2 2, y, .bool false] (w.alloc (.cells #[.int .i64 0, .int .i64 1] 3))
      fun e w' => ∃ g o xc hv, e = .returned (.tuple #[.slice (some ⟨g, o, none⟩) 1 xc, .int .i64 0]) ∧ Below w.heap.size w w' ∧ w'.cell? ⟨g, o, none⟩ = some hv ∧ g < w'.heap.size ∧ Vals w' hv r0 := by
  have hW : Below w.heap.size w (w.alloc (.cells #[.int .i64 0, .int .i64 1] 3)) := (Below.refl _ _).alloc (Nat.le_refl _) _
  have hr := hR.rows r0 h0
  refine (match_rln (hR.below hW) (Ints.two w 0 1) (hy.below hW) hc (by omega) false).mono ?_
  rintro e w' ⟨hb, ⟨hno, -⟩ | ⟨-, xo, xc, D, rfl, hO, hE⟩⟩
  · exact absurd ⟨by simp [hr.1], fun z hz => by simp at hz; omega⟩ hno
  · rw [sel_own hN hR.rows hR.nodup h0] at hO hE ⊢
    have e1 : srt [r0] = [r0] := by
      have : Rise [r0] := List.pairwise_singleton _ _
      exact srt_rising this
    rw [e1] at hE
    have hl : D.length = 1 := by have := congrArg List.length hE; simpa using this
    obtain ⟨g, o, rfl, c0, hlt, v1, -⟩ := hO.grid.at (Below.refl _ _) 0 (by omega)
    have hv : (D[0]'(by omega)).vs = r0 := by
      have := List.getElem_of_eq hE (i := 0) (by simp; omega)
      simpa using this
    rw [hv] at v1
    exact ⟨g, o, xc, _, rfl, hW.trans (hb.mono hW.size), by simpa using c0, hlt, v1⟩
theorem match_two (hR : Rln w B F rb 2 c M 0 N) (hc : c < 10000) (hv : v.Ok) :
    Calls Try.prog 16 #[.pointer (some ⟨rb, 0, none⟩), .slice (some ⟨w.heap.size, 0, none⟩) 1 1, .slice (some ⟨w.heap.size + 1, 0, none⟩) 1 1, .bool false] ((w.alloc (.cells #[.int .i64 2] 3)).alloc (.cells #[.bool v.k, .string v.s, .int .i64 v.n] 55))
      fun e w' => e = .returned (.tuple #[.slice none 0 0, .int .i64 1]) ∧ Below w.heap.size w w' := by
  have hW := one_below w 2 v
  refine (match_rln (hR.below hW) ((Ints.one w 2).below ((Below.refl _ _).alloc (Nat.le_refl _) _)) (vals_second1 w _ hv) hc (by simp) false).mono ?_
  rintro e w' ⟨hb, ⟨hno, he⟩ | ⟨⟨-, hp⟩, -⟩⟩
  · exact ⟨he, hW.trans (hb.mono hW.size)⟩
  · have := hp 2 (by simp); omega
theorem match_zero (hR : Rln w B F rb 2 c M 0 N) (hc : c < 10000) :
    Calls Try.prog 16 #[.pointer (some ⟨rb, 0, none⟩), .slice (some ⟨w.heap.size, 0, none⟩) 1 1, .slice none 0 0, .bool false] (w.alloc (.cells #[.int .i64 0] 3))
      fun e w' => e = .returned (.tuple #[.slice none 0 0, .int .i64 1]) ∧ Below w.heap.size w w' := by
  have hW : Below w.heap.size w (w.alloc (.cells #[.int .i64 0] 3)) := (Below.refl _ _).alloc (Nat.le_refl _) _
  refine (match_rln (hR.below hW) (Ints.one w 0) (Vals.nil _) hc (by simp) false).mono ?_
  rintro e w' ⟨hb, ⟨hno, he⟩ | ⟨⟨hl, -⟩, -⟩⟩
  · exact ⟨he, hW.trans (hb.mono hW.size)⟩
  · simp at hl
theorem has_yes (hR : Rln w B F rb 2 c M 0 N) (hc : c < 10000) {y : Value} {r0 : List V} (hy : Vals w y r0) (h0 : r0 ∈ M) :
    Calls Try.prog 19 #[.pointer (some ⟨rb, 0, none⟩), y] w fun e w' => e = .returned (.bool true) ∧ Below w.heap.size w w' := by
  refine (has_rln hR hy hc).mono ?_
  rintro e w' ⟨he, hb⟩
  rw [map_bare (hR.rows r0 h0).2, decide_eq_true h0] at he
  exact ⟨he, hb⟩
end
theorem Box.at' {w w' : World} {b B : Nat} {v : V} (h : Box w b v) (hb : Below B w w') (hlt : b < B) : Box w' b v :=
  ⟨(hb.cell (p := ⟨b, 0, none⟩) hlt).trans h.1, (hb.cell (p := ⟨b, 1, none⟩) hlt).trans h.2.1, (hb.cell (p := ⟨b, 2, none⟩) hlt).trans h.2.2.1, Nat.lt_of_lt_of_le h.2.2.2 hb.size⟩
theorem seven_keep {wr W w' : World} {ga oa pb o0 o1 o2 qa : Nat} {x x0 x1 x2 a0 a1 a2 : Value}
    (h : W.cell? ⟨ga, oa, none⟩ = some x ∧ ga < W.heap.size ∧ W.cell? ⟨pb, o0, none⟩ = some x0 ∧ W.cell? ⟨pb, o1, none⟩ = some x1 ∧ W.cell? ⟨pb, o2, none⟩ = some x2 ∧ pb < W.heap.size ∧ W.cell? ⟨qa, 0, none⟩ = some a0 ∧ W.cell? ⟨qa, 1, none⟩ = some a1 ∧ W.cell? ⟨qa, 2, none⟩ = some a2 ∧ qa < W.heap.size ∧ Below wr.heap.size wr W) (hb : Below W.heap.size W w') :
    w'.cell? ⟨ga, oa, none⟩ = some x ∧ ga < w'.heap.size ∧ w'.cell? ⟨pb, o0, none⟩ = some x0 ∧ w'.cell? ⟨pb, o1, none⟩ = some x1 ∧ w'.cell? ⟨pb, o2, none⟩ = some x2 ∧ pb < w'.heap.size ∧ w'.cell? ⟨qa, 0, none⟩ = some a0 ∧ w'.cell? ⟨qa, 1, none⟩ = some a1 ∧ w'.cell? ⟨qa, 2, none⟩ = some a2 ∧ qa < w'.heap.size ∧ Below wr.heap.size wr w' := by
  obtain ⟨h0, hg, h1, h2, h3, hp, k0, k1, k2, hq, hB⟩ := h
  have hs := hb.size
  exact ⟨(hb.cell (p := ⟨ga, oa, none⟩) hg).trans h0, by omega, (hb.cell (p := ⟨pb, o0, none⟩) hp).trans h1, (hb.cell (p := ⟨pb, o1, none⟩) hp).trans h2, (hb.cell (p := ⟨pb, o2, none⟩) hp).trans h3, by omega, (hb.cell (p := ⟨qa, 0, none⟩) hq).trans k0, (hb.cell (p := ⟨qa, 1, none⟩) hq).trans k1, (hb.cell (p := ⟨qa, 2, none⟩) hq).trans k2, by omega, hB.trans (hb.mono hB.size)⟩
end Go.Proofs.Ytfjkfblejfiglaa
