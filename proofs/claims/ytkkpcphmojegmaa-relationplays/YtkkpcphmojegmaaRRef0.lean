/-
  The document's relation (lambrequinref04): rows in three lists. Contracts of its in, Has.
-/
import Derived.Test.YtkkpcphmojegmaaRLaw1
import Derived.Test.YtkkpcphmojegmaaTRefSort
namespace Go.Proofs.Ytkkpcphmojegmaa
set_option linter.unusedSimpArgs false
set_option linter.unusedVariables false
set_option linter.unusedSectionVars false
set_option maxRecDepth 100000
open Go.RowKit Go.Maps
variable [DecidableEq V]

/-- x is a list of the rows L, in memory that is there. -/
def Gr (w : World) (x : Value) (L : List (List V)) : Prop := ∃ D : List R, Grid w x D ∧ NilCap x ∧ D.map R.vs = L
theorem Gr.below {w w' : World} {x : Value} {L : List (List V)} (h : Gr w x L) (hb : Below w.heap.size w w') : Gr w' x L := let ⟨D, a, b, c⟩ := h; ⟨D, a.below hb, b, c⟩
theorem Gr.form {w : World} {x : Value} {L : List (List V)} (h : Gr w x L) : ∃ ao cap, x = .slice ao L.length cap ∧ L.length ≤ maxLen := by
  obtain ⟨D, a, b, c⟩ := h
  obtain ⟨ao, cap, e, hm⟩ := a.len
  have : D.length = L.length := by rw [← c]; simp
  exact ⟨ao, cap, by rw [e, this], by omega⟩
theorem Gr.nil (w : World) : Gr w (.slice none 0 0) [] := ⟨[], Grid.nothing w, fun n c e => by injection e with _ _ e; exact e.symm, rfl⟩
theorem Gr.own {w : World} {B : Nat} {x : Value} {D : List R} {L : List (List V)} (h : OwnG w B x D) (hL : D.map R.vs = L) : Gr w x L := ⟨D, h.grid, h.nilcap, hL⟩
theorem Gr.at {w : World} {ao : Option Addr} {n cap : Nat} {L : List (List V)} (h : Gr w (.slice ao n cap) L) (k : Nat) (hk : k < L.length) : ∃ b off hv, ao = some ⟨b, off, none⟩ ∧ w.cell? ⟨b, off + k, none⟩ = some hv ∧ b < w.heap.size ∧ Vals w hv L[k] := by
  obtain ⟨D, a, -, c⟩ := h
  subst c
  obtain ⟨b, off, e, c0, hlt, v1, -⟩ := a.at (Below.refl _ _) k (by simpa using hk)
  exact ⟨b, off, _, e, c0, hlt, by simpa using v1⟩
/-- A row alike is one of some. -/
def inB (L : List (List V)) (vs : List V) : Bool := L.any fun r => rcmp r vs == 0
theorem inB_bare {L : List (List V)} {vs : List V} (hb : Bare L) : inB L vs = decide (vs.map V.bare ∈ L) := by
  apply Bool.eq_iff_iff.2
  simp only [inB, List.any_eq_true, beq_iff_eq, decide_eq_true_eq, rcmp_bare]
  constructor
  · rintro ⟨r, hr, e⟩
    rw [map_bare (hb r hr)] at e
    rw [← e]; exact hr
  · intro h
    exact ⟨_, h, map_bare (hb _ h)⟩

set_option maxHeartbeats 1600000 in
theorem refIn_any {w : World} {x y : Value} {L : List (List V)} {vs : List V} (hx : Gr w x L) (hy : Vals w y vs) :
    Calls Try.prog 33 #[x, y] w fun e w' => e = .returned (.bool (inB L vs)) ∧ Below w.heap.size w w' := by
  obtain ⟨ao, cap, rfl, hm⟩ := hx.form
  obtain ⟨bo, bc, rfl, -⟩ := hy.len
  unfold maxLen at hm
  have HX := Lib.hid hx
  have HY := Lib.hid hy
  clear hx hy
  go_enter Try.func33, Try.ntmps33
  go_wp2_with fail
  go_loopw [5] (fun i wr => ∃ k : Nat, k ≤ L.length ∧ i = .int .i64 k ∧ Hid (∀ j (hj : j < L.length), j < k → rcmp L[j] vs ≠ 0) ∧ Hid (Below w.heap.size w wr)) (fun i _ => L.length - (intOf i).toNat)
  case atStart => exact ⟨0, Nat.zero_le _, rfl, fun j hj h => absurd h (by omega), Below.refl _ _⟩
  case round =>
    obtain ⟨k, hk, rfl, HN, HB⟩ := hrel
    by_cases hlt : k < L.length
    · have h1I : (k : Int) < (L.length : Int) := by omega
      obtain ⟨b, off, hv, rfl, c0, hbl, v1⟩ := (HX.out.below HB.out).at k hlt
      have hC := Lib.hid (refRow_cmp v1 (HY.out.below HB.out))
      have HYES : Hid (rcmp L[k] vs = 0 → inB L vs = true) := fun h => List.any_eq_true.2 ⟨_, List.getElem_mem hlt, by simp [h]⟩
      have HNXT : Hid (rcmp L[k] vs ≠ 0 → ∀ j (hj : j < L.length), j < k + 1 → rcmp L[j] vs ≠ 0) := fun h j hj hjk => by
        by_cases e : j = k
        · subst e; exact h
        · exact HN.out j hj (by omega)
      generalize rcmp L[k] vs = z at *
      clear v1 HN
      by_cases hz : z = 0
      · have HE := Lib.hid (HYES.out hz)
        subst hz
        go_wp2_with fail
        refine (hC.out).mono ?_
        rintro e w2 ⟨rfl, hb2⟩
        have HB2 : Hid (Below w.heap.size w w2) := HB.out.trans (hb2.mono HB.out.size)
        clear hb2 hC
        go_wp2
        go_ret
        exact ⟨by rw [HE.out]; rfl, HB2.out⟩
      · have HN2 := Lib.hid (HNXT.out hz)
        have hzb : (z == 0) = false := by simp [hz]
        go_wp2_with fail
        refine (hC.out).mono ?_
        rintro e w2 ⟨rfl, hb2⟩
        have HB2 : Hid (Below w.heap.size w w2) := HB.out.trans (hb2.mono HB.out.size)
        clear hb2 hC
        go_wp2
        go_roundw
        case rel => exact ⟨k + 1, by omega, by go_num, HN2, HB2⟩
        case measure => simp [intOf]; omega
    · have h1I : ¬ (k : Int) < (L.length : Int) := by omega
      have HE : Hid (inB L vs = false) := by
        show _ = _
        rw [inB, List.any_eq_false]
        intro r hr h
        obtain ⟨j, hj, rfl⟩ := List.mem_iff_getElem.1 hr
        exact HN.out j hj (by omega) (by simpa using h)
      go_wp2
      go_ret
      exact ⟨by rw [HE.out]; rfl, HB.out⟩

/-- The document's relation as a value: its arity and three lists. -/
structure RRel (w : World) (xn xd xf : Value) (N D F : List (List V)) : Prop where
  n : Gr w xn N
  d : Gr w xd D
  f : Gr w xf F
theorem RRel.below {w w' : World} {xn xd xf : Value} {N D F : List (List V)} (h : RRel w xn xd xf N D F) (hb : Below w.heap.size w w') : RRel w' xn xd xf N D F := ⟨h.n.below hb, h.d.below hb, h.f.below hb⟩
theorem four_keep {w w' : World} {b : Nat} {a0 a1 a2 a3 : Value} (h : w.cell? ⟨b, 0, none⟩ = some a0 ∧ w.cell? ⟨b, 1, none⟩ = some a1 ∧ w.cell? ⟨b, 2, none⟩ = some a2 ∧ w.cell? ⟨b, 3, none⟩ = some a3 ∧ b < w.heap.size) (hb : Below w.heap.size w w') :
    w'.cell? ⟨b, 0, none⟩ = some a0 ∧ w'.cell? ⟨b, 1, none⟩ = some a1 ∧ w'.cell? ⟨b, 2, none⟩ = some a2 ∧ w'.cell? ⟨b, 3, none⟩ = some a3 ∧ b < w'.heap.size :=
  ⟨(hb.cell (p := ⟨b, 0, none⟩) h.2.2.2.2).trans h.1, (hb.cell (p := ⟨b, 1, none⟩) h.2.2.2.2).trans h.2.1, (hb.cell (p := ⟨b, 2, none⟩) h.2.2.2.2).trans h.2.2.1, (hb.cell (p := ⟨b, 3, none⟩) h.2.2.2.2).trans h.2.2.2.1, Nat.lt_of_lt_of_le h.2.2.2.2 hb.size⟩

set_option maxHeartbeats 1600000 in
theorem refHas_any {w : World} {ar : Int} {xn xd xf y : Value} {N D F : List (List V)} {vs : List V} (hR : RRel w xn xd xf N D F) (hy : Vals w y vs) :
    Calls Try.prog 16 #[.agg #[.int .i64 ar, xn, xd, xf], y] w fun e w' => e = .returned (.bool (inB N vs || inB D vs || inB F vs)) ∧ Below w.heap.size w w' := by
  obtain ⟨no, nc, rfl, -⟩ := hR.n.form
  obtain ⟨eo, ec, rfl, -⟩ := hR.d.form
  obtain ⟨fo, fc, rfl, -⟩ := hR.f.form
  have HR := Lib.hid hR
  have HY := Lib.hid hy
  obtain ⟨bo, bc, rfl, -⟩ := hy.len
  clear hR hy
  go_enter Try.func16, Try.ntmps16
  obtain ⟨w0, hw0⟩ : ∃ w0, w0 = w.alloc (.cells #[.int .i64 ar, .slice no N.length nc, .slice eo D.length ec, .slice fo F.length fc] 29) := ⟨_, rfl⟩
  have HC0 : Hid (w0.cell? ⟨w.heap.size, 0, none⟩ = some (.int .i64 ar) ∧ w0.cell? ⟨w.heap.size, 1, none⟩ = some (.slice no N.length nc) ∧ w0.cell? ⟨w.heap.size, 2, none⟩ = some (.slice eo D.length ec) ∧ w0.cell? ⟨w.heap.size, 3, none⟩ = some (.slice fo F.length fc) ∧ w.heap.size < w0.heap.size) := by
    show _ ∧ _
    rw [hw0]; exact ⟨by simp, by simp, by simp, by simp, by simp⟩
  have HB0 : Hid (Below w.heap.size w w0) := by show Below _ _ _; rw [hw0]; exact (Below.refl _ _).alloc (Nat.le_refl _) _
  have hI := Lib.hid (refIn_any (HR.out.below HB0.out).n (HY.out.below HB0.out))
  go_wp2_with fail
  try rw [← hw0]
  clear hw0
  refine (hI.out).mono ?_
  rintro e w1 ⟨rfl, hb1⟩
  have HB1 : Hid (Below w.heap.size w w1) := HB0.out.trans (hb1.mono HB0.out.size)
  have hc1 := four_keep HC0.out hb1
  have HC1 := Lib.hid hc1
  have hJ := Lib.hid (refIn_any (HR.out.below HB1.out).d (HY.out.below HB1.out))
  obtain ⟨d0, d1, d2, d3, d4⟩ := hc1
  clear hb1 hI HC0 HB0
  obtain ⟨b1, e1⟩ : ∃ b, inB N vs = b := ⟨_, rfl⟩
  rw [e1]
  have E1 := Lib.hid e1
  clear e1
  cases b1 with
  | true =>
    go_wp2
    go_ret
    exact ⟨by rw [E1.out]; rfl, HB1.out⟩
  | false =>
    go_wp2_with fail
    refine (hJ.out).mono ?_
    rintro e w2 ⟨rfl, hb2⟩
    have HB2 : Hid (Below w.heap.size w w2) := HB1.out.trans (hb2.mono HB1.out.size)
    have hc2 := four_keep HC1.out hb2
    have hK := Lib.hid (refIn_any (HR.out.below HB2.out).f (HY.out.below HB2.out))
    clear d0 d1 d2 d3 d4 hb2 hJ HB1 HC1
    obtain ⟨d0, d1, d2, d3, d4⟩ := hc2
    obtain ⟨b2, e2⟩ : ∃ b, inB D vs = b := ⟨_, rfl⟩
    rw [e2]
    have E2 := Lib.hid e2
    clear e2
    cases b2 with
    | true =>
      go_wp2
      go_ret
      exact ⟨by rw [E1.out, E2.out]; rfl, HB2.out⟩
    | false =>
      go_wp2_with fail
      refine (hK.out).mono ?_
      rintro e w3 ⟨rfl, hb3⟩
      have HB3 : Hid (Below w.heap.size w w3) := HB2.out.trans (hb3.mono HB2.out.size)
      clear d0 d1 d2 d3 d4 hb3 hK
      obtain ⟨b3, e3⟩ : ∃ b, inB F vs = b := ⟨_, rfl⟩
      rw [e3]
      have E3 := Lib.hid e3
      clear e3
      go_wp2
      go_ret
      exact ⟨by rw [E1.out, E2.out, E3.out]; simp, HB3.out⟩
end Go.Proofs.Ytkkpcphmojegmaa
