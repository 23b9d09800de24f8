/-
  Contracts of symtab's finder (numberOf, count, valueOf) over a table: what each returns; of old memory nothing turns.
-/
import Derived.Test.YtkkpcphmojegmaaRBare
import Derived.Deep.QuietTactic
import Derived.BigQuiet
import Derived.Deep.RegionHeld3
import Derived.Deep.DrawnRows
namespace Go.Proofs.Ytkkpcphmojegmaa
set_option linter.unusedSimpArgs false
set_option linter.unusedVariables false
set_option linter.unusedSectionVars false
set_option maxRecDepth 100000
open Go.RowKit Go.Maps
variable [DecidableEq V]

/-- Where a value stands, 0 if nowhere. -/
def at0 (L : List V) (v : V) : Int := if v ∈ L then (L.idxOf v : Nat) else 0

theorem Tbl.look {w : World} {B : Nat} {F : Nat → Prop} {tb : Nat} {X : Ex} {L : List V} (h : Tbl w B F tb X L) {v : V} (hv : v.Ok) :
    ∃ (mo : Option Nat) (sv : Value), w.cell? ⟨tb, 0, none⟩ = some (.map mo) ∧ w.cell? ⟨tb, 1, none⟩ = some sv ∧ tb < w.heap.size ∧
      ∀ w1 : World, (∀ k, k < w.heap.size → w1.heap[k]? = w.heap[k]?) → (Instr.lookup 59 (.map mo) (.agg #[.bool v.k, .string v.s, .int .i64 v.n]) true).run Try.prog w1 = .ok (.tuple #[.int .i64 (at0 L v), .bool (decide (v ∈ L))]) w1 := by
  have hlt := h.lt
  obtain ⟨mo, sv, h0, h1, h2, h3, h4, h5, h6, h7, h8⟩ := h
  refine ⟨mo, sv, by rw [cell_of_row w tb 0 _ _ _ h0]; rfl, by rw [cell_of_row w tb 1 _ _ _ h0]; rfl, hlt, fun w1 hw => ?_⟩
  cases mo with
  | none =>
    obtain rfl := h2 rfl
    have := Maps.look_nil (w := w1) true lawVal Try.underlying59 (zeroInt _) (keyVal hv)
    simpa [at0] using this
  | some mb =>
    obtain ⟨D, a, b⟩ := h3 mb rfl
    have a1 := ownsMap_block (w' := w1) a (hw mb (h7 mb (h5 mb rfl)).2)
    obtain ⟨x, ps, hrun, hx⟩ := a1.look_ok lawVal Try.underlying59 (zeroInt _) (plainElem_int Try.underlying3 (by decide)) (keyVal hv)
    obtain ⟨c, rfl, hc, _⟩ := plainElem_int_inv Try.underlying3 hx
    obtain ⟨b1, b2⟩ := b v hv
    rw [b2] at hc
    simp at hc
    rw [b1, ← hc.1] at hrun
    exact hrun

set_option maxHeartbeats 800000 in
theorem numberOf_any {w : World} {B : Nat} {F : Nat → Prop} {tb : Nat} {X : Ex} {L : List V} (hT : Tbl w B F tb X L) {v : V} (hv : v.Ok) :
    Calls Try.prog 42 #[.pointer (some ⟨tb, 0, none⟩), .agg #[.bool v.k, .string v.s, .int .i64 v.n]] w
      fun e w' => e = .returned (.tuple #[.int .i64 (at0 L v), .bool (decide (v ∈ L))]) ∧ Below w.heap.size w w' := by
  obtain ⟨mo, sv, c0, c1, hlt, hrun⟩ := hT.look hv
  have hrun1 : ∀ nq, (Instr.lookup 59 (.map mo) (.agg #[.bool v.k, .string v.s, .int .i64 v.n]) true).run Try.prog ((w.alloc (.cells #[.bool v.k, .string v.s, .int .i64 v.n] 55)).drewN nq) = .ok (.tuple #[.int .i64 (at0 L v), .bool (decide (v ∈ L))]) ((w.alloc (.cells #[.bool v.k, .string v.s, .int .i64 v.n] 55)).drewN nq) :=
    fun nq => hrun _ (fun k hk => Below.heap_alloc _ _ _ hk)
  clear hrun hT
  go_enter Try.func42, Try.ntmps42
  go_wp2
  go_quiet (fail)
  go_wp2
  go_ret2
  exact ⟨rfl, below_drewN' ((Below.refl _ _).alloc (Nat.le_refl _) _) _⟩
/-- The list's own cell: as long as L; each value's cells. -/
theorem Tbl.list {w : World} {B : Nat} {F : Nat → Prop} {tb : Nat} {X : Ex} {L : List V} (h : Tbl w B F tb X L) :
    ∃ (ao : Option Addr) (cap : Nat), w.cell? ⟨tb, 1, none⟩ = some (.slice ao L.length cap) ∧ L.length ≤ maxLen ∧ tb < w.heap.size ∧
      ∀ i (hi : i < L.length), ∃ g, ao = some ⟨g, 0, none⟩ ∧ g < w.heap.size ∧ w.cell? ⟨g, i * 3, none⟩ = some (.bool L[i].k) ∧ w.cell? ⟨g, i * 3 + 1, none⟩ = some (.string L[i].s) ∧ w.cell? ⟨g, i * 3 + 2, none⟩ = some (.int .i64 L[i].n) := by
  have hlt := h.lt
  obtain ⟨mo, sv, h0, h1, h2, h3, h4, h5, h6, h7, h8⟩ := h
  have hc : w.cell? ⟨tb, 1, none⟩ = some sv := by rw [cell_of_row w tb 1 _ _ _ h0]; rfl
  have h1' := h1
  rcases h1.2 with ⟨rfl, hn⟩ | ⟨g, cap, cur, rfl, hb, hgg, hnc, hcm, hcs, htake⟩
  · exact ⟨none, 0, by rw [hc, hn], by rw [hn]; exact Nat.zero_le _, hlt, fun i hi => absurd hi (by omega)⟩
  · refine ⟨some ⟨g, 0, none⟩, cap, hc, by omega, hlt, fun i hi => ⟨g, rfl, (Array.getElem?_eq_some_iff.1 hgg).1, ?_⟩⟩
    obtain ⟨e0, e1, e2⟩ := flat_at L i hi
    have hadd : ∀ j, (⟨g, 0, none⟩ : Addr).add j = ⟨g, j, none⟩ := fun j => by unfold Addr.add; split <;> simp_all
    have c := h1'.cells (g := g) rfl
    exact ⟨by rw [← hadd]; exact c _ _ e0, by rw [← hadd]; exact c _ _ e1, by rw [← hadd]; exact c _ _ e2⟩

set_option maxHeartbeats 800000 in
theorem valueOf_yes {w : World} {B : Nat} {F : Nat → Prop} {tb : Nat} {X : Ex} {L : List V} (hT : Tbl w B F tb X L) (i : Nat) (hi : i < L.length) :
    Calls Try.prog 53 #[.pointer (some ⟨tb, 0, none⟩), .int .i64 i] w
      fun e w' => e = .returned (.tuple #[.agg #[.bool L[i].k, .string L[i].s, .int .i64 L[i].n], .bool true]) ∧ Below w.heap.size w w' := by
  obtain ⟨ao, cap, c1, hm, hlt, hl⟩ := hT.list
  obtain ⟨g, rfl, hg, g0, g1, g2⟩ := hl i hi
  unfold maxLen at hm
  have h0 : ¬ (i : Int) < 0 := by omega
  have h1 : (i : Int) < (L.length : Int) := by omega
  clear hl hT
  generalize L[i] = v at *
  generalize L.length = n at *
  go_enter Try.func53, Try.ntmps53
  go_wp2
  exact bodyPost_ret (v := .tuple #[.agg #[.bool v.k, .string v.s, .int .i64 v.n], .bool true]) (by simp [results, Try.results53, go_sem]) rfl ⟨rfl, (Below.refl _ _).alloc (Nat.le_refl _) _⟩

set_option maxHeartbeats 800000 in
theorem valueOf_no {w : World} {B : Nat} {F : Nat → Prop} {tb : Nat} {X : Ex} {L : List V} (hT : Tbl w B F tb X L) (i : Int) (hi : i < 0 ∨ (L.length : Int) ≤ i) :
    Calls Try.prog 53 #[.pointer (some ⟨tb, 0, none⟩), .int .i64 i] w
      fun e w' => e = .returned (.tuple #[.agg #[.bool false, .string ⟨#[]⟩, .int .i64 0], .bool false]) ∧ Below w.heap.size w w' := by
  obtain ⟨ao, cap, c1, hm, hlt, -⟩ := hT.list
  unfold maxLen at hm
  clear hT
  generalize L.length = n at *
  by_cases h0 : i < 0
  · have h0' : decide (i < 0) = true := by simp [h0]
    clear hi
    go_enter Try.func53, Try.ntmps53
    go_wp2
    exact bodyPost_ret (v := .tuple #[.agg #[.bool false, .string ⟨#[]⟩, .int .i64 0], .bool false]) (by simp [results, Try.results53, go_sem]) rfl ⟨rfl, (Below.refl _ _).alloc (Nat.le_refl _) _⟩
  · have h1 : (n : Int) ≤ i := by omega
    clear hi
    go_enter Try.func53, Try.ntmps53
    go_wp2
    exact bodyPost_ret (v := .tuple #[.agg #[.bool false, .string ⟨#[]⟩, .int .i64 0], .bool false]) (by simp [results, Try.results53, go_sem]) rfl ⟨rfl, (Below.refl _ _).alloc (Nat.le_refl _) _⟩
end Go.Proofs.Ytkkpcphmojegmaa

/-
  Contracts of a table's methods that only read (Find, At, Len), of a table and of none: what each returns; of old memory nothing turns.
-/
namespace Go.Proofs.Ytkkpcphmojegmaa
set_option linter.unusedSimpArgs false
set_option linter.unusedVariables false
set_option linter.unusedSectionVars false
set_option maxRecDepth 100000
open Go.RowKit Go.Maps
variable [DecidableEq V]

set_option maxHeartbeats 800000 in
theorem at_yes {w : World} {B : Nat} {F : Nat → Prop} {tb : Nat} {X : Ex} {L : List V} (hT : Tbl w B F tb X L) (i : Nat) (hi : i < L.length) :
    Calls Try.prog 44 #[.pointer (some ⟨tb, 0, none⟩), .int .i64 i] w
      fun e w' => e = .returned (.tuple #[.agg #[.bool L[i].k, .string L[i].s, .int .i64 L[i].n], .bool true]) ∧ Below w.heap.size w w' := by
  have hlt := hT.lt
  go_enter Try.func44, Try.ntmps44
  go_wp2_with fail
  refine (valueOf_yes (hT.below ((Below.refl _ _).alloc (Nat.le_refl _) _)) i hi).mono ?_
  rintro e w1 ⟨rfl, hb⟩
  obtain ⟨hc, hf⟩ := bcell hb
  have hz : w.heap.size < w1.heap.size := by have := hb.size; simp at this; omega
  have hB : Hid (Below w.heap.size w w1) := ((Below.refl _ _).alloc (Nat.le_refl _) _).trans (hb.mono (by simp))
  go_wp2
  exact bodyPost_ret (v := .tuple #[.agg #[.bool L[i].k, .string L[i].s, .int .i64 L[i].n], .bool true]) (by simp [results, Try.results44, go_sem, hc, hz]) rfl ⟨rfl, hB.out.setCell (by simp) _ |>.setCell (by simp) _ |>.setCell (by simp) _⟩

set_option maxHeartbeats 800000 in
theorem at_no {w : World} {B : Nat} {F : Nat → Prop} {tb : Nat} {X : Ex} {L : List V} (hT : Tbl w B F tb X L) (i : Int) (hi : i < 0 ∨ (L.length : Int) ≤ i) :
    Calls Try.prog 44 #[.pointer (some ⟨tb, 0, none⟩), .int .i64 i] w
      fun e w' => e = .returned (.tuple #[.agg #[.bool false, .string ⟨#[]⟩, .int .i64 0], .bool false]) ∧ Below w.heap.size w w' := by
  have hlt := hT.lt
  have HI := Lib.hid hi
  clear hi
  go_enter Try.func44, Try.ntmps44
  go_wp2_with fail
  refine (valueOf_no (hT.below ((Below.refl _ _).alloc (Nat.le_refl _) _)) i HI.out).mono ?_
  rintro e w1 ⟨rfl, hb⟩
  obtain ⟨hc, hf⟩ := bcell hb
  have hz : w.heap.size < w1.heap.size := by have := hb.size; simp at this; omega
  have hB : Hid (Below w.heap.size w w1) := ((Below.refl _ _).alloc (Nat.le_refl _) _).trans (hb.mono (by simp))
  go_wp2
  exact bodyPost_ret (v := .tuple #[.agg #[.bool false, .string ⟨#[]⟩, .int .i64 0], .bool false]) (by simp [results, Try.results44, go_sem, hc, hz]) rfl ⟨rfl, hB.out.setCell (by simp) _ |>.setCell (by simp) _ |>.setCell (by simp) _⟩

set_option maxHeartbeats 800000 in
theorem at_nil (i : Int) (w : World) :
    Calls Try.prog 44 #[.pointer none, .int .i64 i] w
      fun e w' => e = .returned (.tuple #[.agg #[.bool false, .string ⟨#[]⟩, .int .i64 0], .bool false]) ∧ Below w.heap.size w w' := by
  go_enter Try.func44, Try.ntmps44
  go_wp2
  exact bodyPost_ret (v := .tuple #[.agg #[.bool false, .string ⟨#[]⟩, .int .i64 0], .bool false]) (by simp [results, Try.results44, go_sem]) rfl ⟨rfl, (Below.refl _ _).alloc (Nat.le_refl _) _⟩

/-- A boxed value that stays while nothing old turns. -/
theorem held_keep {w W w' : World} {b : Nat} {a0 a1 a2 : Value}
    (h : W.cell? ⟨b, 0, none⟩ = some a0 ∧ W.cell? ⟨b, 1, none⟩ = some a1 ∧ W.cell? ⟨b, 2, none⟩ = some a2 ∧ b < W.heap.size ∧ Below w.heap.size w W)
    (hb : Below W.heap.size W w') : w'.cell? ⟨b, 0, none⟩ = some a0 ∧ w'.cell? ⟨b, 1, none⟩ = some a1 ∧ w'.cell? ⟨b, 2, none⟩ = some a2 ∧ b < w'.heap.size ∧ Below w.heap.size w w' := by
  obtain ⟨h1, h2, h3, h4, h5⟩ := h
  have hs := hb.size
  exact ⟨(hb.cell (p := ⟨b, 0, none⟩) h4).trans h1, (hb.cell (p := ⟨b, 1, none⟩) h4).trans h2, (hb.cell (p := ⟨b, 2, none⟩) h4).trans h3, by omega, h5.trans (hb.mono h5.size)⟩

set_option maxHeartbeats 1600000 in
theorem find_any {w : World} {B : Nat} {F : Nat → Prop} {tb : Nat} {X : Ex} {L : List V} (hT : Tbl w B F tb X L) {v : V} (hv : v.Ok) :
    Calls Try.prog 37 #[.pointer (some ⟨tb, 0, none⟩), .agg #[.bool v.k, .string v.s, .int .i64 v.n]] w
      fun e w' => e = .returned (.tuple #[.int .i64 (at0 L v.bare), .bool (decide (v.bare ∈ L))]) ∧ Below w.heap.size w w' := by
  have hlt := hT.lt
  have hN : Hid (∀ W : World, Below w.heap.size w W → Calls Try.prog 42 #[.pointer (some ⟨tb, 0, none⟩), .agg #[.bool v.k, .string (bareS v.k v.s), .int .i64 (bareN v.k v.n)]] W
      fun e w' => e = .returned (.tuple #[.int .i64 (at0 L v.bare), .bool (decide (v.bare ∈ L))]) ∧ Below W.heap.size W w') := fun W hb => numberOf_any (hT.below hb) hv.bare
  clear hT
  go_enter Try.func37, Try.ntmps37
  go_wp2_with fail
  go_region_held3 (fun w' => w'.cell? ⟨w.heap.size, 0, none⟩ = some (.bool v.k) ∧ w'.cell? ⟨w.heap.size, 1, none⟩ = some (.string v.s) ∧ w'.cell? ⟨w.heap.size, 2, none⟩ = some (.int .i64 v.n) ∧ w.heap.size < w'.heap.size ∧ Below w.heap.size w w')
    (first | assumption | exact held_keep (by assumption) hbN | exact ⟨by simp, by simp, by simp, by simp, ((Below.refl _ _).alloc (Nat.le_refl _) _).drew⟩)
    (first
      | (go_at_call 41; refine (bare_any _ _ _ _).mono ?_; rintro e w' ⟨rfl, hbN⟩)
      | (go_at_call 42; refine (hN.out _ (by go_split_ands; assumption)).mono ?_; rintro e w' ⟨rfl, hbN⟩))
  go_wp2
  go_ret2
  go_split_ands
  exact ⟨rfl, by assumption⟩

set_option maxHeartbeats 800000 in
theorem find_nil (k : Bool) (s : ByteArray) (n : Int) (w : World) :
    Calls Try.prog 37 #[.pointer none, .agg #[.bool k, .string s, .int .i64 n]] w
      fun e w' => e = .returned (.tuple #[.int .i64 0, .bool false]) ∧ Below w.heap.size w w' := by
  go_enter Try.func37, Try.ntmps37
  go_wp2
  go_ret2
  exact ⟨rfl, (Below.refl _ _).alloc (Nat.le_refl _) _⟩
end Go.Proofs.Ytkkpcphmojegmaa
