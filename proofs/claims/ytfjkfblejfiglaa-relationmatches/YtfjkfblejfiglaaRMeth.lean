/-
  Contracts of a table's methods that only read (Find, At, Len), of a table and of none: what each returns; of old memory nothing turns.
-/
import Derived.Test.YtfjkfblejfiglaaRFind
import Derived.Deep.RegionHeld3
import Derived.Deep.DrawnRows
namespace Go.Proofs.Ytfjkfblejfiglaa
set_option linter.unusedSimpArgs false
set_option linter.unusedVariables false
set_option linter.unusedSectionVars false
set_option maxRecDepth 100000
open Go.RowKit Go.Maps
variable [DecidableEq V]

set_option maxHeartbeats 800000 in
theorem at_yes {w : World} {B : Nat} {F : Nat → Prop} {tb : Nat} {X : Ex} {L : List V} (hT : Tbl w B F tb X L) (i : Nat) (hi : i < L.length) :
    Calls Try.prog 49 #[.pointer (some ⟨tb, 0, none⟩), .int .i64 i] w
      fun e w' => e = .returned (.tuple #[.agg #[.bool L[i].k, .string L[i].s, .int .i64 L[i].n], .bool true]) ∧ Below w.heap.size w w' := by
  have hlt := hT.lt
  go_enter Try.func49, Try.ntmps49
  go_wp2_with fail
  refine (valueOf_yes (hT.below ((Below.refl _ _).alloc (Nat.le_refl _) _)) i hi).mono ?_
  rintro e w1 ⟨rfl, hb⟩
  obtain ⟨hc, hf⟩ := bcell hb
  have hz : w.heap.size < w1.heap.size := by have := hb.size; simp at this; omega
  have hB : Hid (Below w.heap.size w w1) := ((Below.refl _ _).alloc (Nat.le_refl _) _).trans (hb.mono (by simp))
  go_wp2
  exact bodyPost_ret (v := .tuple #[.agg #[.bool L[i].k, .string L[i].s, .int .i64 L[i].n], .bool true]) (by simp [results, Try.results49, go_sem, hc, hz]) rfl ⟨rfl, hB.out.setCell (by simp) _ |>.setCell (by simp) _ |>.setCell (by simp) _⟩

set_option maxHeartbeats 800000 in
theorem at_no {w : World} {B : Nat} {F : Nat → Prop} {tb : Nat} {X : Ex} {L : List V} (hT : Tbl w B F tb X L) (i : Int) (hi : i < 0 ∨ (L.length : Int) ≤ i) :
    Calls Try.prog 49 #[.pointer (some ⟨tb, 0, none⟩), .int .i64 i] w
      fun e w' => e = .returned (.tuple #[.agg #[.bool false, .string ⟨#[]⟩, .int .i64 0], .bool false]) ∧ Below w.heap.size w w' := by
  have hlt := hT.lt
  have HI := Lib.hid hi
  clear hi
  go_enter Try.func49, Try.ntmps49
  go_wp2_with fail
  refine (valueOf_no (hT.below ((Below.refl _ _).alloc (Nat.le_refl _) _)) i HI.out).mono ?_
  rintro e w1 ⟨rfl, hb⟩
  obtain ⟨hc, hf⟩ := bcell hb
  have hz : w.heap.size < w1.heap.size := by have := hb.size; simp at this; omega
  have hB : Hid (Below w.heap.size w w1) := ((Below.refl _ _).alloc (Nat.le_refl _) _).trans (hb.mono (by simp))
  go_wp2
  exact bodyPost_ret (v := .tuple #[.agg #[.bool false, .string ⟨#[]⟩, .int .i64 0], .bool false]) (by simp [results, Try.results49, go_sem, hc, hz]) rfl ⟨rfl, hB.out.setCell (by simp) _ |>.setCell (by simp) _ |>.setCell (by simp) _⟩

set_option maxHeartbeats 800000 in
theorem at_nil (i : Int) (w : World) :
    Calls Try.prog 49 #[.pointer none, .int .i64 i] w
      fun e w' => e = .returned (.tuple #[.agg #[.bool false, .string ⟨#[]⟩, .int .i64 0], .bool false]) ∧ Below w.heap.size w w' := by
  go_enter Try.func49, Try.ntmps49
  go_wp2
  exact bodyPost_ret (v := .tuple #[.agg #[.bool false, .string ⟨#[]⟩, .int .i64 0], .bool false]) (by simp [results, Try.results49, go_sem]) rfl ⟨rfl, (Below.refl _ _).alloc (Nat.le_refl _) _⟩

/-- A boxed value that stays while nothing old turns. -/
theorem held_keep {w W w' : World} {b : Nat} {a0 a1 a2 : Value}
    (h : W.cell? ⟨b, 0, none⟩ = some a0 ∧ W.cell? ⟨b, 1, none⟩ = some a1 ∧ W.cell? ⟨b, 2, none⟩ = some a2 ∧ b < W.heap.size ∧ Below w.heap.size w W)
    (hb : Below W.heap.size W w') : w'.cell? ⟨b, 0, none⟩ = some a0 ∧ w'.cell? ⟨b, 1, none⟩ = some a1 ∧ w'.cell? ⟨b, 2, none⟩ = some a2 ∧ b < w'.heap.size ∧ Below w.heap.size w w' := by
  obtain ⟨h1, h2, h3, h4, h5⟩ := h
  have hs := hb.size
  exact ⟨(hb.cell (p := ⟨b, 0, none⟩) h4).trans h1, (hb.cell (p := ⟨b, 1, none⟩) h4).trans h2, (hb.cell (p := ⟨b, 2, none⟩) h4).trans h3, by omega, h5.trans (hb.mono h5.size)⟩

set_option maxHeartbeats 1600000 in
theorem find_any {w : World} {B : Nat} {F : Nat → Prop} {tb : Nat} {X : Ex} {L : List V} (hT : Tbl w B F tb X L) {v : V} (hv : v.Ok) :
    Calls Try.prog 42 #[.pointer (some ⟨tb, 0, none⟩), .agg #[.bool v.k, .string v.s, .int .i64 v.n]] w
      fun e w' => e = .returned (.tuple #[.int .i64 (at0 L v.bare), .bool (decide (v.bare ∈ L))]) ∧ Below w.heap.size w w' := by
  have hlt := hT.lt
  have hN : Hid (∀ W : World, Below w.heap.size w W → Calls Try.prog 47 #[.pointer (some ⟨tb, 0, none⟩), .agg #[.bool v.k, .string (bareS v.k v.s), .int .i64 (bareN v.k v.n)]] W
      fun e w' => e = .returned (.tuple #[.int .i64 (at0 L v.bare), .bool (decide (v.bare ∈ L))]) ∧ Below W.heap.size W w') := fun W hb => numberOf_any (hT.below hb) hv.bare
  clear hT
  go_enter Try.func42, Try.ntmps42
  go_wp2_with fail
  go_region_held3 (fun w' => w'.cell? ⟨w.heap.size, 0, none⟩ = some (.bool v.k) ∧ w'.cell? ⟨w.heap.size, 1, none⟩ = some (.string v.s) ∧ w'.cell? ⟨w.heap.size, 2, none⟩ = some (.int .i64 v.n) ∧ w.heap.size < w'.heap.size ∧ Below w.heap.size w w')
    (first | assumption | exact held_keep (by assumption) hbN | exact ⟨by simp, by simp, by simp, by simp, ((Below.refl _ _).alloc (Nat.le_refl _) _).drew⟩)
    (first
      | (go_at_call 46; refine (bare_any _ _ _ _).mono ?_; rintro e w' ⟨rfl, hbN⟩)
      | (go_at_call 47; refine (hN.out _ (by go_split_ands; assumption)).mono ?_; rintro e w' ⟨rfl, hbN⟩))
  go_wp2
  go_ret2
  go_split_ands
  exact ⟨rfl, by assumption⟩

set_option maxHeartbeats 800000 in
theorem find_nil (k : Bool) (s : ByteArray) (n : Int) (w : World) :
    Calls Try.prog 42 #[.pointer none, .agg #[.bool k, .string s, .int .i64 n]] w
      fun e w' => e = .returned (.tuple #[.int .i64 0, .bool false]) ∧ Below w.heap.size w w' := by
  go_enter Try.func42, Try.ntmps42
  go_wp2
  go_ret2
  exact ⟨rfl, (Below.refl _ _).alloc (Nat.le_refl _) _⟩
end Go.Proofs.Ytfjkfblejfiglaa
