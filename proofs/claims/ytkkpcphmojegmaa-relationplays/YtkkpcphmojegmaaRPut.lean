/-
  Contract of a table's Put: the value's number; it is added if it isn't there; nothing turns but the table's own blocks.
-/
import Derived.Test.YtkkpcphmojegmaaRMid
import Derived.Deep.RegionWith
namespace Go.Proofs.Ytkkpcphmojegmaa
set_option linter.unusedSimpArgs false
set_option linter.unusedVariables false
set_option linter.unusedSectionVars false
set_option maxRecDepth 100000
open Go.RowKit Go.Maps
variable [DecidableEq V]

/-- The list with a value that is put. -/
def addV (L : List V) (b : V) : List V := if b ∈ L then L else L ++ [b]
theorem at0_in {L : List V} {b : V} (h : b ∈ L) : at0 L b = (L.idxOf b : Nat) := by simp [at0, h]

set_option maxHeartbeats 3200000 in
set_option maxRecDepth 100000 in
/-- Put of a value that is there: of old memory nothing turns. -/
theorem put_in {w : World} {B : Nat} {F : Nat → Prop} {tb : Nat} {X : Ex} {L : List V} (hT : Tbl w B F tb X L) {v : V} (hv : v.Ok) (hm : v.bare ∈ L) :
    Calls Try.prog 35 #[.pointer (some ⟨tb, 0, none⟩), .agg #[.bool v.k, .string v.s, .int .i64 v.n]] w
      fun e w' => e = .returned (.int .i64 (L.idxOf v.bare : Nat)) ∧ Below w.heap.size w w' := by
  have hlt := hT.lt
  have hN : Hid (∀ W : World, Below w.heap.size w W → Calls Try.prog 42 #[.pointer (some ⟨tb, 0, none⟩), .agg #[.bool v.k, .string (bareS v.k v.s), .int .i64 (bareN v.k v.n)]] W
      fun e w' => e = .returned (.tuple #[.int .i64 (at0 L v.bare), .bool (decide (v.bare ∈ L))]) ∧ Below W.heap.size W w') := fun W hb => numberOf_any (hT.below hb) hv.bare
  clear hT
  have e1 := at0_in hm
  have e2 : decide (v.bare ∈ L) = true := by simp [hm]
  rw [e1, e2] at hN
  clear e1 e2 hm
  generalize List.idxOf v.bare L = ix at *
  go_enter Try.func35, Try.ntmps35
  go_wp2_with (go_at_call 41; refine (bare_any _ _ _ _).mono ?_; rintro e w1 ⟨rfl, hb⟩)
  have hB1 : Hid (Below w.heap.size w w1) := ((Below.refl _ _).alloc (Nat.le_refl _) _).trans (hb.mono (by simp))
  have hs1 : w.heap.size < w1.heap.size := by have := hb.size; simp at this; omega
  go_region_held3 (fun w' => w'.cell? ⟨w1.heap.size, 0, none⟩ = some (.bool v.k) ∧ w'.cell? ⟨w1.heap.size, 1, none⟩ = some (.string (bareS v.k v.s)) ∧ w'.cell? ⟨w1.heap.size, 2, none⟩ = some (.int .i64 (bareN v.k v.n)) ∧ w1.heap.size < w'.heap.size ∧ Below w.heap.size w w')
    (first | assumption | exact held_keep (by assumption) hbN | exact ⟨by simp, by simp, by simp, by simp, (hB1.out.alloc (by omega) _).drew⟩)
    (first
      | (go_at_call 42; refine (hN.out _ (by go_split_ands; assumption)).mono ?_; rintro e w' ⟨rfl, hbN⟩))
  go_wp2
  go_ret
  go_split_ands
  rename_i hbW
  exact ⟨rfl, hbW⟩

set_option maxHeartbeats 3200000 in
set_option maxRecDepth 100000 in
theorem put_any {w : World} {B : Nat} {F : Nat → Prop} {tb : Nat} {X : Ex} {L : List V} (hT : Tbl w B F tb X L) {v : V} (hv : v.Ok) (hL : L.length < 1000000) :
    Calls Try.prog 35 #[.pointer (some ⟨tb, 0, none⟩), .agg #[.bool v.k, .string v.s, .int .i64 v.n]] w
      fun e w' => e = .returned (.int .i64 (L.idxOf v.bare : Nat)) ∧ Turns F w w' ∧ Tbl w' B (fun k => F k ∨ w.heap.size ≤ k ∧ k < w'.heap.size) tb X (addV L v.bare) := by
  have hlt := hT.lt
  have hN : Hid (∀ W : World, Below w.heap.size w W → Calls Try.prog 42 #[.pointer (some ⟨tb, 0, none⟩), .agg #[.bool v.k, .string (bareS v.k v.s), .int .i64 (bareN v.k v.n)]] W
      fun e w' => e = .returned (.tuple #[.int .i64 (at0 L v.bare), .bool (decide (v.bare ∈ L))]) ∧ Below W.heap.size W w') := fun W hb => numberOf_any (hT.below hb) hv.bare
  have hA : v.bare ∉ L → Hid (∀ W : World, Below w.heap.size w W → Calls Try.prog 43 #[.pointer (some ⟨tb, 0, none⟩), .agg #[.bool v.k, .string (bareS v.k v.s), .int .i64 (bareN v.k v.n)]] W
      fun e w' => e = .returned (.int .i64 (L.length : Nat)) ∧ Turns F w w' ∧ Tbl w' B (fun k => F k ∨ w.heap.size ≤ k ∧ k < w'.heap.size) tb X (addV L v.bare)) := fun hn W hb => by
    refine (add_any (hT.below hb) hv.bare hn hL).mono ?_
    rintro e w' ⟨rfl, h1, h2⟩
    have hs := hb.size
    refine ⟨rfl, (Turns.of_below hb).trans h1 (fun i hi _ => hi), ?_⟩
    rw [addV, if_neg hn]
    have hB : B ≤ w.heap.size := by obtain ⟨_, _, _, _, _, _, h4, _, _, h7, _⟩ := hT; have := h7 tb h4; omega
    refine h2.mono (fun k hk => hk.imp id (fun h => ⟨by omega, h.2⟩)) (fun k hk => ?_)
    have hs1 := h1.size
    rcases hk with hk | hk
    · obtain ⟨_, _, _, _, _, _, _, _, _, h7, _⟩ := hT; have := h7 k hk; omega
    · omega
  have hE : v.bare ∈ L → Hid (∀ W : World, Below w.heap.size w W → Turns F w W ∧ Tbl W B (fun k => F k ∨ w.heap.size ≤ k ∧ k < W.heap.size) tb X (addV L v.bare)) := fun hm W hb => by
    have hs := hb.size
    refine ⟨Turns.of_below hb, ?_⟩
    rw [addV, if_pos hm]
    have hB : B ≤ w.heap.size := by obtain ⟨_, _, _, _, _, _, h4, _, _, h7, _⟩ := hT; have := h7 tb h4; omega
    refine (hT.below hb).mono (fun k hk => Or.inl hk) (fun k hk => ?_)
    rcases hk with hk | hk
    · obtain ⟨_, _, _, _, _, _, _, _, _, h7, _⟩ := hT; have := h7 k hk; omega
    · omega
  clear hT
  by_cases hm : v.bare ∈ L
  · have hE := hE hm
    have e1 := at0_in hm
    have e2 : decide (v.bare ∈ L) = true := by simp [hm]
    rw [e1, e2] at hN
    clear hA e1 e2 hm
    generalize List.idxOf v.bare L = ix at *
    generalize addV L v.bare = L' at *
    go_enter Try.func35, Try.ntmps35
    go_wp2_with (go_at_call 41; refine (bare_any _ _ _ _).mono ?_; rintro e w1 ⟨rfl, hb⟩)
    have hB1 : Hid (Below w.heap.size w w1) := ((Below.refl _ _).alloc (Nat.le_refl _) _).trans (hb.mono (by simp))
    have hs1 : w.heap.size < w1.heap.size := by have := hb.size; simp at this; omega
    go_region_held3 (fun w' => w'.cell? ⟨w1.heap.size, 0, none⟩ = some (.bool v.k) ∧ w'.cell? ⟨w1.heap.size, 1, none⟩ = some (.string (bareS v.k v.s)) ∧ w'.cell? ⟨w1.heap.size, 2, none⟩ = some (.int .i64 (bareN v.k v.n)) ∧ w1.heap.size < w'.heap.size ∧ Below w.heap.size w w')
      (first | assumption | exact held_keep (by assumption) hbN | exact ⟨by simp, by simp, by simp, by simp, (hB1.out.alloc (by omega) _).drew⟩)
      (first
        | (go_at_call 42; refine (hN.out _ (by go_split_ands; assumption)).mono ?_; rintro e w' ⟨rfl, hbN⟩))
    go_wp2
    go_ret
    go_split_ands
    rename_i hbW
    exact ⟨rfl, (hE.out _ hbW).1, (hE.out _ hbW).2⟩
  · have hA := hA hm
    have e1 : L.idxOf v.bare = L.length := List.idxOf_eq_length hm
    have e2 : decide (v.bare ∈ L) = false := by simp [hm]
    rw [e1]
    rw [e2] at hN
    clear hE e1 e2 hm
    generalize at0 L v.bare = ix at *
    generalize addV L v.bare = L' at *
    go_enter Try.func35, Try.ntmps35
    go_wp2_with (go_at_call 41; refine (bare_any _ _ _ _).mono ?_; rintro e w1 ⟨rfl, hb⟩)
    have hB1 : Hid (Below w.heap.size w w1) := ((Below.refl _ _).alloc (Nat.le_refl _) _).trans (hb.mono (by simp))
    have hs1 : w.heap.size < w1.heap.size := by have := hb.size; simp at this; omega
    go_region_held3 (fun w' => w'.cell? ⟨w1.heap.size, 0, none⟩ = some (.bool v.k) ∧ w'.cell? ⟨w1.heap.size, 1, none⟩ = some (.string (bareS v.k v.s)) ∧ w'.cell? ⟨w1.heap.size, 2, none⟩ = some (.int .i64 (bareN v.k v.n)) ∧ w1.heap.size < w'.heap.size ∧ Below w.heap.size w w')
      (first | assumption | exact held_keep (by assumption) hbN | exact ⟨by simp, by simp, by simp, by simp, (hB1.out.alloc (by omega) _).drew⟩)
      (first
        | (go_at_call 42; refine (hN.out _ (by go_split_ands; assumption)).mono ?_; rintro e w' ⟨rfl, hbN⟩))
    go_wp2
    go_split_ands
    go_region_with (go_at_call 43; refine (hA.out _ (Below.drew (by assumption))).mono ?_; rintro e w' ⟨rfl, ht, hT'⟩)
    all_goals
      go_wp2
      go_ret
      exact ⟨rfl, ht, hT'⟩
end Go.Proofs.Ytkkpcphmojegmaa
