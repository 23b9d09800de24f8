/-
  Contract of the second law's shown: the document's example of a table holds; of old memory nothing turns. Put of none. A new table.
-/
import Derived.Test.YtffibgladjmeaaaSPut
namespace Go.Proofs.Ytffibgladjmeaaa
set_option linter.unusedSimpArgs false
set_option linter.unusedVariables false
set_option linter.unusedSectionVars false
open Go.RowKit Go.Maps
variable [DecidableEq V]

set_option maxHeartbeats 800000 in
theorem put_nil (k : Bool) (s : ByteArray) (n : Int) (w : World) :
    Calls Try.prog 10 #[.pointer none, .agg #[.bool k, .string s, .int .i64 n]] w
      fun e w' => e = .returned (.int .i64 0) ∧ Below w.heap.size w w' := by
  go_enter Try.func10, Try.ntmps10
  go_wp2
  go_ret
  exact ⟨rfl, (Below.refl _ _).alloc (Nat.le_refl _) _⟩

/-- A new table tells nothing. -/
theorem tbl_new (w : World) : Tbl (w.alloc (.cells #[.map none, .slice none 0 0] 47)) w.heap.size (fun k => k = w.heap.size) w.heap.size [] := by
  refine ⟨none, .slice none 0 0, (MapKept.heap_alloc w _).1, World.ownsRow_nil _ _ _ _, fun _ => rfl, ?_, rfl, ?_, ?_, ?_, ?_⟩
  · intro _ h; cases h
  · intro _ h; cases h
  · intro _ h; simp [Value.ownBlock] at h
  · intro k h; subst h; simp
  · intro _ h; cases h

/-- A boxed value that no block of the table's is. -/
theorem Turns.cell {F : Nat → Prop} {w w' : World} (h : Turns F w w') {b o : Nat} (hb : b < w.heap.size) (hF : ¬ F b) : w'.cell? ⟨b, o, none⟩ = w.cell? ⟨b, o, none⟩ :=
  World.cell?_of_block (a := ⟨b, o, none⟩) (h.block b hb hF)

/-- Put, with what is listed under a name of its own. -/
theorem put_at {w : World} {B : Nat} {F : Nat → Prop} {tb : Nat} {L : List V} (hT : Tbl w B F tb L) {v : V} (hv : v.Ok) (hL : L.length < 1000000) :
    Calls Try.prog 10 #[.pointer (some ⟨tb, 0, none⟩), .agg #[.bool v.k, .string v.s, .int .i64 v.n]] w
      fun e w' => e = .returned (.int .i64 (L.idxOf v.bare : Nat)) ∧ Turns F w w' ∧ ∃ F', Tbl w' B F' tb (addV L v.bare) ∧ ∀ k, F' k → F k ∨ w.heap.size ≤ k :=
  (put_any hT hv hL).mono (fun _ _ ⟨h1, h2, h3⟩ => ⟨h1, h2, _, h3, fun _ h => h.imp id (fun h => h.1)⟩)
theorem Tbl.base {w : World} {B : Nat} {F : Nat → Prop} {tb : Nat} {L : List V} (hT : Tbl w B F tb L) : ∀ k, F k → B ≤ k := by
  obtain ⟨_, _, _, _, _, _, _, _, _, h7, _⟩ := hT
  exact fun k h => (h7 k h).1
theorem Tbl.le {w : World} {B : Nat} {F : Nat → Prop} {tb : Nat} {L : List V} (hT : Tbl w B F tb L) : B ≤ w.heap.size := by
  obtain ⟨_, _, _, _, _, _, h4, _, _, h7, _⟩ := hT
  have := h7 tb h4; omega
/-- What lay below the table's first block stays. -/
theorem Tbl.stay {w w' : World} {B : Nat} {F : Nat → Prop} {tb : Nat} {L : List V} (hT : Tbl w B F tb L) (ht : Turns F w w') : Below B w w' := ht.below hT.le hT.base

/-- New, with all names of its own. -/
theorem new_at (w : World) : Calls Try.prog 9 #[] w fun e w' => ∃ tb F, e = .returned (.pointer (some ⟨tb, 0, none⟩)) ∧ Below w.heap.size w w' ∧ Tbl w' w.heap.size F tb [] :=
  (new_any w).mono (fun _ _ ⟨h1, h2⟩ => ⟨w.heap.size, fun k => k = w.heap.size, h1, h2 ▸ (Below.refl _ _).alloc (Nat.le_refl _) _, h2 ▸ tbl_new w⟩)

/-- A value that lies in a block. -/
def Box (w : World) (b : Nat) (v : V) : Prop := w.cell? ⟨b, 0, none⟩ = some (.bool v.k) ∧ w.cell? ⟨b, 1, none⟩ = some (.string v.s) ∧ w.cell? ⟨b, 2, none⟩ = some (.int .i64 v.n) ∧ b < w.heap.size
theorem Box.new (w : World) (v : V) : Box (w.alloc (.cells #[.bool v.k, .string v.s, .int .i64 v.n] 24)) w.heap.size v := ⟨by simp, by simp, by simp, by simp⟩
theorem Box.below {w w' : World} {b : Nat} {v : V} (h : Box w b v) (hb : Below w.heap.size w w') : Box w' b v :=
  ⟨(hb.cell (p := ⟨b, 0, none⟩) h.2.2.2).trans h.1, (hb.cell (p := ⟨b, 1, none⟩) h.2.2.2).trans h.2.1, (hb.cell (p := ⟨b, 2, none⟩) h.2.2.2).trans h.2.2.1, Nat.lt_of_lt_of_le h.2.2.2 hb.size⟩
theorem Box.turns {F : Nat → Prop} {w w' : World} {b : Nat} {v : V} (h : Box w b v) (ht : Turns F w w') (hF : ¬ F b) : Box w' b v :=
  ⟨(ht.cell h.2.2.2 hF).trans h.1, (ht.cell h.2.2.2 hF).trans h.2.1, (ht.cell h.2.2.2 hF).trans h.2.2.1, Nat.lt_of_lt_of_le h.2.2.2 ht.size⟩
theorem Box.alloc {w : World} {b : Nat} {v : V} (h : Box w b v) (o : Obj) : Box (w.alloc o) b v := h.below ((Below.refl _ _).alloc (Nat.le_refl _) _)

def va : V := ⟨true, ⟨#[97]⟩, 0⟩
def vb : V := ⟨true, ⟨#[98]⟩, 0⟩
theorem va_ok : va.Ok := ⟨by decide, by decide, by decide⟩
theorem vb_ok : vb.Ok := ⟨by decide, by decide, by decide⟩
theorem vab : va ≠ vb := by simp [va, vb]
theorem sh1 : ([] : List V).idxOf va.bare = 0 ∧ addV [] va.bare = [va] := ⟨rfl, rfl⟩
theorem sh2 : [va].idxOf vb.bare = 1 ∧ addV [va] vb.bare = [va, vb] := by
  have e : vb.bare = vb := rfl
  rw [e]
  have h : (va == vb) = false := by simp [vab]
  exact ⟨by simp [List.idxOf_cons, h], by simp [addV, vab.symm]⟩
theorem sh3 : [va, vb].idxOf va.bare = 0 ∧ addV [va, vb] va.bare = [va, vb] := by
  have e : va.bare = va := rfl
  rw [e]
  exact ⟨by simp, by simp [addV]⟩

set_option maxHeartbeats 3200000 in
set_option maxRecDepth 100000 in
theorem shown2_any (w : World) : Calls Try.prog 8 #[] w fun e w' => e = .returned (.bool true) ∧ Below w.heap.size w w' := by
  have hn : (w.heap.size == w.heap.size + 1) = false := by simp
  go_enter Try.func8, Try.ntmps8
  go_wp2_with (go_at_call 9; refine (new_any _).mono ?_; rintro e w1 ⟨rfl, rfl⟩)
  have hT0 := (tbl_new w).below (w' := ((w.alloc (.cells #[.map none, .slice none 0 0] 47)).alloc (.cells #[.bool true, .string ⟨#[97]⟩, .int .i64 0] 24)).alloc (.cells #[.bool true, .string ⟨#[98]⟩, .int .i64 0] 24)) (((Below.refl _ _).alloc (Nat.le_refl _) _).alloc (by simp) _)
  refine (put_at (v := va) hT0 va_ok (by simp)).mono ?_
  rintro e w1 ⟨rfl, ht1, F1, hT1, hF1⟩
  rw [sh1.2] at hT1
  rw [sh1.1]
  have z1 : w.heap.size + 1 + 1 < w1.heap.size := by have := ht1.size; simp at this; omega
  have z2 : w.heap.size + 1 < w1.heap.size := by omega
  have a1 : ∀ o, w1.cell? ⟨w.heap.size + 1, o, none⟩ = _ := fun o => ht1.cell (b := w.heap.size + 1) (o := o) (by simp) (by simp)
  have b1 : ∀ o, w1.cell? ⟨w.heap.size + 1 + 1, o, none⟩ = _ := fun o => ht1.cell (b := w.heap.size + 1 + 1) (o := o) (by simp) (by omega)
  have hB1 : Hid (Below w.heap.size w w1) := ((((Below.refl _ _).alloc (Nat.le_refl _) _).alloc (by simp) _).alloc (by simp; omega) _).trans (hT0.stay ht1)
  have HN1 : Hid (¬ F1 (w.heap.size + 1) ∧ ¬ F1 (w.heap.size + 1 + 1)) := ⟨fun h => by have := hF1 _ h; simp at this; omega, fun h => by have := hF1 _ h; simp at this; omega⟩
  have HT1 := Lib.hid hT1
  clear hT0 ht1 hT1 hF1
  go_wp2_with fail
  refine (put_at (v := vb) HT1.out vb_ok (by simp)).mono ?_
  rintro e w2 ⟨rfl, ht2, F2, hT2, hF2⟩
  rw [sh2.2] at hT2
  rw [sh2.1]
  have a2 : ∀ o, w2.cell? ⟨w.heap.size + 1, o, none⟩ = w1.cell? ⟨w.heap.size + 1, o, none⟩ := fun o => ht2.cell z2 HN1.out.1
  have hB2 : Hid (Below w.heap.size w w2) := hB1.out.trans (HT1.out.stay ht2)
  have HT2 := Lib.hid hT2
  have z3 : w.heap.size + 1 < w2.heap.size := by have := ht2.size; omega
  clear ht2 hT2 hF2
  go_wp2_with fail
  refine (put_at (v := va) HT2.out va_ok (by simp)).mono ?_
  rintro e w3 ⟨rfl, ht3, F3, hT3, hF3⟩
  rw [sh3.2] at hT3
  rw [sh3.1]
  have hB3 : Hid (Below w.heap.size w w3) := hB2.out.trans (HT2.out.stay ht3)
  have HT3 := Lib.hid hT3
  clear ht3 hT3 hF3
  go_wp2_with (go_at_call 12; refine (len_any HT3.out).mono ?_; rintro e w4 ⟨rfl, rfl⟩)
  go_ret
  exact ⟨rfl, hB3.out⟩
end Go.Proofs.Ytffibgladjmeaaa
