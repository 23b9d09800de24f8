/-
  A token, and what the first token of a text is. Contract of reader's name.
-/
import Derived.Test.YtbbmihojfcofdaaGreatDoorKPass
namespace Go.Proofs.YtbbmihojfcofdaaGreatDoor
set_option linter.unusedSimpArgs false
set_option linter.unusedVariables false
set_option linter.unusedSectionVars false
set_option maxRecDepth 100000
open Go.RowKit

/-- A token: its kind, text, number, whether it is quoted, its place. -/
structure Tk where
  kind : Int
  s : ByteArray
  n : Int
  q : Bool
  pl : Int
def Tk.zero : Tk := ⟨0, ⟨#[]⟩, 0, false, 0⟩
def Tk.cells (t : Tk) : List Value := [.int .i64 t.kind, .string t.s, .int .i64 t.n, .bool t.q, .int .i64 t.pl]
def Tk.val (t : Tk) : Value := .agg #[.int .i64 t.kind, .string t.s, .int .i64 t.n, .bool t.q, .int .i64 t.pl]

/-- What was read of a token: an error's number (0: none), the token, how many bytes it has. -/
structure Got where
  bad : Nat
  tok : Tk
  len : Nat

/-- A reader's answer. -/
def TokOut (n rb : Nat) (s : ByteArray) (p : Nat) (g : Got) (w : World) (e : Ending) (w' : World) : Prop :=
  e = .returned (.tuple #[g.tok.val, .int .i64 (g.bad : Int)]) ∧ Turns (fun i => i = rb) w w' ∧ (g.bad = 0 → Rdr n w' rb s (p + g.len))

def nameL (kind : Int) (l : List UInt8) : Got :=
  if 32 < runLen innerQ l then ⟨4, Tk.zero, 0⟩ else ⟨0, ⟨kind, ⟨(l.take (runLen innerQ l)).toArray⟩, 0, false, 0⟩, runLen innerQ l⟩

theorem extract_drop (s : ByteArray) (p n : Nat) : s.extract p (p + n) = ⟨((s.data.toList.drop p).take n).toArray⟩ := by
  apply ByteArray.ext
  rw [ByteArray.data_extract]
  apply Array.toList_inj.1
  simp [Array.toList_extract, List.extract]
theorem extract_size (s : ByteArray) (p n : Nat) (h : p + n ≤ s.size) : (s.extract p (p + n)).size = n := by
  rw [ByteArray.size_extract]; omega

theorem Turns.fill {rb : Nat} {w w' : World} (h : Turns (fun i => i = rb) w w') {b : Nat} (hb : w.heap.size ≤ b) {o : Nat} (v : Value) : Turns (fun i => i = rb) w (w'.setCell ⟨b, o, none⟩ v) :=
  h.setCell (p := ⟨b, o, none⟩) (fun hl => absurd hl (by simp; omega)) _

/-- A new token's block, still empty. -/
def Fresh (w : World) (R : Nat) : Prop := w.heap[R]? = some (.cells #[.int .i64 0, .string ⟨#[]⟩, .int .i64 0, .bool false, .int .i64 0] 110 (0, 0))
theorem Fresh.new (w : World) : Fresh (w.alloc (.cells #[.int .i64 0, .string ⟨#[]⟩, .int .i64 0, .bool false, .int .i64 0] 110)) w.heap.size := (MapKept.heap_alloc w _).1
theorem Fresh.turns {rb R : Nat} {w w' : World} (h : Fresh w R) (ht : Turns (fun i => i = rb) w w') (hn : R ≠ rb) : Fresh w' R :=
  (ht.block R (Array.getElem?_eq_some_iff.1 h).1 hn).trans h
theorem Fresh.cells {w : World} {R : Nat} (h : Fresh w R) : w.cell? ⟨R, 0, none⟩ = some (.int .i64 0) ∧ w.cell? ⟨R, 1, none⟩ = some (.string ⟨#[]⟩) ∧ w.cell? ⟨R, 2, none⟩ = some (.int .i64 0) ∧ w.cell? ⟨R, 3, none⟩ = some (.bool false) ∧ w.cell? ⟨R, 4, none⟩ = some (.int .i64 0) ∧
    w.frozen? ⟨R, 0, none⟩ = false ∧ w.frozen? ⟨R, 1, none⟩ = false ∧ w.frozen? ⟨R, 2, none⟩ = false ∧ w.frozen? ⟨R, 3, none⟩ = false ∧ w.frozen? ⟨R, 4, none⟩ = false :=
  ⟨by rw [cell_of_row w R 0 _ _ _ h]; rfl, by rw [cell_of_row w R 1 _ _ _ h]; rfl, by rw [cell_of_row w R 2 _ _ _ h]; rfl, by rw [cell_of_row w R 3 _ _ _ h]; rfl, by rw [cell_of_row w R 4 _ _ _ h]; rfl,
    by simp [World.frozen?, show w.heap[R]? = _ from h], by simp [World.frozen?, show w.heap[R]? = _ from h], by simp [World.frozen?, show w.heap[R]? = _ from h], by simp [World.frozen?, show w.heap[R]? = _ from h], by simp [World.frozen?, show w.heap[R]? = _ from h]⟩
/-- A token laid in its block. -/
def lay5 (w : World) (R : Nat) (t : Tk) : World := ((((w.setCell ⟨R, 0, none⟩ (.int .i64 t.kind)).setCell ⟨R, 1, none⟩ (.string t.s)).setCell ⟨R, 2, none⟩ (.int .i64 t.n)).setCell ⟨R, 3, none⟩ (.bool t.q)).setCell ⟨R, 4, none⟩ (.int .i64 t.pl)
theorem lay5_turns {rb R : Nat} {w w' : World} (h : Turns (fun i => i = rb) w w') (hR : w.heap.size ≤ R) (t : Tk) : Turns (fun i => i = rb) w (lay5 w' R t) :=
  ((((h.fill hR _).fill hR _).fill hR _).fill hR _).fill hR _
theorem lay5_rdr {w : World} {n rb : Nat} {s : ByteArray} {p R : Nat} (h : Rdr n w rb s p) (hR : n ≤ R) (t : Tk) : Rdr n (lay5 w R t) rb s p :=
  ((((h.fill hR _).fill hR _).fill hR _).fill hR _).fill hR _
theorem lay5_blk {w : World} {R : Nat} (h : Fresh w R) (t : Tk) : (lay5 w R t).heap[R]? = some (.cells #[.int .i64 t.kind, .string t.s, .int .i64 t.n, .bool t.q, .int .i64 t.pl] 110 (0, 0)) := by
  have h' : w.heap[R]? = some (.cells #[.int .i64 0, .string ⟨#[]⟩, .int .i64 0, .bool false, .int .i64 0] 110 (0, 0)) := h
  simp [lay5, World.setCell, Array.getElem?_modify, h']
theorem lay5_cells {w : World} {R : Nat} (h : Fresh w R) (t : Tk) : (lay5 w R t).cell? ⟨R, 0, none⟩ = some (.int .i64 t.kind) ∧ (lay5 w R t).cell? ⟨R, 1, none⟩ = some (.string t.s) ∧ (lay5 w R t).cell? ⟨R, 2, none⟩ = some (.int .i64 t.n) ∧ (lay5 w R t).cell? ⟨R, 3, none⟩ = some (.bool t.q) ∧ (lay5 w R t).cell? ⟨R, 4, none⟩ = some (.int .i64 t.pl) :=
  ⟨by rw [cell_of_row _ R 0 _ _ _ (lay5_blk h t)]; rfl, by rw [cell_of_row _ R 1 _ _ _ (lay5_blk h t)]; rfl, by rw [cell_of_row _ R 2 _ _ _ (lay5_blk h t)]; rfl, by rw [cell_of_row _ R 3 _ _ _ (lay5_blk h t)]; rfl, by rw [cell_of_row _ R 4 _ _ _ (lay5_blk h t)]; rfl⟩
/-- What a reader's method leaves behind, ahead of its return: the world W from which on the token is laid. -/
structure Left (n rb : Nat) (w w' : World) : Prop where
  turns : Turns (fun i => i = rb) w w'
  fresh : Fresh w' w.heap.size
theorem Left.out {n rb : Nat} {s : ByteArray} {p : Nat} {g : Got} {w w' : World} (h : Left n rb w w') (hn : n ≤ w.heap.size) (hR : g.bad = 0 → Rdr n w' rb s (p + g.len)) {v : Value} (hv : v = .tuple #[g.tok.val, .int .i64 (g.bad : Int)]) :
    TokOut n rb s p g w (.returned v) (lay5 w' w.heap.size g.tok) :=
  ⟨by rw [hv], lay5_turns h.turns (Nat.le_refl _) _, fun h0 => lay5_rdr (hR h0) hn _⟩

theorem take_left {w : World} {n rb : Nat} {s : ByteArray} {p : Nat} (hR : Rdr n w rb s p) (hs : s.size ≤ 65536) (E : Nat) (h1 : p ≤ E) (h2 : E ≤ s.size) :
    ∀ W, Turns (fun i => i = rb) (w.alloc (.cells #[.int .i64 0, .string ⟨#[]⟩, .int .i64 0, .bool false, .int .i64 0] 110)) W → Rdr n W rb s p → Calls Tryz.prog 126 #[.pointer (some ⟨rb, 0, none⟩), .int .i64 (E : Int)] W fun e w' => e = .returned (.string (s.extract p E)) ∧ Hid (Rdr n w' rb s E) ∧ Hid (Left n rb w w') := by
  intro W ht hRW
  refine (take_any hRW E h1 h2 hs).mono ?_
  rintro e w' ⟨rfl, hR', ht'⟩
  have t1 := ht.then ht'
  exact ⟨rfl, hR', ⟨((Turns.refl (fun i => i = rb) w).alloc _).then t1, (Fresh.new w).turns t1 (by have := hR.lt; omega)⟩⟩

set_option maxHeartbeats 2000000 in
theorem name_any {w : World} {n rb : Nat} {s : ByteArray} {p : Nat} (hR : Rdr n w rb s p) (hs : s.size ≤ 65536) (hp : p ≤ s.size) (kind : Int) :
    Calls Tryz.prog 108 #[.pointer (some ⟨rb, 0, none⟩), .int .i64 kind] w fun e w' => TokOut n rb s p (nameL kind (s.data.toList.drop p)) w e w' := by
  have hb0 : Below w.heap.size w (w.alloc (.cells #[.int .i64 0, .string ⟨#[]⟩, .int .i64 0, .bool false, .int .i64 0] 110)) := (Below.refl _ _).alloc (Nat.le_refl _) _
  have hR0 := hR.below hb0
  have hnn := hR.2.1
  obtain ⟨m, hm⟩ : ∃ m, m = runLen innerQ (s.data.toList.drop p) := ⟨_, rfl⟩
  have hE : p + m ≤ s.size := by rw [hm]; exact run_bound _ _ _ hp
  obtain ⟨E, hEe⟩ : ∃ E, E = p + m := ⟨_, rfl⟩
  have HTK := Lib.hid (take_left hR hs E (by omega) (by omega))
  obtain ⟨w0, hw0⟩ : ∃ w0, w0 = w.alloc (.cells #[.int .i64 0, .string ⟨#[]⟩, .int .i64 0, .bool false, .int .i64 0] 110) := ⟨_, rfl⟩
  rw [← hw0] at hR0 HTK
  have HW0 := Lib.hid hw0
  clear hw0
  obtain ⟨q2, q3, q4, q5, q6, q7, c0, c1, c2, c3, c4, c5, c6, c7, f1, a2, a3, a4, a5, a6, a7⟩ := hR0.cells
  have hrb0 := hR0.lt
  have HE := Lib.hid (end_rdr hR0 hs a7 p E (by omega) (by rw [hEe, hm]))
  have HR0 := Lib.hid hR0
  have HN : Hid (n ≤ w.heap.size) := hnn
  have hsz : (s.extract p E).size = m := by rw [hEe]; exact extract_size s p m hE
  have hex : s.extract p E = ⟨((s.data.toList.drop p).take m).toArray⟩ := by rw [hEe]; exact extract_drop s p m
  have m5 : (m : Int) ≤ 65536 := by omega
  have HEx := Lib.hid hex
  have HM := Lib.hid hm
  have HEe := Lib.hid hEe
  obtain ⟨x, hx⟩ : ∃ x, x = s.extract p E := ⟨_, rfl⟩
  rw [← hx] at hsz HTK HEx
  clear hx hEe hm hex a2 a3 a4 a5 a6 a7 c2 c3 c4 c5 c6 hR hR0 hb0 hnn f1 hE hp
  by_cases h32 : 32 < m
  · have h32I : (32 : Int) < (m : Int) := by omega
    have HG : Hid (nameL kind (s.data.toList.drop p) = ⟨4, Tk.zero, 0⟩) := by simp [Hid, nameL, ← HM.out, h32]
    clear h32 HM
    go_enter Tryz.func108, Tryz.ntmps108
    go_wp2_with fail
    rw [← HW0.out]
    clear HW0
    go_region_with (first
      | (go_at_call 107; refine (HE.out _ (by first | exact Below.refl _ _ | exact (Below.refl _ _).drew)).mono ?_; rintro e w1 ⟨rfl, hbN, d1, df, hl, HR⟩; have HB := Lib.hid hbN; clear hbN)
      | (go_at_call 126; refine (HTK.out _ (Turns.of_below HB.out) HR.out).mono ?_; rintro e w2 ⟨rfl, HRT, HLT⟩))
    all_goals
      obtain ⟨g0, g1, g2, g3, g4, k0, k1, k2, k3, k4⟩ := HLT.out.fresh.cells
      clear HTK HE HR0 HB HR d1 df hl c0 c1 c7
      go_wp2
      obtain ⟨r0, r1, r2, r3, r4⟩ := lay5_cells HLT.out.fresh Tk.zero
      refine bodyPost_ret (w := lay5 w2 w.heap.size Tk.zero) (v := .tuple #[(Tk.zero).val, .int .i64 4]) ?_ rfl ?_
      · simp [results, Tryz.results108, go_sem, r0, r1, r2, r3, r4, Tk.val]
      · rw [HG.out]
        exact HLT.out.out HN.out (fun h => absurd h (by decide)) rfl
  · have h32I : ¬ (32 : Int) < (m : Int) := by omega
    have HG : Hid (nameL kind (s.data.toList.drop p) = ⟨0, ⟨kind, x, 0, false, 0⟩, m⟩) := by simp [Hid, nameL, ← HM.out, h32, HEx.out]
    clear h32 HM
    go_enter Tryz.func108, Tryz.ntmps108
    go_wp2_with fail
    rw [← HW0.out]
    clear HW0
    go_region_with (first
      | (go_at_call 107; refine (HE.out _ (by first | exact Below.refl _ _ | exact (Below.refl _ _).drew)).mono ?_; rintro e w1 ⟨rfl, hbN, d1, df, hl, HR⟩; have HB := Lib.hid hbN; clear hbN)
      | (go_at_call 126; refine (HTK.out _ (Turns.of_below HB.out) HR.out).mono ?_; rintro e w2 ⟨rfl, HRT, HLT⟩))
    all_goals
      obtain ⟨g0, g1, g2, g3, g4, k0, k1, k2, k3, k4⟩ := HLT.out.fresh.cells
      clear HTK HE HR0 HB HR d1 df hl c0 c1 c7
      go_wp2
      obtain ⟨r0, r1, r2, r3, r4⟩ := lay5_cells HLT.out.fresh ⟨kind, x, 0, false, 0⟩
      refine bodyPost_ret (w := lay5 w2 w.heap.size ⟨kind, x, 0, false, 0⟩) (v := .tuple #[((⟨kind, x, 0, false, 0⟩ : Tk)).val, .int .i64 0]) ?_ rfl ?_
      · simp [results, Tryz.results108, go_sem, r0, r1, r2, r3, r4, Tk.val]
      · rw [HG.out]
        exact HLT.out.out HN.out (fun _ => by have := HRT.out; rw [HEe.out] at this; exact this) rfl
end Go.Proofs.YtbbmihojfcofdaaGreatDoor
