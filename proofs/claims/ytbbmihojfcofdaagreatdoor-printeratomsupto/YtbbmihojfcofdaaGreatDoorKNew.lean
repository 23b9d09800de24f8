/-
  Contracts of token.between, either, not and newReader.
-/
import Derived.Test.YtbbmihojfcofdaaGreatDoorKRdr
import Derived.Laws.EntriesVeiled
namespace Go.Proofs.YtbbmihojfcofdaaGreatDoor
set_option linter.unusedSimpArgs false
set_option linter.unusedVariables false
set_option linter.unusedSectionVars false
set_option maxRecDepth 100000
open Go.RowKit

set_option maxHeartbeats 800000 in
theorem between_any (lo hi : Nat) (w : World) :
    Calls Tryz.prog 103 #[.int .u8 (lo : Int), .int .u8 (hi : Int)] w fun e w' => ∃ a b, e = .returned (.func (.func 122) #[] #[.pointer (some ⟨a, 0, none⟩), .pointer (some ⟨b, 0, none⟩)]) ∧ Below w.heap.size w w' ∧
      w'.cell? ⟨a, 0, none⟩ = some (.int .u8 (lo : Int)) ∧ w'.cell? ⟨b, 0, none⟩ = some (.int .u8 (hi : Int)) := by
  go_enter Tryz.func103, Tryz.ntmps103
  go_wp2
  go_ret
  exact ⟨_, _, rfl, ((Below.refl _ _).alloc (Nat.le_refl _) _).alloc (by simp) _, by simp, by simp⟩

set_option maxHeartbeats 800000 in
theorem either_any (g : Nat) (w : World) :
    Calls Tryz.prog 104 #[.slice (some ⟨g, 0, none⟩) 4 4] w fun e w' => ∃ a, e = .returned (.func (.func 123) #[] #[.pointer (some ⟨a, 0, none⟩)]) ∧ Below w.heap.size w w' ∧ w'.cell? ⟨a, 0, none⟩ = some (.slice (some ⟨g, 0, none⟩) 4 4) ∧ w.heap.size ≤ a := by
  go_enter Tryz.func104, Tryz.ntmps104
  go_wp2
  go_ret
  exact ⟨_, rfl, (Below.refl _ _).alloc (Nat.le_refl _) _, by simp, Nat.le_refl _⟩

set_option maxHeartbeats 800000 in
theorem not_any (k : FuncId) (fi ca : Array Value) (w : World) :
    Calls Tryz.prog 106 #[.func (.func k) fi ca] w fun e w' => ∃ a, e = .returned (.func (.func 125) #[] #[.pointer (some ⟨a, 0, none⟩)]) ∧ Below w.heap.size w w' ∧ w'.cell? ⟨a, 0, none⟩ = some (.func (.func k) fi ca) ∧ w.heap.size ≤ a := by
  go_enter Tryz.func106, Tryz.ntmps106
  go_wp2
  go_ret
  exact ⟨_, rfl, (Below.refl _ _).alloc (Nat.le_refl _) _, by simp, Nat.le_refl _⟩

theorem inner_any : innerQ = fun c => [smallQ, greatQ, figureQ, fun c : UInt8 => decide (c ∈ [(95 : UInt8)])].any (fun f => f c) := by
  funext c
  have e : (c == 95) = decide (c ∈ [(95 : UInt8)]) := by by_cases h : c = 95 <;> simp [h]
  simp only [innerQ, e, List.any_cons, List.any_nil, Bool.or_false, Bool.or_assoc]
theorem blank_mem : blankQ = fun c => decide (c ∈ [(9 : UInt8), 10, 13, 32]) := by
  funext c
  simp only [blankQ, List.mem_cons, List.not_mem_nil, or_false, Bool.decide_or]
  simp only [Bool.or_assoc]
  rfl
theorem remark_mem : remarkQ = fun c => !decide (c ∈ [(10 : UInt8)]) := by
  funext c
  by_cases h : c = 10 <;> simp [remarkQ, h]

/-- A closure of between's, in the world in which it was made. -/
def BetQ (lo hi : Nat) (q : Value) (w : World) : Prop := ∃ a b, q = .func (.func 122) #[] #[.pointer (some ⟨a, 0, none⟩), .pointer (some ⟨b, 0, none⟩)] ∧ w.cell? ⟨a, 0, none⟩ = some (.int .u8 (lo : Int)) ∧ w.cell? ⟨b, 0, none⟩ = some (.int .u8 (hi : Int))
theorem BetQ.asks {lo hi : Nat} {q : Value} {w w' : World} (h : BetQ lo hi q w) (hb : Below w.heap.size w w') {n rb : Nat} (hr : w.heap.size ≤ rb) (hn : w.heap.size ≤ n) : Asks (RF n rb) w' q (fun c => decide (lo ≤ c.toNat) && decide (c.toNat ≤ hi)) := by
  obtain ⟨a, b, rfl, ha, hb'⟩ := h
  have la := lt_of_cell ha
  have lb := lt_of_cell hb'
  exact between_asks ((hb.cell (p := ⟨a, 0, none⟩) la).trans ha) ((hb.cell (p := ⟨b, 0, none⟩) lb).trans hb') (by unfold RF; omega) (by unfold RF; omega)

theorem ei_at {w4 W : World} {rb g : Nat} {cs : Array Value} {q1 q2 q3 q4 : Value} (hblk : w4.heap[rb]? = some (.cells cs 129 (0, 0))) (hb : Below w4.heap.size w4 W) (hg : W.heap[g]? = some (.cells #[q1, q2, q3, q4] 127 (0, 0))) (hgl : w4.heap.size ≤ g) (e7 : cs[7]? = some .nilFunc) (e2 : cs[2]? = some .nilFunc) :
    Calls Tryz.prog 104 #[.slice (some ⟨g, 0, none⟩) 4 4] W fun e w' => ∃ a, e = .returned (.func (.func 123) #[] #[.pointer (some ⟨a, 0, none⟩)]) ∧ rb < w'.heap.size ∧ w'.frozen? ⟨rb, 7, none⟩ = false ∧ w'.cell? ⟨rb, 7, none⟩ = some .nilFunc ∧ w'.frozen? ⟨rb, 2, none⟩ = false ∧ w'.cell? ⟨rb, 2, none⟩ = some .nilFunc ∧
      Hid (Below w4.heap.size w4 w' ∧ w'.cell? ⟨a, 0, none⟩ = some (.slice (some ⟨g, 0, none⟩) 4 4) ∧ w'.heap[g]? = some (.cells #[q1, q2, q3, q4] 127 (0, 0)) ∧ w'.heap[rb]? = some (.cells cs 129 (0, 0)) ∧ w4.heap.size ≤ a) := by
  refine (either_any g W).mono ?_
  rintro e w' ⟨a, rfl, h1, h2, h3⟩
  have hbk : w'.heap[rb]? = some (.cells cs 129 (0, 0)) := ((h1.block rb (Nat.lt_of_lt_of_le (Array.getElem?_eq_some_iff.1 hblk).1 hb.size)).trans (hb.block rb (Array.getElem?_eq_some_iff.1 hblk).1)).trans hblk
  have hs := hb.size
  exact ⟨a, rfl, (Array.getElem?_eq_some_iff.1 hbk).1, by simp [World.frozen?, hbk], by rw [cell_of_row w' rb 7 _ _ _ hbk, e7], by simp [World.frozen?, hbk], by rw [cell_of_row w' rb 2 _ _ _ hbk, e2], hb.trans (h1.mono hb.size), h2, (h1.block g (Array.getElem?_eq_some_iff.1 hg).1).trans hg, hbk, by omega⟩

theorem no_at {w6 : World} {rb k : Nat} {cs : Array Value} {fi ca : Array Value} (hblk : w6.heap[rb]? = some (.cells cs 129 (0, 0))) (e3 : cs[3]? = some .nilFunc) :
    Calls Tryz.prog 106 #[.func (.func k) fi ca] w6 fun e w' => ∃ a, e = .returned (.func (.func 125) #[] #[.pointer (some ⟨a, 0, none⟩)]) ∧ rb < w'.heap.size ∧ w'.frozen? ⟨rb, 3, none⟩ = false ∧ w'.cell? ⟨rb, 3, none⟩ = some .nilFunc ∧
      Hid (Below w6.heap.size w6 w' ∧ w'.cell? ⟨a, 0, none⟩ = some (.func (.func k) fi ca) ∧ w'.heap[rb]? = some (.cells cs 129 (0, 0)) ∧ w6.heap.size ≤ a) := by
  refine (not_any k fi ca w6).mono ?_
  rintro e w' ⟨a, rfl, h1, h2, h3⟩
  have hbk : w'.heap[rb]? = some (.cells cs 129 (0, 0)) := (h1.block rb (Array.getElem?_eq_some_iff.1 hblk).1).trans hblk
  exact ⟨a, rfl, (Array.getElem?_eq_some_iff.1 hbk).1, by simp [World.frozen?, hbk], by rw [cell_of_row w' rb 3 _ _ _ hbk, e3], h1, h2, hbk, h3⟩

/-- What newReader leaves is a reader. -/
theorem new_end {w w1 w2 w3 w4 w5 w6 : World} {rb a5 g a6 : Nat} {q1 q2 q3 : Value} {s : ByteArray} (HB1 : Below w.heap.size w w1) (HB2 : Below w1.heap.size w1 w2) (HB3 : Below w2.heap.size w2 w3) (HB4 : Below w3.heap.size w3 w4) (hrb : rb = w3.heap.size) (hr4 : rb < w4.heap.size)
    (HC1 : BetQ 97 122 q1 w1) (HC2 : BetQ 65 90 q2 w2) (HC3 : BetQ 48 57 q3 w3) (hg4 : w4.heap.size ≤ g)
    (H5 : Below w4.heap.size w4 w5 ∧ w5.cell? ⟨a5, 0, none⟩ = some (.slice (some ⟨g, 0, none⟩) 4 4) ∧ w5.heap[g]? = some (.cells #[q1, q2, q3, .func (.func 105) #[.string ⟨#[95]⟩] #[]] 127 (0, 0)) ∧ w5.heap[rb]? = some (.cells #[.string s, .int .i64 0, .nilFunc, .nilFunc, q1, q2, q3, .nilFunc] 129 (0, 0)) ∧ w4.heap.size ≤ a5)
    (H6 : Below ((w5.setCell ⟨rb, 7, none⟩ (.func (.func 123) #[] #[.pointer (some ⟨a5, 0, none⟩)])).setCell ⟨rb, 2, none⟩ (.func (.func 105) #[.string ⟨#[9, 10, 13, 32]⟩] #[])).heap.size ((w5.setCell ⟨rb, 7, none⟩ (.func (.func 123) #[] #[.pointer (some ⟨a5, 0, none⟩)])).setCell ⟨rb, 2, none⟩ (.func (.func 105) #[.string ⟨#[9, 10, 13, 32]⟩] #[])) w6 ∧
      w6.cell? ⟨a6, 0, none⟩ = some (.func (.func 105) #[.string ⟨#[10]⟩] #[]) ∧ w6.heap[rb]? = some (.cells #[.string s, .int .i64 0, .func (.func 105) #[.string ⟨#[9, 10, 13, 32]⟩] #[], .nilFunc, q1, q2, q3, .func (.func 123) #[] #[.pointer (some ⟨a5, 0, none⟩)]] 129 (0, 0)) ∧
      ((w5.setCell ⟨rb, 7, none⟩ (.func (.func 123) #[] #[.pointer (some ⟨a5, 0, none⟩)])).setCell ⟨rb, 2, none⟩ (.func (.func 105) #[.string ⟨#[9, 10, 13, 32]⟩] #[])).heap.size ≤ a6) :
    Below w.heap.size w (w6.setCell ⟨rb, 3, none⟩ (.func (.func 125) #[] #[.pointer (some ⟨a6, 0, none⟩)])) ∧ w.heap.size ≤ rb ∧ Rdr (w6.setCell ⟨rb, 3, none⟩ (.func (.func 125) #[] #[.pointer (some ⟨a6, 0, none⟩)])).heap.size (w6.setCell ⟨rb, 3, none⟩ (.func (.func 125) #[] #[.pointer (some ⟨a6, 0, none⟩)])) rb s 0 := by
  obtain ⟨b45, ca5, hg5, hr5, la5⟩ := H5
  obtain ⟨b56, ca6, hr6, la6⟩ := H6
  have hz5 : ((w5.setCell ⟨rb, 7, none⟩ (.func (.func 123) #[] #[.pointer (some ⟨a5, 0, none⟩)])).setCell ⟨rb, 2, none⟩ (.func (.func 105) #[.string ⟨#[9, 10, 13, 32]⟩] #[])).heap.size = w5.heap.size := by simp [World.setCell]
  have t1 : Turns (fun i => i = rb) w5 w6 := ((((Turns.refl (fun i => i = rb) w5).setCell (p := ⟨rb, 7, none⟩) (fun _ => rfl) _).setCell (p := ⟨rb, 2, none⟩) (fun _ => rfl) _)).then (Turns.of_below b56)
  have t2 : Turns (fun i => i = rb) w6 (w6.setCell ⟨rb, 3, none⟩ (.func (.func 125) #[] #[.pointer (some ⟨a6, 0, none⟩)])) := (Turns.refl (fun i => i = rb) w6).setCell (p := ⟨rb, 3, none⟩) (fun _ => rfl) _
  have hrf : (w6.setCell ⟨rb, 3, none⟩ (.func (.func 125) #[] #[.pointer (some ⟨a6, 0, none⟩)])).heap[rb]? = some (.cells #[.string s, .int .i64 0, .func (.func 105) #[.string ⟨#[9, 10, 13, 32]⟩] #[], .func (.func 125) #[] #[.pointer (some ⟨a6, 0, none⟩)], q1, q2, q3, .func (.func 123) #[] #[.pointer (some ⟨a5, 0, none⟩)]] 129 (0, 0)) := by
    simp [World.setCell, Array.getElem?_modify, hr6]
  have hzf : (w6.setCell ⟨rb, 3, none⟩ (.func (.func 125) #[] #[.pointer (some ⟨a6, 0, none⟩)])).heap.size = w6.heap.size := by simp [World.setCell]
  obtain ⟨wf, hwf⟩ : ∃ wf, wf = w6.setCell ⟨rb, 3, none⟩ (.func (.func 125) #[] #[.pointer (some ⟨a6, 0, none⟩)]) := ⟨_, rfl⟩
  rw [← hwf] at t2 hrf hzf
  rw [← hwf]
  clear hwf
  have tf := t1.then t2
  have z4 := HB4.size
  have z5 := b45.size
  have z56 := t1.size
  have b35 : Below w3.heap.size w3 w5 := HB4.trans (b45.mono z4)
  have b3f : Below w3.heap.size w3 wf := b35.trans (tf.below (by omega) (fun k e => by omega))
  have b2f : Below w2.heap.size w2 wf := HB3.trans (b3f.mono HB3.size)
  have b1f : Below w1.heap.size w1 wf := HB2.trans (b2f.mono HB2.size)
  have z1 := HB1.size
  have z2 := HB2.size
  have z3 := HB3.size
  have l5 := lt_of_cell ca5
  have l6 := lt_of_cell ca6
  have lg := (Array.getElem?_eq_some_iff.1 hg5).1
  have lr := (Array.getElem?_eq_some_iff.1 hrf).1
  have A1 : Asks (RF wf.heap.size rb) wf q1 smallQ := HC1.asks b1f (by omega) (by omega)
  have A2 : Asks (RF wf.heap.size rb) wf q2 greatQ := HC2.asks b2f (by omega) (by omega)
  have A3 : Asks (RF wf.heap.size rb) wf q3 figureQ := HC3.asks b3f (by omega) (by omega)
  have A4 : Asks (RF wf.heap.size rb) wf (.func (.func 105) #[.string ⟨#[95]⟩] #[]) (fun c => decide (c ∈ [(95 : UInt8)])) := has_asks _ _ ⟨#[95]⟩
  have A5 : Asks (RF wf.heap.size rb) wf (.func (.func 105) #[.string ⟨#[9, 10, 13, 32]⟩] #[]) blankQ := by rw [blank_mem]; exact has_asks _ _ ⟨#[9, 10, 13, 32]⟩
  have A6 : Asks (RF wf.heap.size rb) wf (.func (.func 105) #[.string ⟨#[10]⟩] #[]) (fun c => decide (c ∈ [(10 : UInt8)])) := has_asks _ _ ⟨#[10]⟩
  have hc6 : wf.cell? ⟨a6, 0, none⟩ = some (.func (.func 105) #[.string ⟨#[10]⟩] #[]) := (t2.cell (p := ⟨a6, 0, none⟩) l6 (by simp; omega)).trans ca6
  have hc5 : wf.cell? ⟨a5, 0, none⟩ = some (.slice (some ⟨g, 0, none⟩) 4 4) := (tf.cell (p := ⟨a5, 0, none⟩) l5 (by simp; omega)).trans ca5
  have hgf : wf.heap[g]? = some (.cells #[q1, q2, q3, .func (.func 105) #[.string ⟨#[95]⟩] #[]] 127 (0, 0)) := (tf.block g lg (by omega)).trans hg5
  have A7 : Asks (RF wf.heap.size rb) wf (.func (.func 125) #[] #[.pointer (some ⟨a6, 0, none⟩)]) remarkQ := by rw [remark_mem]; exact not_asks hc6 (by unfold RF; omega) A6
  have A8 : Asks (RF wf.heap.size rb) wf (.func (.func 123) #[] #[.pointer (some ⟨a5, 0, none⟩)]) innerQ := by
    rw [inner_any]
    refine either_asks (g := g) [q1, q2, q3, .func (.func 105) #[.string ⟨#[95]⟩] #[]] [smallQ, greatQ, figureQ, fun c : UInt8 => decide (c ∈ [(95 : UInt8)])] rfl (by simp) hc5 (by unfold RF; omega) (by unfold RF; omega) ?_ ?_
    · intro i q hi
      rw [cell_of_row wf g i _ _ _ hgf]
      match i, hi with
      | 0, hi => exact hi
      | 1, hi => exact hi
      | 2, hi => exact hi
      | 3, hi => exact hi
    · intro i q f hi hf
      match i, hi, hf with
      | 0, hi, hf => cases hi; cases hf; exact A1
      | 1, hi, hf => cases hi; cases hf; exact A2
      | 2, hi, hf => cases hi; cases hf; exact A3
      | 3, hi, hf => cases hi; cases hf; exact A4
  exact ⟨HB1.trans (b1f.mono z1), by omega, lr, Nat.le_refl _, _, _, _, _, _, _, hrf, A5, A7, A1, A2, A3, A8⟩

set_option maxHeartbeats 4000000 in
theorem newReader_any (s : ByteArray) (w : World) :
    Calls Tryz.prog 83 #[.string s] w fun e w' => ∃ rb, e = .returned (.pointer (some ⟨rb, 0, none⟩)) ∧ Below w.heap.size w w' ∧ w.heap.size ≤ rb ∧ Rdr w'.heap.size w' rb s 0 := by
  go_enter Tryz.func83, Tryz.ntmps83
  go_wp2_with fail
  refine (between_any 97 122 _).mono ?_
  rintro e w1 ⟨a1, b1, rfl, hb1, ca1, cb1⟩
  have HB1 := Lib.hid hb1
  obtain ⟨q1, hq1⟩ : ∃ q, q = Value.func (.func 122) #[] #[.pointer (some ⟨a1, 0, none⟩), .pointer (some ⟨b1, 0, none⟩)] := ⟨_, rfl⟩
  have HC1 : Hid (BetQ 97 122 q1 w1) := ⟨a1, b1, hq1, ca1, cb1⟩
  have HQ1 := Lib.hid hq1
  clear hb1 ca1 cb1 hq1
  go_wp2_with fail
  refine (between_any 65 90 _).mono ?_
  rintro e w2 ⟨a2, b2, rfl, hb2, ca2, cb2⟩
  have HB2 := Lib.hid hb2
  obtain ⟨q2, hq2⟩ : ∃ q, q = Value.func (.func 122) #[] #[.pointer (some ⟨a2, 0, none⟩), .pointer (some ⟨b2, 0, none⟩)] := ⟨_, rfl⟩
  have HC2 : Hid (BetQ 65 90 q2 w2) := ⟨a2, b2, hq2, ca2, cb2⟩
  have HQ2 := Lib.hid hq2
  clear hb2 ca2 cb2 hq2
  go_wp2_with fail
  refine (between_any 48 57 _).mono ?_
  rintro e w3 ⟨a3, b3, rfl, hb3, ca3, cb3⟩
  have HB3 := Lib.hid hb3
  obtain ⟨q3, hq3⟩ : ∃ q, q = Value.func (.func 122) #[] #[.pointer (some ⟨a3, 0, none⟩), .pointer (some ⟨b3, 0, none⟩)] := ⟨_, rfl⟩
  have HC3 : Hid (BetQ 48 57 q3 w3) := ⟨a3, b3, hq3, ca3, cb3⟩
  have HQ3 := Lib.hid hq3
  clear hb3 ca3 cb3 hq3
  go_wp2_with fail
  rw [← HQ1.out, ← HQ2.out, ← HQ3.out]
  have hbk4 : (w3.alloc (.cells #[.string s, .int .i64 0, .nilFunc, .nilFunc, q1, q2, q3, .nilFunc] 129)).heap[w3.heap.size]? = some (.cells #[.string s, .int .i64 0, .nilFunc, .nilFunc, q1, q2, q3, .nilFunc] 129 (0, 0)) := (MapKept.heap_alloc w3 _).1
  have hbl4 : Below w3.heap.size w3 (w3.alloc (.cells #[.string s, .int .i64 0, .nilFunc, .nilFunc, q1, q2, q3, .nilFunc] 129)) := (Below.refl _ _).alloc (Nat.le_refl _) _
  obtain ⟨w4, hw4⟩ : ∃ w4, w4 = w3.alloc (.cells #[.string s, .int .i64 0, .nilFunc, .nilFunc, q1, q2, q3, .nilFunc] 129) := ⟨_, rfl⟩
  rw [← hw4] at hbk4 hbl4
  rw [← hw4]
  clear hw4
  have hsz4 : w3.heap.size < w4.heap.size := (Array.getElem?_eq_some_iff.1 hbk4).1
  obtain ⟨rb, hrb⟩ : ∃ rb, rb = w3.heap.size := ⟨_, rfl⟩
  rw [← hrb] at hbk4 hsz4
  rw [← hrb]
  have HRB := Lib.hid hrb
  have HBL4 := Lib.hid hbl4
  have c4 : w4.cell? ⟨rb, 4, none⟩ = some (.func (.func 122) #[] #[.pointer (some ⟨a1, 0, none⟩), .pointer (some ⟨b1, 0, none⟩)]) := by rw [cell_of_row w4 rb 4 _ _ _ hbk4, ← HQ1.out]; rfl
  have c5 : w4.cell? ⟨rb, 5, none⟩ = some (.func (.func 122) #[] #[.pointer (some ⟨a2, 0, none⟩), .pointer (some ⟨b2, 0, none⟩)]) := by rw [cell_of_row w4 rb 5 _ _ _ hbk4, ← HQ2.out]; rfl
  have c6 : w4.cell? ⟨rb, 6, none⟩ = some (.func (.func 122) #[] #[.pointer (some ⟨a3, 0, none⟩), .pointer (some ⟨b3, 0, none⟩)]) := by rw [cell_of_row w4 rb 6 _ _ _ hbk4, ← HQ3.out]; rfl
  have HEI := Lib.hid (fun (W : World) (g : Nat) (q1 q2 q3 q4 : Value) (hb : Below w4.heap.size w4 W) (hg : W.heap[g]? = some (.cells #[q1, q2, q3, q4] 127 (0, 0))) (hgl : w4.heap.size ≤ g) => ei_at hbk4 hb hg hgl rfl rfl)
  rw [HQ1.out, HQ2.out, HQ3.out]
  clear hrb hbl4 hbk4
  go_region_with (go_at_call 104; refine (HEI.out _ w4.heap.size _ _ _ _ (by first | exact (Below.refl _ _).alloc (Nat.le_refl _) _ | exact ((Below.refl _ _).alloc (Nat.le_refl _) _).drew) (by exact (MapKept.heap_alloc w4 _).1) (Nat.le_refl _)).mono ?_; rintro e w5 ⟨a5, rfl, hl5, f57, g57, f52, g52, H5⟩)
  all_goals
    clear c4 c5 c6 HEI
    go_wp2_with fail
    refine (no_at (rb := rb) (cs := #[.string s, .int .i64 0, .func (.func 105) #[.string ⟨#[9, 10, 13, 32]⟩] #[], .nilFunc, .func (.func 122) #[] #[.pointer (some ⟨a1, 0, none⟩), .pointer (some ⟨b1, 0, none⟩)], .func (.func 122) #[] #[.pointer (some ⟨a2, 0, none⟩), .pointer (some ⟨b2, 0, none⟩)], .func (.func 122) #[] #[.pointer (some ⟨a3, 0, none⟩), .pointer (some ⟨b3, 0, none⟩)], .func (.func 123) #[] #[.pointer (some ⟨a5, 0, none⟩)]]) (by have h5 := H5.out.2.2.2.1; rw [HQ1.out, HQ2.out, HQ3.out] at h5; simp [World.setCell, Array.getElem?_modify, h5]) rfl).mono ?_
    rintro e w6 ⟨a6, rfl, hl6, f63, g63, H6⟩
    clear hl5 f57 g57 f52 g52
    go_wp2
    go_ret
    rw [← HQ1.out, ← HQ2.out, ← HQ3.out] at H6
    exact ⟨rb, rfl, new_end HB1.out HB2.out HB3.out HBL4.out HRB.out hsz4 HC1.out HC2.out HC3.out (Nat.le_refl _) (by have h5 := H5.out; rw [← HQ1.out, ← HQ2.out, ← HQ3.out] at h5; exact h5) H6.out⟩
end Go.Proofs.YtbbmihojfcofdaaGreatDoor
