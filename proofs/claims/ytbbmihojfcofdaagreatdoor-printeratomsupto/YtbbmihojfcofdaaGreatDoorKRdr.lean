/-
  A reader in memory (Rdr). Contracts of its take, escaped and passOver.
-/
import Derived.Test.YtbbmihojfcofdaaGreatDoorKEnd
import Derived.Deep.RegionHeld3
import Derived.BigQuiet
import Derived.Deep.DeepBigQuietO
import Derived.Deep.Strs
namespace Go.Proofs.YtbbmihojfcofdaaGreatDoor
set_option linter.unusedSimpArgs false
set_option linter.unusedVariables false
set_option linter.unusedSectionVars false
set_option maxRecDepth 100000
open Go.RowKit

theorem cell_of_row (w : World) (b off : Nat) (cs : Array Value) (t : TypeId) (z : Nat × Nat) (h : w.heap[b]? = some (.cells cs t z)) : w.cell? ⟨b, off, none⟩ = cs[off]? := by simp [World.cell?, h]

/-- The reader's own block, and what lies from n on. -/
def RF (n rb : Nat) (i : Nat) : Prop := i = rb ∨ n ≤ i
theorem Turns.rf {n rb : Nat} {w w' : World} (h : Turns (fun i => i = rb) w w') : Turns (RF n rb) w w' := h.mono (fun _ h => .inl h)
/-- A READER: block rb holds the text, the place, and the six questions, which lie below n. -/
def Rdr (n : Nat) (w : World) (rb : Nat) (s : ByteArray) (p : Nat) : Prop :=
  rb < n ∧ n ≤ w.heap.size ∧ ∃ q2 q3 q4 q5 q6 q7, w.heap[rb]? = some (.cells #[.string s, .int .i64 (p : Int), q2, q3, q4, q5, q6, q7] 129 (0, 0)) ∧
    Asks (RF n rb) w q2 blankQ ∧ Asks (RF n rb) w q3 remarkQ ∧ Asks (RF n rb) w q4 smallQ ∧ Asks (RF n rb) w q5 greatQ ∧ Asks (RF n rb) w q6 figureQ ∧ Asks (RF n rb) w q7 innerQ
theorem Rdr.lt {w : World} {n rb : Nat} {s : ByteArray} {p : Nat} (h : Rdr n w rb s p) : rb < w.heap.size := by
  exact Nat.lt_of_lt_of_le h.1 h.2.1
theorem Rdr.move {w w' : World} {n rb : Nat} {s : ByteArray} {p : Nat} (h : Rdr n w rb s p) (ht : Turns (RF n rb) w w') (hk : w'.heap[rb]? = w.heap[rb]?) : Rdr n w' rb s p := by
  obtain ⟨h0, h1, q2, q3, q4, q5, q6, q7, h, a2, a3, a4, a5, a6, a7⟩ := h
  exact ⟨h0, Nat.le_trans h1 ht.size, q2, q3, q4, q5, q6, q7, hk.trans h, a2.on ht, a3.on ht, a4.on ht, a5.on ht, a6.on ht, a7.on ht⟩
theorem Rdr.below {w w' : World} {n rb : Nat} {s : ByteArray} {p : Nat} (h : Rdr n w rb s p) (hb : Below w.heap.size w w') : Rdr n w' rb s p :=
  h.move (Turns.of_below hb) (hb.block rb h.lt)
theorem Rdr.fill {w : World} {n rb : Nat} {s : ByteArray} {p : Nat} (h : Rdr n w rb s p) {b : Nat} (hb : n ≤ b) {o : Nat} (v : Value) : Rdr n (w.setCell ⟨b, o, none⟩ v) rb s p :=
  h.move ((Turns.refl (RF n rb) w).setCell (p := ⟨b, o, none⟩) (fun _ => .inr hb) _) (Below.heap_setCell _ _ _ _ (by have := h.1; simp; omega))
theorem Rdr.same {w w' : World} {n rb : Nat} {s : ByteArray} {p : Nat} (h : Rdr n w rb s p) (e : w'.heap = w.heap) (a : w'.os = w.os) (b : w'.tape = w.tape) (c : w'.output = w.output) : Rdr n w' rb s p :=
  h.below ⟨a, b, c, by rw [e]; exact Nat.le_refl _, fun k _ => by rw [e]⟩
theorem Rdr.put {w : World} {n rb : Nat} {s : ByteArray} {p : Nat} (h : Rdr n w rb s p) (p' : Nat) : Rdr n (w.setCell ⟨rb, 1, none⟩ (.int .i64 (p' : Int))) rb s p' := by
  obtain ⟨h0, h1, q2, q3, q4, q5, q6, q7, h, a2, a3, a4, a5, a6, a7⟩ := h
  have ht : Turns (RF n rb) w (w.setCell ⟨rb, 1, none⟩ (.int .i64 (p' : Int))) := (Turns.refl (RF n rb) w).setCell (p := ⟨rb, 1, none⟩) (fun _ => .inl rfl) _
  refine ⟨h0, Nat.le_trans h1 ht.size, q2, q3, q4, q5, q6, q7, ?_, a2.on ht, a3.on ht, a4.on ht, a5.on ht, a6.on ht, a7.on ht⟩
  simp [World.setCell, Array.getElem?_modify, h]
theorem Rdr.cells {w : World} {n rb : Nat} {s : ByteArray} {p : Nat} (h : Rdr n w rb s p) : ∃ q2 q3 q4 q5 q6 q7,
    w.cell? ⟨rb, 0, none⟩ = some (.string s) ∧ w.cell? ⟨rb, 1, none⟩ = some (.int .i64 (p : Int)) ∧ w.cell? ⟨rb, 2, none⟩ = some q2 ∧ w.cell? ⟨rb, 3, none⟩ = some q3 ∧ w.cell? ⟨rb, 4, none⟩ = some q4 ∧ w.cell? ⟨rb, 5, none⟩ = some q5 ∧ w.cell? ⟨rb, 6, none⟩ = some q6 ∧ w.cell? ⟨rb, 7, none⟩ = some q7 ∧ w.frozen? ⟨rb, 1, none⟩ = false ∧
    Asks (RF n rb) w q2 blankQ ∧ Asks (RF n rb) w q3 remarkQ ∧ Asks (RF n rb) w q4 smallQ ∧ Asks (RF n rb) w q5 greatQ ∧ Asks (RF n rb) w q6 figureQ ∧ Asks (RF n rb) w q7 innerQ := by
  obtain ⟨-, -, q2, q3, q4, q5, q6, q7, h, a⟩ := h
  exact ⟨q2, q3, q4, q5, q6, q7, by rw [cell_of_row w rb 0 _ _ _ h]; rfl, by rw [cell_of_row w rb 1 _ _ _ h]; rfl, by rw [cell_of_row w rb 2 _ _ _ h]; rfl, by rw [cell_of_row w rb 3 _ _ _ h]; rfl, by rw [cell_of_row w rb 4 _ _ _ h]; rfl, by rw [cell_of_row w rb 5 _ _ _ h]; rfl, by rw [cell_of_row w rb 6 _ _ _ h]; rfl, by rw [cell_of_row w rb 7 _ _ _ h]; rfl, by simp [World.frozen?, h], a⟩

set_option maxHeartbeats 1000000 in
theorem take_any {w : World} {n rb : Nat} {s : ByteArray} {p : Nat} (hR : Rdr n w rb s p) (e0 : Nat) (h1 : p ≤ e0) (h2 : e0 ≤ s.size) (hs : s.size ≤ 65536) :
    Calls Tryz.prog 126 #[.pointer (some ⟨rb, 0, none⟩), .int .i64 (e0 : Int)] w fun e w' => e = .returned (.string (s.extract p e0)) ∧ Rdr n w' rb s e0 ∧ Turns (fun i => i = rb) w w' := by
  obtain ⟨q2, q3, q4, q5, q6, q7, c0, c1, c2, c3, c4, c5, c6, c7, f1, -⟩ := hR.cells
  have HD : Hid (∀ W : World, W.heap = w.heap → W.os = w.os → W.tape = w.tape → W.output = w.output → Rdr n (W.setCell ⟨rb, 1, none⟩ (.int .i64 (e0 : Int))) rb s e0 ∧ Turns (fun i => i = rb) w (W.setCell ⟨rb, 1, none⟩ (.int .i64 (e0 : Int)))) := fun W a1 a2 a3 a4 => by
    have hR' := hR.same a1 a2 a3 a4
    have t1 : Turns (fun i => i = rb) w W := ⟨a2, a3, a4, by rw [a1]; exact Nat.le_refl _, fun k _ _ => by rw [a1]⟩
    exact ⟨hR'.put e0, t1.then ((Turns.refl (fun i => i = rb) W).setCell (p := ⟨rb, 1, none⟩) (fun _ => rfl) _)⟩
  have i1 : (p : Int) ≤ (e0 : Int) := by omega
  have i2 : (e0 : Int) ≤ (s.size : Int) := by omega
  have i3 : (s.size : Int) ≤ 65536 := by omega
  clear hR c2 c3 c4 c5 c6 c7 h1 h2 hs
  go_enter Tryz.func126, Tryz.ntmps126
  go_wp2_with fail
  go_quiet (fail)
  go_wp2
  go_ret
  exact ⟨rfl, HD.out _ rfl rfl rfl rfl⟩

/-- What the byte behind a backslash stands for. -/
def escO (l : List UInt8) : Option UInt8 :=
  match l with
  | [] => none
  | d :: _ => if d = 110 then some 10 else if d = 92 ∨ d = 39 then some d else none
def escV (o : Option UInt8) : Value := .tuple #[.int .u8 (((o.getD 0).toNat : Nat) : Int), .bool o.isSome]

set_option maxHeartbeats 2000000 in
theorem escaped_any {w : World} {n rb : Nat} {s : ByteArray} {p : Nat} (hR : Rdr n w rb s p) (hs : s.size ≤ 65536) (hp : p ≤ 65537) :
    Calls Tryz.prog 127 #[.pointer (some ⟨rb, 0, none⟩)] w fun e w' => e = .returned (escV (escO (s.data.toList.drop p))) ∧ Below w.heap.size w w' := by
  obtain ⟨q2, q3, q4, q5, q6, q7, c0, c1, c2, c3, c4, c5, c6, c7, f1, -⟩ := hR.cells
  have hrb := hR.lt
  have HD : Hid (∀ W : World, W.heap = w.heap → W.os = w.os → W.tape = w.tape → W.output = w.output → Below w.heap.size w W) := fun W a1 a2 a3 a4 =>
    ⟨a2, a3, a4, by rw [a1]; exact Nat.le_refl _, fun k _ => by rw [a1]⟩
  have i3 : (s.size : Int) ≤ 65536 := by omega
  clear hR c2 c3 c4 c5 c6 c7 f1
  by_cases hlt : p < s.size
  · have hltI : (p : Int) < (s.size : Int) := by omega
    rw [drop_at hlt]
    by_cases h110 : s[p] = 110
    · have b1 : ((s[p].toNat : Int) == 110) = true := by rw [h110]; rfl
      have E : Hid (escV (escO (s[p] :: s.data.toList.drop (p + 1))) = .tuple #[.int .u8 10, .bool true]) := by simp [Hid, escO, h110, escV]
      clear h110
      go_enter Tryz.func127, Tryz.ntmps127
      go_wp2_with fail
      go_quiet (fail)
      go_wp2_with fail
      go_quiet (fail)
      go_wp2
      go_ret2
      refine ⟨?_, HD.out _ rfl rfl rfl rfl⟩
      rw [E.out]; rfl
    · have b1 : ((s[p].toNat : Int) == 110) = false := by
        rw [beq_eq_false_iff_ne]
        intro h
        exact h110 (UInt8.toNat_inj.1 (by simpa using (by omega : s[p].toNat = 110)))
      by_cases h92 : s[p] = 92
      · have b2 : ((s[p].toNat : Int) == 92) = true := by rw [h92]; rfl
        have E : Hid (escV (escO (s[p] :: s.data.toList.drop (p + 1))) = .tuple #[.int .u8 (s[p].toNat : Int), .bool true]) := by simp [Hid, escO, h92, escV]
        clear h110 h92
        go_enter Tryz.func127, Tryz.ntmps127
        go_wp2_with fail
        go_quiet (fail)
        go_wp2_with fail
        go_quiet (fail)
        go_wp2
        go_ret2
        refine ⟨?_, HD.out _ rfl rfl rfl rfl⟩
        rw [E.out]; rfl
      · have b2 : ((s[p].toNat : Int) == 92) = false := by
          rw [beq_eq_false_iff_ne]
          intro h
          exact h92 (UInt8.toNat_inj.1 (by simpa using (by omega : s[p].toNat = 92)))
        by_cases h39 : s[p] = 39
        · have b3 : ((s[p].toNat : Int) == 39) = true := by rw [h39]; rfl
          have E : Hid (escV (escO (s[p] :: s.data.toList.drop (p + 1))) = .tuple #[.int .u8 (s[p].toNat : Int), .bool true]) := by simp [Hid, escO, h39, escV]
          clear h110 h92 h39
          go_enter Tryz.func127, Tryz.ntmps127
          go_wp2_with fail
          go_quiet (fail)
          go_wp2_with fail
          go_quiet (fail)
          go_wp2
          go_ret2
          refine ⟨?_, HD.out _ rfl rfl rfl rfl⟩
          rw [E.out]; rfl
        · have b3 : ((s[p].toNat : Int) == 39) = false := by
            rw [beq_eq_false_iff_ne]
            intro h
            exact h39 (UInt8.toNat_inj.1 (by simpa using (by omega : s[p].toNat = 39)))
          have E : Hid (escV (escO (s[p] :: s.data.toList.drop (p + 1))) = .tuple #[.int .u8 0, .bool false]) := by simp [Hid, escO, h110, h92, h39, escV]
          clear h110 h92 h39
          go_enter Tryz.func127, Tryz.ntmps127
          go_wp2_with fail
          go_quiet (fail)
          go_wp2_with fail
          go_quiet (fail)
          go_wp2
          go_ret2
          refine ⟨?_, HD.out _ rfl rfl rfl rfl⟩
          rw [E.out]; rfl
  · have hltI : ¬ (p : Int) < (s.size : Int) := by omega
    rw [List.drop_of_length_le (by simp; omega)]
    go_enter Tryz.func127, Tryz.ntmps127
    go_wp2_with fail
    go_quiet (fail)
    go_wp2
    go_ret2
    exact ⟨rfl, HD.out _ rfl rfl rfl rfl⟩
end Go.Proofs.YtbbmihojfcofdaaGreatDoor
