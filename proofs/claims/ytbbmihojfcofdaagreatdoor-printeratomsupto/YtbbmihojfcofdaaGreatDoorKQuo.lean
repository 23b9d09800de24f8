/-
  Contract of reader's quoted: a name in marks.
-/
import Derived.Test.YtbbmihojfcofdaaGreatDoorKMark
import Derived.Laws.IdiomStrings
import Derived.Deep.AppendLies
namespace Go.Proofs.YtbbmihojfcofdaaGreatDoor
set_option linter.unusedSimpArgs false
set_option linter.unusedVariables false
set_option linter.unusedSectionVars false
set_option maxRecDepth 100000
open Go.RowKit

/-- Behind a mark: the bytes that are meant, and how many are read, the last mark with them. -/
def quoS : List UInt8 → Option (List UInt8 × Nat)
  | [] => none
  | c :: l => if c = 39 then some ([], 1) else if c = 10 then none else if c = 92 then
      (match l with
      | [] => none
      | d :: l' => match escO [d] with
        | none => none
        | some b => (quoS l').map (fun r => (b :: r.1, r.2 + 2)))
    else (quoS l).map (fun r => (c :: r.1, r.2 + 1))
theorem quoS_39 (l : List UInt8) : quoS (39 :: l) = some ([], 1) := by cases l <;> simp [quoS]
theorem quoS_10 (l : List UInt8) : quoS (10 :: l) = none := by cases l <;> simp [quoS]
theorem quoS_else {c : UInt8} (l : List UInt8) (n1 : c ≠ 39) (n2 : c ≠ 10) (n3 : c ≠ 92) : quoS (c :: l) = (quoS l).map (fun r => (c :: r.1, r.2 + 1)) := by cases l <;> simp [quoS, n1, n2, n3]
theorem escO_cons (d : UInt8) (l : List UInt8) : escO (d :: l) = escO [d] := rfl
def quoOf (o : Option (List UInt8 × Nat)) : Got :=
  match o with
  | some r => ⟨0, ⟨1, ⟨r.1.toArray⟩, 0, true, 0⟩, r.2 + 1⟩
  | none => ⟨2, Tk.zero, 0⟩
def quoL (l : List UInt8) : Got := quoOf (quoS l.tail)

/-- Read up to k: B is what was meant so far. -/
def QAt (s : ByteArray) (p k : Nat) (B : List UInt8) : Prop := p + 1 ≤ k ∧ B.length ≤ k ∧ quoS (s.data.toList.drop (p + 1)) = (quoS (s.data.toList.drop k)).map (fun r => (B ++ r.1, r.2 + (k - (p + 1))))
theorem QAt.start (s : ByteArray) (p : Nat) : QAt s p (p + 1) [] := ⟨Nat.le_refl _, by simp, by simp⟩
theorem QAt.hit {s : ByteArray} {p k : Nat} {B : List UInt8} (h : QAt s p k B) (hk : k < s.size) (hc : s[k] = 39) : quoS (s.data.toList.drop (p + 1)) = some (B, k - p) := by
  obtain ⟨h1, -, h2⟩ := h
  rw [h2, drop_at hk, hc, quoS_39]
  simp; omega
theorem QAt.line {s : ByteArray} {p k : Nat} {B : List UInt8} (h : QAt s p k B) (hk : k < s.size) (hc : s[k] = 10) : quoS (s.data.toList.drop (p + 1)) = none := by
  obtain ⟨h1, -, h2⟩ := h
  rw [h2, drop_at hk, hc, quoS_10]
  rfl
theorem QAt.stop {s : ByteArray} {p k : Nat} {B : List UInt8} (h : QAt s p k B) (hk : ¬ k < s.size) : quoS (s.data.toList.drop (p + 1)) = none := by
  obtain ⟨h1, -, h2⟩ := h
  rw [h2, List.drop_of_length_le (by simp; omega)]
  simp [quoS]
theorem QAt.bad {s : ByteArray} {p k : Nat} {B : List UInt8} (h : QAt s p k B) (hk : k < s.size) (hc : s[k] = 92) (he : escO (s.data.toList.drop (k + 1)) = none) : quoS (s.data.toList.drop (p + 1)) = none := by
  obtain ⟨h1, -, h2⟩ := h
  rw [h2, drop_at hk, hc]
  cases hd : s.data.toList.drop (k + 1) with
  | nil => simp [quoS]
  | cons d l =>
    rw [hd, escO_cons] at he
    simp [quoS, he]
theorem QAt.esc {s : ByteArray} {p k : Nat} {B : List UInt8} (h : QAt s p k B) (hk : k < s.size) (hc : s[k] = 92) {b : UInt8} (he : escO (s.data.toList.drop (k + 1)) = some b) : k + 2 ≤ s.size ∧ QAt s p (k + 2) (B ++ [b]) := by
  obtain ⟨h1, h0, h2⟩ := h
  have hlt : k + 1 < s.size := by
    rcases Nat.lt_or_ge (k + 1) s.size with h | h
    · exact h
    · rw [List.drop_of_length_le (by simp; omega)] at he; simp [escO] at he
  refine ⟨hlt, by omega, by simp; omega, ?_⟩
  rw [h2, drop_at hk, hc, drop_at hlt]
  rw [drop_at hlt, escO_cons] at he
  simp only [quoS, he]
  cases quoS (s.data.toList.drop (k + 1 + 1)) with
  | none => simp
  | some r => simp; omega
theorem QAt.next {s : ByteArray} {p k : Nat} {B : List UInt8} (h : QAt s p k B) (hk : k < s.size) (n1 : s[k] ≠ 39) (n2 : s[k] ≠ 10) (n3 : s[k] ≠ 92) : QAt s p (k + 1) (B ++ [s[k]]) := by
  obtain ⟨h1, h0, h2⟩ := h
  refine ⟨by omega, by simp; omega, ?_⟩
  rw [h2, drop_at hk, quoS_else _ n1 n2 n3]
  cases quoS (s.data.toList.drop (k + 1)) with
  | none => simp
  | some r => simp; omega

theorem infoByteK : (Tryz.prog.info? 5).map (fun i => (i.zero, i.size, i.bytes)) = some (some (.int .u8 0), 1, 1) := by kernel_rfl
theorem byte_oneCell (l : List UInt8) : ∀ u ∈ Lib.byteCells l, u.oneCell' = true := by
  intro u hu
  obtain ⟨b, -, rfl⟩ := List.mem_map.1 hu
  rfl
theorem cell_new1 (w : World) (a : Value) (t : TypeId) : ∀ j u, [a][j]? = some u → (w.alloc (.cells #[a] t)).cell? ((⟨w.heap.size, 0, none⟩ : Addr).add j) = some u := by
  intro j u hj
  match j, hj with
  | 0, hj => simp at hj; subst hj; simp [Addr.add]

/-- Where memory below B is as it was. -/
theorem Left.past {n rb B : Nat} {w wr w1 : World} (h : Left n rb w wr) (hb : Below B wr w1) (hB : w.heap.size < B) : Left n rb w w1 :=
  ⟨h.turns.trans (G := fun i => B ≤ i) ⟨hb.os, hb.tape, hb.output, hb.size, fun k _ hk => hb.block k (by omega)⟩ (fun i hi hl => by omega), (hb.block _ hB).trans h.fresh⟩
theorem Rdr.past {n rb B : Nat} {w1 wr : World} {s : ByteArray} {p : Nat} (h : Rdr n wr rb s p) (hb : Below B wr w1) (hB : n ≤ B) : Rdr n w1 rb s p :=
  h.move ⟨hb.os, hb.tape, hb.output, hb.size, fun k _ hk => hb.block k (by
    rcases Nat.lt_or_ge k B with h' | h'
    · exact h'
    · exact absurd (Or.inr (by omega)) hk)⟩ (hb.block rb (by have := h.1; omega))
theorem Left.put {n rb : Nat} {w w' : World} (h : Left n rb w w') (hne : w.heap.size ≠ rb) (v : Value) : Left n rb w (w'.setCell ⟨rb, 1, none⟩ v) :=
  have t : Turns (fun i => i = rb) w' (w'.setCell ⟨rb, 1, none⟩ v) := (Turns.refl (fun i => i = rb) w').setCell (p := ⟨rb, 1, none⟩) (fun _ => rfl) _
  ⟨h.turns.then t, h.fresh.turns t hne⟩
theorem own_below {B : Nat} {e : TypeId} {k : Nat} {v : Value} {n : Nat} {xs : List Value} {w w' : World} (h : w.ownsRow B e k v n xs) (hb : Below w.heap.size w w') : w'.ownsRow B e k v n xs := by
  obtain ⟨h1, h2⟩ := h
  refine ⟨h1, ?_⟩
  rcases h2 with h2 | ⟨g, cap, cur, e1, e2, e3, e4⟩
  · exact .inl h2
  · exact .inr ⟨g, cap, cur, e1, e2, (hb.block g (Array.getElem?_eq_some_iff.1 e3).1).trans e3, e4⟩
theorem own_setCell {B : Nat} {e : TypeId} {k : Nat} {v : Value} {n : Nat} {xs : List Value} {w : World} (h : w.ownsRow B e k v n xs) {a : Addr} (ha : a.block < B) (u : Value) : (w.setCell a u).ownsRow B e k v n xs := by
  obtain ⟨h1, h2⟩ := h
  refine ⟨h1, ?_⟩
  rcases h2 with h2 | ⟨g, cap, cur, e1, e2, e3, e4⟩
  · exact .inl h2
  · exact .inr ⟨g, cap, cur, e1, e2, (Below.heap_setCell _ _ _ _ (by omega)).trans e3, e4⟩
theorem below_same {w W : World} (a1 : W.heap = w.heap) (a2 : W.os = w.os) (a3 : W.tape = w.tape) (a4 : W.output = w.output) : Below w.heap.size w W :=
  ⟨a2, a3, a4, by rw [a1]; exact Nat.le_refl _, fun k _ => by rw [a1]⟩
/-- What an append of its own to the bytes leaves. -/
theorem bytes_append {B : Nat} {wr w1 : World} {e : TypeId} {o : Obj} {v v' : Value} {l m : List UInt8} (hB : B ≤ wr.heap.size) (hown : wr.ownsRow B e 1 v l.length (Lib.byteCells l))
    (hown' : w1.ownsRow B e 1 v' (l.length + m.length) (Lib.byteCells l ++ Lib.byteCells m)) (hg : (wr.alloc o).grownBy w1 v.ownBlock) :
    w1.ownsRow B e 1 v' (l ++ m).length (Lib.byteCells (l ++ m)) ∧ Below B wr w1 := by
  refine ⟨?_, ((Below.refl B wr).alloc hB _).grown hg (by simp; omega) (fun k hk => (hown.lt k hk).1)⟩
  have e1 : Lib.byteCells (l ++ m) = Lib.byteCells l ++ Lib.byteCells m := by simp [Lib.byteCells]
  rw [e1, List.length_append]; exact hown'
/-- A reader that reads a name in marks: its own bytes lie from B on. -/
structure Quo (n rb : Nat) (s : ByteArray) (k : Nat) (w wr : World) (v : Value) (L : List UInt8) : Prop where
  rdr : Rdr n wr rb s k
  left : Left n rb w wr
  own : wr.ownsRow (w.heap.size + 1) 5 1 v L.length (Lib.byteCells L)
theorem Quo.put {n rb : Nat} {s : ByteArray} {k : Nat} {w wr : World} {v : Value} {L : List UInt8} (h : Quo n rb s k w wr v L) (hn : n ≤ w.heap.size) (k' : Nat) : Quo n rb s k' w (wr.setCell ⟨rb, 1, none⟩ (.int .i64 (k' : Int))) v L :=
  ⟨h.rdr.put k', h.left.put (by have := h.rdr.1; omega) _, own_setCell h.own (by have := h.rdr.1; simp; omega) _⟩
theorem Quo.below {n rb : Nat} {s : ByteArray} {k : Nat} {w wr w1 : World} {v : Value} {L : List UInt8} (h : Quo n rb s k w wr v L) (hb : Below wr.heap.size wr w1) : Quo n rb s k w w1 v L :=
  ⟨h.rdr.below hb, h.left.below hb, own_below h.own hb⟩
theorem Quo.app {n rb : Nat} {s : ByteArray} {k : Nat} {w wr w1 : World} {v v' : Value} {L m : List UInt8} {o : Obj} (h : Quo n rb s k w wr v L) (hn : n ≤ w.heap.size)
    (hown' : w1.ownsRow (w.heap.size + 1) 5 1 v' (L.length + m.length) (Lib.byteCells L ++ Lib.byteCells m)) (hg : (wr.alloc o).grownBy w1 v.ownBlock) : Quo n rb s k w w1 v' (L ++ m) := by
  obtain ⟨r, l, ow⟩ := h
  have hB := l.lt
  obtain ⟨h1, h2⟩ := bytes_append (by omega) ow hown' hg
  exact ⟨r.past h2 (by omega), l.past h2 (by omega), h1⟩
theorem conv_nil (w : World) : (convert 87 9 (.slice none 0 0)).run Tryz.prog w = .ok (.string ⟨#[]⟩) w := by
  rw [run_convert_bytes_string w 87 9 5 none 0 0 Tryz.underlying87 Tryz.underlying5 Tryz.underlying9]
  first | rfl | simp [go_sem]
/-- The bytes as a text, in whatever world they lie. -/
theorem Quo.conv {n rb : Nat} {s : ByteArray} {k : Nat} {w wr : World} {v : Value} {L : List UInt8} (h : Quo n rb s k w wr v L) : (convert 87 9 v).run Tryz.prog wr = .ok (.string ⟨L.toArray⟩) wr := by
  rcases h.own.2 with ⟨rfl, h0⟩ | ⟨g, cap, cur, rfl, -, -, -, -, -, -⟩
  · have : L = [] := List.length_eq_zero_iff.1 h0
    subst this
    exact conv_nil wr
  · exact run_convert_bytes_back (P := Tryz.prog) wr 87 9 5 ⟨g, 0, none⟩ cap L Tryz.underlying87 Tryz.underlying5 Tryz.underlying9 (fun j hj => h.own.cells (g := g) rfl j _ (by simp [Lib.byteCells, hj]))
end Go.Proofs.YtbbmihojfcofdaaGreatDoor
