/-
  Questions asked of one byte: what a question is in memory (Asks), contracts of token.between, not, either, of set's has, and of what they hand back; and of reader's end.
-/
import Derived.Test.YtbbmihojfcofdaaGreatDoorLift
import Derived.Test.YtbbmihojfcofdaaGreatDoorShelf
import Derived.WalkLawsBesides
import Derived.WalkSpells
import Derived.Outline
import Derived.WalkSmall
import Derived.Lib.Hide
import Derived.Lib.Bytealg
import Derived.Lib.OthersKept
import Derived.Shelf.Abstract
namespace Go.Proofs.YtbbmihojfcofdaaGreatDoor
set_option linter.unusedSimpArgs false
set_option linter.unusedVariables false
set_option linter.unusedSectionVars false
set_option maxRecDepth 100000
open Go.RowKit

def blankQ (c : UInt8) : Bool := c == 9 || c == 10 || c == 13 || c == 32
def remarkQ (c : UInt8) : Bool := !(c == 10)
def smallQ (c : UInt8) : Bool := decide (97 ≤ c.toNat) && decide (c.toNat ≤ 122)
def greatQ (c : UInt8) : Bool := decide (65 ≤ c.toNat) && decide (c.toNat ≤ 90)
def figureQ (c : UInt8) : Bool := decide (48 ≤ c.toNat) && decide (c.toNat ≤ 57)
def innerQ (c : UInt8) : Bool := smallQ c || greatQ c || figureQ c || c == 95

/-- Of old memory nothing turns but what F lists. -/
structure Turns (F : Nat → Prop) (w w' : World) : Prop where
  os : w'.os = w.os
  tape : w'.tape = w.tape
  output : w'.output = w.output
  size : w.heap.size ≤ w'.heap.size
  block : ∀ k, k < w.heap.size → ¬ F k → w'.heap[k]? = w.heap[k]?

theorem Turns.of_below {F : Nat → Prop} {w w' : World} (h : Below w.heap.size w w') : Turns F w w' := ⟨h.os, h.tape, h.output, h.size, fun k hk _ => h.block k hk⟩
theorem Turns.refl (F : Nat → Prop) (w : World) : Turns F w w := ⟨rfl, rfl, rfl, Nat.le_refl _, fun _ _ _ => rfl⟩
theorem Turns.trans {F G : Nat → Prop} {a b c : World} (h : Turns F a b) (k : Turns G b c) (hG : ∀ i, G i → i < a.heap.size → F i) : Turns F a c :=
  ⟨k.os.trans h.os, k.tape.trans h.tape, k.output.trans h.output, Nat.le_trans h.size k.size, fun i hi hF => (k.block i (Nat.lt_of_lt_of_le hi h.size) (fun g => hF (hG i g hi))).trans (h.block i hi hF)⟩
theorem Turns.then {F : Nat → Prop} {a b c : World} (h : Turns F a b) (k : Turns F b c) : Turns F a c := h.trans k (fun _ h _ => h)
theorem Turns.drew {F : Nat → Prop} {a w : World} (h : Turns F a w) : Turns F a w.drew := ⟨h.os, h.tape, h.output, h.size, h.block⟩
theorem Turns.alloc {F : Nat → Prop} {a w : World} (h : Turns F a w) (o : Obj) : Turns F a (w.alloc o) :=
  h.trans (G := fun _ => False) ⟨rfl, rfl, rfl, by simp, fun k hk _ => Below.heap_alloc _ _ _ hk⟩ (fun _ h => h.elim)
theorem Turns.setCell {F : Nat → Prop} {a w : World} (h : Turns F a w) {p : Addr} (hp : p.block < a.heap.size → F p.block) (u : Value) : Turns F a (w.setCell p u) :=
  h.trans (G := fun k => k = p.block) ⟨rfl, rfl, rfl, by simp [World.setCell], fun k _ hk => Below.heap_setCell _ _ _ _ hk⟩ (fun i e hi => by subst e; exact hp hi)
theorem Turns.below {F : Nat → Prop} {w w' : World} {B : Nat} (h : Turns F w w') (hB : B ≤ w.heap.size) (hF : ∀ k, F k → B ≤ k) : Below B w w' :=
  ⟨h.os, h.tape, h.output, h.size, fun k hk => h.block k (by omega) (fun e => by have := hF k e; omega)⟩

theorem Turns.cell {F : Nat → Prop} {w w' : World} (h : Turns F w w') {p : Addr} (hp : p.block < w.heap.size) (hF : ¬ F p.block) : w'.cell? p = w.cell? p := by
  have hb : Below w.heap.size w ({ w with heap := w.heap } : World) := Below.refl _ _
  simp only [World.cell?]
  rw [h.block p.block hp hF]

theorem Turns.mono {F G : Nat → Prop} {w w' : World} (h : Turns F w w') (hFG : ∀ i, F i → G i) : Turns G w w' := ⟨h.os, h.tape, h.output, h.size, fun k hk hn => h.block k hk (fun g => hn (hFG k g))⟩

/-- A QUESTION: in whatever world in which nothing of old but what F lists has turned it tells f of a byte, and turns nothing. -/
def Asks (F : Nat → Prop) (W : World) (q : Value) (f : UInt8 → Bool) : Prop :=
  ∃ k first cap, q = .func (.func k) first cap ∧ (∀ args w, (callFunc k args).run Tryz.prog w = .ok (.enter k args) w) ∧ ∀ w, Turns F W w → ∀ c : UInt8,
    Calls Tryz.prog k (first.push (.int .u8 (c.toNat : Int)) ++ cap) w fun e w' => e = .returned (.bool (f c)) ∧ Below w.heap.size w w'
theorem Asks.on {F : Nat → Prop} {W w : World} {q : Value} {f : UInt8 → Bool} (h : Asks F W q f) (ht : Turns F W w) : Asks F w q f := by
  obtain ⟨k, first, cap, rfl, he, h⟩ := h
  exact ⟨k, first, cap, rfl, he, fun w' ht' => h w' (ht.then ht')⟩

theorem lt_of_cell {w : World} {b o : Nat} {x : Value} (h : w.cell? ⟨b, o, none⟩ = some x) : b < w.heap.size := by
  rcases Nat.lt_or_ge b w.heap.size with h' | h'
  · exact h'
  · simp [World.cell?, Array.getElem?_eq_none h'] at h

theorem u8_lo (c : UInt8) : (0 : Int) ≤ (c.toNat : Int) := Int.natCast_nonneg _
theorem u8_hi (c : UInt8) : (c.toNat : Int) ≤ 255 := by have := c.toNat_lt; omega

theorem between1_any (lo hi : Nat) (c : UInt8) (a b : Nat) (w : World) (ha : w.cell? ⟨a, 0, none⟩ = some (.int .u8 (lo : Int))) (hb : w.cell? ⟨b, 0, none⟩ = some (.int .u8 (hi : Int))) :
    Calls Tryz.prog 122 #[.int .u8 (c.toNat : Int), .pointer (some ⟨a, 0, none⟩), .pointer (some ⟨b, 0, none⟩)] w fun e w' => e = .returned (.bool (decide (lo ≤ c.toNat) && decide (c.toNat ≤ hi))) ∧ Below w.heap.size w w' := by
  by_cases h1 : lo ≤ c.toNat
  · rw [decide_eq_true h1, Bool.true_and]
    have e1 : (lo : Int) ≤ (c.toNat : Int) := by omega
    go_enter Tryz.func122, Tryz.ntmps122
    go_wp2
    go_ret
    exact ⟨rfl, Below.refl _ _⟩
  · rw [decide_eq_false h1, Bool.false_and]
    have e1 : ¬ (lo : Int) ≤ (c.toNat : Int) := by omega
    go_enter Tryz.func122, Tryz.ntmps122
    go_wp2
    go_ret
    exact ⟨rfl, Below.refl _ _⟩

theorem indexByte_mem (l : List UInt8) (c : UInt8) : (Lib.indexByte l c = -1 ∧ c ∉ l) ∨ (0 ≤ Lib.indexByte l c ∧ c ∈ l) := by
  induction l with
  | nil => exact .inl ⟨rfl, by simp⟩
  | cons b l ih =>
    unfold Lib.indexByte
    by_cases h : b = c
    · subst h; simp
    · have hb : (b == c) = false := by simpa using h
      rcases ih with ⟨h1, h2⟩ | ⟨h1, h2⟩
      · rw [hb, h1]
        simp [h2, Ne.symm h]
      · have hn : (Lib.indexByte l c == -1) = false := by rw [beq_eq_false_iff_ne]; omega
        rw [hb, hn]
        simp [h2]; omega

theorem has_any (t : ByteArray) (c : UInt8) (w : World) :
    Calls Tryz.prog 105 #[.string t, .int .u8 (c.toNat : Int)] w fun e w' => e = .returned (.bool (decide (c ∈ t.data.toList))) ∧ Below w.heap.size w w' := by
  have hi := Tryz.strings_IndexByte t (c.toNat : Int) 
  have hc : ((c.toNat : Int)).toNat.toUInt8 = c := by simp
  rw [hc] at hi
  obtain ⟨z, hz⟩ : ∃ z, z = Lib.indexByte t.data.toList c := ⟨_, rfl⟩
  have hm := indexByte_mem t.data.toList c
  rw [← hz] at hi hm
  have HI := Lib.hid hi
  clear hi hz hc
  have e : decide ((0 : Int) ≤ z) = decide (c ∈ t.data.toList) := by
    rcases hm with ⟨h1, h2⟩ | ⟨h1, h2⟩
    · simp [h1, h2]
    · simp [h1, h2]
  cases hd : decide (c ∈ t.data.toList)
  all_goals
    rw [hd] at e
    clear hd hm
    go_enter Tryz.func105, Tryz.ntmps105
    go_wp2_with (go_at_call 124; refine (HI.out _).mono ?_; rintro e w' ⟨rfl, rfl⟩)
    go_ret
    exact ⟨rfl, Below.refl _ _⟩

theorem has_asks (F : Nat → Prop) (W : World) (t : ByteArray) : Asks F W (.func (.func 105) #[.string t] #[]) (fun c => decide (c ∈ t.data.toList)) :=
  ⟨_, _, _, rfl, enters_of Tryz.func105 (by kernel_rfl) rfl, fun w _ c => has_any t c w⟩

theorem between_asks {F : Nat → Prop} {W : World} {a b lo hi : Nat} (ha : W.cell? ⟨a, 0, none⟩ = some (.int .u8 (lo : Int))) (hb : W.cell? ⟨b, 0, none⟩ = some (.int .u8 (hi : Int))) (na : ¬ F a) (nb : ¬ F b) :
    Asks F W (.func (.func 122) #[] #[.pointer (some ⟨a, 0, none⟩), .pointer (some ⟨b, 0, none⟩)]) (fun c => decide (lo ≤ c.toNat) && decide (c.toNat ≤ hi)) :=
  ⟨_, _, _, rfl, enters_of Tryz.func122 (by kernel_rfl) rfl, fun w ht c => between1_any lo hi c a b w ((ht.cell (p := ⟨a, 0, none⟩) (lt_of_cell ha) na).trans ha) ((ht.cell (p := ⟨b, 0, none⟩) (lt_of_cell hb) nb).trans hb)⟩
end Go.Proofs.YtbbmihojfcofdaaGreatDoor
