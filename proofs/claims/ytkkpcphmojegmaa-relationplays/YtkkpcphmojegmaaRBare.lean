/-
  Contract of symtab.bare: what it returns; of old memory nothing turns.
-/
import Derived.Test.YtkkpcphmojegmaaTV
import Derived.Test.YtkkpcphmojegmaaTOwn
namespace Go.Proofs.Ytkkpcphmojegmaa
set_option linter.unusedSimpArgs false
set_option linter.unusedVariables false
set_option linter.unusedSectionVars false
set_option maxRecDepth 100000
open Go.RowKit

set_option maxHeartbeats 800000 in
theorem bare_any (k : Bool) (s : ByteArray) (n : Int) (w : World) :
    Calls Try.prog 41 #[.agg #[.bool k, .string s, .int .i64 n]] w fun e w' => e = .returned (.agg #[.bool k, .string (bareS k s), .int .i64 (bareN k n)]) ∧ Below w.heap.size w w' := by
  cases k
  · rw [show bareS false s = ⟨#[]⟩ from rfl, show bareN false n = n from rfl]
    go_enter Try.func41, Try.ntmps41
    go_wp2_with (go_at_call 52; refine (int_any _ _).mono ?_; rintro e w1 ⟨rfl, hb⟩; obtain ⟨hc, hf⟩ := bcell hb; have hz : w.heap.size + 1 < w1.heap.size := by (have := hb.size; simp at this; omega))
    exact bodyPost_ret (v := .agg #[.bool false, .string ⟨#[]⟩, .int .i64 n]) (by simp [results, Try.results41, go_sem, hc, hz]) rfl ⟨rfl, ((((Below.refl _ _).alloc (Nat.le_refl _) _).alloc (by simp) _).trans (hb.mono (by simp; omega))).setCell (by simp) _ |>.setCell (by simp) _ |>.setCell (by simp) _⟩
  · rw [show bareS true s = s from rfl, show bareN true n = 0 from rfl]
    go_enter Try.func41, Try.ntmps41
    go_wp2_with (go_at_call 51; refine (sym_any _ _).mono ?_; rintro e w1 ⟨rfl, hb⟩; obtain ⟨hc, hf⟩ := bcell hb; have hz : w.heap.size + 1 < w1.heap.size := by (have := hb.size; simp at this; omega))
    exact bodyPost_ret (v := .agg #[.bool true, .string s, .int .i64 0]) (by simp [results, Try.results41, go_sem, hc, hz]) rfl ⟨rfl, ((((Below.refl _ _).alloc (Nat.le_refl _) _).alloc (by simp) _).trans (hb.mono (by simp; omega))).setCell (by simp) _ |>.setCell (by simp) _ |>.setCell (by simp) _⟩

end Go.Proofs.Ytkkpcphmojegmaa

/-
  What a relation's table of values is in memory: its two cells ahead of the relation's own, its map, its list; how it stays, and what turns with it. Plain facts; no walk.
-/
namespace Go.Proofs.Ytkkpcphmojegmaa
set_option linter.unusedSimpArgs false
set_option linter.unusedVariables false
set_option linter.unusedSectionVars false
set_option maxRecDepth 100000
open Go.RowKit Go.Maps
variable [DecidableEq V]

/-- The relation's other cells: its arity, the map of its rows, their list, where the generations start. -/
structure Ex where
  a : Value
  b : Value
  c : Value
  d : Value
  e : Value
  f : Value
theorem zeroInt (w : World) : (zeroValue 3).run Try.prog w = .ok (.int .i64 0) w := by kernel_rfl

/-- Of old memory nothing turns but what F lists. -/
structure Turns (F : Nat → Prop) (w w' : World) : Prop where
  os : w'.os = w.os
  tape : w'.tape = w.tape
  output : w'.output = w.output
  size : w.heap.size ≤ w'.heap.size
  block : ∀ k, k < w.heap.size → ¬ F k → w'.heap[k]? = w.heap[k]?

theorem Turns.of_below {F : Nat → Prop} {w w' : World} (h : Below w.heap.size w w') : Turns F w w' := ⟨h.os, h.tape, h.output, h.size, fun k hk _ => h.block k hk⟩
theorem Turns.refl (F : Nat → Prop) (w : World) : Turns F w w := ⟨rfl, rfl, rfl, Nat.le_refl _, fun _ _ _ => rfl⟩
theorem Turns.trans {F G : Nat → Prop} {a b c : World} (h : Turns F a b) (k : Turns G b c) (hG : ∀ i, G i → i < a.heap.size → F i) : Turns F a c :=
  ⟨k.os.trans h.os, k.tape.trans h.tape, k.output.trans h.output, Nat.le_trans h.size k.size, fun i hi hF => (k.block i (Nat.lt_of_lt_of_le hi h.size) (fun g => hF (hG i g hi))).trans (h.block i hi hF)⟩
theorem Turns.mono {F G : Nat → Prop} {w w' : World} (h : Turns F w w') (hFG : ∀ k, F k → G k) : Turns G w w' := ⟨h.os, h.tape, h.output, h.size, fun k hk hG => h.block k hk (fun f => hG (hFG k f))⟩
theorem Turns.drew {F : Nat → Prop} {a w : World} (h : Turns F a w) : Turns F a w.drew := ⟨h.os, h.tape, h.output, h.size, h.block⟩
theorem Turns.alloc {F : Nat → Prop} {a w : World} (h : Turns F a w) (o : Obj) : Turns F a (w.alloc o) :=
  h.trans (G := fun _ => False) ⟨rfl, rfl, rfl, by simp, fun k hk _ => Below.heap_alloc _ _ _ hk⟩ (fun _ h => h.elim)
theorem Turns.setCell {F : Nat → Prop} {a w : World} (h : Turns F a w) {p : Addr} (hp : p.block < a.heap.size → F p.block) (u : Value) : Turns F a (w.setCell p u) :=
  h.trans (G := fun k => k = p.block) ⟨rfl, rfl, rfl, by simp [World.setCell], fun k _ hk => Below.heap_setCell _ _ _ _ hk⟩ (fun i e hi => by subst e; exact hp hi)
theorem Turns.grown {F : Nat → Prop} {a w w' : World} {row : Option Nat} (h : Turns F a w) (hg : w.grownBy w' row) (hr : ∀ k, row = some k → k < a.heap.size → F k) : Turns F a w' :=
  h.trans (G := fun k => row = some k) ⟨hg.os, hg.tape, hg.output, hg.size, fun k hk hF => hg.block k hk (fun e => hF e.symm)⟩ hr
theorem Turns.below {F : Nat → Prop} {w w' : World} {B : Nat} (h : Turns F w w') (hB : B ≤ w.heap.size) (hF : ∀ k, F k → B ≤ k) : Below B w w' :=
  ⟨h.os, h.tape, h.output, h.size, fun k hk => h.block k (by omega) (fun e => by have := hF k e; omega)⟩

/-- What the map holds: each value of the list, with its place. -/
def Reads (D : DataW Unit) (L : List V) : Prop :=
  ∀ v : V, v.Ok → Maps.has D v.lit = decide (v ∈ L) ∧ D.atKey v.lit (.lit (.int .i64 0)) = .lit (.int .i64 (if v ∈ L then (L.idxOf v : Nat) else 0))

theorem reads_nil : Reads (.map []) [] := fun v _ => by simp [Maps.has, DataW.atKey]
theorem reads_put {D : DataW Unit} {L : List V} (h : Reads D L) (hD : IsMap D) {v : V} (hv : v.Ok) (hn : v ∉ L) : Reads (D.put v.lit (.lit (.int .i64 (L.length : Nat)))) (L ++ [v]) := fun u hu => by
  by_cases e : u = v
  · subst e
    have hk := lawVal.key (keyVal hu)
    refine ⟨by rw [Maps.has_put_same hD hk]; simp, ?_⟩
    rw [Maps.atKey_put_same hD hk, if_pos (by simp), List.idxOf_append, if_neg hn]
    simp
  · have hne : u.lit ≠ v.lit := fun h => e (lit_inj hu hv h)
    obtain ⟨h1, h2⟩ := h u hu
    rw [Maps.has_put_other hne, Maps.atKey_put_other hne, h1, h2]
    by_cases m : u ∈ L
    · rw [if_pos m, if_pos (by simp [m]), List.idxOf_append, if_pos m]; simp [m]
    · rw [if_neg m, if_neg (by simp [m, e])]; simp [m, e]

/-- A TABLE: block tb holds a map and a list; both tell the values L; all that it leads to is listed by F, from block B on. -/
def Tbl (w : World) (B : Nat) (F : Nat → Prop) (tb : Nat) (X : Ex) (L : List V) : Prop :=
  ∃ (mo : Option Nat) (sv : Value), w.heap[tb]? = some (.cells #[.map mo, sv, X.a, X.b, X.c, X.d, X.e, X.f] 70 (0, 0)) ∧ w.ownsRow 0 55 3 sv L.length (L.flatMap V.cells) ∧
    (mo = none → L = []) ∧ (∀ mb, mo = some mb → ∃ D : DataW Unit, w.ownsMap Try.prog 55 (plainElem Try.prog 3) mb L.length D ∧ Reads D L) ∧
    F tb ∧ (∀ mb, mo = some mb → F mb) ∧ (∀ sb, sv.ownBlock = some sb → F sb) ∧ (∀ k, F k → B ≤ k ∧ k < w.heap.size) ∧ (∀ v ∈ L, v.Ok)

theorem ownsMap_block {H : Type} {P : Program} {k : TypeId} {R : Value → Option (DataW H × List MemPlace)} {w w' : World} {b n : Nat} {D : DataW H} (h : w.ownsMap P k R b n D) (hb : w'.heap[b]? = w.heap[b]?) : w'.ownsMap P k R b n D := by
  obtain ⟨es, clock, hb', r⟩ := h
  exact ⟨es, clock, hb.trans hb', r⟩

/-- A table stays while none of its blocks turns. -/
theorem Tbl.turns {w w' : World} {B : Nat} {F G : Nat → Prop} {tb : Nat} {X : Ex} {L : List V} (h : Tbl w B F tb X L) (ht : Turns G w w') (hG : ∀ k, G k → ¬ F k) : Tbl w' B F tb X L := by
  obtain ⟨mo, sv, h0, h1, h2, h3, h4, h5, h6, h7, h8⟩ := h
  have same : ∀ k, F k → w'.heap[k]? = w.heap[k]? := fun k hk => ht.block k (h7 k hk).2 (fun g => hG k g hk)
  exact ⟨mo, sv, (same tb h4).trans h0, ownsRow_block h1 (fun k hk => same k (h6 k hk)), h2, fun mb e => let ⟨D, a, b⟩ := h3 mb e; ⟨D, ownsMap_block a (same mb (h5 mb e)), b⟩, h4, h5, h6, fun k hk => ⟨(h7 k hk).1, Nat.lt_of_lt_of_le (h7 k hk).2 ht.size⟩, h8⟩
theorem Tbl.below {w w' : World} {B : Nat} {F : Nat → Prop} {tb : Nat} {X : Ex} {L : List V} (h : Tbl w B F tb X L) (hb : Below w.heap.size w w') : Tbl w' B F tb X L :=
  h.turns (Turns.of_below (F := fun _ => False) hb) (fun _ h => h.elim)
theorem Tbl.mono {w : World} {B : Nat} {F G : Nat → Prop} {tb : Nat} {X : Ex} {L : List V} (h : Tbl w B F tb X L) (hFG : ∀ k, F k → G k) (hG : ∀ k, G k → B ≤ k ∧ k < w.heap.size) : Tbl w B G tb X L := by
  obtain ⟨mo, sv, h0, h1, h2, h3, h4, h5, h6, h7, h8⟩ := h
  exact ⟨mo, sv, h0, h1, h2, h3, hFG _ h4, fun mb e => hFG _ (h5 mb e), fun sb e => hFG _ (h6 sb e), hG, h8⟩
theorem Tbl.lt {w : World} {B : Nat} {F : Nat → Prop} {tb : Nat} {X : Ex} {L : List V} (h : Tbl w B F tb X L) : tb < w.heap.size := by
  obtain ⟨mo, sv, h0, _⟩ := h; exact (Array.getElem?_eq_some_iff.1 h0).1

end Go.Proofs.Ytkkpcphmojegmaa
