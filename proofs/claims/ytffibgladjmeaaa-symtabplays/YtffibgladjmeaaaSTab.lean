/-
  What a table of values is in memory: its two cells, its map, its list; how it stays, and what turns with it. Plain facts; no walk.
-/
import Derived.Test.YtffibgladjmeaaaSBare
import Derived.Test.YtffibgladjmeaaaLift
import Derived.Maps.OwnSet
import Derived.Maps.AppendAt
import Derived.DeepKeys5
namespace Go.Proofs.Ytffibgladjmeaaa
set_option linter.unusedSimpArgs false
set_option linter.unusedVariables false
set_option linter.unusedSectionVars false
open Go.RowKit Go.Maps

/-- A value: is it a symbol, its symbol, its number. -/
structure V where
  k : Bool
  s : ByteArray
  n : Int

variable [DecidableEq V]

def V.val (v : V) : Value := .agg #[.bool v.k, .string v.s, .int .i64 v.n]
def V.cells (v : V) : List Value := [.bool v.k, .string v.s, .int .i64 v.n]
def V.bare (v : V) : V := ⟨v.k, bareS v.k v.s, bareN v.k v.n⟩
/-- Its symbol is no longer than may be, its number fits. -/
structure V.Ok (v : V) : Prop where
  s : v.s.size ≤ maxLen
  lo : -9223372036854775808 ≤ v.n
  hi : v.n ≤ 9223372036854775807

theorem V.Ok.wf {v : V} (h : v.Ok) : (Lit.int .i64 v.n).wf = true := WalkArith.wf_i64 ⟨h.lo, h.hi⟩

theorem V.Ok.bare {v : V} (h : v.Ok) : v.bare.Ok := by
  obtain ⟨k, s, n⟩ := v
  cases k
  · exact ⟨(by decide : (⟨#[]⟩ : ByteArray).size ≤ maxLen), h.lo, h.hi⟩
  · exact ⟨h.s, by simp [V.bare, bareN], by simp [V.bare, bareN]⟩
theorem V.bare_bare (v : V) : v.bare.bare = v.bare := by
  obtain ⟨k, s, n⟩ := v; cases k <;> rfl

theorem rowVal : (24 : TypeId) < Try.prog.types.size := of_decide_eq_true (by kernel_rfl)
theorem wideVal : (match Try.prog.underlying 24 with | some (.array _ _) | some (.struct _) => true | _ => false) = true := by kernel_rfl
theorem lawVal : Keyed Try.prog 24 := Keyed.of_law (deep_law_laid laidOut (m := 3) (by omega) rowVal (by kernel_rfl) wideVal)
theorem zeroInt (w : World) : (zeroValue 3).run Try.prog w = .ok (.int .i64 0) w := by kernel_rfl

/-- What a value is as a key. -/
def V.lit (v : V) : Lit := .string (keyBytes [.bool v.k, .string v.s.data.toList, .int .i64 v.n])
theorem keyTypeVal : Try.prog.keyType 24 = true := by kernel_rfl
theorem cellsB : Try.prog.cellsOf 4 = 1 := by kernel_rfl
theorem cellsS : Try.prog.cellsOf 9 = 1 := by kernel_rfl
theorem cellsI : Try.prog.cellsOf 2 = 1 := by kernel_rfl
theorem keyOf_three {P : Program} {t : TypeId} {f0 f1 f2 : Field} (ht : P.underlying t = some (.struct #[f0, f1, f2])) (hk : P.keyType t = true) (ct : P.cellsOf t = 3) (hrow : t < P.types.size)
    (o0 : f0.offset = 0) (o1 : f1.offset = 1) (o2 : f2.offset = 2) (c0 : P.cellsOf f0.type = 1) (c1 : P.cellsOf f1.type = 1) (c2 : P.cellsOf f2.type = 1) (n0 : f0.name ≠ "_") (n1 : f1.name ≠ "_") (n2 : f2.name ≠ "_")
    (u0 : P.underlying f0.type = some .bool) (u1 : P.underlying f1.type = some .string) (u2 : P.underlying f2.type = some (.int .i64)) {v : V} (h : v.Ok) :
    keyOf P t (.agg #[.bool v.k, .string v.s, .int .i64 v.n]) = some v.lit := by
  obtain ⟨m, hm⟩ : ∃ m, P.types.size = m + 1 := ⟨P.types.size - 1, by have h0 : 0 < P.types.size := Nat.lt_of_le_of_lt (Nat.zero_le _) hrow; omega⟩
  have hs := h.s
  have hw := h.wf
  simp [keyOf, ht, hk, Value.formed, ct, hm, Program.keyLits, o0, o1, o2, c0, c1, c2, n0, n1, n2, u0, u1, u2, Value.cells, hs, hw, V.lit]
theorem keyVal {v : V} (h : v.Ok) : keyOf Try.prog 24 (.agg #[.bool v.k, .string v.s, .int .i64 v.n]) = some v.lit :=
  keyOf_three Try.underlying24 keyTypeVal cellsVal rowVal rfl rfl rfl cellsB cellsS cellsI (by decide) (by decide) (by decide) Try.underlying4 Try.underlying9 Try.underlying2 h
theorem lit_inj {v u : V} (hv : v.Ok) (hu : u.Ok) (h : v.lit = u.lit) : v = u := by
  have a := lawVal.inj (keyVal hv) (h ▸ keyVal hu)
  obtain ⟨k, s, n⟩ := v
  obtain ⟨k', s', n'⟩ := u
  simp at a
  obtain ⟨rfl, rfl, rfl⟩ := a
  rfl

/-- Of old memory nothing turns but what F lists. -/
structure Turns (F : Nat → Prop) (w w' : World) : Prop where
  os : w'.os = w.os
  tape : w'.tape = w.tape
  output : w'.output = w.output
  size : w.heap.size ≤ w'.heap.size
  block : ∀ k, k < w.heap.size → ¬ F k → w'.heap[k]? = w.heap[k]?

theorem Turns.of_below {F : Nat → Prop} {w w' : World} (h : Below w.heap.size w w') : Turns F w w' := ⟨h.os, h.tape, h.output, h.size, fun k hk _ => h.block k hk⟩
theorem Turns.refl (F : Nat → Prop) (w : World) : Turns F w w := ⟨rfl, rfl, rfl, Nat.le_refl _, fun _ _ _ => rfl⟩
theorem Turns.trans {F G : Nat → Prop} {a b c : World} (h : Turns F a b) (k : Turns G b c) (hG : ∀ i, G i → i < a.heap.size → F i) : Turns F a c :=
  ⟨k.os.trans h.os, k.tape.trans h.tape, k.output.trans h.output, Nat.le_trans h.size k.size, fun i hi hF => (k.block i (Nat.lt_of_lt_of_le hi h.size) (fun g => hF (hG i g hi))).trans (h.block i hi hF)⟩
theorem Turns.drew {F : Nat → Prop} {a w : World} (h : Turns F a w) : Turns F a w.drew := ⟨h.os, h.tape, h.output, h.size, h.block⟩
theorem Turns.alloc {F : Nat → Prop} {a w : World} (h : Turns F a w) (o : Obj) : Turns F a (w.alloc o) :=
  h.trans (G := fun _ => False) ⟨rfl, rfl, rfl, by simp, fun k hk _ => Below.heap_alloc _ _ _ hk⟩ (fun _ h => h.elim)
theorem Turns.setCell {F : Nat → Prop} {a w : World} (h : Turns F a w) {p : Addr} (hp : p.block < a.heap.size → F p.block) (u : Value) : Turns F a (w.setCell p u) :=
  h.trans (G := fun k => k = p.block) ⟨rfl, rfl, rfl, by simp [World.setCell], fun k _ hk => Below.heap_setCell _ _ _ _ hk⟩ (fun i e hi => by subst e; exact hp hi)
theorem Turns.grown {F : Nat → Prop} {a w w' : World} {row : Option Nat} (h : Turns F a w) (hg : w.grownBy w' row) (hr : ∀ k, row = some k → k < a.heap.size → F k) : Turns F a w' :=
  h.trans (G := fun k => row = some k) ⟨hg.os, hg.tape, hg.output, hg.size, fun k hk hF => hg.block k hk (fun e => hF e.symm)⟩ hr
theorem Turns.below {F : Nat → Prop} {w w' : World} {B : Nat} (h : Turns F w w') (hB : B ≤ w.heap.size) (hF : ∀ k, F k → B ≤ k) : Below B w w' :=
  ⟨h.os, h.tape, h.output, h.size, fun k hk => h.block k (by omega) (fun e => by have := hF k e; omega)⟩

/-- What the map holds: each value of the list, with its place. -/
def Reads (D : DataW Unit) (L : List V) : Prop :=
  ∀ v : V, v.Ok → Maps.has D v.lit = decide (v ∈ L) ∧ D.atKey v.lit (.lit (.int .i64 0)) = .lit (.int .i64 (if v ∈ L then (L.idxOf v : Nat) else 0))

theorem reads_nil : Reads (.map []) [] := fun v _ => by simp [Maps.has, DataW.atKey]
theorem reads_put {D : DataW Unit} {L : List V} (h : Reads D L) (hD : IsMap D) {v : V} (hv : v.Ok) (hn : v ∉ L) : Reads (D.put v.lit (.lit (.int .i64 (L.length : Nat)))) (L ++ [v]) := fun u hu => by
  by_cases e : u = v
  · subst e
    have hk := lawVal.key (keyVal hu)
    refine ⟨by rw [Maps.has_put_same hD hk]; simp, ?_⟩
    rw [Maps.atKey_put_same hD hk, if_pos (by simp), List.idxOf_append, if_neg hn]
    simp
  · have hne : u.lit ≠ v.lit := fun h => e (lit_inj hu hv h)
    obtain ⟨h1, h2⟩ := h u hu
    rw [Maps.has_put_other hne, Maps.atKey_put_other hne, h1, h2]
    by_cases m : u ∈ L
    · rw [if_pos m, if_pos (by simp [m]), List.idxOf_append, if_pos m]; simp [m]
    · rw [if_neg m, if_neg (by simp [m, e])]; simp [m, e]

/-- A TABLE: block tb holds a map and a list; both tell the values L; all that it leads to is listed by F, from block B on. -/
def Tbl (w : World) (B : Nat) (F : Nat → Prop) (tb : Nat) (L : List V) : Prop :=
  ∃ (mo : Option Nat) (sv : Value), w.heap[tb]? = some (.cells #[.map mo, sv] 47 (0, 0)) ∧ w.ownsRow 0 24 3 sv L.length (L.flatMap V.cells) ∧
    (mo = none → L = []) ∧ (∀ mb, mo = some mb → ∃ D : DataW Unit, w.ownsMap Try.prog 24 (plainElem Try.prog 3) mb L.length D ∧ Reads D L) ∧
    F tb ∧ (∀ mb, mo = some mb → F mb) ∧ (∀ sb, sv.ownBlock = some sb → F sb) ∧ (∀ k, F k → B ≤ k ∧ k < w.heap.size) ∧ (∀ v ∈ L, v.Ok)

theorem ownsRow_block {w w' : World} {base size : Nat} {e : TypeId} {v : Value} {n : Nat} {xs : List Value} (h : w.ownsRow base e size v n xs) (hb : ∀ k, v.ownBlock = some k → w'.heap[k]? = w.heap[k]?) : w'.ownsRow base e size v n xs := by
  refine ⟨h.1, ?_⟩
  rcases h.2 with hn | ⟨g, cap, cur, rfl, hb', hgg, rest⟩
  · exact .inl hn
  · exact .inr ⟨g, cap, cur, rfl, hb', by rw [hb g rfl]; exact hgg, rest⟩
theorem ownsMap_block {H : Type} {P : Program} {k : TypeId} {R : Value → Option (DataW H × List MemPlace)} {w w' : World} {b n : Nat} {D : DataW H} (h : w.ownsMap P k R b n D) (hb : w'.heap[b]? = w.heap[b]?) : w'.ownsMap P k R b n D := by
  obtain ⟨es, clock, hb', r⟩ := h
  exact ⟨es, clock, hb.trans hb', r⟩

/-- A table stays while none of its blocks turns. -/
theorem Tbl.turns {w w' : World} {B : Nat} {F G : Nat → Prop} {tb : Nat} {L : List V} (h : Tbl w B F tb L) (ht : Turns G w w') (hG : ∀ k, G k → ¬ F k) : Tbl w' B F tb L := by
  obtain ⟨mo, sv, h0, h1, h2, h3, h4, h5, h6, h7, h8⟩ := h
  have same : ∀ k, F k → w'.heap[k]? = w.heap[k]? := fun k hk => ht.block k (h7 k hk).2 (fun g => hG k g hk)
  exact ⟨mo, sv, (same tb h4).trans h0, ownsRow_block h1 (fun k hk => same k (h6 k hk)), h2, fun mb e => let ⟨D, a, b⟩ := h3 mb e; ⟨D, ownsMap_block a (same mb (h5 mb e)), b⟩, h4, h5, h6, fun k hk => ⟨(h7 k hk).1, Nat.lt_of_lt_of_le (h7 k hk).2 ht.size⟩, h8⟩
theorem Tbl.below {w w' : World} {B : Nat} {F : Nat → Prop} {tb : Nat} {L : List V} (h : Tbl w B F tb L) (hb : Below w.heap.size w w') : Tbl w' B F tb L :=
  h.turns (Turns.of_below (F := fun _ => False) hb) (fun _ h => h.elim)
theorem Tbl.mono {w : World} {B : Nat} {F G : Nat → Prop} {tb : Nat} {L : List V} (h : Tbl w B F tb L) (hFG : ∀ k, F k → G k) (hG : ∀ k, G k → B ≤ k ∧ k < w.heap.size) : Tbl w B G tb L := by
  obtain ⟨mo, sv, h0, h1, h2, h3, h4, h5, h6, h7, h8⟩ := h
  exact ⟨mo, sv, h0, h1, h2, h3, hFG _ h4, fun mb e => hFG _ (h5 mb e), fun sb e => hFG _ (h6 sb e), hG, h8⟩
theorem Tbl.lt {w : World} {B : Nat} {F : Nat → Prop} {tb : Nat} {L : List V} (h : Tbl w B F tb L) : tb < w.heap.size := by
  obtain ⟨mo, sv, h0, _⟩ := h; exact (Array.getElem?_eq_some_iff.1 h0).1

theorem cells_flat (L : List V) : (L.flatMap V.cells).length = L.length * 3 := by
  induction L with
  | nil => rfl
  | cons v L ih => simp [V.cells, ih, Nat.add_mul]

end Go.Proofs.Ytffibgladjmeaaa
