/-
  Programs in memory: what turns (Turns), a struct in its block (Blk), terms, atoms, literals, rules, declarations, programs (Tm .. Pr), lists of the call's own (OwnL), lists that came in (RdL), how much they hold. Plain facts; no walk.
-/
import Derived.Test.YtcpdikhiodbdjaaRows
import Derived.WalkKit
import Derived.WalkLawsBesides
import Derived.OwnWalk
import Derived.Lib.Hide
import Derived.Lib.OthersKept
import Derived.Maps.OwnSet
import Derived.Maps.AppendAt
namespace Go.Proofs.Ytcpdikhiodbdjaa
set_option linter.unusedSimpArgs false
set_option linter.unusedVariables false
set_option linter.unusedSectionVars false
set_option maxRecDepth 100000
open Go.RowKit

/-- Of old memory nothing turns but what F lists. -/
structure Turns (F : Nat → Prop) (w w' : World) : Prop where
  os : w'.os = w.os
  tape : w'.tape = w.tape
  output : w'.output = w.output
  size : w.heap.size ≤ w'.heap.size
  block : ∀ k, k < w.heap.size → ¬ F k → w'.heap[k]? = w.heap[k]?

theorem Turns.of_below {F : Nat → Prop} {w w' : World} (h : Below w.heap.size w w') : Turns F w w' := ⟨h.os, h.tape, h.output, h.size, fun k hk _ => h.block k hk⟩
theorem Turns.refl (F : Nat → Prop) (w : World) : Turns F w w := ⟨rfl, rfl, rfl, Nat.le_refl _, fun _ _ _ => rfl⟩
theorem Turns.trans {F G : Nat → Prop} {a b c : World} (h : Turns F a b) (k : Turns G b c) (hG : ∀ i, G i → i < a.heap.size → F i) : Turns F a c :=
  ⟨k.os.trans h.os, k.tape.trans h.tape, k.output.trans h.output, Nat.le_trans h.size k.size, fun i hi hF => (k.block i (Nat.lt_of_lt_of_le hi h.size) (fun g => hF (hG i g hi))).trans (h.block i hi hF)⟩
theorem Turns.then {F : Nat → Prop} {a b c : World} (h : Turns F a b) (k : Turns F b c) : Turns F a c := h.trans k (fun _ h _ => h)
theorem Turns.drew {F : Nat → Prop} {a w : World} (h : Turns F a w) : Turns F a w.drew := ⟨h.os, h.tape, h.output, h.size, h.block⟩
theorem Turns.alloc {F : Nat → Prop} {a w : World} (h : Turns F a w) (o : Obj) : Turns F a (w.alloc o) :=
  h.trans (G := fun _ => False) ⟨rfl, rfl, rfl, by simp, fun k hk _ => Below.heap_alloc _ _ _ hk⟩ (fun _ h => h.elim)
theorem Turns.setCell {F : Nat → Prop} {a w : World} (h : Turns F a w) {p : Addr} (hp : p.block < a.heap.size → F p.block) (u : Value) : Turns F a (w.setCell p u) :=
  h.trans (G := fun k => k = p.block) ⟨rfl, rfl, rfl, by simp [World.setCell], fun k _ hk => Below.heap_setCell _ _ _ _ hk⟩ (fun i e hi => by subst e; exact hp hi)
theorem Turns.below {F : Nat → Prop} {w w' : World} {B : Nat} (h : Turns F w w') (hB : B ≤ w.heap.size) (hF : ∀ k, F k → B ≤ k) : Below B w w' :=
  ⟨h.os, h.tape, h.output, h.size, fun k hk => h.block k (by omega) (fun e => by have := hF k e; omega)⟩

theorem Turns.cell {F : Nat → Prop} {w w' : World} (h : Turns F w w') {p : Addr} (hp : p.block < w.heap.size) (hF : ¬ F p.block) : w'.cell? p = w.cell? p := by
  have hb : Below w.heap.size w ({ w with heap := w.heap } : World) := Below.refl _ _
  simp only [World.cell?]
  rw [h.block p.block hp hF]

theorem Turns.mono {F G : Nat → Prop} {w w' : World} (h : Turns F w w') (hFG : ∀ i, F i → G i) : Turns G w w' := ⟨h.os, h.tape, h.output, h.size, fun k hk hn => h.block k hk (fun g => hn (hFG k g))⟩

theorem lt_of_cell {w : World} {b o : Nat} {x : Value} (h : w.cell? ⟨b, o, none⟩ = some x) : b < w.heap.size := by
  rcases Nat.lt_or_ge b w.heap.size with h' | h'
  · exact h'
  · simp [World.cell?, Array.getElem?_eq_none h'] at h

theorem cell_of_row (w : World) (b off : Nat) (cs : Array Value) (t : TypeId) (z : Nat × Nat) (h : w.heap[b]? = some (.cells cs t z)) : w.cell? ⟨b, off, none⟩ = cs[off]? := by simp [World.cell?, h]

theorem add_noneK {b off j : Nat} : (⟨b, off, none⟩ : Addr).add j = ⟨b, off + j, none⟩ := by unfold Addr.add; split <;> simp_all
def InR (n : Int) : Prop := -9223372036854775808 ≤ n ∧ n ≤ 9223372036854775807
theorem heap_set {w : World} {b o : Nat} {cs : Array Value} {ty : TypeId} (h : w.heap[b]? = some (.cells cs ty (0, 0))) (v : Value) : (w.setCell ⟨b, o, none⟩ v).heap[b]? = some (.cells (cs.setIfInBounds o v) ty (0, 0)) := by
  simp [World.setCell, Array.getElem?_modify, h]
def Blk (w : World) (b : Nat) (cs : Array Value) (ty : TypeId) : Prop := w.heap[b]? = some (.cells cs ty (0, 0))
theorem Blk.new (w : World) (cs : Array Value) (ty : TypeId) : Blk (w.alloc (.cells cs ty)) w.heap.size cs ty := (MapKept.heap_alloc w _).1
theorem Blk.lt {w : World} {b : Nat} {cs : Array Value} {ty : TypeId} (h : Blk w b cs ty) : b < w.heap.size := (Array.getElem?_eq_some_iff.1 h).1
theorem Blk.below {w w' : World} {b : Nat} {cs : Array Value} {ty : TypeId} (h : Blk w b cs ty) (hb : Below w.heap.size w w') : Blk w' b cs ty := (hb.block b h.lt).trans h
theorem Blk.turns {w w' : World} {b pb : Nat} {cs : Array Value} {ty : TypeId} (h : Blk w b cs ty) (ht : Turns (fun i => i = pb) w w') (hn : b ≠ pb) : Blk w' b cs ty := (ht.block b h.lt hn).trans h
theorem Blk.cell {w : World} {b : Nat} {cs : Array Value} {ty : TypeId} (h : Blk w b cs ty) (o : Nat) : w.cell? ⟨b, o, none⟩ = cs[o]? := cell_of_row w b o _ _ _ h
theorem Blk.lay {w : World} {b : Nat} {cs : Array Value} {ty : TypeId} (h : Blk w b cs ty) (cs' : Array Value) : Blk (w.setRow b cs') b cs' ty := setRow_heap w b cs cs' ty (0, 0) h
theorem Turns.lay {F : Nat → Prop} {w w' : World} (h : Turns F w w') {b : Nat} (hb : w.heap.size ≤ b) (cs : Array Value) : Turns F w (w'.setRow b cs) :=
  ⟨h.os, h.tape, h.output, by rw [setRow_size]; exact h.size, fun k hk hF => (setRow_other w' b k cs (by omega)).trans (h.block k hk hF)⟩
theorem al_bel (w : World) (o : Obj) : Below w.heap.size w (w.alloc o) := (Below.refl _ _).alloc (Nat.le_refl _) _
theorem below_lay {B b : Nat} {w w' : World} (h : Below B w w') (hb : B ≤ b) (cs : Array Value) : Below B w (w'.setRow b cs) :=
  ⟨h.os, h.tape, h.output, by rw [setRow_size]; exact h.size, fun k hk => (setRow_other w' b k cs (by omega)).trans (h.block k hk)⟩
theorem Turns.laid (w : World) (b : Nat) (cs : Array Value) : Turns (fun i => i = b) w (w.setRow b cs) :=
  ⟨rfl, rfl, rfl, by rw [setRow_size]; exact Nat.le_refl _, fun k _ hF => setRow_other w b k cs hF⟩
theorem ret_cell1 {fn : Func} {p : Tmp} {ty : TypeId} (h : fn.results = #[.cell p ty]) {tmps : Array Value} {w : World} {g : Nat} {cs : Array Value} {t : TypeId} {fs : Array Field} {P : Program}
    (hp : tmps.getD p undef = .pointer (some ⟨g, 0, none⟩)) (hB : Blk w g cs t) (hu : P.underlying ty = some (.struct fs)) (hi : (P.info? ty).map (·.size) = some cs.size) :
    (results fn tmps).run P w = .ok (.agg cs) w := results_cell_row h tmps w g t cs (0, 0) (.struct fs) hp hB hu rfl hi
theorem ret_cell2 {fn : Func} {p u : Tmp} {ty : TypeId} (h : fn.results = #[.cell p ty, .tmp u]) {tmps : Array Value} {w : World} {g : Nat} {cs : Array Value} {t : TypeId} {fs : Array Field} {P : Program} {x : Value}
    (hp : tmps.getD p undef = .pointer (some ⟨g, 0, none⟩)) (hx : tmps.getD u undef = x) (hB : Blk w g cs t) (hu : P.underlying ty = some (.struct fs)) (hi : (P.info? ty).map (·.size) = some cs.size) :
    (results fn tmps).run P w = .ok (.tuple #[.agg cs, x]) w := by
  rw [results_cell_tmp h, hp, hx]
  simp [asAddr, Result.andThen, run_loadVar_row w g t ty cs (0, 0) (.struct fs) hB hu rfl hi]
theorem ret_cell3 {fn : Func} {p u v : Tmp} {ty : TypeId} (h : fn.results = #[.cell p ty, .tmp u, .tmp v]) {tmps : Array Value} {w : World} {g : Nat} {cs : Array Value} {t : TypeId} {fs : Array Field} {P : Program} {x y : Value}
    (hp : tmps.getD p undef = .pointer (some ⟨g, 0, none⟩)) (hx : tmps.getD u undef = x) (hy : tmps.getD v undef = y) (hB : Blk w g cs t) (hu : P.underlying ty = some (.struct fs)) (hi : (P.info? ty).map (·.size) = some cs.size) :
    (results fn tmps).run P w = .ok (.tuple #[.agg cs, x, y]) w := by
  have hp' : tmps[p]?.getD undef = .pointer (some ⟨g, 0, none⟩) := by simpa using hp
  have hx' : tmps[u]?.getD undef = x := by simpa using hx
  have hy' : tmps[v]?.getD undef = y := by simpa using hy
  simp [results, h, hp', hx', hy', asAddr, run_loadVar_row w g t ty cs (0, 0) (.struct fs) hB hu rfl hi]
theorem Blk.frozen {w : World} {b : Nat} {cs : Array Value} {ty : TypeId} (h : Blk w b cs ty) (o : Nat) : w.frozen? ⟨b, o, none⟩ = false := by
  have h' : w.heap[b]? = some (.cells cs ty (0, 0)) := h
  simp [World.frozen?, h']
/-- A term: is it a variable, its name, and its value. -/
structure Tm where
  v : Bool
  name : ByteArray
  k : Bool
  s : ByteArray
  n : Int
def Tm.zero : Tm := ⟨false, ⟨#[]⟩, false, ⟨#[]⟩, 0⟩
def Tm.cells (t : Tm) : List Value := [.bool t.v, .string t.name, .bool t.k, .string t.s, .int .i64 t.n]
structure Am where
  p : ByteArray
  args : List Tm
def Am.zero : Am := ⟨⟨#[]⟩, []⟩
structure Lt where
  kind : Int
  atom : Am
  op : ByteArray
  l : Tm
  r : Tm
def Lt.zero : Lt := ⟨0, Am.zero, ⟨#[]⟩, Tm.zero, Tm.zero⟩
structure Ru where
  head : Am
  body : List Lt
def Ru.zero : Ru := ⟨Am.zero, []⟩
structure De where
  p : ByteArray
  ar : Int
def De.zero : De := ⟨⟨#[]⟩, 0⟩
def De.cells (d : De) : List Value := [.string d.p, .int .i64 d.ar]
structure Pr where
  decls : List De
  rules : List Ru
def Pr.zero : Pr := ⟨[], []⟩

/-- Each of the list is such as its cells say. -/
def AllR {α : Type} (R : α → List Value → Prop) : List α → List (List Value) → Prop
  | [], [] => True
  | a :: L, c :: cs => R a c ∧ AllR R L cs
  | _, _ => False
theorem AllR.imp {α : Type} {R S : α → List Value → Prop} (h : ∀ a c, R a c → S a c) : ∀ {L : List α} {cs : List (List Value)}, AllR R L cs → AllR S L cs
  | [], [], _ => trivial
  | _ :: _, _ :: _, ⟨h1, h2⟩ => ⟨h _ _ h1, AllR.imp h h2⟩
  | [], _ :: _, k => k.elim
  | _ :: _, [], k => k.elim
theorem AllR.add {α : Type} {R : α → List Value → Prop} {a : α} {c : List Value} (h : R a c) : ∀ {L : List α} {cs : List (List Value)}, AllR R L cs → AllR R (L ++ [a]) (cs ++ [c])
  | [], [], _ => ⟨h, trivial⟩
  | _ :: _, _ :: _, ⟨h1, h2⟩ => ⟨h1, AllR.add h h2⟩
  | [], _ :: _, k => k.elim
  | _ :: _, [], k => k.elim
theorem AllR.length {α : Type} {R : α → List Value → Prop} : ∀ {L : List α} {cs : List (List Value)}, AllR R L cs → cs.length = L.length
  | [], [], _ => rfl
  | _ :: L, _ :: cs, ⟨_, h2⟩ => by simp [AllR.length h2]
  | [], _ :: _, k => k.elim
  | _ :: _, [], k => k.elim
theorem AllR.at {α : Type} {R : α → List Value → Prop} : ∀ {L : List α} {cs : List (List Value)}, AllR R L cs → ∀ (i : Nat) (hi : i < L.length), ∃ c, cs[i]? = some c ∧ R L[i] c
  | [], [], _, i, hi => by simp at hi
  | a :: L, c :: cs, ⟨h1, h2⟩, i, hi => by
    cases i with
    | zero => exact ⟨c, rfl, h1⟩
    | succ i => exact AllR.at h2 i (by simpa using hi)
  | [], _ :: _, k, _, _ => k.elim
  | _ :: _, [], k, _, _ => k.elim
theorem flat_at {k : Nat} : ∀ {cs : List (List Value)}, (∀ c ∈ cs, c.length = k) → ∀ (i : Nat) (c : List Value), cs[i]? = some c → ∀ j u, c[j]? = some u → cs.flatten[i * k + j]? = some u
  | [], _, i, c, h, _, _, _ => by simp at h
  | c0 :: cs, hk, i, c, h, j, u, hj => by
    have h0 : c0.length = k := hk c0 (by simp)
    cases i with
    | zero =>
      simp at h
      subst h
      rw [List.flatten_cons, Nat.zero_mul, Nat.zero_add, List.getElem?_append_left (by exact (List.getElem?_eq_some_iff.1 hj).1)]
      exact hj
    | succ i =>
      have := flat_at (cs := cs) (fun d hd => hk d (List.mem_cons_of_mem _ hd)) i c (by simpa using h) j u hj
      rw [List.flatten_cons, List.getElem?_append_right (by rw [h0, Nat.succ_mul]; omega), h0]
      have e : (i + 1) * k + j - k = i * k + j := by rw [Nat.succ_mul]; omega
      rw [e]
      exact this

/-- What an element's cells say may speak of memory from B on. -/
abbrev RelM (α : Type) := World → Nat → α → List Value → Prop
/-- It stays where that memory stays. -/
def KeepR {α : Type} (R : RelM α) : Prop := ∀ (w w' : World) (B B' : Nat) (a : α) (c : List Value), B' ≤ B → (∀ k, B ≤ k → k < w.heap.size → w'.heap[k]? = w.heap[k]?) → R w B a c → R w' B' a c
/-- A list of the call's own, from B on: k cells each. -/
def OwnL {α : Type} (R : RelM α) (ty : TypeId) (k : Nat) (w : World) (B : Nat) (x : Value) (L : List α) : Prop :=
  ∃ cs, AllR (R w B) L cs ∧ (∀ c ∈ cs, c.length = k) ∧ w.ownsRow B ty k x L.length cs.flatten
theorem owns_keep {w w' : World} {B B' : Nat} {ty : TypeId} {k n : Nat} {x : Value} {cs : List Value} (h : w.ownsRow B ty k x n cs) (hB : B' ≤ B) (hb : ∀ i, B ≤ i → i < w.heap.size → w'.heap[i]? = w.heap[i]?) : w'.ownsRow B' ty k x n cs := by
  obtain ⟨h1, h2⟩ := h
  refine ⟨h1, ?_⟩
  rcases h2 with h2 | ⟨g, cap, cur, e1, e2, e3, e4⟩
  · exact .inl h2
  · exact .inr ⟨g, cap, cur, e1, by omega, (hb g e2 (Array.getElem?_eq_some_iff.1 e3).1).trans e3, e4⟩
theorem OwnL.keep {α : Type} {R : RelM α} (hR : KeepR R) {ty : TypeId} {k : Nat} {w w' : World} {B B' : Nat} {x : Value} {L : List α} (h : OwnL R ty k w B x L) (hB : B' ≤ B) (hb : ∀ i, B ≤ i → i < w.heap.size → w'.heap[i]? = w.heap[i]?) : OwnL R ty k w' B' x L := by
  obtain ⟨cs, h1, h2, h3⟩ := h
  exact ⟨cs, h1.imp (fun a c hc => hR w w' B B' a c hB hb hc), h2, owns_keep h3 hB hb⟩
theorem OwnL.nil {α : Type} (R : RelM α) (ty : TypeId) (k : Nat) (w : World) (B : Nat) : OwnL R ty k w B (.slice none 0 0) [] := ⟨[], trivial, fun _ h => by simp at h, World.ownsRow_nil _ _ _ _⟩
theorem OwnL.app {α : Type} {R : RelM α} {ty : TypeId} {k : Nat} {w : World} {B : Nat} {x : Value} {L : List α} {cs : List (List Value)} {a : α} {c : List Value} (hA : AllR (R w B) L cs) (hl : ∀ c ∈ cs, c.length = k) (ha : R w B a c) (hc : c.length = k)
    (hr : w.ownsRow B ty k x (L.length + 1) (cs.flatten ++ c)) : OwnL R ty k w B x (L ++ [a]) :=
  ⟨cs ++ [c], hA.add ha, fun d hd => by
    rcases List.mem_append.1 hd with hd | hd
    · exact hl d hd
    · simp at hd; rw [hd]; exact hc, by simpa using hr⟩
/-- Its form, and its cells. -/
theorem OwnL.cells {α : Type} {R : RelM α} {ty : TypeId} {k : Nat} {w : World} {B : Nat} {x : Value} {L : List α} (h : OwnL R ty k w B x L) :
    ∃ ao cap, x = .slice ao L.length cap ∧ L.length ≤ cap ∧ ∀ (i : Nat) (hi : i < L.length), ∃ g c, ao = some ⟨g, 0, none⟩ ∧ B ≤ g ∧ g < w.heap.size ∧ R w B L[i] c ∧ ∀ j u, c[j]? = some u → w.cell? ⟨g, i * k + j, none⟩ = some u := by
  obtain ⟨cs, h1, h2, h3⟩ := h
  have h3' := h3
  obtain ⟨h4, h5⟩ := h3
  rcases h5 with ⟨e, h0⟩ | ⟨g, cap, cur, e, hB, hg, hc⟩
  · have : L = [] := List.length_eq_zero_iff.1 h0
    subst this
    exact ⟨none, 0, by rw [e]; rfl, by simp, fun i hi => by simp at hi⟩
  · subst e
    refine ⟨some ⟨g, 0, none⟩, cap, rfl, ?_, fun i hi => ?_⟩
    · first | exact hc.1 | exact hc.2.1 | omega
    · obtain ⟨c, hci, hR⟩ := h1.at i hi
      refine ⟨g, c, rfl, hB, (Array.getElem?_eq_some_iff.1 hg).1, hR, fun j u hj => ?_⟩
      have := World.ownsRow.cells h3' (g := g) rfl _ u (flat_at h2 i c hci j u hj)
      rw [add_noneK] at this
      simpa using this

def TmR : RelM Tm := fun _ _ t c => c = t.cells
def DeR : RelM De := fun _ _ d c => c = d.cells
abbrev TmsO (w : World) (B : Nat) (x : Value) (L : List Tm) : Prop := OwnL TmR 51 5 w B x L
def LtC (l : Lt) (x : Value) : List Value := [.int .i64 l.kind, .string l.atom.p, x, .string l.op, .bool l.l.v, .string l.l.name, .bool l.l.k, .string l.l.s, .int .i64 l.l.n, .bool l.r.v, .string l.r.name, .bool l.r.k, .string l.r.s, .int .i64 l.r.n]
def LtR : RelM Lt := fun w B l c => ∃ x, c = LtC l x ∧ TmsO w B x l.atom.args
abbrev LtsO (w : World) (B : Nat) (x : Value) (L : List Lt) : Prop := OwnL LtR 53 14 w B x L
def RuR : RelM Ru := fun w B r c => ∃ x y, c = [.string r.head.p, x, y] ∧ TmsO w B x r.head.args ∧ LtsO w B y r.body
abbrev RusO (w : World) (B : Nat) (x : Value) (L : List Ru) : Prop := OwnL RuR 27 3 w B x L
abbrev DesO (w : World) (B : Nat) (x : Value) (L : List De) : Prop := OwnL DeR 113 2 w B x L
theorem keepTm : KeepR TmR := fun _ _ _ _ _ _ _ _ h => h
theorem keepDe : KeepR DeR := fun _ _ _ _ _ _ _ _ h => h
theorem keepLt : KeepR LtR := fun _ _ _ _ _ _ hB hb ⟨x, h1, h2⟩ => ⟨x, h1, h2.keep keepTm hB hb⟩
theorem keepRu : KeepR RuR := fun _ _ _ _ _ _ hB hb ⟨x, y, h1, h2, h3⟩ => ⟨x, y, h1, h2.keep keepTm hB hb, h3.keep keepLt hB hb⟩
/-- It stays: behind calls that only make memory, and behind those that write the parser's own block, too. -/
theorem OwnL.below {α : Type} {R : RelM α} (hR : KeepR R) {ty : TypeId} {k : Nat} {w w' : World} {B : Nat} {x : Value} {L : List α} (h : OwnL R ty k w B x L) (hb : Below w.heap.size w w') : OwnL R ty k w' B x L :=
  h.keep hR (Nat.le_refl _) (fun k _ hk => hb.block k hk)
theorem OwnL.turns {α : Type} {R : RelM α} (hR : KeepR R) {ty : TypeId} {k : Nat} {w w' : World} {B pb : Nat} {x : Value} {L : List α} (h : OwnL R ty k w B x L) (ht : Turns (fun i => i = pb) w w') (hp : pb < B) : OwnL R ty k w' B x L :=
  h.keep hR (Nat.le_refl _) (fun k hB hk => ht.block k hk (by omega))
theorem OwnL.mono {α : Type} {R : RelM α} (hR : KeepR R) {ty : TypeId} {k : Nat} {w : World} {B B' : Nat} {x : Value} {L : List α} (h : OwnL R ty k w B x L) (hB : B' ≤ B) : OwnL R ty k w B' x L :=
  h.keep hR hB (fun _ _ _ => rfl)

/-- A row of that type. -/
def IsTy (w : World) (ty : TypeId) (k : Nat) : Prop := ∃ cs fr, w.heap[k]? = some (.cells cs ty fr)
/-- It stays where all memory from B on stays but rows of that type. -/
def KeepN {α : Type} (R : RelM α) (ty : TypeId) : Prop := ∀ (w w' : World) (B : Nat) (a : α) (c : List Value), (∀ k, B ≤ k → k < w.heap.size → ¬ IsTy w ty k → w'.heap[k]? = w.heap[k]?) → R w B a c → R w' B a c
theorem OwnL.keepN {α : Type} {R : RelM α} {ty ty0 : TypeId} (hR : KeepN R ty) (hne : ty0 ≠ ty) {k : Nat} {w w' : World} {B : Nat} {x : Value} {L : List α} (h : OwnL R ty0 k w B x L) (hb : ∀ i, B ≤ i → i < w.heap.size → ¬ IsTy w ty i → w'.heap[i]? = w.heap[i]?) : OwnL R ty0 k w' B x L := by
  obtain ⟨cs, h1, h2, h3, h4⟩ := h
  refine ⟨cs, h1.imp (fun a c hc => hR w w' B a c hb hc), h2, h3, ?_⟩
  rcases h4 with h4 | ⟨g, cap, cur, e1, e2, e3, e4⟩
  · exact .inl h4
  · refine .inr ⟨g, cap, cur, e1, e2, (hb g e2 (Array.getElem?_eq_some_iff.1 e3).1 ?_).trans e3, e4⟩
    rintro ⟨cs', fr, e⟩
    rw [e3] at e
    cases e
    exact hne rfl
theorem keepNTm (ty : TypeId) : KeepN TmR ty := fun _ _ _ _ _ _ h => h
theorem keepNDe (ty : TypeId) : KeepN DeR ty := fun _ _ _ _ _ _ h => h
theorem keepNLt {ty : TypeId} (h : 51 ≠ ty) : KeepN LtR ty := fun _ _ _ _ _ hb ⟨x, h1, h2⟩ => ⟨x, h1, h2.keepN (keepNTm ty) h hb⟩
theorem keepNRu {ty : TypeId} (h : 51 ≠ ty) (h' : 53 ≠ ty) : KeepN RuR ty := fun _ _ _ _ _ hb ⟨x, y, h1, h2, h3⟩ => ⟨x, y, h1, h2.keepN (keepNTm ty) h hb, h3.keepN (keepNLt h) h' hb⟩
/-- One more put to a list of the call's own. -/
theorem own_step {α : Type} {R : RelM α} {ty : TypeId} (hN : KeepN R ty) {k n : Nat} {w3 Wa w4 : World} {o : Obj} {v v' : Value} {T : List α} {cs : List (List Value)} {a : α} {c : List Value}
    (hn : n ≤ w3.heap.size) (hA : AllR (R w3 n) T cs) (hl : ∀ c ∈ cs, c.length = k) (hrow : w3.ownsRow n ty k v T.length cs.flatten) (ha : R w3 n a c) (hc : c.length = k)
    (hbw : Below w3.heap.size w3 Wa) (hown' : w4.ownsRow n ty k v' (T.length + 1) (cs.flatten ++ c)) (hg : (Wa.alloc o).grownBy w4 v.ownBlock) :
    OwnL R ty k w4 n v' (T ++ [a]) ∧ Below n w3 w4 ∧ ∀ j, j < w3.heap.size → j < n ∨ ¬ IsTy w3 ty j → w4.heap[j]? = w3.heap[j]? := by
  have hz := hbw.size
  have hB : Below n w3 w4 := ((hbw.mono hn).alloc (by omega) _).grown hg (by simp; omega) (fun k hk => (World.ownsRow.lt hrow k hk).1)
  have hK : ∀ j, j < w3.heap.size → ¬ IsTy w3 ty j → w4.heap[j]? = w3.heap[j]? := fun j hj hT => by
    have h1 : (Wa.alloc o).heap[j]? = w3.heap[j]? := (Below.heap_alloc Wa o j (by omega)).trans (hbw.block j hj)
    refine (hg.block j (by simp; omega) (fun e => hT ?_)).trans h1
    obtain ⟨-, h5⟩ := hrow
    rcases h5 with ⟨e', -⟩ | ⟨g, cap, cur, e', -, hg', -⟩
    · rw [e'] at e; cases e
    · rw [e'] at e
      cases e
      exact ⟨_, _, hg'⟩
  refine ⟨OwnL.app (hA.imp (fun a c h => hN w3 w4 n a c (fun k _ hk hT => hK k hk hT) h)) hl (hN w3 w4 n a c (fun k _ hk hT => hK k hk hT) ha) hc hown', hB, fun j hj h => ?_⟩
  rcases h with h | h
  · exact hB.block j h
  · exact hK j hj h
/-- What an element's cells say may speak of memory. -/
abbrev RelW (α : Type) := World → α → List Value → Prop
/-- It stays where memory is only made. -/
def StayR {α : Type} (R : RelW α) : Prop := ∀ (w w' : World) (a : α) (c : List Value), Below w.heap.size w w' → R w a c → R w' a c
/-- x is a list, in memory that is there: k cells each, elements told by R. -/
def RdL {α : Type} (R : RelW α) (k : Nat) (W : World) (x : Value) (L : List α) : Prop :=
  ∃ (ao : Option Addr) (cap : Nat), x = .slice ao L.length cap ∧ (L.length ≤ cap ∧ (ao = none → cap = 0)) ∧ L.length ≤ maxLen ∧
    ∀ (i : Nat) (hi : i < L.length), ∃ b off c, ao = some ⟨b, off, none⟩ ∧ b < W.heap.size ∧ R W L[i] c ∧ ∀ j u, c[j]? = some u → W.cell? ⟨b, off + i * k + j, none⟩ = some u
theorem RdL.below {α : Type} {R : RelW α} (hR : StayR R) {k : Nat} {W W' : World} {x : Value} {L : List α} (h : RdL R k W x L) (hb : Below W.heap.size W W') : RdL R k W' x L := by
  obtain ⟨ao, cap, e, h1, h2, h3⟩ := h
  refine ⟨ao, cap, e, h1, h2, fun i hi => ?_⟩
  obtain ⟨b, off, c, e1, hl, hr, hc⟩ := h3 i hi
  exact ⟨b, off, c, e1, Nat.lt_of_lt_of_le hl hb.size, hR W W' _ c hb hr, fun j u hj => (hb.cell (p := ⟨b, _, none⟩) hl).trans (hc j u hj)⟩
theorem RdL.form {α : Type} {R : RelW α} {k : Nat} {W : World} {x : Value} {L : List α} (h : RdL R k W x L) : ∃ ao cap, x = .slice ao L.length cap ∧ L.length ≤ cap ∧ L.length ≤ maxLen := by
  obtain ⟨ao, cap, e, h1, h2, -⟩ := h
  exact ⟨ao, cap, e, h1.1, h2⟩
/-- A list that is nil has no room. -/
def NilC (x : Value) : Prop := ∀ n c, x = .slice none n c → c = 0
theorem RdL.nilc {α : Type} {R : RelW α} {k : Nat} {W : World} {x : Value} {L : List α} (h : RdL R k W x L) : NilC x := fun n c e => by
  obtain ⟨ao, cap, e', h1, -⟩ := h
  rw [e'] at e
  cases e
  exact h1.2 rfl
theorem RdL.nil {α : Type} (R : RelW α) (k : Nat) (W : World) : RdL R k W (.slice none 0 0) [] := ⟨none, 0, rfl, ⟨by simp, fun _ => rfl⟩, by simp [maxLen], fun i hi => by simp at hi⟩
theorem RdL.zero {α : Type} (R : RelW α) (k : Nat) (W : World) (a : Addr) (cap : Nat) : RdL R k W (.slice (some a) 0 cap) [] := ⟨some a, cap, rfl, ⟨by simp, fun e => by cases e⟩, by simp [maxLen], fun i hi => by simp at hi⟩
theorem RdL.at {α : Type} {R : RelW α} {k : Nat} {W : World} {ao : Option Addr} {n cap : Nat} {L : List α} (h : RdL R k W (.slice ao n cap) L) (i : Nat) (hi : i < L.length) :
    ∃ b off c, ao = some ⟨b, off, none⟩ ∧ b < W.heap.size ∧ R W L[i] c ∧ ∀ j u, c[j]? = some u → W.cell? ⟨b, off + i * k + j, none⟩ = some u := by
  obtain ⟨ao', cap', e, -, -, h2⟩ := h
  cases e
  exact h2 i hi

def TmI : RelW Tm := fun _ t c => c = t.cells
def DeI : RelW De := fun _ d c => c = d.cells
abbrev Tms (W : World) (x : Value) (L : List Tm) : Prop := RdL TmI 5 W x L
def LtI : RelW Lt := fun W l c => ∃ x, c = LtC l x ∧ Tms W x l.atom.args
abbrev Lts (W : World) (x : Value) (L : List Lt) : Prop := RdL LtI 14 W x L
def RuI : RelW Ru := fun W r c => ∃ x y, c = [.string r.head.p, x, y] ∧ Tms W x r.head.args ∧ Lts W y r.body
abbrev Rus (W : World) (x : Value) (L : List Ru) : Prop := RdL RuI 3 W x L
abbrev Des (W : World) (x : Value) (L : List De) : Prop := RdL DeI 2 W x L
theorem stayTm : StayR TmI := fun _ _ _ _ _ h => h
theorem stayDe : StayR DeI := fun _ _ _ _ _ h => h
theorem stayLt : StayR LtI := fun _ _ _ _ hb ⟨x, h1, h2⟩ => ⟨x, h1, h2.below stayTm hb⟩
theorem stayRu : StayR RuI := fun _ _ _ _ hb ⟨x, y, h1, h2, h3⟩ => ⟨x, y, h1, h2.below stayTm hb, h3.below stayLt hb⟩

/-- A list of the call's own can be read. -/
theorem OwnL.rd {α : Type} {R : RelM α} {R' : RelW α} {ty : TypeId} {k : Nat} {w : World} {B : Nat} {x : Value} {L : List α} (h : OwnL R ty k w B x L) (hm : L.length ≤ maxLen) (hR : ∀ a ∈ L, ∀ c, R w B a c → R' w a c) : RdL R' k w x L := by
  have hn : NilC x := fun n c e => by
    obtain ⟨cs, -, -, -, h3⟩ := h
    rcases h3 with ⟨e', -⟩ | ⟨g, cap, cur, e', -⟩
    · rw [e'] at e; cases e; rfl
    · rw [e'] at e; cases e
  obtain ⟨ao, cap, rfl, h1, h2⟩ := h.cells
  refine ⟨ao, cap, rfl, ⟨h1, fun e => hn _ _ (by rw [e])⟩, hm, fun i hi => ?_⟩
  obtain ⟨g, c, rfl, -, hl, hr, hc⟩ := h2 i hi
  exact ⟨g, 0, c, rfl, hl, hR _ (List.getElem_mem hi) c hr, fun j u hj => by rw [Nat.zero_add]; exact hc j u hj⟩
theorem TmsO.rd {w : World} {B : Nat} {x : Value} {L : List Tm} (h : TmsO w B x L) (hm : L.length ≤ maxLen) : Tms w x L := OwnL.rd h hm (fun _ _ _ h => h)
theorem DesO.rd {w : World} {B : Nat} {x : Value} {L : List De} (h : DesO w B x L) (hm : L.length ≤ maxLen) : Des w x L := OwnL.rd h hm (fun _ _ _ h => h)
theorem LtsO.rd {w : World} {B : Nat} {x : Value} {L : List Lt} (h : LtsO w B x L) (hm : L.length ≤ maxLen) (ht : ∀ l ∈ L, l.atom.args.length ≤ maxLen) : Lts w x L :=
  OwnL.rd h hm (fun l hl c ⟨x, e, hx⟩ => ⟨x, e, TmsO.rd hx (ht l hl)⟩)
theorem RusO.rd {w : World} {B : Nat} {x : Value} {L : List Ru} (h : RusO w B x L) (hm : L.length ≤ maxLen) (hr : ∀ r ∈ L, r.head.args.length ≤ maxLen ∧ r.body.length ≤ maxLen ∧ ∀ l ∈ r.body, l.atom.args.length ≤ maxLen) : Rus w x L :=
  OwnL.rd h hm (fun r h1 c ⟨x, y, e, hx, hy⟩ => ⟨x, y, e, TmsO.rd hx (hr r h1).1, LtsO.rd hy (hr r h1).2.1 (hr r h1).2.2⟩)

/-- How much a term holds, an atom, a literal, a rule, a declaration, a program. -/
def szTm (t : Tm) : Nat := t.name.size + t.s.size + 6
def szTms (L : List Tm) : Nat := (L.map szTm).sum
def szAm (a : Am) : Nat := a.p.size + szTms a.args + 2
def szLt (l : Lt) : Nat := szAm l.atom + l.op.size + szTm l.l + szTm l.r + 2
def szLts (L : List Lt) : Nat := (L.map szLt).sum
def szRu (r : Ru) : Nat := szAm r.head + szLts r.body + 1
def szRus (L : List Ru) : Nat := (L.map szRu).sum
def szDe (d : De) : Nat := d.p.size + 3
def szDes (L : List De) : Nat := (L.map szDe).sum
def szPr (g : Pr) : Nat := szDes g.decls + szRus g.rules
theorem sum_mem {α : Type} (f : α → Nat) {L : List α} {a : α} (h : a ∈ L) : f a ≤ (L.map f).sum := by
  induction L with
  | nil => simp at h
  | cons b L ih =>
    simp only [List.map_cons, List.sum_cons]
    rcases List.mem_cons.1 h with rfl | h
    · omega
    · have := ih h; omega
theorem sum_len {α : Type} (f : α → Nat) (k : Nat) (hk : ∀ a, k ≤ f a) (L : List α) : k * L.length ≤ (L.map f).sum := by
  induction L with
  | nil => simp
  | cons b L ih =>
    simp only [List.map_cons, List.sum_cons, List.length_cons, Nat.mul_add, Nat.mul_one]
    have := hk b; omega
theorem sum_le {α : Type} (f : α → Nat) (k : Nat) {L : List α} (h : ∀ a ∈ L, f a ≤ k) : (L.map f).sum ≤ k * L.length := by
  induction L with
  | nil => simp
  | cons b L ih =>
    simp only [List.map_cons, List.sum_cons, List.length_cons, Nat.mul_add, Nat.mul_one]
    have := h b (by simp); have := ih (fun a ha => h a (by simp [ha])); omega

/-- What a value of all the program's terms is: each number is one that Go has. -/
def InTm (t : Tm) : Prop := InR t.n
def InAm (a : Am) : Prop := ∀ t ∈ a.args, InTm t
def InLt (l : Lt) : Prop := InAm l.atom ∧ InTm l.l ∧ InTm l.r
def InRu (r : Ru) : Prop := InAm r.head ∧ ∀ l ∈ r.body, InLt l
def InDe (d : De) : Prop := InR d.ar
def InPr (g : Pr) : Prop := (∀ d ∈ g.decls, InDe d) ∧ ∀ r ∈ g.rules, InRu r

end Go.Proofs.Ytcpdikhiodbdjaa
