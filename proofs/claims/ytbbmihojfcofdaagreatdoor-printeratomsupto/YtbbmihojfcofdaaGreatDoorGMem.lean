/-
  Programs in memory: lists of the call's own (OwnL), and the feed of tokens that the parser reads (Feed). Plain facts; no walk.
-/
import Derived.Test.YtbbmihojfcofdaaGreatDoorGPlain
import Derived.Test.YtbbmihojfcofdaaGreatDoorKJoinP
import Derived.Test.YtbbmihojfcofdaaGreatDoorKBlk
namespace Go.Proofs.YtbbmihojfcofdaaGreatDoor
set_option linter.unusedSimpArgs false
set_option linter.unusedVariables false
set_option linter.unusedSectionVars false
set_option maxRecDepth 100000
open Go.RowKit

/-- Each of the list is such as its cells say. -/
def AllR {α : Type} (R : α → List Value → Prop) : List α → List (List Value) → Prop
  | [], [] => True
  | a :: L, c :: cs => R a c ∧ AllR R L cs
  | _, _ => False
theorem AllR.imp {α : Type} {R S : α → List Value → Prop} (h : ∀ a c, R a c → S a c) : ∀ {L : List α} {cs : List (List Value)}, AllR R L cs → AllR S L cs
  | [], [], _ => trivial
  | _ :: _, _ :: _, ⟨h1, h2⟩ => ⟨h _ _ h1, AllR.imp h h2⟩
  | [], _ :: _, k => k.elim
  | _ :: _, [], k => k.elim
theorem AllR.add {α : Type} {R : α → List Value → Prop} {a : α} {c : List Value} (h : R a c) : ∀ {L : List α} {cs : List (List Value)}, AllR R L cs → AllR R (L ++ [a]) (cs ++ [c])
  | [], [], _ => ⟨h, trivial⟩
  | _ :: _, _ :: _, ⟨h1, h2⟩ => ⟨h1, AllR.add h h2⟩
  | [], _ :: _, k => k.elim
  | _ :: _, [], k => k.elim
theorem AllR.length {α : Type} {R : α → List Value → Prop} : ∀ {L : List α} {cs : List (List Value)}, AllR R L cs → cs.length = L.length
  | [], [], _ => rfl
  | _ :: L, _ :: cs, ⟨_, h2⟩ => by simp [AllR.length h2]
  | [], _ :: _, k => k.elim
  | _ :: _, [], k => k.elim
theorem AllR.at {α : Type} {R : α → List Value → Prop} : ∀ {L : List α} {cs : List (List Value)}, AllR R L cs → ∀ (i : Nat) (hi : i < L.length), ∃ c, cs[i]? = some c ∧ R L[i] c
  | [], [], _, i, hi => by simp at hi
  | a :: L, c :: cs, ⟨h1, h2⟩, i, hi => by
    cases i with
    | zero => exact ⟨c, rfl, h1⟩
    | succ i => exact AllR.at h2 i (by simpa using hi)
  | [], _ :: _, k, _, _ => k.elim
  | _ :: _, [], k, _, _ => k.elim
theorem flat_at {k : Nat} : ∀ {cs : List (List Value)}, (∀ c ∈ cs, c.length = k) → ∀ (i : Nat) (c : List Value), cs[i]? = some c → ∀ j u, c[j]? = some u → cs.flatten[i * k + j]? = some u
  | [], _, i, c, h, _, _, _ => by simp at h
  | c0 :: cs, hk, i, c, h, j, u, hj => by
    have h0 : c0.length = k := hk c0 (by simp)
    cases i with
    | zero =>
      simp at h
      subst h
      rw [List.flatten_cons, Nat.zero_mul, Nat.zero_add, List.getElem?_append_left (by exact (List.getElem?_eq_some_iff.1 hj).1)]
      exact hj
    | succ i =>
      have := flat_at (cs := cs) (fun d hd => hk d (List.mem_cons_of_mem _ hd)) i c (by simpa using h) j u hj
      rw [List.flatten_cons, List.getElem?_append_right (by rw [h0, Nat.succ_mul]; omega), h0]
      have e : (i + 1) * k + j - k = i * k + j := by rw [Nat.succ_mul]; omega
      rw [e]
      exact this

/-- What an element's cells say may speak of memory from B on. -/
abbrev RelM (α : Type) := World → Nat → α → List Value → Prop
/-- It stays where that memory stays. -/
def KeepR {α : Type} (R : RelM α) : Prop := ∀ (w w' : World) (B B' : Nat) (a : α) (c : List Value), B' ≤ B → (∀ k, B ≤ k → k < w.heap.size → w'.heap[k]? = w.heap[k]?) → R w B a c → R w' B' a c
/-- A list of the call's own, from B on: k cells each. -/
def OwnL {α : Type} (R : RelM α) (ty : TypeId) (k : Nat) (w : World) (B : Nat) (x : Value) (L : List α) : Prop :=
  ∃ cs, AllR (R w B) L cs ∧ (∀ c ∈ cs, c.length = k) ∧ w.ownsRow B ty k x L.length cs.flatten
theorem owns_keep {w w' : World} {B B' : Nat} {ty : TypeId} {k n : Nat} {x : Value} {cs : List Value} (h : w.ownsRow B ty k x n cs) (hB : B' ≤ B) (hb : ∀ i, B ≤ i → i < w.heap.size → w'.heap[i]? = w.heap[i]?) : w'.ownsRow B' ty k x n cs := by
  obtain ⟨h1, h2⟩ := h
  refine ⟨h1, ?_⟩
  rcases h2 with h2 | ⟨g, cap, cur, e1, e2, e3, e4⟩
  · exact .inl h2
  · exact .inr ⟨g, cap, cur, e1, by omega, (hb g e2 (Array.getElem?_eq_some_iff.1 e3).1).trans e3, e4⟩
theorem OwnL.keep {α : Type} {R : RelM α} (hR : KeepR R) {ty : TypeId} {k : Nat} {w w' : World} {B B' : Nat} {x : Value} {L : List α} (h : OwnL R ty k w B x L) (hB : B' ≤ B) (hb : ∀ i, B ≤ i → i < w.heap.size → w'.heap[i]? = w.heap[i]?) : OwnL R ty k w' B' x L := by
  obtain ⟨cs, h1, h2, h3⟩ := h
  exact ⟨cs, h1.imp (fun a c hc => hR w w' B B' a c hB hb hc), h2, owns_keep h3 hB hb⟩
theorem OwnL.nil {α : Type} (R : RelM α) (ty : TypeId) (k : Nat) (w : World) (B : Nat) : OwnL R ty k w B (.slice none 0 0) [] := ⟨[], trivial, fun _ h => by simp at h, World.ownsRow_nil _ _ _ _⟩
theorem OwnL.app {α : Type} {R : RelM α} {ty : TypeId} {k : Nat} {w : World} {B : Nat} {x : Value} {L : List α} {cs : List (List Value)} {a : α} {c : List Value} (hA : AllR (R w B) L cs) (hl : ∀ c ∈ cs, c.length = k) (ha : R w B a c) (hc : c.length = k)
    (hr : w.ownsRow B ty k x (L.length + 1) (cs.flatten ++ c)) : OwnL R ty k w B x (L ++ [a]) :=
  ⟨cs ++ [c], hA.add ha, fun d hd => by
    rcases List.mem_append.1 hd with hd | hd
    · exact hl d hd
    · simp at hd; rw [hd]; exact hc, by simpa using hr⟩
/-- Its form, and its cells. -/
theorem OwnL.cells {α : Type} {R : RelM α} {ty : TypeId} {k : Nat} {w : World} {B : Nat} {x : Value} {L : List α} (h : OwnL R ty k w B x L) :
    ∃ ao cap, x = .slice ao L.length cap ∧ L.length ≤ cap ∧ ∀ (i : Nat) (hi : i < L.length), ∃ g c, ao = some ⟨g, 0, none⟩ ∧ B ≤ g ∧ g < w.heap.size ∧ R w B L[i] c ∧ ∀ j u, c[j]? = some u → w.cell? ⟨g, i * k + j, none⟩ = some u := by
  obtain ⟨cs, h1, h2, h3⟩ := h
  have h3' := h3
  obtain ⟨h4, h5⟩ := h3
  rcases h5 with ⟨e, h0⟩ | ⟨g, cap, cur, e, hB, hg, hc⟩
  · have : L = [] := List.length_eq_zero_iff.1 h0
    subst this
    exact ⟨none, 0, by rw [e]; rfl, by simp, fun i hi => by simp at hi⟩
  · subst e
    refine ⟨some ⟨g, 0, none⟩, cap, rfl, ?_, fun i hi => ?_⟩
    · first | exact hc.1 | exact hc.2.1 | omega
    · obtain ⟨c, hci, hR⟩ := h1.at i hi
      refine ⟨g, c, rfl, hB, (Array.getElem?_eq_some_iff.1 hg).1, hR, fun j u hj => ?_⟩
      have := World.ownsRow.cells h3' (g := g) rfl _ u (flat_at h2 i c hci j u hj)
      rw [add_noneK] at this
      simpa using this

def TmR : RelM Tm := fun _ _ t c => c = t.cells
def DeR : RelM De := fun _ _ d c => c = d.cells
abbrev TmsO (w : World) (B : Nat) (x : Value) (L : List Tm) : Prop := OwnL TmR 35 5 w B x L
def LtC (l : Lt) (x : Value) : List Value := [.int .i64 l.kind, .string l.atom.p, x, .string l.op, .bool l.l.v, .string l.l.name, .bool l.l.k, .string l.l.s, .int .i64 l.l.n, .bool l.r.v, .string l.r.name, .bool l.r.k, .string l.r.s, .int .i64 l.r.n]
def LtR : RelM Lt := fun w B l c => ∃ x, c = LtC l x ∧ TmsO w B x l.atom.args
abbrev LtsO (w : World) (B : Nat) (x : Value) (L : List Lt) : Prop := OwnL LtR 37 14 w B x L
def RuR : RelM Ru := fun w B r c => ∃ x y, c = [.string r.head.p, x, y] ∧ TmsO w B x r.head.args ∧ LtsO w B y r.body
abbrev RusO (w : World) (B : Nat) (x : Value) (L : List Ru) : Prop := OwnL RuR 40 3 w B x L
abbrev DesO (w : World) (B : Nat) (x : Value) (L : List De) : Prop := OwnL DeR 63 2 w B x L
theorem keepTm : KeepR TmR := fun _ _ _ _ _ _ _ _ h => h
theorem keepDe : KeepR DeR := fun _ _ _ _ _ _ _ _ h => h
theorem keepLt : KeepR LtR := fun _ _ _ _ _ _ hB hb ⟨x, h1, h2⟩ => ⟨x, h1, h2.keep keepTm hB hb⟩
theorem keepRu : KeepR RuR := fun _ _ _ _ _ _ hB hb ⟨x, y, h1, h2, h3⟩ => ⟨x, y, h1, h2.keep keepTm hB hb, h3.keep keepLt hB hb⟩
/-- It stays: behind calls that only make memory, and behind those that write the parser's own block, too. -/
theorem OwnL.below {α : Type} {R : RelM α} (hR : KeepR R) {ty : TypeId} {k : Nat} {w w' : World} {B : Nat} {x : Value} {L : List α} (h : OwnL R ty k w B x L) (hb : Below w.heap.size w w') : OwnL R ty k w' B x L :=
  h.keep hR (Nat.le_refl _) (fun k _ hk => hb.block k hk)
theorem OwnL.turns {α : Type} {R : RelM α} (hR : KeepR R) {ty : TypeId} {k : Nat} {w w' : World} {B pb : Nat} {x : Value} {L : List α} (h : OwnL R ty k w B x L) (ht : Turns (fun i => i = pb) w w') (hp : pb < B) : OwnL R ty k w' B x L :=
  h.keep hR (Nat.le_refl _) (fun k hB hk => ht.block k hk (by omega))
theorem OwnL.mono {α : Type} {R : RelM α} (hR : KeepR R) {ty : TypeId} {k : Nat} {w : World} {B B' : Nat} {x : Value} {L : List α} (h : OwnL R ty k w B x L) (hB : B' ≤ B) : OwnL R ty k w B' x L :=
  h.keep hR hB (fun _ _ _ => rfl)

/-- A row of that type. -/
def IsTy (w : World) (ty : TypeId) (k : Nat) : Prop := ∃ cs fr, w.heap[k]? = some (.cells cs ty fr)
/-- It stays where all memory from B on stays but rows of that type. -/
def KeepN {α : Type} (R : RelM α) (ty : TypeId) : Prop := ∀ (w w' : World) (B : Nat) (a : α) (c : List Value), (∀ k, B ≤ k → k < w.heap.size → ¬ IsTy w ty k → w'.heap[k]? = w.heap[k]?) → R w B a c → R w' B a c
theorem OwnL.keepN {α : Type} {R : RelM α} {ty ty0 : TypeId} (hR : KeepN R ty) (hne : ty0 ≠ ty) {k : Nat} {w w' : World} {B : Nat} {x : Value} {L : List α} (h : OwnL R ty0 k w B x L) (hb : ∀ i, B ≤ i → i < w.heap.size → ¬ IsTy w ty i → w'.heap[i]? = w.heap[i]?) : OwnL R ty0 k w' B x L := by
  obtain ⟨cs, h1, h2, h3, h4⟩ := h
  refine ⟨cs, h1.imp (fun a c hc => hR w w' B a c hb hc), h2, h3, ?_⟩
  rcases h4 with h4 | ⟨g, cap, cur, e1, e2, e3, e4⟩
  · exact .inl h4
  · refine .inr ⟨g, cap, cur, e1, e2, (hb g e2 (Array.getElem?_eq_some_iff.1 e3).1 ?_).trans e3, e4⟩
    rintro ⟨cs', fr, e⟩
    rw [e3] at e
    cases e
    exact hne rfl
theorem keepNTm (ty : TypeId) : KeepN TmR ty := fun _ _ _ _ _ _ h => h
theorem keepNDe (ty : TypeId) : KeepN DeR ty := fun _ _ _ _ _ _ h => h
theorem keepNLt {ty : TypeId} (h : 35 ≠ ty) : KeepN LtR ty := fun _ _ _ _ _ hb ⟨x, h1, h2⟩ => ⟨x, h1, h2.keepN (keepNTm ty) h hb⟩
theorem keepNRu {ty : TypeId} (h : 35 ≠ ty) (h' : 37 ≠ ty) : KeepN RuR ty := fun _ _ _ _ _ hb ⟨x, y, h1, h2, h3⟩ => ⟨x, y, h1, h2.keepN (keepNTm ty) h hb, h3.keepN (keepNLt h) h' hb⟩
/-- One more put to a list of the call's own. -/
theorem own_step {α : Type} {R : RelM α} {ty : TypeId} (hN : KeepN R ty) {k n : Nat} {w3 Wa w4 : World} {o : Obj} {v v' : Value} {T : List α} {cs : List (List Value)} {a : α} {c : List Value}
    (hn : n ≤ w3.heap.size) (hA : AllR (R w3 n) T cs) (hl : ∀ c ∈ cs, c.length = k) (hrow : w3.ownsRow n ty k v T.length cs.flatten) (ha : R w3 n a c) (hc : c.length = k)
    (hbw : Below w3.heap.size w3 Wa) (hown' : w4.ownsRow n ty k v' (T.length + 1) (cs.flatten ++ c)) (hg : (Wa.alloc o).grownBy w4 v.ownBlock) :
    OwnL R ty k w4 n v' (T ++ [a]) ∧ Below n w3 w4 ∧ ∀ j, j < w3.heap.size → j < n ∨ ¬ IsTy w3 ty j → w4.heap[j]? = w3.heap[j]? := by
  have hz := hbw.size
  have hB : Below n w3 w4 := ((hbw.mono hn).alloc (by omega) _).grown hg (by simp; omega) (fun k hk => (World.ownsRow.lt hrow k hk).1)
  have hK : ∀ j, j < w3.heap.size → ¬ IsTy w3 ty j → w4.heap[j]? = w3.heap[j]? := fun j hj hT => by
    have h1 : (Wa.alloc o).heap[j]? = w3.heap[j]? := (Below.heap_alloc Wa o j (by omega)).trans (hbw.block j hj)
    refine (hg.block j (by simp; omega) (fun e => hT ?_)).trans h1
    obtain ⟨-, h5⟩ := hrow
    rcases h5 with ⟨e', -⟩ | ⟨g, cap, cur, e', -, hg', -⟩
    · rw [e'] at e; cases e
    · rw [e'] at e
      cases e
      exact ⟨_, _, hg'⟩
  refine ⟨OwnL.app (hA.imp (fun a c h => hN w3 w4 n a c (fun k _ hk hT => hK k hk hT) h)) hl (hN w3 w4 n a c (fun k _ hk hT => hK k hk hT) ha) hc hown', hB, fun j hj h => ?_⟩
  rcases h with h | h
  · exact hB.block j h
  · exact hK j hj h
def lenV : Value → Nat
  | .slice _ n _ => n
  | _ => 0

/-- THE PARSER: block pb holds the tokens that are left, and the text's end. -/
def Feed (w : World) (pb : Nat) (L : List Tk) (en : Int) : Prop :=
  ∃ (ao : Option Addr) (cap : Nat), w.heap[pb]? = some (.cells #[.slice ao L.length cap, .int .i64 en] 107 (0, 0)) ∧ Tks w (.slice ao L.length cap) L ∧ (∀ a, ao = some a → a.block < pb) ∧ ∀ t ∈ L, t.s.size ≤ 65536
theorem Feed.lt {w : World} {pb : Nat} {L : List Tk} {en : Int} (h : Feed w pb L en) : pb < w.heap.size := by
  obtain ⟨ao, cap, h, -⟩ := h
  exact (Array.getElem?_eq_some_iff.1 h).1
theorem Feed.below {w w' : World} {pb : Nat} {L : List Tk} {en : Int} (h : Feed w pb L en) (hb : Below w.heap.size w w') : Feed w' pb L en := by
  obtain ⟨ao, cap, h1, h2, h3⟩ := h
  exact ⟨ao, cap, (hb.block pb (Array.getElem?_eq_some_iff.1 h1).1).trans h1, h2.below hb, h3⟩
theorem Feed.size {w : World} {pb : Nat} {L : List Tk} {en : Int} (h : Feed w pb L en) (k : Nat) : (atT en L k).s.size ≤ 65536 := by
  obtain ⟨ao, cap, -, -, -, h4⟩ := h
  unfold atT
  cases hk : L[k]? with
  | none => simp [ByteArray.size]
  | some t => exact h4 t (List.mem_of_getElem? hk)
theorem Feed.cells {w : World} {pb : Nat} {L : List Tk} {en : Int} (h : Feed w pb L en) : ∃ ao cap, w.cell? ⟨pb, 0, none⟩ = some (.slice ao L.length cap) ∧ w.cell? ⟨pb, 1, none⟩ = some (.int .i64 en) ∧ w.frozen? ⟨pb, 0, none⟩ = false ∧ Tks w (.slice ao L.length cap) L ∧ L.length ≤ cap ∧ L.length ≤ maxLen := by
  obtain ⟨ao, cap, h1, h2, h3, -⟩ := h
  obtain ⟨ao', cap', e, k1, k2⟩ := h2.form
  cases e
  exact ⟨ao, cap, by rw [cell_of_row w pb 0 _ _ _ h1]; rfl, by rw [cell_of_row w pb 1 _ _ _ h1]; rfl, by simp [World.frozen?, h1], h2, k1, k2⟩
/-- The first of a list taken off. -/
theorem Tks.tail {W : World} {b off cap : Nat} {t : Tk} {T : List Tk} (h : Tks W (.slice (some ⟨b, off, none⟩) (T.length + 1) cap) (t :: T)) : Tks W (.slice (some ⟨b, off + 5, none⟩) T.length (cap - 1)) T := by
  obtain ⟨ao, cap', e, h1, h2, h3⟩ := h
  cases e
  simp at h1 h2
  refine ⟨_, _, rfl, by omega, by omega, fun i hi => ?_⟩
  obtain ⟨b', off', e, hl, c0, c1, c2, c3, c4⟩ := h3 (i + 1) (by simp; omega)
  cases e
  have e0 : off + (i + 1) * 5 = off + 5 + i * 5 := by omega
  rw [e0] at c0 c1 c2 c3 c4
  exact ⟨b, off + 5, rfl, hl, c0, c1, c2, c3, c4⟩
theorem Tks.first {W : World} {ao : Option Addr} {n cap : Nat} {t : Tk} {T : List Tk} (h : Tks W (.slice ao n cap) (t :: T)) : ∃ b off, ao = some ⟨b, off, none⟩ := by
  obtain ⟨ao', cap', e, h1, h2, h3⟩ := h
  cases e
  obtain ⟨b, off, e, -⟩ := h3 0 (by simp)
  exact ⟨b, off, e⟩
theorem Tks.set {W : World} {x : Value} {T : List Tk} (h : Tks W x T) {pb o : Nat} {v : Value} (hp : ∀ b off n c, x = .slice (some ⟨b, off, none⟩) n c → b ≠ pb) : Tks (W.setCell ⟨pb, o, none⟩ v) x T := by
  obtain ⟨ao, cap, e, h1, h2, h3⟩ := h
  refine ⟨ao, cap, e, h1, h2, fun i hi => ?_⟩
  obtain ⟨b, off, e1, hl, c0, c1, c2, c3, c4⟩ := h3 i hi
  have hne : b ≠ pb := hp b off T.length cap (by rw [e, e1])
  have hk : ∀ j, (W.setCell ⟨pb, o, none⟩ v).cell? ⟨b, j, none⟩ = W.cell? ⟨b, j, none⟩ := fun j => by
    have := Below.heap_setCell W ⟨pb, o, none⟩ v b hne
    simp only [World.cell?]
    rw [this]
  exact ⟨b, off, e1, by simpa [World.setCell] using hl, (hk _).trans c0, (hk _).trans c1, (hk _).trans c2, (hk _).trans c3, (hk _).trans c4⟩
theorem sizeTok (w : World) : (sizeOf (Tryz.prog.elem 101)).run Tryz.prog w = .ok 5 w := by kernel_rfl
theorem elemTok : Tryz.prog.underlying 101 = some (.slice (Tryz.prog.elem 101)) := by kernel_rfl
theorem cut_run (w : World) (a : Addr) (n cap : Nat) : (Instr.slice 101 (.slice (some a) (n + 1) cap) (some (.int .i64 1)) none none).run Tryz.prog w = .ok (.slice (some (if cap = 1 then a else a.add 5)) n (cap - 1)) w := by
  rw [run_slice_l (P := Tryz.prog) w _ _ _ _ elemTok .i64 1 (by omega) (by omega), sizeTok]
  simp only [Result.andThen, sliced]
  have e : (1 : Int).toNat = 1 := rfl
  rw [e]
  by_cases h : cap = 1
  · simp [h]
  · simp [h]
/-- A token is taken. -/
theorem Feed.take {w : World} {pb : Nat} {t : Tk} {T : List Tk} {en : Int} (h : Feed w pb (t :: T) en) : ∃ a cap a', w.cell? ⟨pb, 0, none⟩ = some (.slice (some a) (T.length + 1) cap) ∧ w.frozen? ⟨pb, 0, none⟩ = false ∧ T.length + 1 ≤ cap ∧ T.length + 1 ≤ maxLen ∧
    (Instr.slice 101 (.slice (some a) (T.length + 1) cap) (some (.int .i64 1)) none none).run Tryz.prog w = .ok (.slice (some a') T.length (cap - 1)) w ∧
    Feed (w.setCell ⟨pb, 0, none⟩ (.slice (some a') T.length (cap - 1))) pb T en := by
  obtain ⟨ao, cap, h1, h2, h3, h4⟩ := h
  obtain ⟨b, off, rfl⟩ := h2.first
  obtain ⟨ao', cap', e, k1, k2⟩ := h2.form
  cases e
  simp at k1 k2
  have hp : ((⟨b, off, none⟩ : Addr)).block < pb := h3 _ rfl
  refine ⟨⟨b, off, none⟩, cap, if cap = 1 then ⟨b, off, none⟩ else (⟨b, off, none⟩ : Addr).add 5, by rw [cell_of_row w pb 0 _ _ _ h1]; rfl, by simp [World.frozen?, h1], k1, k2, cut_run _ _ _ _, _, _, heap_set h1 _, ?_, fun a ha => ?_, fun u hu => h4 u (by simp [hu])⟩
  · by_cases hc : cap = 1
    · have : T = [] := List.length_eq_zero_iff.1 (by omega)
      subst this
      exact ⟨_, _, rfl, by simp, by simp, fun i hi => by simp at hi⟩
    · rw [if_neg hc, add_noneK]
      refine h2.tail.set (fun b' off' n c e => ?_)
      cases e
      have : b < pb := hp
      omega
  · cases ha
    by_cases hc : cap = 1
    · rw [if_pos hc]; exact hp
    · rw [if_neg hc, add_noneK]; exact hp
/-- The token so many places on, as its cells say. -/
theorem Tks.token {W : World} {ao : Option Addr} {n cap : Nat} {T : List Tk} (h : Tks W (.slice ao n cap) T) (en : Int) {k : Nat} (hk : k < T.length) : ∃ b off, ao = some ⟨b, off, none⟩ ∧ b < W.heap.size ∧ W.cell? ⟨b, off + k * 5, none⟩ = some (.int .i64 (atT en T k).kind) ∧ W.cell? ⟨b, off + k * 5 + 1, none⟩ = some (.string (atT en T k).s) ∧ W.cell? ⟨b, off + k * 5 + 2, none⟩ = some (.int .i64 (atT en T k).n) ∧ W.cell? ⟨b, off + k * 5 + 3, none⟩ = some (.bool (atT en T k).q) ∧ W.cell? ⟨b, off + k * 5 + 4, none⟩ = some (.int .i64 (atT en T k).pl) := by
  obtain ⟨ao', cap', e, h1, h2, h3⟩ := h
  cases e
  have e : atT en T k = T[k] := by simp [atT, List.getElem?_eq_getElem hk]
  rw [e]
  exact h3 k hk
theorem atT_beyond {e : Int} {L : List Tk} {k : Nat} (h : ¬ k < L.length) : atT e L k = ⟨0, ⟨#[]⟩, 0, false, e⟩ := by
  unfold atT
  rw [List.getElem?_eq_none (by omega)]
  rfl
/-- A whole struct laid in its block. -/
theorem Feed.keep {w w' : World} {pb : Nat} {L : List Tk} {en : Int} (h : Feed w pb L en) (hk : ∀ k, k ≤ pb → w'.heap[k]? = w.heap[k]?) (hs : w.heap.size ≤ w'.heap.size) : Feed w' pb L en := by
  obtain ⟨ao, cap, h1, h2, h3, h4⟩ := h
  refine ⟨ao, cap, (hk pb (Nat.le_refl _)).trans h1, ?_, h3, h4⟩
  obtain ⟨ao', cap', e, k1, k2, k3⟩ := h2
  cases e
  refine ⟨ao, cap, rfl, k1, k2, fun i hi => ?_⟩
  obtain ⟨b, off, e1, hl, c0, c1, c2, c3, c4⟩ := k3 i hi
  have hb : b < pb := h3 ⟨b, off, none⟩ e1
  have hc : ∀ j, w'.cell? ⟨b, j, none⟩ = w.cell? ⟨b, j, none⟩ := fun j => by
    simp only [World.cell?]
    rw [hk b (by omega)]
  exact ⟨b, off, e1, by omega, (hc _).trans c0, (hc _).trans c1, (hc _).trans c2, (hc _).trans c3, (hc _).trans c4⟩
theorem Feed.other {w w' : World} {pb R : Nat} {L : List Tk} {en : Int} (h : Feed w pb L en) (ht : Turns (fun i => i = R) w w') (hR : pb < R) : Feed w' pb L en :=
  h.keep (fun k hk => ht.block k (by have := h.lt; omega) (by omega)) ht.size
/-- What a method of the parser leaves: of old memory its own block alone has turned; the tokens L are left. -/
structure Took (w : World) (pb : Nat) (L : List Tk) (en : Int) (w' : World) : Prop where
  turns : Turns (fun i => i = pb) w w'
  feed : Feed w' pb L en
theorem Took.below {w w' w'' : World} {pb : Nat} {L : List Tk} {en : Int} (h : Took w pb L en w') (hb : Below w'.heap.size w' w'') : Took w pb L en w'' := ⟨h.turns.then (Turns.of_below hb), h.feed.below hb⟩
theorem Took.then {w w' w'' : World} {pb : Nat} {L M : List Tk} {en : Int} (h : Took w pb L en w') (k : Took w' pb M en w'') : Took w pb M en w'' := ⟨h.turns.then k.turns, k.feed⟩
theorem Took.start {w w' : World} {pb : Nat} {L : List Tk} {en : Int} (h : Feed w pb L en) (hb : Below w.heap.size w w') : Took w pb L en w' := ⟨Turns.of_below hb, h.below hb⟩
theorem Took.lay {w w' : World} {pb : Nat} {L : List Tk} {en : Int} (h : Took w pb L en w') {R : Nat} (hR : w.heap.size ≤ R) (hp : pb < R) (cs : Array Value) : Took w pb L en (w'.setRow R cs) :=
  ⟨h.turns.lay hR cs, h.feed.other (Turns.laid w' R cs) hp⟩
/-- Behind an append to a list of the call's own. -/
theorem Took.step {w w' w'' : World} {pb n : Nat} {L : List Tk} {en : Int} (h : Took w pb L en w') (hb : Below n w' w'') (hn : w.heap.size ≤ n) (hp : pb < w.heap.size) (hs : n ≤ w'.heap.size) : Took w pb L en w'' :=
  ⟨⟨hb.os.trans h.turns.os, hb.tape.trans h.turns.tape, hb.output.trans h.turns.output, Nat.le_trans h.turns.size (Nat.le_trans (Nat.le_refl _) hb.size), fun k hk hF => (hb.block k (by omega)).trans (h.turns.block k hk hF)⟩,
    h.feed.keep (fun k hk => hb.block k (by omega)) hb.size⟩
end Go.Proofs.YtbbmihojfcofdaaGreatDoor
