/-
  A range over a function whose own body ranges over another one and hands on what that tells: the iterator's contract (Iter), and the law of the loop over it (iter_loop). Plain law; no function of the program.
-/
import Derived.Test.YtadccjcmiajdeaaQMem
import Derived.RangeFuncNested
import Derived.RangeFuncBound
import Derived.RangeFuncCalls
import Derived.RangeFuncLeaves
import Derived.Shelf.Abstract
import Derived.Shelf.RegionOpen
import Derived.OwnWalkIn
import Derived.TacticsInMore
import Derived.LoopNIn
import Derived.LoopIn
namespace Go.Proofs.Ytadccjcmiajdeaa
set_option linter.unusedSimpArgs false
set_option linter.unusedVariables false
set_option linter.unusedSectionVars false
set_option maxRecDepth 100000
open Go.RowKit Go.Shelf

/-- AN ITERATOR: it hands on the elements of L, one behind the other, each as enc says, till all are told or one round says no; a round keeps whatever is no cells and was made since, and, where it goes on, what Kp says. What the rounds know (J, Jx) minds no block made since that holds no cells. -/
def Iter {α : Type} (P : Program) (g : Nat) (lb : Array Value) (enc : α → Array Value → Prop) (Kp : World → World → Prop) (L : List α) (w : World) : Prop :=
  ∀ (l : Nat) (J Jx : List α → World → Prop) (W : World), Below w.heap.size w W → OwnFrom W.heap.size J → OwnFrom W.heap.size Jx →
    (∀ pre x rest args W1 m, L = pre ++ x :: rest → enc x args → J pre W1 → YieldAt Fence.wide m P l args W1 fun e W' => KeepsFrom W.heap.size W1 W' ∧ (
      (e = .returned (.bool true) ∧ J (pre ++ [x]) W' ∧ Kp W1 W') ∨ (e = .returned (.bool false) ∧ Jx (pre ++ [x]) W'))) →
    J [] W → ∀ n, CallsIn Fence.wide n P g (#[.func (.yield l) #[] #[]] ++ lb) W fun e W' => (∃ v, e = .returned v) ∧ (J L W' ∨ ∃ pre, pre <+: L ∧ Jx pre W')

theorem ownFrom_mono {β : Type} {B C : Nat} {I : β → World → Prop} (h : OwnFrom B I) (hBC : B ≤ C) : OwnFrom C I :=
  fun s X Y row hs hg hr => h s X Y row hs hg (fun r e => ⟨Nat.le_trans hBC (hr r e).1, (hr r e).2⟩)

/-- The loop's record, so far as rounds turn it. -/
def recOf (fn : FuncId) (tmps : Array Value) (ps : Array Tmp) (assign body : Code) (D : Nat) (st : LoopState) (jump : Option Code) : Loop :=
  { state := st, pending := jump, fn, tmps, params := ps, assign, body, defers := D }

variable {P : Program}

/-- What the law keeps beside the caller's own word: the record, and the block for deferred calls. -/
def Books (D : Nat) (r : Loop) (W : World) : Prop := W.heap[D + 1]? = some (.loop r) ∧ W.heap[D]? = some (.deferred (some []))
theorem Books.lt {D : Nat} {r : Loop} {W : World} (h : Books D r W) : D + 1 < W.heap.size := (Array.getElem?_eq_some_iff.1 h.1).1
theorem Books.step {D B : Nat} {r : Loop} {X Y : World} {row : Option Nat} (h : Books D r X) (hg : X.grownBy Y row) (hr : ∀ k, row = some k → B ≤ k) (hB : D + 2 ≤ B) : Books D r Y :=
  ⟨(hg.block _ h.lt (fun e => by have := hr _ e.symm; omega)).trans h.1, (hg.block _ (by have := h.lt; omega) (fun e => by have := hr _ e.symm; omega)).trans h.2⟩
theorem Books.from {D B : Nat} {r : Loop} {X Y : World} (h : Books D r X) (hk : KeepsFrom B X Y) (hB : B ≤ D) : Books D r Y :=
  ⟨hk.same _ _ (by omega) h.1 rfl, hk.same _ _ hB h.2 rfl⟩
theorem Books.put {D : Nat} {r : Loop} {X : World} (h : Books D r X) (r' : Loop) : Books D r' (X.putObj (D + 1) (.loop r')) :=
  ⟨World.putObj_heap_same h.lt, (World.putObj_heap_other (by omega)).trans h.2⟩

theorem keeps_put {B D : Nat} (W : World) (o : Obj) (hD : D < B) : KeepsFrom B W (W.putObj D o) :=
  ⟨by simp, fun k o' hk h _ => (World.putObj_heap_other (by omega)).trans h⟩
theorem keeps_mono {B C : Nat} {W W' : World} (h : KeepsFrom B W W') (hBC : B ≤ C) : KeepsFrom C W W' := ⟨h.size, fun k o hk => h.same k o (Nat.le_trans hBC hk)⟩

/-- THE LOOP. -/
theorem iter_loop {α : Type} {g : Operand} {ps : Array Tmp} {assign body : Code} {Q : Exit → Act → World → Prop} {a : Act} {w : World} {n : Nat}
    {gf : Nat} {lb : Array Value} (hg : a.eval g = .func (.func gf) #[] lb) (eg : ∀ args w, (callFunc gf args).run P w = .ok (.enter gf args) w)
    {enc : α → Array Value → Prop} {Kp : World → World → Prop} {L : List α} (hit : Iter P gf lb enc Kp L w)
    (hKt : ∀ X Y Z : World, Kp X Y → Kp Y Z → Kp X Z) (hKb : ∀ (W : World) (l : Nat) (o o' : Obj), w.heap.size ≤ l → W.heap[l]? = some o → o.isCells = false → Kp W (W.putObj l o')) (hps : ∀ x args, enc x args → args.size = ps.size)
    (I : List α → World → Prop) (Ix : Code → List α → World → Prop) (hI : OwnFrom w.heap.size I) (hIx : ∀ c, OwnFrom w.heap.size (Ix c)) (h0 : I [] w)
    (Ax : α → Array Value → Act → World → Prop) (hAx : ∀ x args a', OwnFrom w.heap.size (fun (_ : Unit) W => Ax x args a' W))
    (hassign : ∀ (l m : Nat) (pre : List α) (x : α) (args : Array Value) (W : World) (K : Act → World → Prop), enc x args → I pre W → w.heap.size ≤ W.heap.size →
      (∀ a' W', KeepsFrom w.heap.size W W' → Kp W W' → I pre W' → Ax x args a' W' → K a' W') →
      assign.wpIn (Fence.wide.inRound l) m P (Exit.then K (fun _ _ _ => False)) { tmps := (ps.zip args).foldl (fun t (p, v) => t.setIfInBounds p v) a.tmps, defers := [] } W)
    (hbody : ∀ (l m : Nat) (pre : List α) (x : α) (rest : List α) (args : Array Value) (a' : Act) (W : World), L = pre ++ x :: rest → enc x args → I pre W → Ax x args a' W → w.heap.size ≤ W.heap.size →
      body.wpIn (Fence.wide.inRound l) m P (ownPostG w.heap.size Kp I Ix (pre ++ [x]) W) a' W)
    (hdone : ∀ (D : Nat) (W : World), w.heap.size ≤ D → I L W → W.heap[D]? = some (.deferred (some [])) → Q .normal { a with defers := { target := .collected D, args := #[] } :: a.defers } W)
    (hstop : ∀ (D : Nat) (c : Code) (pre : List α) (W : World), w.heap.size ≤ D → pre <+: L → Ix c pre W → W.heap[D]? = some (.deferred (some [])) → c.wpIn Fence.wide n P Q { a with defers := { target := .collected D, args := #[] } :: a.defers } W) :
    (Code.rangeFunc g ps assign body).wpIn Fence.wide n P Q a w := by
  refine wpIn_rangeFunc fun fn hfn => ?_
  obtain ⟨R, hR⟩ : ∃ R, R = recOf fn a.tmps ps assign body w.heap.size := ⟨_, rfl⟩
  obtain ⟨V, hV⟩ : ∃ V, V = (w.alloc (.deferred (some []))).alloc (.loop (R .ready none)) := ⟨_, rfl⟩
  have hbV : Below w.heap.size w V := hV ▸ ((Below.refl _ w).alloc (Nat.le_refl _) _).alloc (by simp) _
  have hsV : V.heap.size = w.heap.size + 2 := by rw [hV]; simp
  have hkV : Books w.heap.size (R .ready none) V := by
    rw [hV]
    refine ⟨?_, (Below.heap_alloc _ _ _ (by simp)).trans (World.alloc_heap_new w _)⟩
    have := World.alloc_heap_new (w.alloc (.deferred (some []))) (.loop (R .ready none))
    rwa [World.size_alloc] at this
  refine ⟨w.heap.size + 1, [{ target := .collected w.heap.size, args := #[] }], V, { target := .fn (.func gf) lb, args := #[.func (.yield (w.heap.size + 1)) #[] #[]] }, V, gf,
    #[.func (.yield (w.heap.size + 1)) #[] #[]] ++ lb, V, ?_, ?_, fun _ _ => trivial, ?_, fun h => (by cases h), ?_⟩
  · rw [hV, hR]; exact run_enterLoop_outer _ _ _ _ _
  · simp only [resolve, hg]
    simp [go_sem]
  · simp [invoke, go_sem, eg]
  have own : ∀ {X Y : World} {row : Option Nat}, (∀ r, row = some r → V.heap.size ≤ r ∧ ∃ o : Obj, X.heap[r]? = some o ∧ o.isCells = false) → (∀ r, row = some r → w.heap.size ≤ r ∧ ∃ o : Obj, X.heap[r]? = some o ∧ o.isCells = false) :=
    fun hr r e => ⟨by have := (hr r e).1; omega, (hr r e).2⟩
  refine (hit (w.heap.size + 1) (fun pre W => I pre W ∧ Books w.heap.size (R .ready none) W) (fun pre W => ∃ c, Ix c pre W ∧ Books w.heap.size (R .done (some c)) W) V hbV
    (fun s X Y row hs hg' hr => ⟨hI s X Y row hs.1 hg' (own (Y := Y) hr), hs.2.step hg' (fun k e => (hr k e).1) (by omega)⟩)
    (fun s X Y row hs hg' hr => let ⟨c, hc, hk⟩ := hs; ⟨c, hIx c s X Y row hc hg' (own (Y := Y) hr), hk.step hg' (fun k e => (hr k e).1) (by omega)⟩)
    ?_ ⟨by rw [hV]; exact hI.alloc _ (hI.alloc _ h0), hkV⟩ (n - 1)).mono ?_
  · -- a round
    intro pre x rest args W m hL he hJ
    obtain ⟨hi, hk⟩ := hJ
    have hlt := hk.lt
    have hy := run_yield (P := P) (args := args) hk.1 (by rw [hR]; exact hps x args he)
    rw [hR] at hy
    refine ⟨fn, _, assign, body, hy, roundIn_of_wpIn hfn (hassign _ m pre x args W _ he hi (by omega) fun a' Wa hkf hb hia hax => ?_)⟩
    have hka := hk.from hkf (Nat.le_refl _)
    have hlta := hka.lt
    refine ⟨_, run_beginRound hka.1 (by rw [hR]; rfl), ?_⟩
    have hk2 := hka.put { R .ready none with state := .busy }
    have hb2 := hKb Wa (w.heap.size + 1) _ (.loop { R .ready none with state := .busy }) (by omega) hka.1 rfl
    refine wpIn_mono (hbody _ m pre x rest args a' _ hL he (hI.putObj _ hia (by omega) hka.1 rfl) ((hAx x args a').putObj (s := ()) _ hax (by omega) hka.1 rfl) (by simp; omega)) ?_
    have fin : ∀ (jump : Option Code) (W3 : World), KeepsFrom w.heap.size (Wa.putObj (w.heap.size + 1) (.loop { R .ready none with state := .busy })) W3 →
        ∃ W4, (Instr.endRound (w.heap.size + 1) jump).run P W3 = .ok (.bool jump.isNone) W4 ∧ W4 = W3.putObj (w.heap.size + 1) (.loop (R (if jump.isNone then .ready else .done) jump)) ∧
          (∃ o, W3.heap[w.heap.size + 1]? = some o ∧ o.isCells = false) ∧ Books w.heap.size (R (if jump.isNone then .ready else .done) jump) W4 ∧ Kp W3 W4 ∧ KeepsFrom V.heap.size W W4 := fun jump W3 hk3 => by
      have hb3 := hk2.from hk3 (Nat.le_refl _)
      have hr := run_endRound (P := P) jump hb3.1
      refine ⟨_, hr, by rw [hR]; rfl, ⟨_, hb3.1, rfl⟩, ?_, hKb W3 _ _ _ (by omega) hb3.1 rfl, (keeps_mono hkf (by omega)).trans ((keeps_put Wa _ (by omega)).trans ((keeps_mono hk3 (by omega)).trans (keeps_put W3 _ (by omega))))⟩
      have := hb3.put (R (if jump.isNone then .ready else .done) jump)
      rw [hR] at this ⊢
      exact this
    intro e a3 W3 hp
    have out : ∀ (c : Code), KeepsFrom w.heap.size (Wa.putObj (w.heap.size + 1) (.loop { R .ready none with state := .busy })) W3 ∧ Ix c (pre ++ [x]) W3 →
        ∃ v w', (Instr.endRound (w.heap.size + 1) (some c)).run P W3 = .ok v w' ∧ KeepsFrom V.heap.size W w' ∧ ((v = .bool true ∧ (I (pre ++ [x]) w' ∧ Books w.heap.size (R .ready none) w') ∧ Kp W w') ∨ (v = .bool false ∧ ∃ c, Ix c (pre ++ [x]) w' ∧ Books w.heap.size (R .done (some c)) w')) := fun c ⟨hk3, hi3⟩ => by
      obtain ⟨W4, hr, hW4, ⟨o, ho, hoc⟩, hb4, -, hkk⟩ := fin (some c) W3 hk3
      exact ⟨_, W4, hr, hkk, .inr ⟨rfl, c, by rw [hW4]; exact (hIx c).putObj _ hi3 (by omega) ho hoc, hb4⟩⟩
    cases e with
    | normal =>
      obtain ⟨hk3, hp3, hi3⟩ := hp
      obtain ⟨W4, hr, hW4, ⟨o, ho, hoc⟩, hb4, hbl, hkk⟩ := fin none W3 hk3
      exact ⟨_, W4, hr, hkk, .inl ⟨rfl, ⟨by rw [hW4]; exact hI.putObj _ hi3 (by omega) ho hoc, hb4⟩, hKt _ _ _ hb (hKt _ _ _ hb2 (hKt _ _ _ hp3 hbl))⟩⟩
    | ret => obtain ⟨v, w', h1, h3, h2⟩ := out .ret hp; exact ⟨v, w', h1, h3, by rcases h2 with ⟨rfl, h⟩ | ⟨rfl, h⟩; exact .inl ⟨rfl, h⟩; exact .inr ⟨rfl, h⟩⟩
    | exit id => obtain ⟨v, w', h1, h3, h2⟩ := out (.exit id) hp; exact ⟨v, w', h1, h3, by rcases h2 with ⟨rfl, h⟩ | ⟨rfl, h⟩; exact .inl ⟨rfl, h⟩; exact .inr ⟨rfl, h⟩⟩
    | goto t => obtain ⟨v, w', h1, h3, h2⟩ := out (.goto t) hp; exact ⟨v, w', h1, h3, by rcases h2 with ⟨rfl, h⟩ | ⟨rfl, h⟩; exact .inl ⟨rfl, h⟩; exact .inr ⟨rfl, h⟩⟩
    | panic ch => exact hp.elim
    | outgrown => exact hp.elim
  · -- behind the iterator
    intro e W2 hh
    obtain ⟨⟨v, rfl⟩, ⟨hi, hk⟩ | ⟨pre, hpre, c, hi, hk⟩⟩ := hh
    · exact ⟨none, _, by have := run_endLoop (P := P) hk.1 (by rw [hR]; simp [recOf]); rw [hR] at this; exact this, hdone _ _ (Nat.le_refl _) (hI.putObj _ hi (by omega) hk.1 rfl) ((World.putObj_heap_other (by omega)).trans hk.2)⟩
    · exact ⟨some c, _, by have := run_endLoop (P := P) hk.1 (by rw [hR]; simp [recOf]); rw [hR] at this; exact this, hstop _ c pre _ (Nat.le_refl _) hpre ((hIx c).putObj _ hi (by omega) hk.1 rfl) ((World.putObj_heap_other (by omega)).trans hk.2)⟩
/-- THE MARKS that loops have left among the deferred calls. -/
def markAt (D : Nat) : Deferred := { target := .collected D, args := #[] }
def Marks (B : Nat) (Ds : List Nat) (W : World) : Prop := Ds.Nodup ∧ ∀ D ∈ Ds, B ≤ D ∧ W.heap[D]? = some (.deferred (some []))
theorem Marks.keeps {B : Nat} {Ds : List Nat} {W W' : World} (h : Marks B Ds W) (hk : KeepsFrom B W W') : Marks B Ds W' :=
  ⟨h.1, fun D hD => ⟨(h.2 D hD).1, hk.same D _ (h.2 D hD).1 (h.2 D hD).2 rfl⟩⟩
theorem Marks.cons {B D : Nat} {Ds : List Nat} {W : World} (h : Marks B Ds W) (hn : D ∉ Ds) (hB : B ≤ D) (hD : W.heap[D]? = some (.deferred (some []))) : Marks B (D :: Ds) W :=
  ⟨List.nodup_cons.2 ⟨hn, h.1⟩, fun E hE => by rcases List.mem_cons.1 hE with rfl | hE; exact ⟨hB, hD⟩; exact h.2 E hE⟩
theorem Marks.lt {B : Nat} {Ds : List Nat} {W : World} (h : Marks B Ds W) : ∀ D ∈ Ds, D < W.heap.size := fun D hD => (Array.getElem?_eq_some_iff.1 (h.2 D hD).2).1
/-- A frame on its way out passes all marks. -/
theorem leaves_marks {fn : Func} {tmps : Array Value} {R : Ending → World → Prop} {F : Fence} {n B : Nat} (K : World → Prop) (hK : OwnFrom B (fun (_ : Unit) W => K W))
    (hfin : ∀ w, K w → LeavesIn F n P fn tmps R [] .returning w) : ∀ (Ds : List Nat) (w : World), Marks B Ds w → K w → LeavesInM F n P fn tmps R (Ds.map markAt) .returning w
  | [], w, _, h => hfin w h
  | D :: Ds, w, hM, h => by
    obtain ⟨hB, hD⟩ := hM.2 D (by simp)
    have hnd := (List.nodup_cons.1 hM.1)
    refine ⟨by simp, .inl ⟨D, _, rfl, run_takeDeferred hD, leaves_marks K hK hfin Ds _ ⟨hnd.2, fun E hE => ⟨(hM.2 E (by simp [hE])).1, ?_⟩⟩ (hK.putObj (s := ()) _ h hB hD rfl)⟩⟩
    exact (World.putObj_heap_other (fun (e : E = D) => hnd.1 (e ▸ hE))).trans (hM.2 E (by simp [hE])).2
end Go.Proofs.Ytadccjcmiajdeaa
