/-
  append as a step of a region that draws; a program in a box of its own. Plain facts; no walk.
-/
import Derived.Test.YtcpdikhiodbdjaaQCopy
import Derived.Deep.RegionHeld3
namespace Go.Proofs.Ytcpdikhiodbdjaa
set_option linter.unusedSimpArgs false
set_option linter.unusedVariables false
set_option linter.unusedSectionVars false
set_option maxRecDepth 100000
open Go.RowKit Go.Maps

variable {α : Type} {R : RelW α} {t e : TypeId} {k bytes : Nat}
/-- append of a whole list, as one step of a region that draws. -/
theorem step_append_all {ops : Array Oper} {o : Oper} {a : Act} {w : World} {K : Act → World → Prop} {Q : Exit → Act → World → Prop} {EE : Prop} {w0 : World}
    (hg : o.guard = none) (s x : Operand) (t : TypeId) (hop : o.op = Op.call { callee := Callee.builtin Builtin.append, args := #[s, x], argTypes := #[t, t] }) (hT : ElTy t e k bytes) (hC : CellR R k)
    (B : Nat) (v : Value) (E : List α) (hs : a.eval s = v) (hown : OwnW R e k w0 w B v E) (xv : Value) (M : List α) (hx : a.eval x = xv) (hV : RdL R k w0 xv M)
    (hb : Below w0.heap.size w0 w) (hm : E.length + M.length ≤ maxLen) (hbytes : (E.length + M.length) * bytes ≤ 140737488355328) (hB : B ≤ w.heap.size)
    (hK : ∀ v' w', OwnW R e k w0 w' B v' (E ++ M) → Below B w w' → (∀ b o, w.heap[b]? = some o → v.ownBlock ≠ some b → w'.heap[b]? = some o ∧ v'.ownBlock ≠ some b) → K (a.put o.dst v') w') :
    if Region.wanted o (yielded ops a.tmps) = true then Oper.wp Try.prog o a w K Q else EE := by
  have hw : Region.wanted o (yielded ops a.tmps) = true := by simp [Region.wanted, hg]
  rw [if_pos hw]
  obtain ⟨v', w', hr, h2, h3, h4, h5⟩ := run_append_all hT hC o.type hown hV hb hm hbytes hB
  unfold Oper.wp
  simp [execOp, hop, resolve, invoke, builtin, hs, hx, hr, Result.andThen]
  exact hK v' w' h2 h3 (app_farW h4 h5)
/-- append of one element out of a block of its own, likewise. -/
theorem step_append_one {ops : Array Oper} {o : Oper} {a : Act} {w : World} {K : Act → World → Prop} {Q : Exit → Act → World → Prop} {EE : Prop} {w0 : World}
    (hg : o.guard = none) (s x : Operand) (t : TypeId) (hop : o.op = Op.call { callee := Callee.builtin Builtin.append, args := #[s, x], argTypes := #[t, t] }) (hT : ElTy t e k bytes)
    (B : Nat) (v : Value) (E : List α) (hs : a.eval s = v) (hown : OwnW R e k w0 w B v E) (b cap : Nat) (hx : a.eval x = .slice (some ⟨b, 0, none⟩) 1 cap) (el : α) (c : List Value) (ha : CellW R k w0 el c) (cs' : Array Value)
    (hbk : Blk w b cs' e) (hcs : cs'.toList = c) (hm : E.length + 1 ≤ maxLen) (hbytes : (E.length + 1) * bytes ≤ 140737488355328) (hB : B ≤ w.heap.size)
    (hK : ∀ v' w', OwnW R e k w0 w' B v' (E ++ [el]) → Below B w w' → (∀ b o, w.heap[b]? = some o → v.ownBlock ≠ some b → w'.heap[b]? = some o ∧ v'.ownBlock ≠ some b) → K (a.put o.dst v') w') :
    if Region.wanted o (yielded ops a.tmps) = true then Oper.wp Try.prog o a w K Q else EE := by
  have hw : Region.wanted o (yielded ops a.tmps) = true := by simp [Region.wanted, hg]
  rw [if_pos hw]
  obtain ⟨v', w', hr, h2, h3, h4, h5⟩ := run_append_one (cap := cap) hT o.type hown ha hbk hcs hm hbytes hB
  obtain ⟨xv, hxv⟩ : ∃ xv, xv = Value.slice (some ⟨b, 0, none⟩) 1 cap := ⟨_, rfl⟩
  rw [← hxv] at hx hr
  unfold Oper.wp
  simp [execOp, hop, resolve, invoke, builtin, hs, hx, hr, Result.andThen]
  exact hK v' w' h2 h3 (app_farW h4 h5)

theorem box9 {w : World} {b : Nat} {x y : Value} {t : TypeId} (h : w.heap[b]? = some (.cells #[x, y] t (0, 0))) : w.cell? ⟨b, 0, none⟩ = some x ∧ w.cell? ⟨b, 1, none⟩ = some y ∧ w.frozen? ⟨b, 0, none⟩ = false ∧ w.frozen? ⟨b, 1, none⟩ = false ∧ b < w.heap.size := by
  refine ⟨by simp [World.cell?, h], by simp [World.cell?, h], by simp [World.frozen?, h], by simp [World.frozen?, h], (Array.getElem?_eq_some_iff.1 h).1⟩
theorem heap1L (w : World) (a : Obj) : (w.alloc a).heap[w.heap.size]? = some a := (MapKept.heap_alloc w a).1
theorem heap2L (w : World) (a b : Obj) : ((w.alloc a).alloc b).heap[w.heap.size + 1]? = some b := by
  have := (MapKept.heap_alloc (w.alloc a) b).1
  rwa [World.size_alloc] at this
theorem heap1oL (w : World) (a b : Obj) : ((w.alloc a).alloc b).heap[w.heap.size]? = some a := by
  rw [Below.heap_alloc _ _ _ (by simp)]; exact heap1L w a
/-- What a world X is behind the packing of a program of rules L in block b9: the box, the rules, and what lay. -/
structure Packed (w0 w X : World) (b9 : Nat) (x v : Value) (L : List Ru) : Prop where
  c0 : X.cell? ⟨b9, 0, none⟩ = some x
  c1 : X.cell? ⟨b9, 1, none⟩ = some v
  lt : b9 < X.heap.size
  rus : Rus X v L
  bel : Below w.heap.size w X
/-- The program in a box of its own, which was laid behind. -/
theorem pack_alloc {w0 w w3 : World} {B m vc : Nat} {v x : Value} {vo : Option Addr} {L : List Ru} (hO : OwnW RuI 27 3 w0 w3 B v L) (hv : v = .slice vo m vc) (h0 : Below w0.heap.size w0 w3) (hb : Below w.heap.size w w3) (hm : L.length ≤ maxLen) :
    Packed w0 w (w3.alloc (.cells #[x, .slice vo m vc] 31)) w3.heap.size x (.slice vo m vc) L := by
  subst hv
  obtain ⟨h1, h2, -, -, h3⟩ := box9 (heap1L w3 (.cells #[x, .slice vo m vc] 31))
  have ha := al_bel w3 (.cells #[x, .slice vo m vc] 31)
  exact ⟨h1, h2, h3, (hO.below ha).rd stayRu (h0.trans (ha.mono h0.size)) hm, hb.trans (ha.mono hb.size)⟩
/-- The same where the box was laid ahead, and stored into. -/
theorem pack_set {w0 w w3 : World} {B m vc b9 : Nat} {v x z0 z1 : Value} {vo : Option Addr} {L : List Ru} {ty : TypeId} (hO : OwnW RuI 27 3 w0 w3 B v L) (hv : v = .slice vo m vc) (h0 : Below w0.heap.size w0 w3) (hb : Below w.heap.size w w3) (hm : L.length ≤ maxLen)
    (h9 : w3.heap[b9]? = some (.cells #[z0, z1] ty (0, 0))) (hne : v.ownBlock ≠ some b9) (hn : w.heap.size ≤ b9) (hn0 : w0.heap.size ≤ b9) :
    Packed w0 w ((w3.setCell ⟨b9, 0, none⟩ x).setCell ⟨b9, 1, none⟩ (.slice vo m vc)) b9 x (.slice vo m vc) L := by
  subst hv
  have h8 := heap_set (o := 1) (heap_set (o := 0) h9 x) (.slice vo m vc)
  obtain ⟨h1, h2, -, -, h3⟩ := box9 (x := x) (y := .slice vo m vc) (by rw [h8]; rfl)
  refine ⟨h1, h2, h3, (hO.far (fun g hg => ?_)).rd stayRu ((h0.setCell (p := ⟨b9, 0, none⟩) hn0 x).setCell (p := ⟨b9, 1, none⟩) hn0 (.slice vo m vc)) hm, (hb.setCell (p := ⟨b9, 0, none⟩) hn x).setCell (p := ⟨b9, 1, none⟩) hn (.slice vo m vc)⟩
  have hg9 : g ≠ b9 := fun e => hne (by rw [hg, e])
  exact (Below.heap_setCell _ ⟨b9, 1, none⟩ _ g hg9).trans (Below.heap_setCell _ ⟨b9, 0, none⟩ _ g hg9)
end Go.Proofs.Ytcpdikhiodbdjaa
