/-
  Lists of names in memory: as they came in, and of the call's own. Plain facts; no walk. Written ahead of the code.
-/
import Derived.Test.YtcpdikhiodbdjaaQCopy
import Derived.Maps.OwnSet
namespace Go.Proofs.Ytcpdikhiodbdjaa
set_option linter.unusedSimpArgs false
set_option linter.unusedVariables false
set_option linter.unusedSectionVars false
set_option maxRecDepth 100000
open Go.RowKit Go.Maps

def NmI : RelW ByteArray := fun _ s c => c = [.string s]
abbrev Nms (W : World) (x : Value) (L : List ByteArray) : Prop := RdL NmI 1 W x L
theorem stayNm : StayR NmI := fun _ _ _ _ _ h => h
theorem cellRNm : CellR NmI 1 := fun _ _ c h => by obtain rfl : c = _ := h; exact ⟨rfl, by simp [Value.oneCell']⟩
theorem elNm : ElTy 44 9 1 16 := elTy (z := .string ⟨#[]⟩) Try.underlying44 (by kernel_rfl) rfl (by decide)
/-- Names of the call's own. -/
abbrev OwnNm (w0 W : World) (B : Nat) (v : Value) (L : List ByteArray) : Prop := OwnW NmI 9 1 w0 W B v L
theorem OwnNm.rd {w0 W : World} {B : Nat} {v : Value} {L : List ByteArray} (h : OwnNm w0 W B v L) (hb : Below w0.heap.size w0 W) (hm : L.length ≤ maxLen) : Nms W v L := OwnW.rd stayNm h hb hm
theorem cellW_nm (w0 : World) (s : ByteArray) : CellW NmI 1 w0 s [.string s] := ⟨rfl, by simp [Value.oneCell'], rfl⟩
/-- A name at its place. -/
theorem Nms.at {W : World} {ao : Option Addr} {n cap : Nat} {L : List ByteArray} (h : Nms W (.slice ao n cap) L) (i : Nat) (hi : i < L.length) : ∃ b off, ao = some ⟨b, off, none⟩ ∧ b < W.heap.size ∧ W.cell? ⟨b, off + i, none⟩ = some (.string (L[i]'hi)) := by
  obtain ⟨b, off, c, e, hb, hR, hc⟩ := RdL.at h i hi
  obtain rfl : c = _ := hR
  have := hc 0 _ rfl
  rw [Nat.mul_one, Nat.add_zero] at this
  exact ⟨b, off, e, hb, this⟩
/-- What a term of all that came in is: its number is one that Go has, its name no longer than a text can be. -/
def OkTm (t : Tm) : Prop := InR t.n ∧ t.name.size ≤ maxLen
def OkAm (a : Am) : Prop := ∀ t ∈ a.args, OkTm t
def OkLt (l : Lt) : Prop := OkAm l.atom ∧ OkTm l.l ∧ OkTm l.r
def OkRu (r : Ru) : Prop := OkAm r.head ∧ ∀ l ∈ r.body, OkLt l
def OkPr (g : Pr) : Prop := (∀ d ∈ g.decls, InDe d) ∧ ∀ r ∈ g.rules, OkRu r
/-- A map is what it was where its block is. -/
theorem ownsMap_far {H : Type} {P : Program} {k : TypeId} {R : Value → Option (DataW H × List MemPlace)} {w w' : World} {b n : Nat} {D : DataW H} (h : w.ownsMap P k R b n D) (hb : w'.heap[b]? = w.heap[b]?) : w'.ownsMap P k R b n D := by
  obtain ⟨es, clock, hb', r⟩ := h
  exact ⟨es, clock, hb.trans hb', r⟩
end Go.Proofs.Ytcpdikhiodbdjaa
