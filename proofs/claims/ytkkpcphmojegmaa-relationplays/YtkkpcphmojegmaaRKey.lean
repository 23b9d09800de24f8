/-
  A relation's rows, by their values' numbers: what they are in memory, and as keys of a map. Plain facts; no walk.
-/
import Derived.Test.YtkkpcphmojegmaaRPut
import Derived.Test.YtkkpcphmojegmaaTSort
namespace Go.Proofs.Ytkkpcphmojegmaa
set_option linter.unusedSimpArgs false
set_option linter.unusedVariables false
set_option linter.unusedSectionVars false
set_option maxRecDepth 100000
open Go.RowKit Go.Maps
variable [DecidableEq V]

/-- A row's six cells: its numbers, and zeros behind them. -/
def six (q : List Nat) : List Value := [.int .i64 (q.getD 0 0 : Nat), .int .i64 (q.getD 1 0 : Nat), .int .i64 (q.getD 2 0 : Nat), .int .i64 (q.getD 3 0 : Nat), .int .i64 (q.getD 4 0 : Nat), .int .i64 (q.getD 5 0 : Nat)]
/-- Numbers of a row: not more than six, none too great. -/
structure QOk (q : List Nat) : Prop where
  len : q.length ≤ 6
  lt : ∀ n ∈ q, n < 1000000000
theorem QOk.at {q : List Nat} (h : QOk q) (i : Nat) : q.getD i 0 < 1000000000 := by
  by_cases hi : i < q.length
  · rw [List.getD_eq_getElem?_getD, List.getElem?_eq_getElem hi]; exact h.lt _ (List.getElem_mem hi)
  · rw [List.getD_eq_getElem?_getD, List.getElem?_eq_none (by omega)]; simp
theorem QOk.wf {q : List Nat} (h : QOk q) (i : Nat) : (Lit.int .i64 ((q.getD i 0 : Nat) : Int)).wf = true := WalkArith.wf_i64 (by have := h.at i; omega)
theorem six_inj {q r : List Nat} (hq : QOk q) (hl : q.length = r.length) (h : six q = six r) : q = r := by
  simp only [six, List.cons.injEq, Value.int.injEq, true_and, and_true] at h
  obtain ⟨h0, h1, h2, h3, h4, h5⟩ := h
  apply List.ext_getElem hl
  intro i hi hj
  have e : ∀ (l : List Nat) (hl : i < l.length), l[i] = l.getD i 0 := fun l hl => by rw [List.getD_eq_getElem?_getD, List.getElem?_eq_getElem hl]; rfl
  rw [e q hi, e r hj]
  have := hq.len
  match i, hi with
  | 0, _ => omega
  | 1, _ => omega
  | 2, _ => omega
  | 3, _ => omega
  | 4, _ => omega
  | 5, _ => omega
  | n + 6, hi => omega

theorem rowNum : (72 : TypeId) < Try.prog.types.size := of_decide_eq_true (by kernel_rfl)
theorem wideNum : (match Try.prog.underlying 72 with | some (.array _ _) | some (.struct _) => true | _ => false) = true := by kernel_rfl
theorem lawNum : Keyed Try.prog 72 := Keyed.of_law (deep_law_laid laidOut (m := 3) (by omega) rowNum (by kernel_rfl) wideNum)
theorem cellsNum : Try.prog.cellsOf 72 = 6 := by kernel_rfl
theorem cellsInt : Try.prog.cellsOf 3 = 1 := by kernel_rfl
theorem keyTypeNum : Try.prog.keyType 72 = true := by kernel_rfl
def qlit (q : List Nat) : Lit := .string (keyBytes [.int .i64 (q.getD 0 0 : Nat), .int .i64 (q.getD 1 0 : Nat), .int .i64 (q.getD 2 0 : Nat), .int .i64 (q.getD 3 0 : Nat), .int .i64 (q.getD 4 0 : Nat), .int .i64 (q.getD 5 0 : Nat)])
theorem keyOf_six0 {P : Program} {t e : TypeId} (ht : P.underlying t = some (.array 6 e)) (hk : P.keyType t = true) (ct : P.cellsOf t = 6) (hrow : t < P.types.size) (ce : P.cellsOf e = 1) (ue : P.underlying e = some (.int .i64)) (x0 x1 x2 x3 x4 x5 : Int)
    (w0 : (Lit.int .i64 x0).wf = true) (w1 : (Lit.int .i64 x1).wf = true) (w2 : (Lit.int .i64 x2).wf = true) (w3 : (Lit.int .i64 x3).wf = true) (w4 : (Lit.int .i64 x4).wf = true) (w5 : (Lit.int .i64 x5).wf = true) :
    keyOf P t (.agg #[.int .i64 x0, .int .i64 x1, .int .i64 x2, .int .i64 x3, .int .i64 x4, .int .i64 x5]) = some (.string (keyBytes [.int .i64 x0, .int .i64 x1, .int .i64 x2, .int .i64 x3, .int .i64 x4, .int .i64 x5])) := by
  obtain ⟨m, hm⟩ : ∃ m, P.types.size = m + 1 := ⟨P.types.size - 1, by have h0 : 0 < P.types.size := Nat.lt_of_le_of_lt (Nat.zero_le _) hrow; omega⟩
  have hr : List.range 6 = [0, 1, 2, 3, 4, 5] := rfl
  simp [keyOf, ht, hk, Value.formed, ct, hm, Program.keyLits, ce, ue, hr, Value.cells, w0, w1, w2, w3, w4, w5]
theorem keyNum {q : List Nat} (h : QOk q) : keyOf Try.prog 72 (.agg #[.int .i64 (q.getD 0 0 : Nat), .int .i64 (q.getD 1 0 : Nat), .int .i64 (q.getD 2 0 : Nat), .int .i64 (q.getD 3 0 : Nat), .int .i64 (q.getD 4 0 : Nat), .int .i64 (q.getD 5 0 : Nat)]) = some (qlit q) :=
  keyOf_six0 Try.underlying72 keyTypeNum cellsNum rowNum cellsInt Try.underlying3 _ _ _ _ _ _ (h.wf 0) (h.wf 1) (h.wf 2) (h.wf 3) (h.wf 4) (h.wf 5)
theorem qlit_inj {q r : List Nat} (hq : QOk q) (hr : QOk r) (hl : q.length = r.length) (h : qlit q = qlit r) : q = r := by
  have a := lawNum.inj (keyNum hq) (h ▸ keyNum hr)
  apply six_inj hq hl
  simp only [Value.agg.injEq] at a
  exact Array.toList_inj.2 a |> fun e => by simpa [six] using e
/-- What a set holds: nothing but that a key is there. -/
def unitElem (v : Value) : Option (DataW Unit × List MemPlace) :=
  match v with
  | .agg cs => if cs.size = 0 then some (.agg [], []) else none
  | _ => none
theorem unitElem_inv {v : Value} {z : DataW Unit × List MemPlace} (h : unitElem v = some z) : v = .agg #[] := by
  unfold unitElem at h
  split at h
  · split at h
    · rename_i cs hc
      rw [Array.size_eq_zero_iff] at hc
      rw [hc]
    · cases h
  · cases h
theorem zeroUnit (w : World) : (zeroValue 74).run Try.prog w = .ok (.agg #[]) w := by kernel_rfl
/-- What the map of rows holds. -/
def ReadsQ (D : DataW Unit) (ar : Nat) (RS : List (List Nat)) : Prop := ∀ q : List Nat, QOk q → q.length = ar → Maps.has D (qlit q) = decide (q ∈ RS)
theorem readsQ_nil (ar : Nat) : ReadsQ (.map []) ar [] := fun q _ _ => by simp [Maps.has, DataW.atKey]
theorem readsQ_put {D : DataW Unit} {ar : Nat} {RS : List (List Nat)} (h : ReadsQ D ar RS) (hD : IsMap D) {q : List Nat} (hq : QOk q) (hl : q.length = ar) (d : DataW Unit) : ReadsQ (D.put (qlit q) d) ar (RS ++ [q]) := fun u hu hul => by
  by_cases e : u = q
  · subst e
    rw [Maps.has_put_same hD (lawNum.key (keyNum hu))]; simp
  · have hne : qlit u ≠ qlit q := fun h => e (qlit_inj hu hq (by omega) h)
    rw [Maps.has_put_other hne, h u hu hul]
    simp [e]
theorem infoNum : (Try.prog.info? 72).map (fun i => (i.zero, i.size, i.bytes)) = some (some (.agg #[.int .i64 0, .int .i64 0, .int .i64 0, .int .i64 0, .int .i64 0, .int .i64 0]), 6, 48) := by kernel_rfl
theorem eqlSomeQ (bm : Nat) (w : World) : (binOp .eql 66 (.map (some bm)) (.map none)).run Try.prog w = .ok (.bool false) w := by kernel_rfl
theorem eqlNilQ (w : World) : (binOp .eql 66 (.map none) (.map none)).run Try.prog w = .ok (.bool true) w := by kernel_rfl
end Go.Proofs.Ytkkpcphmojegmaa
