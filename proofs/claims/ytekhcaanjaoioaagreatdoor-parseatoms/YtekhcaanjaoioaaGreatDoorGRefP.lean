/-
  Plain facts for the document's atoms (lambrequinref06): what is left of tokens, told by a place. No walk.
-/
import Derived.Test.YtekhcaanjaoioaaGreatDoorGFacts
import Derived.Test.YtekhcaanjaoioaaGreatDoorGMem
import Derived.Test.YtekhcaanjaoioaaGreatDoorKDig
import Derived.Maps.OwnSet
import Derived.DeepKeys5
import Derived.Lib.ParseIntBTie
import Derived.Test.YtekhcaanjaoioaaGreatDoorRefPlain
namespace Go.Proofs.YtekhcaanjaoioaaGreatDoor
set_option linter.unusedSimpArgs false
set_option linter.unusedVariables false
set_option linter.unusedSectionVars false
set_option maxRecDepth 100000
open Go.RowKit

theorem atT_drop (e : Int) (T : List Tk) (i k : Nat) : atT e (T.drop i) k = atT e T (i + k) := by
  unfold atT
  rw [List.getElem?_drop]
theorem tail_drop (T : List Tk) (i : Nat) : (T.drop i).tail = T.drop (i + 1) := by rw [List.tail_drop]
/-- What is left from a place on. -/
theorem nameP_at (e : Int) (T : List Tk) (i : Nat) : nameP e (T.drop i) = if isNm (atT e T i) = true then ⟨0, (atT e T i).s, T.drop (i + 1)⟩ else ⟨2, ⟨#[]⟩, T.drop i⟩ := by
  unfold nameP
  rw [atT_drop, Nat.add_zero, tail_drop]
theorem termP_at (e : Int) (T : List Tk) (i : Nat) : termP e (T.drop i) = (match termT (atT e T i) with | some x => ⟨0, x, T.drop (i + 1)⟩ | none => ⟨2, Tm.zero, T.drop i⟩) := by
  unfold termP termO
  rw [atT_drop, Nat.add_zero, tail_drop]
  cases termT (atT e T i) <;> rfl
theorem nm_lt {e : Int} {T : List Tk} {i : Nat} (h : isNm (atT e T i) = true) : i < T.length := at_lt (nm_kind h) (by decide)
theorem mk_lt {e : Int} {T : List Tk} {i : Nat} {m : List UInt8} (h : isMk m (atT e T i) = true) : i < T.length := at_lt (mk_kind h) (by decide)
theorem tm_lt {e : Int} {T : List Tk} {i : Nat} {x : Tm} (h : termT (atT e T i) = some x) : i < T.length := at_ne (termT_kind h)
theorem mk_both {t : Tk} (h : isMk [41] t = true) : isMk [44] t = false := by
  unfold isMk at *
  simp only [Bool.and_eq_true, beq_iff_eq] at h
  rw [h.2]
  simp
/-- The list of terms so far: A up to k. -/
def ArgAt (e : Int) (T : List Tk) (k0 k : Nat) (A : List Tm) : Prop := k ≤ T.length ∧ A.length ≤ 6 ∧ listP (termP e) e 6 [] (T.drop k0) = listP (termP e) e (6 - A.length) A (T.drop k)
theorem ArgAt.start {e : Int} {T : List Tk} {k0 : Nat} (h : k0 ≤ T.length) : ArgAt e T k0 k0 [] := ⟨h, by simp, rfl⟩
theorem ArgAt.full {e : Int} {T : List Tk} {k0 k : Nat} {A : List Tm} (h : ArgAt e T k0 k A) (h6 : ¬ A.length < 6) : listP (termP e) e 6 [] (T.drop k0) = ⟨4, [], T.drop k⟩ := by
  obtain ⟨-, h1, h2⟩ := h
  rw [h2, show 6 - A.length = 0 by omega]
  rfl
theorem ArgAt.hit {e : Int} {T : List Tk} {k0 k : Nat} {A : List Tm} (h : ArgAt e T k0 k A) (h6 : A.length < 6) : listP (termP e) e 6 [] (T.drop k0) =
    if (termP e (T.drop k)).bad = 0 then if isMk [44] (atT e (termP e (T.drop k)).rest 0) = true then listP (termP e) e (6 - (A.length + 1)) (A ++ [(termP e (T.drop k)).val]) (termP e (T.drop k)).rest.tail else ⟨0, A ++ [(termP e (T.drop k)).val], (termP e (T.drop k)).rest⟩ else ⟨(termP e (T.drop k)).bad, [], (termP e (T.drop k)).rest⟩ := by
  obtain ⟨-, h1, h2⟩ := h
  rw [h2, show 6 - A.length = (6 - (A.length + 1)) + 1 by omega]
  rfl
theorem ArgAt.bad {e : Int} {T : List Tk} {k0 k : Nat} {A : List Tm} (h : ArgAt e T k0 k A) (h6 : A.length < 6) (ht : termT (atT e T k) = none) : listP (termP e) e 6 [] (T.drop k0) = ⟨2, [], T.drop k⟩ := by
  rw [h.hit h6, termP_at, ht]
  rfl
theorem ArgAt.next {e : Int} {T : List Tk} {k0 k : Nat} {A : List Tm} (h : ArgAt e T k0 k A) (h6 : A.length < 6) {x : Tm} (ht : termT (atT e T k) = some x) (hm : isMk [44] (atT e T (k + 1)) = true) : ArgAt e T k0 (k + 2) (A ++ [x]) := by
  have hl := mk_lt hm
  refine ⟨by omega, by simp; omega, ?_⟩
  rw [h.hit h6, termP_at, ht]
  simp only [atT_drop, Nat.add_zero, hm, if_true, tail_drop, List.length_append, List.length_singleton]
theorem ArgAt.stop {e : Int} {T : List Tk} {k0 k : Nat} {A : List Tm} (h : ArgAt e T k0 k A) (h6 : A.length < 6) {x : Tm} (ht : termT (atT e T k) = some x) (hm : isMk [44] (atT e T (k + 1)) = false) : listP (termP e) e 6 [] (T.drop k0) = ⟨0, A ++ [x], T.drop (k + 1)⟩ := by
  rw [h.hit h6, termP_at, ht]
  simp only [atT_drop, Nat.add_zero, hm, if_true]
  rfl
/-- An atom from a place on: no name; a name alone; a name and terms. -/
theorem atomP_no {e : Int} {T : List Tk} {i : Nat} (h : isNm (atT e T i) = false) : atomP e (T.drop i) = ⟨2, Am.zero, T.drop i⟩ := by
  have hn : nameP e (T.drop i) = ⟨2, ⟨#[]⟩, T.drop i⟩ := by rw [nameP_at, if_neg (by simp [h])]
  unfold atomP
  rw [hn]
  rfl
theorem atomP_bare {e : Int} {T : List Tk} {i : Nat} (h : isNm (atT e T i) = true) (hm : isMk [40] (atT e T (i + 1)) = false) : atomP e (T.drop i) = ⟨0, ⟨(atT e T i).s, []⟩, T.drop (i + 1)⟩ := by
  unfold atomP
  rw [nameP_at, if_pos h]
  simp only [atT_drop, Nat.add_zero, hm, if_true]
  rfl
theorem atomP_args {e : Int} {T : List Tk} {i : Nat} (h : isNm (atT e T i) = true) (hm : isMk [40] (atT e T (i + 1)) = true) : atomP e (T.drop i) = argsP e (atT e T i).s (listP (termP e) e 6 [] (T.drop (i + 2))) := by
  unfold atomP
  rw [nameP_at, if_pos h]
  simp only [atT_drop, Nat.add_zero, hm, if_true, tail_drop]
theorem argsP_bad {e : Int} {p : ByteArray} {T : List Tk} {k : Nat} {r : Rd (List Tm)} {b : Nat} (hr : r = ⟨b, [], T.drop k⟩) (hb : b ≠ 0) : argsP e p r = ⟨b, Am.zero, T.drop k⟩ := by
  subst hr
  unfold argsP
  rw [if_neg hb]
theorem argsP_end {e : Int} {p : ByteArray} {T : List Tk} {k : Nat} {A : List Tm} {r : Rd (List Tm)} (hr : r = ⟨0, A, T.drop k⟩) : argsP e p r = if isMk [41] (atT e T k) = true then ⟨0, ⟨p, A⟩, T.drop (k + 1)⟩ else ⟨2, Am.zero, T.drop k⟩ := by
  subst hr
  unfold argsP endP
  rw [if_pos rfl, atT_drop, Nat.add_zero, tail_drop]
end Go.Proofs.YtekhcaanjaoioaaGreatDoor

/-
  What is parsed has texts that are short, and numbers that fit; a term held against itself. Plain facts; no walk.
-/
namespace Go.Proofs.YtekhcaanjaoioaaGreatDoor
set_option linter.unusedSimpArgs false
set_option linter.unusedVariables false
set_option linter.unusedSectionVars false
set_option maxRecDepth 100000
open Go.RowKit

theorem zeroIn : InR 0 := ⟨by decide, by decide⟩
theorem nameL_n (k : Int) (l : List UInt8) : (nameL k l).tok.n = 0 := by unfold nameL; split <;> rfl
theorem quoL_n (l : List UInt8) : (quoL l).tok.n = 0 := by unfold quoL; cases quoS l.tail <;> rfl
theorem markL_n (l : List UInt8) : (markL l).tok.n = 0 := by unfold markL; cases markT.find? (fun m => m.isPrefixOf l) <;> rfl
theorem numL_n (l : List UInt8) : InR (numL l).tok.n := by
  unfold numL numOf
  split
  · rename_i v hv
    have hb := Lib.parseIntB_bounds hv
    exact ⟨by have := hb.1; show _ ≤ v; omega, by have := hb.2; show v ≤ _; omega⟩
  · exact zeroIn
theorem oneL_n (l : List UInt8) : InR (oneL l).tok.n := by
  unfold oneL oneC
  split
  · rw [nameL_n]; exact zeroIn
  split
  · rw [nameL_n]; exact zeroIn
  split
  · rw [quoL_n]; exact zeroIn
  split
  · exact numL_n _
  · rw [markL_n]; exact zeroIn
/-- A token, and a term, whose texts are short, and whose number fits. -/
def TkW (t : Tk) : Prop := t.s.size ≤ 65536 ∧ InR t.n
structure TmW (x : Tm) : Prop where
  name : x.name.size ≤ 65536
  s : x.s.size ≤ 65536
  n : InR x.n
theorem scanR_w {s : ByteArray} {t : Tk} (h : t ∈ (scanR s).toks) : TkW t := by
  refine ⟨scanR_short h, ?_⟩
  unfold scanR at h
  split at h
  · simp at h
  · exact scanF_all (Q := fun t => InR t.n) (fun l p _ _ => oneL_n l) _ _ _ _ h
def Ws (L : List Tk) : Prop := ∀ t ∈ L, TkW t
theorem Ws.tail {L : List Tk} (h : Ws L) : Ws L.tail := fun t ht => h t (List.mem_of_mem_tail ht)
theorem Ws.at {L : List Tk} (h : Ws L) {e : Int} {k : Nat} (hk : (atT e L k).kind ≠ 0) : TkW (atT e L k) := by
  have hl := at_ne hk
  have e' : atT e L k = L[k] := by simp [atT, List.getElem?_eq_getElem hl]
  rw [e']
  exact h _ (List.getElem_mem hl)
theorem Ws.at' {L : List Tk} (h : Ws L) (e : Int) (k : Nat) : TkW (atT e L k) := by
  by_cases hk : k < L.length
  · have e' : atT e L k = L[k] := by simp [atT, List.getElem?_eq_getElem hk]
    rw [e']
    exact h _ (List.getElem_mem hk)
  · rw [atT_beyond hk]
    exact ⟨by show (0 : Nat) ≤ _; omega, zeroIn⟩
theorem termT_w {t : Tk} (h : TkW t) {x : Tm} (hx : termT t = some x) : TmW x := by
  unfold termT at hx
  split at hx
  · cases hx; exact ⟨h.1, by show (0 : Nat) ≤ _; omega, zeroIn⟩
  split at hx
  · cases hx; exact ⟨by show (0 : Nat) ≤ _; omega, by show (0 : Nat) ≤ _; omega, h.2⟩
  split at hx
  · cases hx; exact ⟨by show (0 : Nat) ≤ _; omega, h.1, zeroIn⟩
  · cases hx
theorem termP_w (e : Int) {L : List Tk} (h : Ws L) : Ws (termP e L).rest ∧ ((termP e L).bad = 0 → TmW (termP e L).val) := by
  unfold termP
  cases hx : termT (atT e L 0) with
  | none => exact ⟨h, fun hb => by cases hb⟩
  | some x => exact ⟨h.tail, fun _ => termT_w (h.at (termT_kind hx)) hx⟩
theorem listP_w (e : Int) : ∀ (n : Nat) (acc : List Tm) (L : List Tk), Ws L → (∀ a ∈ acc, TmW a) → Ws (listP (termP e) e n acc L).rest ∧ ((listP (termP e) e n acc L).bad = 0 → (∀ a ∈ (listP (termP e) e n acc L).val, TmW a) ∧ (listP (termP e) e n acc L).val.length ≤ acc.length + n) := by
  intro n
  induction n with
  | zero => intro acc L hL _; exact ⟨hL, fun h => by cases h⟩
  | succ n ih =>
    intro acc L hL hA
    obtain ⟨h1, h2⟩ := termP_w e hL
    unfold listP
    split
    · rename_i hb
      have hA' : ∀ a ∈ acc ++ [(termP e L).val], TmW a := fun a ha => by
        rcases List.mem_append.1 ha with ha | ha
        · exact hA a ha
        · simp at ha; rw [ha]; exact h2 hb
      split
      · obtain ⟨i1, i2⟩ := ih (acc ++ [(termP e L).val]) (termP e L).rest.tail h1.tail hA'
        refine ⟨i1, fun h => ⟨(i2 h).1, ?_⟩⟩
        have := (i2 h).2
        simp at this
        omega
      · exact ⟨h1, fun _ => ⟨hA', by simp⟩⟩
    · rename_i hb
      exact ⟨h1, fun h => absurd h hb⟩
theorem atomP_w (e : Int) {L : List Tk} (h : Ws L) : (atomP e L).bad = 0 → (∀ x ∈ (atomP e L).val.args, TmW x) ∧ (atomP e L).val.args.length ≤ 6 := by
  have hn : Ws (nameP e L).rest := by
    unfold nameP
    split
    · exact h.tail
    · exact h
  unfold atomP
  split
  · split
    · obtain ⟨i1, i2⟩ := listP_w e 6 [] (nameP e L).rest.tail hn.tail (by simp)
      unfold argsP
      split
      · rename_i hq
        obtain ⟨j1, j2⟩ := i2 hq
        simp at j2
        unfold endP
        split
        · exact fun _ => ⟨j1, j2⟩
        · exact fun hb => by cases hb
      · rename_i hq
        exact fun h => absurd h hq
    · exact fun _ => ⟨by simp, by simp⟩
  · rename_i hb
    exact fun h => absurd h hb
theorem atomR_w (s : ByteArray) : (∀ x ∈ (atomR s).a.args, TmW x) ∧ (atomR s).a.args.length ≤ 6 := by
  have hW : Ws (scanR s).toks := fun t ht => scanR_w ht
  have hz : (∀ x ∈ Am.zero.args, TmW x) ∧ Am.zero.args.length ≤ 6 := ⟨fun x hx => by simp [Am.zero] at hx, by simp [Am.zero]⟩
  unfold atomR
  split
  · unfold atomL
    split
    · rename_i hb
      split
      · exact atomP_w _ hW hb
      · exact hz
    · exact hz
  · exact hz

theorem wideTerm : (match Tryz.prog.underlying 45 with | some (.array _ _) | some (.struct _) => true | _ => false) = true := by kernel_rfl
theorem keyTypeTerm : Tryz.prog.keyType 45 = true := by kernel_rfl
theorem cellsTerm : Tryz.prog.cellsOf 45 = 5 := by kernel_rfl
theorem cellsValQ : Tryz.prog.cellsOf 43 = 3 := by kernel_rfl
theorem cellsBQ : Tryz.prog.cellsOf 4 = 1 := by kernel_rfl
theorem cellsSQ : Tryz.prog.cellsOf 9 = 1 := by kernel_rfl
theorem cellsIQ : Tryz.prog.cellsOf 2 = 1 := by kernel_rfl
/-- A struct of a flag, a text, and a struct of three has a key. -/
theorem keyOf_five {P : Program} {t : TypeId} {f0 f1 f2 g0 g1 g2 : Field} (ht : P.underlying t = some (.struct #[f0, f1, f2])) (hk : P.keyType t = true) (ct : P.cellsOf t = 5) (hm : ∃ m, P.types.size = m + 2)
    (o0 : f0.offset = 0) (o1 : f1.offset = 1) (o2 : f2.offset = 2) (c0 : P.cellsOf f0.type = 1) (c1 : P.cellsOf f1.type = 1) (c2 : P.cellsOf f2.type = 3) (n0 : f0.name ≠ "_") (n1 : f1.name ≠ "_") (n2 : f2.name ≠ "_")
    (u0 : P.underlying f0.type = some .bool) (u1 : P.underlying f1.type = some .string) (u2 : P.underlying f2.type = some (.struct #[g0, g1, g2]))
    (p0 : g0.offset = 0) (p1 : g1.offset = 1) (p2 : g2.offset = 2) (d0 : P.cellsOf g0.type = 1) (d1 : P.cellsOf g1.type = 1) (d2 : P.cellsOf g2.type = 1) (m0 : g0.name ≠ "_") (m1 : g1.name ≠ "_") (m2 : g2.name ≠ "_")
    (v0 : P.underlying g0.type = some .bool) (v1 : P.underlying g1.type = some .string) (v2 : P.underlying g2.type = some (.int .i64)) {x : Tm} (h : TmW x) :
    ∃ l, keyOf P t (.agg #[.bool x.v, .string x.name, .bool x.k, .string x.s, .int .i64 x.n]) = some l := by
  obtain ⟨m, hm⟩ := hm
  have hs1 : x.name.size ≤ maxLen := by have := h.name; unfold maxLen; omega
  have hs2 : x.s.size ≤ maxLen := by have := h.s; unfold maxLen; omega
  have hw : (Lit.int .i64 x.n).wf = true := WalkArith.wf_i64 ⟨h.n.1, h.n.2⟩
  simp [keyOf, ht, hk, Value.formed, ct, hm, Program.keyLits, o0, o1, o2, c0, c1, c2, n0, n1, n2, u0, u1, u2, p0, p1, p2, d0, d1, d2, m0, m1, m2, v0, v1, v2, Value.cells, hs1, hs2, hw]
  have hq : ∀ (i : Nat) (x : i < 3), ¬[g0, g1, g2][i].name = "_" := fun i hi => by
    match i, hi with
    | 0, _ => exact m0
    | 1, _ => exact m1
    | 2, _ => exact m2
  rw [if_pos hq]
  exact ⟨_, rfl⟩
theorem keyTerm {x : Tm} (h : TmW x) : ∃ l, keyOf Tryz.prog 45 (.agg #[.bool x.v, .string x.name, .bool x.k, .string x.s, .int .i64 x.n]) = some l :=
  keyOf_five Tryz.underlying45 keyTypeTerm cellsTerm ⟨_, (show Tryz.prog.types.size = (Tryz.prog.types.size - 2) + 2 by kernel_rfl)⟩ rfl rfl rfl cellsBQ cellsSQ cellsValQ (by decide) (by decide) (by decide) Tryz.underlying4 Tryz.underlying9 Tryz.underlying43
    rfl rfl rfl cellsBQ cellsSQ cellsIQ (by decide) (by decide) (by decide) Tryz.underlying4 Tryz.underlying9 Tryz.underlying2 h
theorem keyTypeAt3 : Tryz.prog.keyTypeAt 4 45 = true := by kernel_rfl
/-- A term held against itself. -/
theorem neq_term {x : Tm} (h : TmW x) (w : World) : (binOp .neq 45 (.agg #[.bool x.v, .string x.name, .bool x.k, .string x.s, .int .i64 x.n]) (.agg #[.bool x.v, .string x.name, .bool x.k, .string x.s, .int .i64 x.n])).run Tryz.prog w = .ok (.bool false) w := by
  obtain ⟨l, hl⟩ := keyTerm h
  obtain ⟨r, hr, hiff⟩ := run_equal_deep (P := Tryz.prog) w (m := 4) (by omega) (k := 45) keyTypeAt3 wideTerm hl hl
  have : r = true := hiff.2 rfl
  subst this
  simp [binOp, hr, Result.andThen]
end Go.Proofs.YtekhcaanjaoioaaGreatDoor

/-
  Contracts of the document's at, mark, failed (lambrequinref06).
-/
namespace Go.Proofs.YtekhcaanjaoioaaGreatDoor
set_option linter.unusedSimpArgs false
set_option linter.unusedVariables false
set_option linter.unusedSectionVars false
set_option maxRecDepth 100000
open Go.RowKit

/-- Two structs, one block behind the other. -/
theorem Blk.second (w : World) (o : Obj) (cs : Array Value) (ty : TypeId) : Blk ((w.alloc o).alloc (.cells cs ty)) (w.heap.size + 1) cs ty := by
  have h := Blk.new (w.alloc o) cs ty
  have e : (w.alloc o).heap.size = w.heap.size + 1 := by simp
  rw [e] at h
  exact h
theorem ret_tmp_cell {fn : Func} {p u : Tmp} {ty : TypeId} (h : fn.results = #[.tmp u, .cell p ty]) {tmps : Array Value} {w : World} {g : Nat} {cs : Array Value} {t : TypeId} {fs : Array Field} {P : Program} {x : Value}
    (hx : tmps.getD u undef = x) (hp : tmps.getD p undef = .pointer (some ⟨g, 0, none⟩)) (hB : Blk w g cs t) (hu : P.underlying ty = some (.struct fs)) (hi : (P.info? ty).map (·.size) = some cs.size) :
    (results fn tmps).run P w = .ok (.tuple #[x, .agg cs]) w := by
  have hp' : tmps[p]?.getD undef = .pointer (some ⟨g, 0, none⟩) := by simpa using hp
  have hx' : tmps[u]?.getD undef = x := by simpa using hx
  simp [results, h, hp', hx', asAddr, run_loadVar_row w g t ty cs (0, 0) (.struct fs) hB hu rfl hi]
theorem ret_cells2 {fn : Func} {p q : Tmp} {ty ty2 : TypeId} (h : fn.results = #[.cell p ty, .cell q ty2]) {tmps : Array Value} {w : World} {g g2 : Nat} {cs cs2 : Array Value} {t t2 : TypeId} {fs fs2 : Array Field} {P : Program}
    (hp : tmps.getD p undef = .pointer (some ⟨g, 0, none⟩)) (hq : tmps.getD q undef = .pointer (some ⟨g2, 0, none⟩)) (hB : Blk w g cs t) (hB2 : Blk w g2 cs2 t2) (hu : P.underlying ty = some (.struct fs)) (hi : (P.info? ty).map (·.size) = some cs.size) (hu2 : P.underlying ty2 = some (.struct fs2)) (hi2 : (P.info? ty2).map (·.size) = some cs2.size) :
    (results fn tmps).run P w = .ok (.tuple #[.agg cs, .agg cs2]) w := by
  have hp' : tmps[p]?.getD undef = .pointer (some ⟨g, 0, none⟩) := by simpa using hp
  have hq' : tmps[q]?.getD undef = .pointer (some ⟨g2, 0, none⟩) := by simpa using hq
  simp [results, h, hp', hq', asAddr, run_loadVar_row w g t ty cs (0, 0) (.struct fs) hB hu rfl hi, run_loadVar_row w g2 t2 ty2 cs2 (0, 0) (.struct fs2) hB2 hu2 rfl hi2]

set_option maxHeartbeats 1000000 in
theorem rat_any {x : Value} {T : List Tk} {w : World} (hx : Tks w x T) (hT : T.length ≤ 65536) (i : Nat) (hi : i ≤ 65540) (en : Int) :
    Calls Tryz.prog 26 #[x, .int .i64 (i : Int), .int .i64 en] w fun e w' => e = .returned (tokV (atT en T i)) ∧ Below w.heap.size w w' := by
  have ht := hx.below (al_below w (.cells #[.int .i64 0, .string ⟨#[]⟩, .int .i64 0, .bool false, .int .i64 0] 62))
  obtain ⟨ao, cap, rfl, h1, h2⟩ := hx.form
  have HHB : Hid (∀ cs, Below w.heap.size w (w.alloc (.cells cs 62))) := fun cs => al_below w _
  unfold maxLen at h2
  have hiI : (i : Int) ≤ 65540 := by omega
  clear hx
  by_cases hlt : i < T.length
  · have hltI : (i : Int) < (T.length : Int) := by omega
    obtain ⟨b, off, rfl, hbl, d0, d1, d2, d3, d4⟩ := ht.token en hlt
    obtain ⟨t, htk⟩ : ∃ t, t = atT en T i := ⟨_, rfl⟩
    rw [← htk] at d0 d1 d2 d3 d4 ⊢
    obtain ⟨kd, st, nn, qq, pp⟩ := t
    simp only [tokV] at d0 d1 d2 d3 d4 ⊢
    clear ht htk hlt
    go_enter Tryz.func26, Tryz.ntmps26
    go_wp2
    exact bodyPost_ret (ret_cell1 Tryz.results26 rfl (Blk.new _ _ _) Tryz.underlying62 (by kernel_rfl)) rfl ⟨rfl, HHB.out _⟩
  · have hltI : ¬ (i : Int) < (T.length : Int) := by omega
    rw [atT_beyond hlt]
    clear ht hlt
    go_enter Tryz.func26, Tryz.ntmps26
    go_wp2
    exact bodyPost_ret (ret_cell1 Tryz.results26 rfl (Blk.new _ _ _) Tryz.underlying62 (by kernel_rfl)) rfl ⟨rfl, HHB.out _⟩

set_option maxHeartbeats 1000000 in
theorem rmark_any (t : Tk) (m : ByteArray) (w : World) :
    Calls Tryz.prog 25 #[.agg #[.int .i64 t.kind, .string t.s, .int .i64 t.n, .bool t.q, .int .i64 t.pl], .string m] w fun e w' => e = .returned (.bool (isMk m.data.toList t)) ∧ Below w.heap.size w w' := by
  obtain ⟨kd, st, nn, qq, pp⟩ := t
  have HR : Hid (isMk m.data.toList ⟨kd, st, nn, qq, pp⟩ = ((kd == 4) && (st.toList == m.toList))) := by show isMk _ _ = _; rw [bytes_eq]; rfl
  have hb := al_below w (.cells #[.int .i64 kd, .string st, .int .i64 nn, .bool qq, .int .i64 pp] 62)
  by_cases h4 : kd = 4
  · subst h4
    go_enter Tryz.func25, Tryz.ntmps25
    go_wp2
    go_ret
    exact ⟨by rw [HR.out]; simp, hb⟩
  · have h4B : (kd == 4) = false := by simpa using h4
    go_enter Tryz.func25, Tryz.ntmps25
    go_wp2
    go_ret
    exact ⟨by rw [HR.out, h4B]; simp, hb⟩

/-- A state: the next place, an error's number, its place. -/
abbrev stA (i bad : Int) (pl : Int) : Array Value := #[.int .i64 i, .int .i64 bad, .int .i64 pl]
set_option maxHeartbeats 1000000 in
theorem rfailed_any (t : Tk) (bad : Int) (w : World) :
    Calls Tryz.prog 27 #[.agg #[.int .i64 t.kind, .string t.s, .int .i64 t.n, .bool t.q, .int .i64 t.pl], .int .i64 bad] w fun e w' => e = .returned (.agg #[.int .i64 0, .int .i64 bad, .int .i64 t.pl]) ∧ Below w.heap.size w w' := by
  obtain ⟨kd, st, nn, qq, pp⟩ := t
  have HB : Hid (∀ o o', Below w.heap.size w ((w.alloc o).alloc o')) := fun o o' => (al_below w o).alloc (by simp) _
  go_enter Tryz.func27, Tryz.ntmps27
  go_wp2
  exact bodyPost_ret (ret_cell1 Tryz.results27 rfl (Blk.second _ _ _ _) Tryz.underlying56 (by kernel_rfl)) rfl ⟨rfl, HB.out _ _⟩
end Go.Proofs.YtekhcaanjaoioaaGreatDoor

/-
  Contracts of the document's name and term (lambrequinref06).
-/
namespace Go.Proofs.YtekhcaanjaoioaaGreatDoor
set_option linter.unusedSimpArgs false
set_option linter.unusedVariables false
set_option linter.unusedSectionVars false
set_option maxRecDepth 100000
open Go.RowKit

theorem Blk.mid (w : World) (o o' : Obj) (cs : Array Value) (ty : TypeId) : Blk (((w.alloc o).alloc (.cells cs ty)).alloc o') (w.heap.size + 1) cs ty := (Blk.second w o cs ty).below (al_below _ _)
theorem Blk.third (w : World) (o o' : Obj) (cs : Array Value) (ty : TypeId) : Blk (((w.alloc o).alloc o').alloc (.cells cs ty)) (w.heap.size + 2) cs ty := by
  have h := Blk.new ((w.alloc o).alloc o') cs ty
  have e : ((w.alloc o).alloc o').heap.size = w.heap.size + 2 := by simp
  rw [e] at h
  exact h
theorem three_al (w : World) (a b c : Obj) : Below w.heap.size w (((w.alloc a).alloc b).alloc c) := ((al_below w a).alloc (by simp) _).alloc (by simp; omega) _
theorem notB {s : ByteArray} : (s.data.toList == [110, 111, 116]) = (s.toList == [110, 111, 116]) := by rw [toList_data]

set_option maxHeartbeats 2000000 in
theorem rname_no {ao : Option Addr} {cap : Nat} {T : List Tk} {w : World} (hx : Tks w (.slice ao T.length cap) T) (hT : T.length ≤ 65536) (hW : Ws T) (i : Nat) (hi : i ≤ 65539) (en : Int) (hn : isNm (atT en T i) = false) :
    Calls Tryz.prog 24 #[.agg #[.slice ao T.length cap, .int .i64 en], .int .i64 (i : Int)] w fun e w' => e = .returned (.tuple #[.string ⟨#[]⟩, .agg #[.int .i64 0, .int .i64 2, .int .i64 (atT en T i).pl]]) ∧ Below w.heap.size w w' := by
  have HAT := Lib.hid (fun W (hb : Below w.heap.size w W) => rat_any (hx.below hb) hT i (by omega) en)
  have hiI : (i : Int) ≤ 65539 := by omega
  have hTI : (T.length : Int) ≤ 65536 := by omega
  have htw := hW.at' en i
  have HB2 : Hid (∀ o o', Below w.heap.size w ((w.alloc o).alloc o')) := fun o o' => (al_below w o).alloc (by simp) _
  have HS0 : Hid (∀ o, Blk ((w.alloc o).alloc (.cells #[.int .i64 0, .int .i64 0, .int .i64 0] 56)) (w.heap.size + 1) #[.int .i64 0, .int .i64 0, .int .i64 0] 56) := fun o => Blk.second w o _ _
  obtain ⟨t, ht⟩ : ∃ t, t = atT en T i := ⟨_, rfl⟩
  rw [← ht] at HAT htw hn ⊢
  clear ht hx hW
  have HFL := Lib.hid (fun W => rfailed_any t 2 W)
  have HP := Lib.hid (fun W => refPlain_any t.s W (by have := htw.1; unfold maxLen; omega))
  obtain ⟨kd, st, nn, qq, pp⟩ := t
  simp only [tokV] at HAT HFL HP ⊢
  by_cases k1 : kd = 1
  · subst k1
    cases qq
    · have hp : plainL st.data.toList = false := by simpa [isNm] using hn
      rw [hp] at HP
      clear hn hp htw
      go_enter Tryz.func24, Tryz.ntmps24
      go_wp2_with (first
        | (go_at_call 26; refine (HAT.out _ (HB2.out _ _)).mono ?_; rintro e w1 ⟨rfl, hb1⟩; have hs1 := hb1.size; simp at hs1; have HB1 := Lib.hid (fun o => ((HB2.out _ _).trans (hb1.mono (by simp; omega))).alloc (by omega) o); have HS1 := Lib.hid (fun o => ((HS0.out _).below hb1).below (al_below w1 o)); clear hb1 HAT HB2 HS0)
        | (go_at_call 45; refine (HP.out _).mono ?_; rintro e w2 ⟨rfl, rfl⟩)
        | (go_at_call 27; refine (HFL.out _).mono ?_; rintro e w3 ⟨rfl, hb3⟩; have HB3 := Lib.hid ((HB1.out _).trans (hb3.mono (by simp; omega))); have HS3 := Lib.hid ((HS1.out _).below hb3); clear hb3 HFL)
        | (refine wpList_store_row rfl 56 _ _ rfl (w.heap.size + 1) #[.int .i64 0, .int .i64 2, .int .i64 pp] rfl rfl 56 _ HS3.out (by kernel_rfl) rfl (by simp [Value.oneCell']) ?_))
      exact bodyPost_ret (ret_tmp_cell Tryz.results24 rfl rfl (HS3.out.lay _) Tryz.underlying56 (by kernel_rfl)) rfl ⟨rfl, below_lay HB3.out (by omega) _⟩
    · clear hn HP htw
      go_enter Tryz.func24, Tryz.ntmps24
      go_wp2_with (first
        | (go_at_call 26; refine (HAT.out _ (HB2.out _ _)).mono ?_; rintro e w1 ⟨rfl, hb1⟩; have hs1 := hb1.size; simp at hs1; have HB1 := Lib.hid (fun o => ((HB2.out _ _).trans (hb1.mono (by simp; omega))).alloc (by omega) o); have HS1 := Lib.hid (fun o => ((HS0.out _).below hb1).below (al_below w1 o)); clear hb1 HAT HB2 HS0)
        | (go_at_call 45; refine (HP.out _).mono ?_; rintro e w2 ⟨rfl, rfl⟩)
        | (go_at_call 27; refine (HFL.out _).mono ?_; rintro e w3 ⟨rfl, hb3⟩; have HB3 := Lib.hid ((HB1.out _).trans (hb3.mono (by simp; omega))); have HS3 := Lib.hid ((HS1.out _).below hb3); clear hb3 HFL)
        | (refine wpList_store_row rfl 56 _ _ rfl (w.heap.size + 1) #[.int .i64 0, .int .i64 2, .int .i64 pp] rfl rfl 56 _ HS3.out (by kernel_rfl) rfl (by simp [Value.oneCell']) ?_))
      exact bodyPost_ret (ret_tmp_cell Tryz.results24 rfl rfl (HS3.out.lay _) Tryz.underlying56 (by kernel_rfl)) rfl ⟨rfl, below_lay HB3.out (by omega) _⟩
  · have k1B : (kd == 1) = false := by simpa using k1
    have k1N : (kd != 1) = true := by simp [bne, k1B]
    clear hn HP htw
    go_enter Tryz.func24, Tryz.ntmps24
    go_wp2_with (first
      | (go_at_call 26; refine (HAT.out _ (HB2.out _ _)).mono ?_; rintro e w1 ⟨rfl, hb1⟩; have hs1 := hb1.size; simp at hs1; have HB1 := Lib.hid (fun o => ((HB2.out _ _).trans (hb1.mono (by simp; omega))).alloc (by omega) o); have HS1 := Lib.hid (fun o => ((HS0.out _).below hb1).below (al_below w1 o)); clear hb1 HAT HB2 HS0)
      | (go_at_call 45; refine (HP.out _).mono ?_; rintro e w2 ⟨rfl, rfl⟩)
      | (go_at_call 27; refine (HFL.out _).mono ?_; rintro e w3 ⟨rfl, hb3⟩; have HB3 := Lib.hid ((HB1.out _).trans (hb3.mono (by simp; omega))); have HS3 := Lib.hid ((HS1.out _).below hb3); clear hb3 HFL)
      | (refine wpList_store_row rfl 56 _ _ rfl (w.heap.size + 1) #[.int .i64 0, .int .i64 2, .int .i64 pp] rfl rfl 56 _ HS3.out (by kernel_rfl) rfl (by simp [Value.oneCell']) ?_))
    exact bodyPost_ret (ret_tmp_cell Tryz.results24 rfl rfl (HS3.out.lay _) Tryz.underlying56 (by kernel_rfl)) rfl ⟨rfl, below_lay HB3.out (by omega) _⟩

set_option maxHeartbeats 2000000 in
theorem rname_yes {ao : Option Addr} {cap : Nat} {T : List Tk} {w : World} (hx : Tks w (.slice ao T.length cap) T) (hT : T.length ≤ 65536) (hW : Ws T) (i : Nat) (hi : i ≤ 65539) (en : Int) (hn : isNm (atT en T i) = true) :
    Calls Tryz.prog 24 #[.agg #[.slice ao T.length cap, .int .i64 en], .int .i64 (i : Int)] w fun e w' => e = .returned (.tuple #[.string (atT en T i).s, .agg #[.int .i64 ((i : Int) + 1), .int .i64 0, .int .i64 0]]) ∧ Below w.heap.size w w' := by
  have HAT := Lib.hid (fun W (hb : Below w.heap.size w W) => rat_any (hx.below hb) hT i (by omega) en)
  have hiI : (i : Int) ≤ 65539 := by omega
  have hTI : (T.length : Int) ≤ 65536 := by omega
  have htw := hW.at' en i
  have HB2 : Hid (∀ o o', Below w.heap.size w ((w.alloc o).alloc o')) := fun o o' => (al_below w o).alloc (by simp) _
  have HS0 : Hid (∀ o, Blk ((w.alloc o).alloc (.cells #[.int .i64 0, .int .i64 0, .int .i64 0] 56)) (w.heap.size + 1) #[.int .i64 0, .int .i64 0, .int .i64 0] 56) := fun o => Blk.second w o _ _
  obtain ⟨t, ht⟩ : ∃ t, t = atT en T i := ⟨_, rfl⟩
  rw [← ht] at HAT htw hn ⊢
  clear ht hx hW
  have HFL := Lib.hid (fun W => rfailed_any t 2 W)
  have HP := Lib.hid (fun W => refPlain_any t.s W (by have := htw.1; unfold maxLen; omega))
  obtain ⟨kd, st, nn, qq, pp⟩ := t
  simp only [tokV] at HAT HFL HP ⊢
  simp only [isNm, Bool.and_eq_true, Bool.not_eq_true', beq_iff_eq] at hn
  obtain ⟨⟨rfl, rfl⟩, hp⟩ := hn
  rw [hp] at HP
  clear hp htw
  go_enter Tryz.func24, Tryz.ntmps24
  go_wp2_with (first
    | (go_at_call 26; refine (HAT.out _ (HB2.out _ _)).mono ?_; rintro e w1 ⟨rfl, hb1⟩; have hs1 := hb1.size; simp at hs1; have HB1 := Lib.hid (fun o => ((HB2.out _ _).trans (hb1.mono (by simp; omega))).alloc (by omega) o); have HS1 := Lib.hid (fun o => ((HS0.out _).below hb1).below (al_below w1 o)); clear hb1 HAT HB2 HS0)
    | (go_at_call 45; refine (HP.out _).mono ?_; rintro e w2 ⟨rfl, rfl⟩)
    | (refine wpList_store_row rfl 56 _ _ rfl (w.heap.size + 1) #[.int .i64 ((i : Int) + 1), .int .i64 0, .int .i64 0] rfl rfl 56 _ (HS1.out _) (by kernel_rfl) rfl (by simp [Value.oneCell']) ?_))
  exact bodyPost_ret (ret_tmp_cell Tryz.results24 rfl rfl ((HS1.out _).lay _) Tryz.underlying56 (by kernel_rfl)) rfl ⟨rfl, below_lay (HB1.out _) (by omega) _⟩

set_option maxHeartbeats 2000000 in
theorem rterm_no {ao : Option Addr} {cap : Nat} {T : List Tk} {w : World} (hx : Tks w (.slice ao T.length cap) T) (hT : T.length ≤ 65536) (hW : Ws T) (i : Nat) (hi : i ≤ 65539) (en : Int) (hn : termT (atT en T i) = none) :
    Calls Tryz.prog 28 #[.agg #[.slice ao T.length cap, .int .i64 en], .int .i64 (i : Int)] w fun e w' => e = .returned (.tuple #[.agg #[.bool false, .string ⟨#[]⟩, .bool false, .string ⟨#[]⟩, .int .i64 0], .agg #[.int .i64 0, .int .i64 2, .int .i64 (atT en T i).pl]]) ∧ Below w.heap.size w w' := by
  have HAT := Lib.hid (fun W (hb : Below w.heap.size w W) => rat_any (hx.below hb) hT i (by omega) en)
  have hiI : (i : Int) ≤ 65539 := by omega
  have hTI : (T.length : Int) ≤ 65536 := by omega
  have htw := hW.at' en i
  have HB2 : Hid (∀ a b c, Below w.heap.size w (((w.alloc a).alloc b).alloc c)) := fun a b c => three_al w a b c
  have HS0 : Hid (∀ o o', Blk (((w.alloc o).alloc o').alloc (.cells #[.int .i64 0, .int .i64 0, .int .i64 0] 56)) (w.heap.size + 2) #[.int .i64 0, .int .i64 0, .int .i64 0] 56) := fun o o' => Blk.third w o o' _ _
  have HT0 : Hid (∀ o o', Blk (((w.alloc o).alloc (.cells #[.bool false, .string ⟨#[]⟩, .bool false, .string ⟨#[]⟩, .int .i64 0] 45)).alloc o') (w.heap.size + 1) #[.bool false, .string ⟨#[]⟩, .bool false, .string ⟨#[]⟩, .int .i64 0] 45) := fun o o' => Blk.mid w o o' _ _
  obtain ⟨t, ht⟩ : ∃ t, t = atT en T i := ⟨_, rfl⟩
  rw [← ht] at HAT htw hn ⊢
  clear ht hx hW
  have HFL := Lib.hid (fun W => rfailed_any t 2 W)
  have HP := Lib.hid (fun W => refPlain_any t.s W (by have := htw.1; unfold maxLen; omega))
  obtain ⟨kd, st, nn, qq, pp⟩ := t
  simp only [tokV] at HAT HFL HP ⊢
  clear HP htw
  have k2 : (kd == 2) = false := by
    rw [beq_eq_false_iff_ne]; rintro rfl; simp [termT] at hn
  have k3 : (kd == 3) = false := by
    rw [beq_eq_false_iff_ne]; rintro rfl; simp [termT] at hn
  by_cases k1 : kd = 1
  · subst k1
    have hq : isNg ⟨1, st, nn, qq, pp⟩ = true := by
      cases h : isNg ⟨1, st, nn, qq, pp⟩
      · simp [termT, h] at hn
      · rfl
    simp only [isNg, Bool.and_eq_true, Bool.not_eq_true'] at hq
    obtain ⟨⟨-, rfl⟩, hs⟩ := hq
    rw [notB] at hs
    have hs' : (st.toList != [110, 111, 116]) = false := by simp [bne, hs]
    clear hn
    go_enter Tryz.func28, Tryz.ntmps28
    go_wp2_with (first
      | (go_at_call 26; refine (HAT.out _ (HB2.out _ _ _)).mono ?_; rintro e w1 ⟨rfl, hb1⟩; have hs1 := hb1.size; simp at hs1; have HB1 := Lib.hid (fun o => ((HB2.out _ _ _).trans (hb1.mono (by simp; omega))).alloc (by omega) o); have HS1 := Lib.hid (fun o => ((HS0.out _ _).below hb1).below (al_below w1 o)); have HT1 := Lib.hid (fun o => ((HT0.out _ _).below hb1).below (al_below w1 o)); clear hb1 HAT HB2 HS0 HT0)
      | (go_at_call 27; refine (HFL.out _).mono ?_; rintro e w3 ⟨rfl, hb3⟩; have HB3 := Lib.hid ((HB1.out _).trans (hb3.mono (by simp; omega))); have HS3 := Lib.hid ((HS1.out _).below hb3); have HT3 := Lib.hid ((HT1.out _).below hb3); clear hb3 HFL)
      | (refine wpList_store_row rfl 45 _ _ rfl (w.heap.size + 1) #[.bool false, .string ⟨#[]⟩, .bool false, .string ⟨#[]⟩, .int .i64 0] rfl rfl 45 _ (HT3.out) (by kernel_rfl) rfl (by simp [Value.oneCell']) ?_; have HS3B := Lib.hid (HS3.out.turns (Turns.laid _ (w.heap.size + 1) #[.bool false, .string ⟨#[]⟩, .bool false, .string ⟨#[]⟩, .int .i64 0]) (by omega)))
      | (refine wpList_store_row rfl 56 _ _ rfl (w.heap.size + 2) #[.int .i64 0, .int .i64 2, .int .i64 pp] rfl rfl 56 _ (HS3B.out) (by kernel_rfl) rfl (by simp [Value.oneCell']) ?_))
    exact bodyPost_ret (ret_cells2 Tryz.results28 rfl rfl (((HT3.out).lay _).turns (Turns.laid _ _ _) (by omega)) ((HS3B.out).lay _) Tryz.underlying45 (by kernel_rfl) Tryz.underlying56 (by kernel_rfl)) rfl ⟨rfl, below_lay (below_lay (HB3.out) (by omega) _) (by omega) _⟩
  · have k1B : (kd == 1) = false := by simpa using k1
    clear hn
    go_enter Tryz.func28, Tryz.ntmps28
    go_wp2_with (first
      | (go_at_call 26; refine (HAT.out _ (HB2.out _ _ _)).mono ?_; rintro e w1 ⟨rfl, hb1⟩; have hs1 := hb1.size; simp at hs1; have HB1 := Lib.hid (fun o => ((HB2.out _ _ _).trans (hb1.mono (by simp; omega))).alloc (by omega) o); have HS1 := Lib.hid (fun o => ((HS0.out _ _).below hb1).below (al_below w1 o)); have HT1 := Lib.hid (fun o => ((HT0.out _ _).below hb1).below (al_below w1 o)); clear hb1 HAT HB2 HS0 HT0)
      | (go_at_call 27; refine (HFL.out _).mono ?_; rintro e w3 ⟨rfl, hb3⟩; have HB3 := Lib.hid ((HB1.out _).trans (hb3.mono (by simp; omega))); have HS3 := Lib.hid ((HS1.out _).below hb3); have HT3 := Lib.hid ((HT1.out _).below hb3); clear hb3 HFL)
      | (refine wpList_store_row rfl 45 _ _ rfl (w.heap.size + 1) #[.bool false, .string ⟨#[]⟩, .bool false, .string ⟨#[]⟩, .int .i64 0] rfl rfl 45 _ (HT3.out) (by kernel_rfl) rfl (by simp [Value.oneCell']) ?_; have HS3B := Lib.hid (HS3.out.turns (Turns.laid _ (w.heap.size + 1) #[.bool false, .string ⟨#[]⟩, .bool false, .string ⟨#[]⟩, .int .i64 0]) (by omega)))
      | (refine wpList_store_row rfl 56 _ _ rfl (w.heap.size + 2) #[.int .i64 0, .int .i64 2, .int .i64 pp] rfl rfl 56 _ (HS3B.out) (by kernel_rfl) rfl (by simp [Value.oneCell']) ?_))
    exact bodyPost_ret (ret_cells2 Tryz.results28 rfl rfl (((HT3.out).lay _).turns (Turns.laid _ _ _) (by omega)) ((HS3B.out).lay _) Tryz.underlying45 (by kernel_rfl) Tryz.underlying56 (by kernel_rfl)) rfl ⟨rfl, below_lay (below_lay (HB3.out) (by omega) _) (by omega) _⟩

set_option maxHeartbeats 2000000 in
theorem rterm_yes {ao : Option Addr} {cap : Nat} {T : List Tk} {w : World} (hx : Tks w (.slice ao T.length cap) T) (hT : T.length ≤ 65536) (hW : Ws T) (i : Nat) (hi : i ≤ 65539) (en : Int) {x : Tm} (hn : termT (atT en T i) = some x) :
    Calls Tryz.prog 28 #[.agg #[.slice ao T.length cap, .int .i64 en], .int .i64 (i : Int)] w fun e w' => e = .returned (.tuple #[.agg #[.bool x.v, .string x.name, .bool x.k, .string x.s, .int .i64 x.n], .agg #[.int .i64 ((i : Int) + 1), .int .i64 0, .int .i64 0]]) ∧ Below w.heap.size w w' := by
  have HAT := Lib.hid (fun W (hb : Below w.heap.size w W) => rat_any (hx.below hb) hT i (by omega) en)
  have hiI : (i : Int) ≤ 65539 := by omega
  have hTI : (T.length : Int) ≤ 65536 := by omega
  have htw := hW.at' en i
  have HB2 : Hid (∀ a b c, Below w.heap.size w (((w.alloc a).alloc b).alloc c)) := fun a b c => three_al w a b c
  have HS0 : Hid (∀ o o', Blk (((w.alloc o).alloc o').alloc (.cells #[.int .i64 0, .int .i64 0, .int .i64 0] 56)) (w.heap.size + 2) #[.int .i64 0, .int .i64 0, .int .i64 0] 56) := fun o o' => Blk.third w o o' _ _
  have HT0 : Hid (∀ o o', Blk (((w.alloc o).alloc (.cells #[.bool false, .string ⟨#[]⟩, .bool false, .string ⟨#[]⟩, .int .i64 0] 45)).alloc o') (w.heap.size + 1) #[.bool false, .string ⟨#[]⟩, .bool false, .string ⟨#[]⟩, .int .i64 0] 45) := fun o o' => Blk.mid w o o' _ _
  obtain ⟨t, ht⟩ : ∃ t, t = atT en T i := ⟨_, rfl⟩
  rw [← ht] at HAT htw hn
  clear ht hx hW
  have HFL := Lib.hid (fun W => rfailed_any t 2 W)
  have HP := Lib.hid (fun W => refPlain_any t.s W (by have := htw.1; unfold maxLen; omega))
  obtain ⟨kd, st, nn, qq, pp⟩ := t
  simp only [tokV] at HAT HFL HP ⊢
  clear HP htw HFL
  by_cases k2 : kd = 2
  · subst k2
    simp [termT] at hn
    subst hn
    go_enter Tryz.func28, Tryz.ntmps28
    go_wp2_with (first
      | (go_at_call 26; refine (HAT.out _ (HB2.out _ _ _)).mono ?_; rintro e w1 ⟨rfl, hb1⟩; have hs1 := hb1.size; simp at hs1; have HB1 := Lib.hid (fun o => ((HB2.out _ _ _).trans (hb1.mono (by simp; omega))).alloc (by omega) o); have HS1 := Lib.hid (fun o => ((HS0.out _ _).below hb1).below (al_below w1 o)); have HT1 := Lib.hid (fun o => ((HT0.out _ _).below hb1).below (al_below w1 o)); clear hb1 HAT HB2 HS0 HT0)
      | (refine wpList_store_row rfl 45 _ _ rfl (w.heap.size + 1) #[.bool true, .string st, .bool false, .string ⟨#[]⟩, .int .i64 0] rfl rfl 45 _ (HT1.out _) (by kernel_rfl) rfl (by simp [Value.oneCell']) ?_; have HS1B := Lib.hid (fun o => (HS1.out o).turns (Turns.laid _ (w.heap.size + 1) #[.bool true, .string st, .bool false, .string ⟨#[]⟩, .int .i64 0]) (by omega)))
      | (refine wpList_store_row rfl 56 _ _ rfl (w.heap.size + 2) #[.int .i64 ((i : Int) + 1), .int .i64 0, .int .i64 0] rfl rfl 56 _ (HS1B.out _) (by kernel_rfl) rfl (by simp [Value.oneCell']) ?_))
    exact bodyPost_ret (ret_cells2 Tryz.results28 rfl rfl (((HT1.out _).lay _).turns (Turns.laid _ _ _) (by omega)) ((HS1B.out _).lay _) Tryz.underlying45 (by kernel_rfl) Tryz.underlying56 (by kernel_rfl)) rfl ⟨rfl, below_lay (below_lay (HB1.out _) (by omega) _) (by omega) _⟩
  have k2B : (kd == 2) = false := by simpa using k2
  by_cases k3 : kd = 3
  · subst k3
    simp [termT] at hn
    subst hn
    go_enter Tryz.func28, Tryz.ntmps28
    go_wp2_with (first
      | (go_at_call 26; refine (HAT.out _ (HB2.out _ _ _)).mono ?_; rintro e w1 ⟨rfl, hb1⟩; have hs1 := hb1.size; simp at hs1; have HB1 := Lib.hid (fun o => ((HB2.out _ _ _).trans (hb1.mono (by simp; omega))).alloc (by omega) o); have HS1 := Lib.hid (fun o => ((HS0.out _ _).below hb1).below (al_below w1 o)); have HT1 := Lib.hid (fun o => ((HT0.out _ _).below hb1).below (al_below w1 o)); clear hb1 HAT HB2 HS0 HT0)
      | (refine wpList_store_row rfl 45 _ _ rfl (w.heap.size + 1) #[.bool false, .string ⟨#[]⟩, .bool false, .string ⟨#[]⟩, .int .i64 nn] rfl rfl 45 _ (HT1.out _) (by kernel_rfl) rfl (by simp [Value.oneCell']) ?_; have HS1B := Lib.hid (fun o => (HS1.out o).turns (Turns.laid _ (w.heap.size + 1) #[.bool false, .string ⟨#[]⟩, .bool false, .string ⟨#[]⟩, .int .i64 nn]) (by omega)))
      | (refine wpList_store_row rfl 56 _ _ rfl (w.heap.size + 2) #[.int .i64 ((i : Int) + 1), .int .i64 0, .int .i64 0] rfl rfl 56 _ (HS1B.out _) (by kernel_rfl) rfl (by simp [Value.oneCell']) ?_))
    exact bodyPost_ret (ret_cells2 Tryz.results28 rfl rfl (((HT1.out _).lay _).turns (Turns.laid _ _ _) (by omega)) ((HS1B.out _).lay _) Tryz.underlying45 (by kernel_rfl) Tryz.underlying56 (by kernel_rfl)) rfl ⟨rfl, below_lay (below_lay (HB1.out _) (by omega) _) (by omega) _⟩
  have k3B : (kd == 3) = false := by simpa using k3
  simp only [termT, if_neg k2, if_neg k3] at hn
  split at hn
  case isFalse => cases hn
  rename_i hq
  obtain ⟨rfl, hg⟩ := hq
  cases hn
  cases qq
  · have hs : (st.toList == [110, 111, 116]) = false := by rw [← notB]; simpa [isNg] using hg
    have hs' : (st.toList != [110, 111, 116]) = true := by simp [bne, hs]
    clear hg k2 k3
    go_enter Tryz.func28, Tryz.ntmps28
    go_wp2_with (first
      | (go_at_call 26; refine (HAT.out _ (HB2.out _ _ _)).mono ?_; rintro e w1 ⟨rfl, hb1⟩; have hs1 := hb1.size; simp at hs1; have HB1 := Lib.hid (fun o => ((HB2.out _ _ _).trans (hb1.mono (by simp; omega))).alloc (by omega) o); have HS1 := Lib.hid (fun o => ((HS0.out _ _).below hb1).below (al_below w1 o)); have HT1 := Lib.hid (fun o => ((HT0.out _ _).below hb1).below (al_below w1 o)); clear hb1 HAT HB2 HS0 HT0)
      | (refine wpList_store_row rfl 45 _ _ rfl (w.heap.size + 1) #[.bool false, .string ⟨#[]⟩, .bool true, .string st, .int .i64 0] rfl rfl 45 _ (HT1.out _) (by kernel_rfl) rfl (by simp [Value.oneCell']) ?_; have HS1B := Lib.hid (fun o => (HS1.out o).turns (Turns.laid _ (w.heap.size + 1) #[.bool false, .string ⟨#[]⟩, .bool true, .string st, .int .i64 0]) (by omega)))
      | (refine wpList_store_row rfl 56 _ _ rfl (w.heap.size + 2) #[.int .i64 ((i : Int) + 1), .int .i64 0, .int .i64 0] rfl rfl 56 _ (HS1B.out _) (by kernel_rfl) rfl (by simp [Value.oneCell']) ?_))
    exact bodyPost_ret (ret_cells2 Tryz.results28 rfl rfl (((HT1.out _).lay _).turns (Turns.laid _ _ _) (by omega)) ((HS1B.out _).lay _) Tryz.underlying45 (by kernel_rfl) Tryz.underlying56 (by kernel_rfl)) rfl ⟨rfl, below_lay (below_lay (HB1.out _) (by omega) _) (by omega) _⟩
  · clear hg k2 k3
    go_enter Tryz.func28, Tryz.ntmps28
    go_wp2_with (first
      | (go_at_call 26; refine (HAT.out _ (HB2.out _ _ _)).mono ?_; rintro e w1 ⟨rfl, hb1⟩; have hs1 := hb1.size; simp at hs1; have HB1 := Lib.hid (fun o => ((HB2.out _ _ _).trans (hb1.mono (by simp; omega))).alloc (by omega) o); have HS1 := Lib.hid (fun o => ((HS0.out _ _).below hb1).below (al_below w1 o)); have HT1 := Lib.hid (fun o => ((HT0.out _ _).below hb1).below (al_below w1 o)); clear hb1 HAT HB2 HS0 HT0)
      | (refine wpList_store_row rfl 45 _ _ rfl (w.heap.size + 1) #[.bool false, .string ⟨#[]⟩, .bool true, .string st, .int .i64 0] rfl rfl 45 _ (HT1.out _) (by kernel_rfl) rfl (by simp [Value.oneCell']) ?_; have HS1B := Lib.hid (fun o => (HS1.out o).turns (Turns.laid _ (w.heap.size + 1) #[.bool false, .string ⟨#[]⟩, .bool true, .string st, .int .i64 0]) (by omega)))
      | (refine wpList_store_row rfl 56 _ _ rfl (w.heap.size + 2) #[.int .i64 ((i : Int) + 1), .int .i64 0, .int .i64 0] rfl rfl 56 _ (HS1B.out _) (by kernel_rfl) rfl (by simp [Value.oneCell']) ?_))
    exact bodyPost_ret (ret_cells2 Tryz.results28 rfl rfl (((HT1.out _).lay _).turns (Turns.laid _ _ _) (by omega)) ((HS1B.out _).lay _) Tryz.underlying45 (by kernel_rfl) Tryz.underlying56 (by kernel_rfl)) rfl ⟨rfl, below_lay (below_lay (HB1.out _) (by omega) _) (by omega) _⟩
end Go.Proofs.YtekhcaanjaoioaaGreatDoor
