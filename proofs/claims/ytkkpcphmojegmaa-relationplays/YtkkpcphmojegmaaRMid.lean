/-
  Plain facts for symtab's finder.add: what stands in memory between its statements.
-/
import Derived.Test.YtkkpcphmojegmaaRFind
import Derived.Lib.SmallJoins
import Derived.Deep.RegionLawGrows
import Derived.RegionTactic
namespace Go.Proofs.Ytkkpcphmojegmaa
set_option linter.unusedSimpArgs false
set_option linter.unusedVariables false
set_option linter.unusedSectionVars false
set_option maxRecDepth 100000
open Go.RowKit Go.Maps
variable [DecidableEq V]

theorem eqlSome (bm : Nat) (w : World) : (binOp .eql 59 (.map (some bm)) (.map none)).run Try.prog w = .ok (.bool false) w := by kernel_rfl
theorem eqlNil (w : World) : (binOp .eql 59 (.map none) (.map none)).run Try.prog w = .ok (.bool true) w := by kernel_rfl

theorem row_block {w : World} {e : TypeId} {v : Value} {n k : Nat} {xs : List Value} (h : w.ownsRow 0 e 3 v n xs) (hk : v.ownBlock = some k) : ∃ cur, w.heap[k]? = some (.cells cur e (0, 0)) := by
  rcases h.2 with ⟨rfl, _⟩ | ⟨g, cap', cur, rfl, _, h2, _⟩
  · simp [Value.ownBlock] at hk
  · simp [Value.ownBlock] at hk
    subst hk
    exact ⟨cur, h2⟩

/-- Inside add: the list tells L, the map M; the value that came lies in a block of its own. -/
structure Mid (w W : World) (B : Nat) (F : Nat → Prop) (tb : Nat) (X : Ex) (L M : List V) (v : V) (mb : Nat) (ao : Option Addr) (cap : Nat) : Prop where
  tab : W.heap[tb]? = some (.cells #[.map (some mb), .slice ao L.length cap, X.a, X.b, X.c, X.d, X.e, X.f] 70 (0, 0))
  row : W.ownsRow 0 55 3 (.slice ao L.length cap) L.length (L.flatMap V.cells)
  map : ∃ D : DataW Unit, W.ownsMap Try.prog 55 (plainElem Try.prog 3) mb M.length D ∧ Reads D M
  box : W.heap[w.heap.size]? = some (.cells #[.bool v.k, .string v.s, .int .i64 v.n] 55 (0, 0))
  size : w.heap.size < W.heap.size
  turns : Turns F w W
  ftb : F tb
  fmb : F mb ∨ w.heap.size < mb
  fsv : ∀ sb, (Value.slice ao L.length cap).ownBlock = some sb → F sb
  fB : ∀ k, F k → B ≤ k ∧ k < w.heap.size
  ok : ∀ u ∈ L, u.Ok

section
variable {w W : World} {B : Nat} {F : Nat → Prop} {tb : Nat} {X : Ex} {L M : List V} {v : V} {mb : Nat} {ao : Option Addr} {cap : Nat}

theorem Mid.cells (h : Mid w W B F tb X L M v mb ao cap) : W.cell? ⟨tb, 0, none⟩ = some (.map (some mb)) ∧ W.cell? ⟨tb, 1, none⟩ = some (.slice ao L.length cap) ∧ W.frozen? ⟨tb, 1, none⟩ = false ∧ tb < W.heap.size ∧
    W.cell? ⟨w.heap.size, 0, none⟩ = some (.bool v.k) ∧ W.cell? ⟨w.heap.size, 1, none⟩ = some (.string v.s) ∧ W.cell? ⟨w.heap.size, 2, none⟩ = some (.int .i64 v.n) :=
  ⟨by rw [cell_of_row W tb 0 _ _ _ h.tab]; rfl, by rw [cell_of_row W tb 1 _ _ _ h.tab]; rfl, by simp [World.frozen?, h.tab], (Array.getElem?_eq_some_iff.1 h.tab).1,
    by rw [cell_of_row W _ 0 _ _ _ h.box]; rfl, by rw [cell_of_row W _ 1 _ _ _ h.box]; rfl, by rw [cell_of_row W _ 2 _ _ _ h.box]; rfl⟩

/-- Where another block turns all this stays. -/
theorem Mid.on {w2 : World} (h : Mid w W B F tb X L M v mb ao cap) {r : Option Nat} (hg : W.grownBy w2 r) (h1 : r ≠ some tb) (h2 : r ≠ some w.heap.size) (h3 : ∀ k, r = some k → (Value.slice ao L.length cap).ownBlock ≠ some k) (h4 : ∀ k, r = some k → F k ∨ w.heap.size < k)
    {N : List V} (hm : ∃ D : DataW Unit, w2.ownsMap Try.prog 55 (plainElem Try.prog 3) mb N.length D ∧ Reads D N) : Mid w w2 B F tb X L N v mb ao cap where
  tab := (hg.block tb (h.cells.2.2.2.1) (fun e => h1 e.symm)).trans h.tab
  row := ownsRow_block h.row (fun k hk => hg.block k (h.row.lt k hk).2 (fun e => h3 k e.symm hk))
  map := hm
  box := (hg.block _ h.size (fun e => h2 e.symm)).trans h.box
  size := Nat.lt_of_lt_of_le h.size hg.size
  turns := h.turns.grown hg (fun k e hk => (h4 k e).elim id (fun h => by omega))
  ftb := h.ftb
  fmb := h.fmb
  fsv := h.fsv
  fB := h.fB
  ok := h.ok

theorem Mid.mb_ne (h : Mid w W B F tb X L M v mb ao cap) : mb ≠ tb ∧ mb ≠ w.heap.size ∧ (Value.slice ao L.length cap).ownBlock ≠ some mb := by
  obtain ⟨D, ⟨es, cl, hb, _⟩, _⟩ := h.map
  refine ⟨fun e => ?_, fun e => ?_, fun e => ?_⟩
  · rw [e, h.tab] at hb; cases hb
  · rw [e, h.box] at hb; cases hb
  · obtain ⟨cur, h2⟩ := row_block h.row e
    rw [hb] at h2; cases h2

/-- The map's store. -/
theorem Mid.store (h : Mid w W B F tb X L L v mb ao cap) (hv : v.Ok) (hn : v ∉ L) (hL : L.length < 1000000) :
    ∃ w2, (Instr.mapUpdate 59 (.map (some mb)) (.agg #[.bool v.k, .string v.s, .int .i64 v.n]) (.int .i64 (L.length : Nat))).run Try.prog W.drew = .ok () w2 ∧ Mid w w2 B F tb X L (L ++ [v]) v mb ao cap := by
  obtain ⟨D, hown, hR⟩ := h.map
  obtain ⟨w2, hrun, hown2, hturn⟩ := (hown.drew).store lawVal Try.underlying59 (show L.length < maxLen by unfold maxLen; omega) (keyVal hv) (plainElem_int Try.underlying3 (a := (L.length : Nat)) (WalkArith.wf_i64 (by omega)))
  have hg : W.grownBy w2 (some mb) := by have := hturn.grown; exact ⟨this.os, this.tape, this.output, this.size, this.block⟩
  obtain ⟨n1, n2, n3⟩ := h.mb_ne
  exact ⟨w2, hrun, h.on hg (by simpa using n1) (by simpa using n2) (fun k e => by cases e; exact n3) (fun k e => by cases e; exact h.fmb) ⟨_, by simpa using hown2, reads_put hR hown.isMap hv hn⟩⟩

/-- One more block. -/
theorem Mid.alloc (h : Mid w W B F tb X L M v mb ao cap) (o : Obj) : Mid w (W.alloc o) B F tb X L M v mb ao cap :=
  h.on (World.grownBy_alloc W o none) (by simp) (by simp) (fun _ e => by cases e) (fun _ e => by cases e) (let ⟨D, a, b⟩ := h.map; ⟨D, a.alloc o, b⟩)
theorem Mid.drew (h : Mid w W B F tb X L M v mb ao cap) : Mid w W.drew B F tb X L M v mb ao cap :=
  ⟨h.tab, h.row, h.map, h.box, h.size, h.turns.drew, h.ftb, h.fmb, h.fsv, h.fB, h.ok⟩

theorem Mid.sv_ne (h : Mid w W B F tb X L M v mb ao cap) : (Value.slice ao L.length cap).ownBlock ≠ some tb := fun e => by
  obtain ⟨cur, h2⟩ := row_block h.row e
  rw [h.tab] at h2
  simp at h2

/-- Behind the append: the table's own cells, ahead of the store of its list. -/
theorem Mid.cells3 {w3 : World} (h : Mid w W B F tb X L M v mb ao cap) (hg : W.grownBy w3 (Value.slice ao L.length cap).ownBlock) : w3.cell? ⟨tb, 1, none⟩ = some (.slice ao L.length cap) ∧ w3.frozen? ⟨tb, 1, none⟩ = false ∧ tb < w3.heap.size := by
  have e := (hg.block tb (h.cells.2.2.2.1) (fun e => h.sv_ne e.symm)).trans h.tab
  exact ⟨by rw [cell_of_row w3 tb 1 _ _ _ e]; rfl, by simp [World.frozen?, e], (Array.getElem?_eq_some_iff.1 e).1⟩

/-- The store of the list's cell: the table tells M. -/
theorem Mid.done {w3 : World} {v' : Value} (h : Mid w W B F tb X L (L ++ [v]) v mb ao cap) (hv : v.Ok) (hg : W.grownBy w3 (Value.slice ao L.length cap).ownBlock) (hr : w3.ownsRow 0 55 3 v' (L.length + 1) (L.flatMap V.cells ++ v.cells))
    (hloc : v'.ownBlock = (Value.slice ao L.length cap).ownBlock ∨ v'.ownBlock = some W.heap.size) :
    Turns F w (w3.setCell ⟨tb, 1, none⟩ v') ∧ Tbl (w3.setCell ⟨tb, 1, none⟩ v') B (fun k => F k ∨ w.heap.size ≤ k ∧ k < (w3.setCell ⟨tb, 1, none⟩ v').heap.size) tb X (L ++ [v]) := by
  have e := (hg.block tb (h.cells.2.2.2.1) (fun e => h.sv_ne e.symm)).trans h.tab
  have hT3 : Turns F w w3 := h.turns.grown hg (fun k e _ => h.fsv k e)
  obtain ⟨n1, n2, n3⟩ := h.mb_ne
  have hB : B ≤ w.heap.size := by have := h.fB tb h.ftb; omega
  have hs3 := hT3.size
  obtain ⟨D, hown, hR⟩ := h.map
  refine ⟨hT3.setCell (fun _ => h.ftb) _, some mb, v', ?_, ?_, fun h => absurd h (by simp), fun k ek => ?_, Or.inl h.ftb, fun k ek => ?_, fun sb es => ?_, fun k hk => ?_, ?_⟩
  · show (w3.heap.modify tb _)[tb]? = _
    rw [Array.getElem?_modify, if_pos rfl, e]
    rfl
  · have hne : v'.ownBlock ≠ some tb := by
      rcases hloc with hl | hl
      · rw [hl]; exact h.sv_ne
      · rw [hl]; have := h.cells.2.2.2.1; simp; omega
    have : w3.ownsRow 0 55 3 v' (L ++ [v]).length ((L ++ [v]).flatMap V.cells) := by simpa using hr
    exact ownsRow_block this (fun k hk => Below.heap_setCell _ _ _ _ (fun e => hne (by rw [hk, e])))
  · cases ek
    refine ⟨D, ownsMap_block hown ?_, hR⟩
    rw [Below.heap_setCell _ _ _ _ n1]
    exact hg.block mb hown.lt (fun e => n3 e.symm)
  · cases ek
    rcases h.fmb with h | h'
    · exact Or.inl h
    · have := hown.lt; have := hg.size; simp; omega
  · rcases hloc with hl | hl
    · exact Or.inl (h.fsv sb (hl ▸ es))
    · have hl' := (hr.lt sb es).2
      rw [es] at hl
      cases hl
      have := h.size
      simp; omega
  · rcases hk with hk | ⟨hk, hk'⟩
    · have := h.fB k hk
      simp; omega
    · exact ⟨by omega, hk'⟩
  · intro u hu
    rcases List.mem_append.1 hu with hu | hu
    · exact h.ok u hu
    · simp at hu; subst hu; exact hv
end

/-- The table's map is there already. -/
theorem mid_some {w : World} {B : Nat} {F : Nat → Prop} {tb : Nat} {X : Ex} {L : List V} {v : V} {mb : Nat} {ao : Option Addr} {cap : Nat} (h0 : w.heap[tb]? = some (.cells #[.map (some mb), .slice ao L.length cap, X.a, X.b, X.c, X.d, X.e, X.f] 70 (0, 0)))
    (h1 : w.ownsRow 0 55 3 (.slice ao L.length cap) L.length (L.flatMap V.cells)) (h3 : ∃ D : DataW Unit, w.ownsMap Try.prog 55 (plainElem Try.prog 3) mb L.length D ∧ Reads D L)
    (h4 : F tb) (h5 : F mb) (h6 : ∀ sb, (Value.slice ao L.length cap).ownBlock = some sb → F sb) (h7 : ∀ k, F k → B ≤ k ∧ k < w.heap.size) (h8 : ∀ v ∈ L, v.Ok) :
    Mid w (w.alloc (.cells #[.bool v.k, .string v.s, .int .i64 v.n] 55)) B F tb X L L v mb ao cap where
  tab := (Below.heap_alloc _ _ _ (Array.getElem?_eq_some_iff.1 h0).1).trans h0
  row := h1.alloc _
  map := let ⟨D, a, b⟩ := h3; ⟨D, a.alloc _, b⟩
  box := (MapKept.heap_alloc w _).1
  size := by simp
  turns := (Turns.refl _ _).alloc _
  ftb := h4
  fmb := Or.inl h5
  fsv := h6
  fB := h7
  ok := h8

/-- The table had no map yet. -/
theorem mid_none {w : World} {B : Nat} {F : Nat → Prop} {tb : Nat} {X : Ex} {L : List V} {v : V} {ao : Option Addr} {cap : Nat} (hL : L = []) (h0 : w.heap[tb]? = some (.cells #[.map none, .slice ao L.length cap, X.a, X.b, X.c, X.d, X.e, X.f] 70 (0, 0)))
    (h1 : w.ownsRow 0 55 3 (.slice ao L.length cap) L.length (L.flatMap V.cells))
    (h4 : F tb) (h6 : ∀ sb, (Value.slice ao L.length cap).ownBlock = some sb → F sb) (h7 : ∀ k, F k → B ≤ k ∧ k < w.heap.size) :
    Mid w (((w.setCell ⟨tb, 0, none⟩ (.map (some (w.heap.size + 1)))).alloc (.cells #[.bool v.k, .string v.s, .int .i64 v.n] 55)).alloc (.map #[] 0)) B F tb X L L v (w.heap.size + 1) ao cap := by
  subst hL
  have hlt : tb < w.heap.size := (Array.getElem?_eq_some_iff.1 h0).1
  have e0 : (w.setCell ⟨tb, 0, none⟩ (.map (some (w.heap.size + 1)))).heap[tb]? = some (.cells #[.map (some (w.heap.size + 1)), .slice ao ([] : List V).length cap, X.a, X.b, X.c, X.d, X.e, X.f] 70 (0, 0)) := by
    show (w.heap.modify tb _)[tb]? = _
    rw [Array.getElem?_modify, if_pos rfl, h0]
    rfl
  have hs : (w.setCell ⟨tb, 0, none⟩ (.map (some (w.heap.size + 1)))).heap.size = w.heap.size := by simp
  have e1 : ∀ o, ((w.setCell ⟨tb, 0, none⟩ (.map (some (w.heap.size + 1)))).alloc o).heap.size = w.heap.size + 1 := fun o => by simp
  refine ⟨?_, ?_, ⟨.map [], ?_, reads_nil⟩, ?_, by simp; omega, ((Turns.refl F w).setCell (fun _ => h4) _).alloc _ |>.alloc _, h4, Or.inr (by omega), h6, h7, fun u hu => by simp at hu⟩
  · rw [Below.heap_alloc _ _ _ (by simp; omega), Below.heap_alloc _ _ _ (by simp; omega)]; exact e0
  · refine ((ownsRow_block h1 (fun k hk => Below.heap_setCell _ _ _ _ (fun e => ?_))).alloc _).alloc _
    obtain ⟨cur, h2⟩ := row_block h1 hk
    simp at e
    rw [e, h0] at h2
    simp at h2
  · have := World.ownsMap_made (H := Unit) ((w.setCell ⟨tb, 0, none⟩ (.map (some (w.heap.size + 1)))).alloc (.cells #[.bool v.k, .string v.s, .int .i64 v.n] 55)) Try.prog 55 (plainElem Try.prog 3)
    rw [e1] at this
    exact this
  · rw [Below.heap_alloc _ _ _ (by simp)]
    have := (MapKept.heap_alloc (w.setCell ⟨tb, 0, none⟩ (.map (some (w.heap.size + 1)))) (.cells #[.bool v.k, .string v.s, .int .i64 v.n] 55)).1
    rw [hs] at this
    exact this
end Go.Proofs.Ytkkpcphmojegmaa

/-
  Contract of symtab's finder.add: a value that isn't there is put at the end; nothing turns but the table's own blocks.
-/
namespace Go.Proofs.Ytkkpcphmojegmaa
set_option linter.unusedSimpArgs false
set_option linter.unusedVariables false
set_option linter.unusedSectionVars false
set_option maxRecDepth 100000
open Go.RowKit Go.Maps
variable [DecidableEq V]

/-- append onto a slice of the call's own, as one step of a region that draws its order; with where the new one lies. -/
theorem step_append_own {P : Program} {ops : Array Oper} {o : Oper} {a : Act} {w : World} {K : Act → World → Prop} {Q : Exit → Act → World → Prop} {E : Prop}
    (hg : o.guard = none) (s x : Operand) (t : TypeId) (hop : o.op = Op.call { callee := Callee.builtin Builtin.append, args := #[s, x], argTypes := #[t, t] })
    (e : TypeId) (i : TypeInfo) (z : Value) (size bytes : Nat) (h1 : P.underlying t = some (.slice e)) (h2 : P.info? e = some i) (h3 : i.zero = some z) (h4 : i.size = size) (h5 : i.bytes = bytes) (h6 : z.cells.size = size) (h7 : 0 < size)
    (v : Value) (n : Nat) (xs : List Value) (hs : a.eval s = v) (hown : w.ownsRow 0 e size v n xs)
    (ad : Addr) (m c : Nat) (news : List Value) (hx : a.eval x = .slice (some ad) m c) (hn : news.length = m * size) (hc : ∀ j u, news[j]? = some u → w.cell? (ad.add j) = some u) (h1c : ∀ u ∈ news, u.oneCell' = true)
    (b1 : n + m ≤ maxLen) (b2 : (n + m) * bytes ≤ 140737488355328)
    (hK : ∀ v' w', w'.ownsRow 0 e size v' (n + m) (xs ++ news) → w.grownBy w' v.ownBlock → (v'.ownBlock = v.ownBlock ∨ v'.ownBlock = some w.heap.size) → K (a.put o.dst v') w') :
    if Region.wanted o (yielded ops a.tmps) = true then Oper.wp P o a w K Q else E := by
  have hw : Region.wanted o (yielded ops a.tmps) = true := by simp [Region.wanted, hg]
  rw [if_pos hw]
  obtain ⟨v', w', hrun, r1, r2, _, r3⟩ := run_append_own_at (P := P) w 0 t o.type e i z size bytes h1 h2 h3 h4 h5 h6 h7 v n xs hown ad m c news hn hc h1c b1 b2 (Nat.zero_le _)
  unfold Oper.wp
  simp [execOp, hop, resolve, invoke, builtin, hs, hx, hrun, Result.andThen]
  exact hK v' w' r1 r2 r3

set_option maxHeartbeats 3200000 in
set_option maxRecDepth 100000 in
theorem add_any {w : World} {B : Nat} {F : Nat → Prop} {tb : Nat} {X : Ex} {L : List V} (hT : Tbl w B F tb X L) {v : V} (hv : v.Ok) (hn : v ∉ L) (hL : L.length < 1000000) :
    Calls Try.prog 43 #[.pointer (some ⟨tb, 0, none⟩), .agg #[.bool v.k, .string v.s, .int .i64 v.n]] w
      fun e w' => e = .returned (.int .i64 (L.length : Nat)) ∧ Turns F w w' ∧ Tbl w' B (fun k => F k ∨ w.heap.size ≤ k ∧ k < w'.heap.size) tb X (L ++ [v]) := by
  have hlt := hT.lt
  obtain ⟨mo, sv, h0, h1, h2, h3, h4, h5, h6, h7, h8⟩ := hT
  have c0 : w.cell? ⟨tb, 0, none⟩ = some (.map mo) := by rw [cell_of_row w tb 0 _ _ _ h0]; rfl
  have c1 : w.cell? ⟨tb, 1, none⟩ = some sv := by rw [cell_of_row w tb 1 _ _ _ h0]; rfl
  have f0 : w.frozen? ⟨tb, 0, none⟩ = false := by simp [World.frozen?, h0]
  have f1 : w.frozen? ⟨tb, 1, none⟩ = false := by simp [World.frozen?, h0]
  obtain ⟨ao, cap, hsv⟩ : ∃ ao cap, sv = .slice ao L.length cap := by
    rcases h1.2 with ⟨rfl, hn⟩ | ⟨g, cap, cur, rfl, _⟩
    · exact ⟨none, 0, by rw [hn]⟩
    · exact ⟨_, _, rfl⟩
  subst hsv
  obtain ⟨i0, hi, hz0, hz1, hz2⟩ := info_parts infoVal
  have he1 := eqlSome
  have he2 := eqlNil
  have hmm := @run_makeMap Try.prog
  cases mo with
  | none =>
    have HM := Lib.hid (mid_none (v := v) (h2 rfl) h0 h1 h4 h6 h7)
    clear h0 h1 h2 h3 h4 h5 h6 h7 h8
    go_enter Try.func43, Try.ntmps43
    go_wp2
    generalize (((w.setCell { block := tb, off := 0 } (Value.map (some (w.heap.size + 1)))).alloc (Obj.cells #[Value.bool v.k, Value.string v.s, Value.int IntKind.i64 v.n] 55)).alloc (Obj.map #[] 0)) = W at HM ⊢
    generalize w.heap.size + 1 = mb at HM ⊢
    clear c0 c1 f0 f1 he1 he2 hmm
    obtain ⟨w2, hrun, hM2⟩ := HM.out.store hv hn hL
    have HM2 := Lib.hid hM2
    obtain ⟨p0, p1, p2, p3, p4, p5, p6⟩ := HM.out.cells
    obtain ⟨q0, q1, q2, q3, q4, q5, q6⟩ := HM2.out.cells
    clear hM2 HM
    go_region
    go_wp2
    clear hrun p0 p1 p2 p3 p4 p5 p6
    have HR : Hid ((w2.drew.alloc (.cells #[.bool v.k, .string v.s, .int .i64 v.n] 55)).ownsRow 0 55 3 (.slice ao L.length cap) L.length (L.flatMap V.cells)) := (HM2.out.drew.alloc _).row
    have HC : Hid (∀ (w3 : World), (w2.drew.alloc (.cells #[.bool v.k, .string v.s, .int .i64 v.n] 55)).grownBy w3 (Value.slice ao L.length cap).ownBlock → w3.cell? ⟨tb, 1, none⟩ = some (.slice ao L.length cap) ∧ w3.frozen? ⟨tb, 1, none⟩ = false ∧ tb < w3.heap.size) := fun w3 hg => (HM2.out.drew.alloc _).cells3 hg
    have HD : Hid (∀ (w3 : World) (v' : Value), (w2.drew.alloc (.cells #[.bool v.k, .string v.s, .int .i64 v.n] 55)).grownBy w3 (Value.slice ao L.length cap).ownBlock → w3.ownsRow 0 55 3 v' (L.length + 1) (L.flatMap V.cells ++ v.cells) →
        (v'.ownBlock = (Value.slice ao L.length cap).ownBlock ∨ v'.ownBlock = some (w2.drew.alloc (.cells #[.bool v.k, .string v.s, .int .i64 v.n] 55)).heap.size) →
        Turns F w (w3.setCell ⟨tb, 1, none⟩ v') ∧ Tbl (w3.setCell ⟨tb, 1, none⟩ v') B (fun k => F k ∨ w.heap.size ≤ k ∧ k < (w3.setCell ⟨tb, 1, none⟩ v').heap.size) tb X (L ++ [v])) := fun w3 v' hg hr hl => (HM2.out.drew.alloc _).done hv hg hr hl
    clear HM2
    go_region_law (refine step_append_own rfl (.tmp 30) (.tmp 32) 30 rfl 55 i0 _ 3 32 Try.underlying30 hi hz0 hz1 hz2 rfl (by decide) (.slice ao L.length cap) L.length (L.flatMap V.cells) (by simp [Act.eval, Act.put]) HR.out ⟨w2.heap.size, 0, none⟩ 1 1 [.bool v.k, .string v.s, .int .i64 v.n] (by simp [Act.eval, Act.put]) rfl (three_new _ _ _ _ _) (by simp [Value.oneCell']) (by unfold maxLen; omega) (by omega) ?_; intro v' w3 hr3 hg3 hl3; obtain ⟨s1, s2, s3⟩ := HC.out w3 hg3; obtain ⟨s4, s5⟩ := HD.out w3 v' hg3 hr3 hl3; obtain ⟨g', cap', hv'⟩ := Joins.ownsRow_form hr3 (Nat.succ_pos _); subst hv'; have HE := Lib.hid (And.intro s4 s5); clear s4 s5 hr3 hg3 hl3)
    all_goals
      go_wp2
      go_ret
      exact ⟨rfl, HE.out.1, HE.out.2⟩
  | some mb =>
    have HM := Lib.hid (mid_some (v := v) h0 h1 (h3 mb rfl) h4 (h5 mb rfl) h6 h7 h8)
    clear h0 h1 h2 h3 h4 h5 h6 h7 h8
    go_enter Try.func43, Try.ntmps43
    go_wp2
    generalize (w.alloc (Obj.cells #[Value.bool v.k, Value.string v.s, Value.int IntKind.i64 v.n] 55)) = W at HM ⊢
    clear c0 c1 f0 f1 he1 he2 hmm
    obtain ⟨w2, hrun, hM2⟩ := HM.out.store hv hn hL
    have HM2 := Lib.hid hM2
    obtain ⟨p0, p1, p2, p3, p4, p5, p6⟩ := HM.out.cells
    obtain ⟨q0, q1, q2, q3, q4, q5, q6⟩ := HM2.out.cells
    clear hM2 HM
    go_region
    go_wp2
    clear hrun p0 p1 p2 p3 p4 p5 p6
    have HR : Hid ((w2.drew.alloc (.cells #[.bool v.k, .string v.s, .int .i64 v.n] 55)).ownsRow 0 55 3 (.slice ao L.length cap) L.length (L.flatMap V.cells)) := (HM2.out.drew.alloc _).row
    have HC : Hid (∀ (w3 : World), (w2.drew.alloc (.cells #[.bool v.k, .string v.s, .int .i64 v.n] 55)).grownBy w3 (Value.slice ao L.length cap).ownBlock → w3.cell? ⟨tb, 1, none⟩ = some (.slice ao L.length cap) ∧ w3.frozen? ⟨tb, 1, none⟩ = false ∧ tb < w3.heap.size) := fun w3 hg => (HM2.out.drew.alloc _).cells3 hg
    have HD : Hid (∀ (w3 : World) (v' : Value), (w2.drew.alloc (.cells #[.bool v.k, .string v.s, .int .i64 v.n] 55)).grownBy w3 (Value.slice ao L.length cap).ownBlock → w3.ownsRow 0 55 3 v' (L.length + 1) (L.flatMap V.cells ++ v.cells) →
        (v'.ownBlock = (Value.slice ao L.length cap).ownBlock ∨ v'.ownBlock = some (w2.drew.alloc (.cells #[.bool v.k, .string v.s, .int .i64 v.n] 55)).heap.size) →
        Turns F w (w3.setCell ⟨tb, 1, none⟩ v') ∧ Tbl (w3.setCell ⟨tb, 1, none⟩ v') B (fun k => F k ∨ w.heap.size ≤ k ∧ k < (w3.setCell ⟨tb, 1, none⟩ v').heap.size) tb X (L ++ [v])) := fun w3 v' hg hr hl => (HM2.out.drew.alloc _).done hv hg hr hl
    clear HM2
    go_region_law (refine step_append_own rfl (.tmp 30) (.tmp 32) 30 rfl 55 i0 _ 3 32 Try.underlying30 hi hz0 hz1 hz2 rfl (by decide) (.slice ao L.length cap) L.length (L.flatMap V.cells) (by simp [Act.eval, Act.put]) HR.out ⟨w2.heap.size, 0, none⟩ 1 1 [.bool v.k, .string v.s, .int .i64 v.n] (by simp [Act.eval, Act.put]) rfl (three_new _ _ _ _ _) (by simp [Value.oneCell']) (by unfold maxLen; omega) (by omega) ?_; intro v' w3 hr3 hg3 hl3; obtain ⟨s1, s2, s3⟩ := HC.out w3 hg3; obtain ⟨s4, s5⟩ := HD.out w3 v' hg3 hr3 hl3; obtain ⟨g', cap', hv'⟩ := Joins.ownsRow_form hr3 (Nat.succ_pos _); subst hv'; have HE := Lib.hid (And.intro s4 s5); clear s4 s5 hr3 hg3 hl3)
    all_goals
      go_wp2
      go_ret
      exact ⟨rfl, HE.out.1, HE.out.2⟩
end Go.Proofs.Ytkkpcphmojegmaa
