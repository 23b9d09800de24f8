/-
  What a relation is in memory: its table, the map and the list of its rows; how it stays. Plain facts; no walk.
-/
import Derived.Test.YtkkpcphmojegmaaRTPut
namespace Go.Proofs.Ytkkpcphmojegmaa
set_option linter.unusedSimpArgs false
set_option linter.unusedVariables false
set_option linter.unusedSectionVars false
set_option maxRecDepth 100000
open Go.RowKit Go.Maps
variable [DecidableEq V]

def vZ : V := ⟨false, ⟨#[]⟩, 0⟩
/-- A row's values, by their numbers. -/
def rowOf (L : List V) (q : List Nat) : List V := q.map (fun i => L.getD i vZ)
theorem getD_lt {L : List V} {i : Nat} (h : i < L.length) : L.getD i vZ = L[i] := by rw [List.getD_eq_getElem?_getD, List.getElem?_eq_getElem h]; rfl
theorem rowOf_nums {L vs : List V} (h : ∀ v ∈ vs, v.bare ∈ L) : rowOf L (numsOf L vs) = vs.map V.bare := by
  unfold rowOf numsOf
  rw [List.map_map]
  apply List.map_congr_left
  intro v hv
  have hlt := List.idxOf_lt_length_iff.2 (h v hv)
  simp only [Function.comp]
  rw [getD_lt hlt]
  exact List.getElem_idxOf hlt
theorem nodup_at {L : List V} (hn : L.Nodup) {a b : Nat} (ha : a < L.length) (hb : b < L.length) (h : L[a] = L[b]) : a = b := by
  rcases Nat.lt_trichotomy a b with c | c | c
  · exact absurd h (List.pairwise_iff_getElem.1 hn a b ha hb c)
  · exact c
  · exact absurd h.symm (List.pairwise_iff_getElem.1 hn b a hb ha c)
theorem rowOf_inj {L : List V} (hn : L.Nodup) : ∀ {q r : List Nat}, (∀ n ∈ q, n < L.length) → (∀ n ∈ r, n < L.length) → rowOf L q = rowOf L r → q = r := by
  intro q
  induction q with
  | nil => intro r _ _ h; cases r with
           | nil => rfl
           | cons b r => simp [rowOf] at h
  | cons a q ih =>
    intro r hq hr h
    cases r with
    | nil => simp [rowOf] at h
    | cons b r =>
      simp only [rowOf, List.map_cons, List.cons.injEq] at h
      have ha := hq a (by simp)
      have hb := hr b (by simp)
      rw [getD_lt ha, getD_lt hb] at h
      have := nodup_at hn ha hb h.1
      rw [this, ih (fun n hn => hq n (by simp [hn])) (fun n hn => hr n (by simp [hn])) h.2]
theorem addV_pre (L : List V) (b : V) : ∃ E, addV L b = L ++ E := by
  unfold addV
  split
  · exact ⟨[], by simp⟩
  · exact ⟨[b], rfl⟩
theorem addAll_pre (vs : List V) : ∀ L : List V, ∃ E, addAll L vs = L ++ E := by
  induction vs with
  | nil => intro L; exact ⟨[], by simp [addAll]⟩
  | cons v vs ih =>
    intro L
    obtain ⟨E1, h1⟩ := addV_pre L v.bare
    obtain ⟨E2, h2⟩ := ih (addV L v.bare)
    refine ⟨E1 ++ E2, ?_⟩
    show addAll (addV L v.bare) vs = _
    rw [h2, h1, List.append_assoc]
theorem addAll_all {P : V → Prop} (vs : List V) : ∀ L : List V, (∀ v ∈ L, P v) → (∀ v ∈ vs, P v.bare) → ∀ v ∈ addAll L vs, P v := by
  induction vs with
  | nil => intro L h _; simpa [addAll] using h
  | cons a vs ih =>
    intro L h h2
    show ∀ v ∈ addAll (addV L a.bare) vs, P v
    apply ih
    · intro v hv
      rcases mem_addV.1 hv with hv | rfl
      · exact h v hv
      · exact h2 a (by simp)
    · exact fun v hv => h2 v (by simp [hv])
theorem addV_nodup {L : List V} {b : V} (h : L.Nodup) : (addV L b).Nodup := by
  unfold addV
  split
  · exact h
  · rename_i hb
    refine List.nodup_append.2 ⟨h, by simp, fun a ha c hc e => ?_⟩
    simp at hc
    subst e hc
    exact hb ha
theorem addAll_nodup (vs : List V) : ∀ L : List V, L.Nodup → (addAll L vs).Nodup := by
  induction vs with
  | nil => intro L h; simpa [addAll] using h
  | cons a vs ih => intro L h; exact ih _ (addV_nodup h)
theorem addAll_in (vs : List V) : ∀ L : List V, ∀ v ∈ vs, v.bare ∈ addAll L vs := by
  induction vs with
  | nil => intro L v hv; simp at hv
  | cons a vs ih =>
    intro L v hv
    show v.bare ∈ addAll (addV L a.bare) vs
    rcases List.mem_cons.1 hv with rfl | hv
    · obtain ⟨E, e⟩ := addAll_pre vs (addV L v.bare)
      rw [e]
      exact List.mem_append_left _ (mem_addV.2 (.inr rfl))
    · exact ih _ v hv
theorem addAll_same {vs : List V} : ∀ {L : List V}, (∀ v ∈ vs, v.bare ∈ L) → addAll L vs = L := by
  induction vs with
  | nil => intro L _; rfl
  | cons a vs ih =>
    intro L h
    show addAll (addV L a.bare) vs = L
    have e : addV L a.bare = L := by unfold addV; rw [if_pos (h a (by simp))]
    rw [e]
    exact ih fun v hv => h v (by simp [hv])
theorem rowOf_pre {L E : List V} {q : List Nat} (h : ∀ n ∈ q, n < L.length) : rowOf (L ++ E) q = rowOf L q := by
  unfold rowOf
  apply List.map_congr_left
  intro n hn
  have := h n hn
  rw [getD_lt this, getD_lt (by simp; omega), List.getElem_append_left this]

/-- A RELATION: block rb holds the table (its blocks: FT), the map and the list of its rows (their blocks: FR). -/
structure Rl (w : World) (B : Nat) (FT FR : Nat → Prop) (rb ar : Nat) (L : List V) (RS : List (List Nat)) (to : Option Nat) (rv : Value) (s1 s2 : Nat) : Prop where
  tab : Tbl w B FT rb ⟨.int .i64 (ar : Int), .map to, rv, .int .i64 0, .int .i64 (s1 : Int), .int .i64 (s2 : Int)⟩ L
  nomap : to = none → RS = []
  map : ∀ mb, to = some mb → ∃ D, w.ownsMap Try.prog 72 unitElem mb RS.length D ∧ ReadsQ D ar RS
  row : w.ownsRow 0 72 6 rv RS.length (RS.flatMap six)
  fm : ∀ mb, to = some mb → FR mb
  fr : ∀ sb, rv.ownBlock = some sb → FR sb
  low : ∀ k, FR k → B ≤ k ∧ k < w.heap.size
  dis : ∀ k, FR k → ¬ FT k
  rows : ∀ q ∈ RS, q.length = ar ∧ ∀ n ∈ q, n < L.length
  nd : RS.Nodup
  ndL : L.Nodup
  bareL : ∀ v ∈ L, v.bare = v
  ar6 : ar ≤ 6
  h1 : s1 ≤ s2
  h2 : s2 ≤ RS.length
theorem Rl.lowT {w : World} {B : Nat} {FT FR : Nat → Prop} {rb ar : Nat} {L : List V} {RS : List (List Nat)} {to : Option Nat} {rv : Value} {s1 s2 : Nat} (h : Rl w B FT FR rb ar L RS to rv s1 s2) : FT rb ∧ ∀ k, FT k → B ≤ k ∧ k < w.heap.size := by
  obtain ⟨_, _, _, _, _, _, h4, _, _, h7, _⟩ := h.tab
  exact ⟨h4, h7⟩
theorem Rl.turns {w w' : World} {B : Nat} {FT FR G : Nat → Prop} {rb ar : Nat} {L : List V} {RS : List (List Nat)} {to : Option Nat} {rv : Value} {s1 s2 : Nat} (h : Rl w B FT FR rb ar L RS to rv s1 s2) (ht : Turns G w w') (hG : ∀ k, G k → ¬ FT k ∧ ¬ FR k) : Rl w' B FT FR rb ar L RS to rv s1 s2 where
  tab := h.tab.turns ht (fun k g => (hG k g).1)
  nomap := h.nomap
  map := fun mb e => let ⟨D, a, b⟩ := h.map mb e; ⟨D, ownsMap_block a (ht.block mb (h.low mb (h.fm mb e)).2 (fun g => (hG mb g).2 (h.fm mb e))), b⟩
  row := ownsRow_block h.row (fun k hk => ht.block k (h.low k (h.fr k hk)).2 (fun g => (hG k g).2 (h.fr k hk)))
  fm := h.fm
  fr := h.fr
  low := fun k hk => ⟨(h.low k hk).1, Nat.lt_of_lt_of_le (h.low k hk).2 ht.size⟩
  dis := h.dis
  rows := h.rows
  nd := h.nd
  ndL := h.ndL
  bareL := h.bareL
  ar6 := h.ar6
  h1 := h.h1
  h2 := h.h2
/-- Behind a put into the table. -/
theorem Rl.put {w w' : World} {B : Nat} {FT FR : Nat → Prop} {rb ar : Nat} {L vs : List V} {RS : List (List Nat)} {to : Option Nat} {rv : Value} {s1 s2 : Nat} (h : Rl w B FT FR rb ar L RS to rv s1 s2) (ht : Turns FT w w')
    (hT : Tbl w' B (fun k => FT k ∨ w.heap.size ≤ k ∧ k < w'.heap.size) rb ⟨.int .i64 (ar : Int), .map to, rv, .int .i64 0, .int .i64 (s1 : Int), .int .i64 (s2 : Int)⟩ (addAll L vs)) : Rl w' B (fun k => FT k ∨ w.heap.size ≤ k ∧ k < w'.heap.size) FR rb ar (addAll L vs) RS to rv s1 s2 where
  tab := hT
  nomap := h.nomap
  map := fun mb e => let ⟨D, a, b⟩ := h.map mb e; ⟨D, ownsMap_block a (ht.block mb (h.low mb (h.fm mb e)).2 (h.dis mb (h.fm mb e))), b⟩
  row := ownsRow_block h.row (fun k hk => ht.block k (h.low k (h.fr k hk)).2 (h.dis k (h.fr k hk)))
  fm := h.fm
  fr := h.fr
  low := fun k hk => ⟨(h.low k hk).1, Nat.lt_of_lt_of_le (h.low k hk).2 ht.size⟩
  dis := fun k hk g => g.elim (h.dis k hk) (fun g => by have := (h.low k hk).2; omega)
  rows := fun q hq => ⟨(h.rows q hq).1, fun n hn => by
    obtain ⟨E, e⟩ := addAll_pre vs L
    have := (h.rows q hq).2 n hn
    rw [e, List.length_append]; omega⟩
  nd := h.nd
  ndL := addAll_nodup vs L h.ndL
  bareL := addAll_all vs L h.bareL (fun v _ => V.bare_bare v)
  ar6 := h.ar6
  h1 := h.h1
  h2 := h.h2
theorem Rl.below {w w' : World} {B : Nat} {FT FR : Nat → Prop} {rb ar : Nat} {L : List V} {RS : List (List Nat)} {to : Option Nat} {rv : Value} {s1 s2 : Nat} (h : Rl w B FT FR rb ar L RS to rv s1 s2) (hb : Below w.heap.size w w') : Rl w' B FT FR rb ar L RS to rv s1 s2 :=
  h.turns (Turns.of_below (F := fun _ => False) hb) (fun _ h => h.elim)
/-- Its own block's cells. -/
theorem Rl.cells {w : World} {B : Nat} {FT FR : Nat → Prop} {rb ar : Nat} {L : List V} {RS : List (List Nat)} {to : Option Nat} {rv : Value} {s1 s2 : Nat} (h : Rl w B FT FR rb ar L RS to rv s1 s2) :
    w.cell? ⟨rb, 2, none⟩ = some (.int .i64 (ar : Int)) ∧ w.cell? ⟨rb, 3, none⟩ = some (.map to) ∧ w.cell? ⟨rb, 4, none⟩ = some rv ∧ w.cell? ⟨rb, 5, none⟩ = some (.int .i64 0) ∧ w.cell? ⟨rb, 6, none⟩ = some (.int .i64 (s1 : Int)) ∧ w.cell? ⟨rb, 7, none⟩ = some (.int .i64 (s2 : Int)) ∧ rb < w.heap.size ∧ ∀ o, w.frozen? ⟨rb, o, none⟩ = false := by
  have hlt := h.tab.lt
  obtain ⟨mo, sv, h0, -⟩ := h.tab
  exact ⟨by rw [cell_of_row w rb 2 _ _ _ h0]; rfl, by rw [cell_of_row w rb 3 _ _ _ h0]; rfl, by rw [cell_of_row w rb 4 _ _ _ h0]; rfl, by rw [cell_of_row w rb 5 _ _ _ h0]; rfl, by rw [cell_of_row w rb 6 _ _ _ h0]; rfl, by rw [cell_of_row w rb 7 _ _ _ h0]; rfl, hlt, fun o => by simp [World.frozen?, h0]⟩
theorem Rl.form {w : World} {B : Nat} {FT FR : Nat → Prop} {rb ar : Nat} {L : List V} {RS : List (List Nat)} {to : Option Nat} {rv : Value} {s1 s2 : Nat} (h : Rl w B FT FR rb ar L RS to rv s1 s2) : ∃ ao cap, rv = .slice ao RS.length cap := by
  rcases h.row.2 with ⟨h1, h2⟩ | ⟨g, cap, cur, h1, -⟩
  · exact ⟨_, _, by rw [h1, h2]⟩
  · exact ⟨_, _, h1⟩
theorem nums_ok {L vs : List V} (hL : L.length < 1000000000) (h6 : vs.length ≤ 6) (h : ∀ v ∈ vs, v.bare ∈ L) : QOk (numsOf L vs) ∧ ∀ n ∈ numsOf L vs, n < L.length := by
  have : ∀ n ∈ numsOf L vs, n < L.length := by
    intro n hn
    obtain ⟨v, hv, rfl⟩ := List.mem_map.1 hn
    exact List.idxOf_lt_length_iff.2 (h v hv)
  exact ⟨⟨by simpa [numsOf] using h6, fun n hn => by have := this n hn; omega⟩, this⟩
/-- A look into the map of rows. -/
theorem Rl.look {w : World} {B : Nat} {FT FR : Nat → Prop} {rb ar : Nat} {L : List V} {RS : List (List Nat)} {to : Option Nat} {rv : Value} {s1 s2 : Nat} (h : Rl w B FT FR rb ar L RS to rv s1 s2) {q : List Nat} (hq : QOk q) (hl : q.length = ar) {w1 : World} (hw : ∀ k, k < w.heap.size → w1.heap[k]? = w.heap[k]?) :
    (Instr.lookup 66 (.map to) (.agg #[.int .i64 (q.getD 0 0 : Nat), .int .i64 (q.getD 1 0 : Nat), .int .i64 (q.getD 2 0 : Nat), .int .i64 (q.getD 3 0 : Nat), .int .i64 (q.getD 4 0 : Nat), .int .i64 (q.getD 5 0 : Nat)]) true).run Try.prog w1 = .ok (.tuple #[.agg #[], .bool (decide (q ∈ RS))]) w1 := by
  cases to with
  | none =>
    have e := h.nomap rfl
    have := Maps.look_nil (w := w1) true lawNum Try.underlying66 (zeroUnit _) (keyNum hq)
    rw [e]
    simpa using this
  | some mb =>
    obtain ⟨D, a, b⟩ := h.map mb rfl
    have a1 := ownsMap_block (w' := w1) a (hw mb (h.low mb (h.fm mb rfl)).2)
    obtain ⟨x, ps, hrun, hx⟩ := a1.look_ok lawNum Try.underlying66 (zeroUnit _) (zd := .agg []) (zp := []) rfl (keyNum hq)
    rw [unitElem_inv hx, b q hq hl] at hrun
    exact hrun
end Go.Proofs.Ytkkpcphmojegmaa
