/-
  Plain facts for a relation's Add: what stands in memory between its statements.
-/
import Derived.Test.YtkkpcphmojegmaaRRel
namespace Go.Proofs.Ytkkpcphmojegmaa
set_option linter.unusedSimpArgs false
set_option linter.unusedVariables false
set_option linter.unusedSectionVars false
set_option maxRecDepth 100000
open Go.RowKit Go.Maps
variable [DecidableEq V]

/-- A store into one of the relation's other cells. -/
theorem Tbl.set {w : World} {B : Nat} {F : Nat → Prop} {tb : Nat} {X Y : Ex} {L : List V} (h : Tbl w B F tb X L) (o : Nat) (v : Value)
    (hX : ∀ m s : Value, (#[m, s, X.a, X.b, X.c, X.d, X.e, X.f] : Array Value).setIfInBounds o v = #[m, s, Y.a, Y.b, Y.c, Y.d, Y.e, Y.f]) : Tbl (w.setCell ⟨tb, o, none⟩ v) B F tb Y L := by
  have hlt := h.lt
  obtain ⟨mo, sv, h0, h1, h2, h3, h4, h5, h6, h7, h8⟩ := h
  have e0 := heap_setCell_same w tb o _ _ v h0
  rw [hX] at e0
  have nb : ∀ k, F k → k ≠ tb → (w.setCell ⟨tb, o, none⟩ v).heap[k]? = w.heap[k]? := fun k _ hk => Below.heap_setCell _ _ _ _ hk
  refine ⟨mo, sv, e0, ownsRow_block h1 (fun k hk => Below.heap_setCell _ _ _ _ (fun e => ?_)), h2, fun mb e => ?_, h4, h5, h6, fun k hk => ?_, h8⟩
  · obtain ⟨cur, hc⟩ := row_block h1 hk
    simp at e
    rw [e, h0] at hc
    simp at hc
  · obtain ⟨D, a, b⟩ := h3 mb e
    refine ⟨D, ownsMap_block a (Below.heap_setCell _ _ _ _ (fun e' => ?_)), b⟩
    obtain ⟨es, cl, hb, _⟩ := a
    simp at e'
    rw [e', h0] at hb
    cases hb
  · have := h7 k hk
    simpa using this
theorem row_block6 {w : World} {e : TypeId} {v : Value} {n k : Nat} {xs : List Value} (h : w.ownsRow 0 e 6 v n xs) (hk : v.ownBlock = some k) : ∃ cur, w.heap[k]? = some (.cells cur e (0, 0)) := by
  rcases h.2 with ⟨rfl, _⟩ | ⟨g, cap', cur, rfl, _, h2, _⟩
  · simp [Value.ownBlock] at hk
  · simp [Value.ownBlock] at hk
    subst hk
    exact ⟨cur, h2⟩

/-- Inside Add: the list of rows tells RS, the map M; the row that came lies in block qb. -/
structure MidR (w W : World) (B : Nat) (FT FR : Nat → Prop) (rb ar : Nat) (L : List V) (RS M : List (List Nat)) (s1 s2 : Nat) (q : List Nat) (qb mb : Nat) (ao : Option Addr) (cap : Nat) : Prop where
  tab : Tbl W B FT rb ⟨.int .i64 (ar : Int), .map (some mb), .slice ao RS.length cap, .int .i64 0, .int .i64 (s1 : Int), .int .i64 (s2 : Int)⟩ L
  row : W.ownsRow 0 72 6 (.slice ao RS.length cap) RS.length (RS.flatMap six)
  map : ∃ D, W.ownsMap Try.prog 72 unitElem mb M.length D ∧ ReadsQ D ar M
  box : SixAt W qb q
  fmb : FR mb ∨ w.heap.size ≤ mb
  fsv : ∀ sb, (Value.slice ao RS.length cap).ownBlock = some sb → FR sb
  turns : Turns (fun k => FT k ∨ FR k) w W
  size : w.heap.size ≤ qb
  lowT : ∀ k, FT k → B ≤ k ∧ k < w.heap.size
  lowR : ∀ k, FR k → B ≤ k ∧ k < w.heap.size
  dis : ∀ k, FR k → ¬ FT k
  ftb : FT rb
section
variable {w W : World} {B : Nat} {FT FR : Nat → Prop} {rb ar : Nat} {L : List V} {RS M : List (List Nat)} {s1 s2 : Nat} {q : List Nat} {qb mb : Nat} {ao : Option Addr} {cap : Nat}

theorem MidR.cells (h : MidR w W B FT FR rb ar L RS M s1 s2 q qb mb ao cap) : W.cell? ⟨rb, 3, none⟩ = some (.map (some mb)) ∧ W.cell? ⟨rb, 4, none⟩ = some (.slice ao RS.length cap) ∧ W.frozen? ⟨rb, 4, none⟩ = false ∧ rb < W.heap.size := by
  have hlt := h.tab.lt
  obtain ⟨mo, sv, h0, -⟩ := h.tab
  exact ⟨by rw [cell_of_row W rb 3 _ _ _ h0]; rfl, by rw [cell_of_row W rb 4 _ _ _ h0]; rfl, by simp [World.frozen?, h0], hlt⟩
theorem MidR.nots (h : MidR w W B FT FR rb ar L RS M s1 s2 q qb mb ao cap) : ¬ FT mb ∧ ¬ FT qb ∧ ¬ FR qb ∧ mb ≠ qb ∧ (Value.slice ao RS.length cap).ownBlock ≠ some mb ∧ (Value.slice ao RS.length cap).ownBlock ≠ some rb ∧ mb ≠ rb := by
  obtain ⟨D, ⟨es, cl, hb, _⟩, _⟩ := h.map
  have hs := h.size
  have nT : ¬ FT mb := fun g => by
    rcases h.fmb with h' | h'
    · exact h.dis _ h' g
    · have := (h.lowT _ g).2; omega
  refine ⟨nT, fun g => by have := (h.lowT _ g).2; omega, fun g => by have := (h.lowR _ g).2; omega, fun e => ?_, fun e => ?_, fun e => h.dis _ (h.fsv _ e) h.ftb, fun e => nT (e ▸ h.ftb)⟩
  · have hx := h.box
    unfold SixAt at hx
    rw [← e, hb] at hx; cases hx
  · obtain ⟨cur, h2⟩ := row_block6 h.row e
    rw [hb] at h2; cases h2
theorem MidR.below {W' : World} (h : MidR w W B FT FR rb ar L RS M s1 s2 q qb mb ao cap) (hb : Below W.heap.size W W') : MidR w W' B FT FR rb ar L RS M s1 s2 q qb mb ao cap where
  tab := h.tab.below hb
  row := ownsRow_block h.row (fun k hk => hb.block k (h.row.lt k hk).2)
  map := let ⟨D, a, b⟩ := h.map; ⟨D, ownsMap_block a (hb.block mb a.lt), b⟩
  box := h.box.turns (Turns.of_below (F := fun _ => False) hb) (fun h => h)
  fmb := h.fmb
  fsv := h.fsv
  turns := h.turns.trans (Turns.of_below (F := fun _ => False) hb) (fun _ h => h.elim)
  size := h.size
  lowT := h.lowT
  lowR := h.lowR
  dis := h.dis
  ftb := h.ftb
/-- The map's store. -/
theorem MidR.store (h : MidR w W B FT FR rb ar L RS RS s1 s2 q qb mb ao cap) (hq : QOk q) (hl : q.length = ar) (hm : RS.length < 1000000) :
    ∃ w2, (Instr.mapUpdate 66 (.map (some mb)) (.agg #[.int .i64 (q.getD 0 0 : Nat), .int .i64 (q.getD 1 0 : Nat), .int .i64 (q.getD 2 0 : Nat), .int .i64 (q.getD 3 0 : Nat), .int .i64 (q.getD 4 0 : Nat), .int .i64 (q.getD 5 0 : Nat)]) (.agg #[])).run Try.prog W.drew = .ok () w2 ∧ MidR w w2 B FT FR rb ar L RS (RS ++ [q]) s1 s2 q qb mb ao cap := by
  obtain ⟨D, hown, hR⟩ := h.map
  obtain ⟨w2, hrun, hown2, hturn⟩ := (hown.drew).store lawNum Try.underlying66 (show RS.length < maxLen by unfold maxLen; omega) (keyNum hq) (show unitElem (.agg #[]) = some (.agg [], []) from rfl)
  have hg : W.grownBy w2 (some mb) := by have := hturn.grown; exact ⟨this.os, this.tape, this.output, this.size, this.block⟩
  obtain ⟨n1, n2, n3, n4, n5, n6, n7⟩ := h.nots
  have hT : Turns (fun k => k = mb) W w2 := (Turns.refl _ W).grown hg (fun k e _ => by cases e; rfl)
  refine ⟨w2, hrun, ⟨h.tab.turns hT (fun k e => by subst e; exact n1), ownsRow_block h.row (fun k hk => hg.block k (h.row.lt k hk).2 (fun e => ?_)), ⟨_, by simpa using hown2, readsQ_put hR hown.isMap hq hl _⟩, h.box.turns hT (fun e => n4 e.symm), h.fmb, h.fsv, h.turns.trans hT (fun i e hi => ?_), h.size, h.lowT, h.lowR, h.dis, h.ftb⟩⟩
  · cases e; exact n5 hk
  · subst e
    rcases h.fmb with h' | h'
    · exact .inr h'
    · omega
/-- Behind the append: the relation's own cells, ahead of the store of its list. -/
theorem MidR.cells3 {w3 : World} (h : MidR w W B FT FR rb ar L RS M s1 s2 q qb mb ao cap) (hg : W.grownBy w3 (Value.slice ao RS.length cap).ownBlock) : w3.cell? ⟨rb, 4, none⟩ = some (.slice ao RS.length cap) ∧ w3.frozen? ⟨rb, 4, none⟩ = false ∧ rb < w3.heap.size := by
  have hlt := h.tab.lt
  obtain ⟨mo, sv, h0, -⟩ := h.tab
  have e := (hg.block rb hlt (fun e => h.nots.2.2.2.2.2.1 e.symm)).trans h0
  exact ⟨by rw [cell_of_row w3 rb 4 _ _ _ e]; rfl, by simp [World.frozen?, e], (Array.getElem?_eq_some_iff.1 e).1⟩
/-- The store of the list's cell: the relation tells one row more. -/
theorem MidR.done {w3 : World} {v' : Value} (h : MidR w W B FT FR rb ar L RS (RS ++ [q]) s1 s2 q qb mb ao cap) {to : Option Nat} {rv : Value} (hR : Rl w B FT FR rb ar L RS to rv s1 s2) (hq : q.length = ar ∧ ∀ n ∈ q, n < L.length) (hn : q ∉ RS) (hg : W.grownBy w3 (Value.slice ao RS.length cap).ownBlock)
    (hr : w3.ownsRow 0 72 6 v' (RS.length + 1) (RS.flatMap six ++ six q)) (hloc : v'.ownBlock = (Value.slice ao RS.length cap).ownBlock ∨ v'.ownBlock = some W.heap.size) :
    Turns (fun k => FT k ∨ FR k) w (w3.setCell ⟨rb, 4, none⟩ v') ∧ Rl (w3.setCell ⟨rb, 4, none⟩ v') B FT (fun k => FR k ∨ w.heap.size ≤ k ∧ k < (w3.setCell ⟨rb, 4, none⟩ v').heap.size) rb ar L (RS ++ [q]) (some mb) v' s1 s2 := by
  obtain ⟨n1, n2, n3, n4, n5, n6, n7⟩ := h.nots
  have hT3 : Turns FR W w3 := (Turns.refl _ W).grown hg (fun k e _ => h.fsv k e)
  have hT : Turns (fun k => FT k ∨ FR k) w w3 := h.turns.trans hT3 (fun k g _ => .inr g)
  have tab3 := h.tab.turns hT3 (fun k g => h.dis k g)
  have tab4 := tab3.set (Y := ⟨.int .i64 (ar : Int), .map (some mb), v', .int .i64 0, .int .i64 (s1 : Int), .int .i64 (s2 : Int)⟩) 4 v' (fun m s => rfl)
  have hs := h.turns.size
  have hs3 := hT3.size
  have hwB : B ≤ w.heap.size := by have := h.lowT rb h.ftb; omega
  obtain ⟨D, hown, hRd⟩ := h.map
  have hne : v'.ownBlock ≠ some rb := by
    rcases hloc with hl | hl
    · rw [hl]; exact n6
    · rw [hl]; have := h.tab.lt; simp; omega
  refine ⟨hT.setCell (fun _ => .inl h.ftb) _, ⟨tab4, (fun e => by cases e), fun k ek => ?_, ?_, fun k ek => ?_, fun sb es => ?_, fun k hk => ?_, fun k hk => ?_, fun u hu => ?_, ?_, hR.ndL, hR.bareL, hR.ar6, hR.h1, (by have := hR.h2; simp; omega)⟩⟩
  · cases ek
    refine ⟨D, ownsMap_block hown ?_, hRd⟩
    rw [Below.heap_setCell _ _ _ _ n7]
    exact hg.block mb hown.lt (fun e => n5 e.symm)
  · have : w3.ownsRow 0 72 6 v' (RS ++ [q]).length ((RS ++ [q]).flatMap six) := by simpa using hr
    exact ownsRow_block this (fun k hk => Below.heap_setCell _ _ _ _ (fun e => hne (by rw [hk, e])))
  · cases ek
    rcases h.fmb with h' | h'
    · exact .inl h'
    · have := hown.lt; simp; omega
  · rcases hloc with hl | hl
    · exact .inl (h.fsv sb (hl ▸ es))
    · have hl' := (hr.lt sb es).2
      rw [es] at hl
      cases hl
      simp; omega
  · rcases hk with hk | hk
    · have := h.lowR k hk; simp; omega
    · exact ⟨by omega, hk.2⟩
  · rcases hk with hk | hk
    · exact h.dis k hk
    · exact fun g => by have := (h.lowT k g).2; omega
  · rcases List.mem_append.1 hu with hu | hu
    · exact hR.rows u hu
    · rw [List.mem_singleton.1 hu]; exact hq
  · refine List.nodup_append.2 ⟨hR.nd, by simp, fun a ha c hc e => ?_⟩
    simp at hc
    subst e hc
    exact hn ha
end
/-- The map is there already. -/
theorem midR_some {w W : World} {B : Nat} {FT FR : Nat → Prop} {rb ar : Nat} {L : List V} {RS : List (List Nat)} {s1 s2 : Nat} {q : List Nat} {qb mb : Nat} {ao : Option Addr} {cap : Nat} (hR : Rl w B FT FR rb ar L RS (some mb) (.slice ao RS.length cap) s1 s2) (hb : Below w.heap.size w W) (hx : SixAt W qb q) (hqb : w.heap.size ≤ qb) :
    MidR w W B FT FR rb ar L RS RS s1 s2 q qb mb ao cap :=
  have h := hR.below hb
  ⟨h.tab, h.row, h.map mb rfl, hx, .inl (h.fm mb rfl), h.fr, Turns.of_below hb, hqb, hR.lowT.2, hR.low, hR.dis, hR.lowT.1⟩
/-- There was no map yet. -/
theorem midR_none {w W : World} {B : Nat} {FT FR : Nat → Prop} {rb ar : Nat} {L : List V} {RS : List (List Nat)} {s1 s2 : Nat} {q : List Nat} {qb mb : Nat} {ao : Option Addr} {cap : Nat} (hR : Rl w B FT FR rb ar L RS none (.slice ao RS.length cap) s1 s2) (hb : Below w.heap.size w W) (hx : SixAt W qb q) (hqb : w.heap.size ≤ qb) (hmb : mb = W.heap.size) :
    MidR w ((W.setCell ⟨rb, 3, none⟩ (.map (some mb))).alloc (.map #[] 0)) B FT FR rb ar L RS RS s1 s2 q qb mb ao cap := by
  have h := hR.below hb
  subst hmb
  have hs := hb.size
  have hrb := hR.lowT.2 rb hR.lowT.1
  have tab1 := h.tab.set (Y := ⟨.int .i64 (ar : Int), .map (some W.heap.size), .slice ao RS.length cap, .int .i64 0, .int .i64 (s1 : Int), .int .i64 (s2 : Int)⟩) 3 (.map (some W.heap.size)) (fun m s => rfl)
  have hS : Turns (fun k => k = rb) W (W.setCell ⟨rb, 3, none⟩ (.map (some W.heap.size))) := (Turns.refl (fun k => k = rb) W).setCell (p := ⟨rb, 3, none⟩) (fun _ => rfl) _
  have hA : Below (W.setCell ⟨rb, 3, none⟩ (.map (some W.heap.size))).heap.size (W.setCell ⟨rb, 3, none⟩ (.map (some W.heap.size))) ((W.setCell ⟨rb, 3, none⟩ (.map (some W.heap.size))).alloc (.map #[] 0)) := (Below.refl _ _).alloc (Nat.le_refl _) _
  have hTA := Turns.of_below (F := fun _ => False) hA
  have e1 : (W.setCell ⟨rb, 3, none⟩ (.map (some W.heap.size))).heap.size = W.heap.size := by simp
  refine ⟨tab1.below hA, ?_, ⟨.map [], ?_, ?_⟩, (hx.turns hS (by omega)).turns hTA (fun h => h), .inr hs, hR.fr, ((Turns.of_below hb).trans hS (fun k e _ => .inl (e ▸ hR.lowT.1))).trans hTA (fun _ h => h.elim), hqb, hR.lowT.2, hR.low, hR.dis, hR.lowT.1⟩
  · refine (ownsRow_block h.row (fun k hk => Below.heap_setCell _ _ _ _ (fun e => ?_))).alloc _
    simp at e
    exact hR.dis _ (hR.fr k hk) (e ▸ hR.lowT.1)
  · have := World.ownsMap_made (H := Unit) (W.setCell ⟨rb, 3, none⟩ (.map (some W.heap.size))) Try.prog 72 unitElem
    rw [e1] at this
    rw [hR.nomap rfl]
    exact this
  · rw [hR.nomap rfl]; exact readsQ_nil ar
end Go.Proofs.Ytkkpcphmojegmaa

/-
  Contract of a relation's Add: a row that isn't there is added at the end; nothing turns but the relation's own blocks.
-/
namespace Go.Proofs.Ytkkpcphmojegmaa
set_option linter.unusedSimpArgs false
set_option linter.unusedVariables false
set_option linter.unusedSectionVars false
set_option maxRecDepth 100000
open Go.RowKit Go.Maps
variable [DecidableEq V]

/-- What Add answers: whether the row was new; the relation behind it. -/
def AddOut (w : World) (B : Nat) (FT FR : Nat → Prop) (rb ar : Nat) (L : List V) (RS : List (List Nat)) (s1 s2 : Nat) (vs : List V) (e : Ending) (w' : World) : Prop :=
  ∃ (FT' FR' : Nat → Prop) (L' : List V) (RS' : List (List Nat)) (to : Option Nat) (rv : Value) (c : Bool), e = .returned (.tuple #[.bool c, .int .i64 0]) ∧ Turns (fun k => FT k ∨ FR k) w w' ∧ Rl w' B FT' FR' rb ar L' RS' to rv s1 s2 ∧
    (∀ k, FT' k ∨ FR' k → (FT k ∨ FR k) ∨ w.heap.size ≤ k ∧ k < w'.heap.size) ∧ L' = addAll L vs ∧ ((c = false ∧ numsOf L' vs ∈ RS ∧ RS' = RS) ∨ (c = true ∧ numsOf L' vs ∉ RS ∧ RS' = RS ++ [numsOf L' vs]))

theorem six_new (w : World) (c : Array Value) (t : TypeId) : ∀ j u, c.toList[j]? = some u → (w.alloc (.cells c t)).drew.cell? ((⟨w.heap.size, 0, none⟩ : Addr).add j) = some u := by
  intro j u hj
  show (w.alloc (.cells c t)).cell? _ = _
  rw [add_none, Nat.zero_add, World.cell?_alloc_at _ _ _ _ rfl]
  simpa using hj
theorem six_one (q : List Nat) : ∀ u ∈ six q, u.oneCell' = true := by
  intro u hu
  simp [six] at hu
  rcases hu with rfl | rfl | rfl | rfl | rfl | rfl <;> rfl

set_option maxHeartbeats 6400000 in
set_option maxRecDepth 100000 in
theorem add_rel {w : World} {B : Nat} {FT FR : Nat → Prop} {rb ar : Nat} {L : List V} {RS : List (List Nat)} {to : Option Nat} {rv : Value} {s1 s2 : Nat} (hR : Rl w B FT FR rb ar L RS to rv s1 s2) {x : Value} {vs : List V} (hx : Vals w x vs) (ha : Apart FT x) (hlen : vs.length = ar) (hL : L.length + 6 < 1000000) (hm : RS.length < 1000000) :
    Calls Try.prog 8 #[.pointer (some ⟨rb, 0, none⟩), x] w fun e w' => AddOut w B FT FR rb ar L RS s1 s2 vs e w' := by
  obtain ⟨ao, cap, rfl, hml⟩ := hx.len
  obtain ⟨ro, rc, rfl⟩ := hR.form
  obtain ⟨c2, c3, c4, c5, c6, c7, hrb, hfz⟩ := hR.cells
  have h6 : vs.length ≤ 6 := by have := hR.ar6; omega
  have hPut := Lib.hid (tput_any hR.tab hx ha h6 hL)
  have l9 : (vs.length : Int) ≤ 6 := by omega
  have HR := Lib.hid hR
  have HLN := Lib.hid hlen
  have hlI : (vs.length : Int) = (ar : Int) := by omega
  have hlb : ((vs.length : Int) != (ar : Int)) = false := by simp [hlI]
  have HL : Hid (L.length + 6 < 1000000 ∧ RS.length < 1000000) := ⟨hL, hm⟩
  clear hR hx ha hml hlen hL hm
  go_enter Try.func8, Try.ntmps8
  go_wp2_with fail
  refine (hPut.out).mono ?_
  rintro e w1 ⟨rfl, ht, hT⟩
  have hR1 := HR.out.put ht hT
  have hin := addAll_in vs L
  obtain ⟨hQ, hQn⟩ := nums_ok (L := addAll L vs) (vs := vs) (by have := addAll_len vs L; have := HL.out.1; omega) h6 hin
  have hQl : (numsOf (addAll L vs) vs).length = ar := by simp [numsOf]; exact HLN.out
  obtain ⟨L1, hL1⟩ : ∃ L1, addAll L vs = L1 := ⟨_, rfl⟩
  rw [hL1] at hR1 hin hQ hQn hQl
  obtain ⟨q, hq⟩ : ∃ q, numsOf L1 vs = q := ⟨_, rfl⟩
  rw [hq] at hQ hQn hQl
  rw [hL1, hq]
  have HQ0 : Hid (numsOf L1 vs = q ∧ addAll L vs = L1) := ⟨hq, hL1⟩
  have HQ : Hid (QOk q ∧ (∀ n ∈ q, n < L1.length) ∧ q.length = ar) := ⟨hQ, hQn, hQl⟩
  have eS : (six q).toArray = #[.int .i64 (q.getD 0 0 : Nat), .int .i64 (q.getD 1 0 : Nat), .int .i64 (q.getD 2 0 : Nat), .int .i64 (q.getD 3 0 : Nat), .int .i64 (q.getD 4 0 : Nat), .int .i64 (q.getD 5 0 : Nat)] := rfl
  rw [eS]
  have HS6 : Hid (∀ (W : World) b, W.heap[b]? = some (.cells #[.int .i64 (q.getD 0 0 : Nat), .int .i64 (q.getD 1 0 : Nat), .int .i64 (q.getD 2 0 : Nat), .int .i64 (q.getD 3 0 : Nat), .int .i64 (q.getD 4 0 : Nat), .int .i64 (q.getD 5 0 : Nat)] 72 (0, 0)) → SixAt W b q) := fun W b h => h
  have HLK : Hid (∀ W : World, (∀ k, k < w1.heap.size → W.heap[k]? = w1.heap[k]?) → (Instr.lookup 66 (.map to) (.agg #[.int .i64 (q.getD 0 0 : Nat), .int .i64 (q.getD 1 0 : Nat), .int .i64 (q.getD 2 0 : Nat), .int .i64 (q.getD 3 0 : Nat), .int .i64 (q.getD 4 0 : Nat), .int .i64 (q.getD 5 0 : Nat)]) true).run Try.prog W = .ok (.tuple #[.agg #[], .bool (decide (q ∈ RS))]) W) := fun W hw => hR1.look hQ hQl hw
  have HST : Hid (∀ W mb ao cap, MidR w1 W B (fun k => FT k ∨ w.heap.size ≤ k ∧ k < w1.heap.size) FR rb ar L1 RS RS s1 s2 q w1.heap.size mb ao cap → ∃ w2, (Instr.mapUpdate 66 (.map (some mb)) (.agg #[.int .i64 (q.getD 0 0 : Nat), .int .i64 (q.getD 1 0 : Nat), .int .i64 (q.getD 2 0 : Nat), .int .i64 (q.getD 3 0 : Nat), .int .i64 (q.getD 4 0 : Nat), .int .i64 (q.getD 5 0 : Nat)]) (.agg #[])).run Try.prog W.drew = .ok () w2 ∧ MidR w1 w2 B (fun k => FT k ∨ w.heap.size ≤ k ∧ k < w1.heap.size) FR rb ar L1 RS (RS ++ [q]) s1 s2 q w1.heap.size mb ao cap) := fun W mb ao cap h => h.store hQ hQl HL.out.2
  have HSC : Hid (∀ (W : World) b, SixAt W b q → W.cell? ⟨b, 0, none⟩ = some (.int .i64 (q.getD 0 0 : Nat)) ∧ W.cell? ⟨b, 1, none⟩ = some (.int .i64 (q.getD 1 0 : Nat)) ∧ W.cell? ⟨b, 2, none⟩ = some (.int .i64 (q.getD 2 0 : Nat)) ∧ W.cell? ⟨b, 3, none⟩ = some (.int .i64 (q.getD 3 0 : Nat)) ∧ W.cell? ⟨b, 4, none⟩ = some (.int .i64 (q.getD 4 0 : Nat)) ∧ W.cell? ⟨b, 5, none⟩ = some (.int .i64 (q.getD 5 0 : Nat))) := fun W b h => h.cells
  have HSIX : Hid (six q = [.int .i64 (q.getD 0 0 : Nat), .int .i64 (q.getD 1 0 : Nat), .int .i64 (q.getD 2 0 : Nat), .int .i64 (q.getD 3 0 : Nat), .int .i64 (q.getD 4 0 : Nat), .int .i64 (q.getD 5 0 : Nat)]) := rfl
  have HR1 := Lib.hid hR1
  have HT1 := Lib.hid ht
  generalize ((q.getD 0 0 : Nat) : Int) = x0 at *
  generalize ((q.getD 1 0 : Nat) : Int) = x1 at *
  generalize ((q.getD 2 0 : Nat) : Int) = x2 at *
  generalize ((q.getD 3 0 : Nat) : Int) = x3 at *
  generalize ((q.getD 4 0 : Nat) : Int) = x4 at *
  generalize ((q.getD 5 0 : Nat) : Int) = x5 at *
  obtain ⟨W0, hW0⟩ : ∃ W0, W0 = w1.alloc (.cells #[.int .i64 x0, .int .i64 x1, .int .i64 x2, .int .i64 x3, .int .i64 x4, .int .i64 x5] 72) := ⟨_, rfl⟩
  have hb0 : Below w1.heap.size w1 W0 := by rw [hW0]; exact (Below.refl _ _).alloc (Nat.le_refl _) _
  have hx0 : SixAt W0 w1.heap.size q := by rw [hW0]; exact HS6.out _ _ (MapKept.heap_alloc w1 _).1
  have hs0 : w1.heap.size < W0.heap.size := hx0.lt
  obtain ⟨d2, d3, d4, d5, d6, d7, hrb0, hfz0⟩ := (hR1.below hb0).cells
  obtain ⟨k0, k1, k2, k3, k4, k5⟩ := HSC.out _ _ hx0
  have hrun1 := HLK.out W0.drew (fun k hk => hb0.block k hk)
  have hrun2 := HLK.out (W0.alloc (.cells #[] 74)).drew (fun k hk => (Below.heap_alloc W0 (.cells #[] 74) k (by omega)).trans (hb0.block k hk))
  have HB0 := Lib.hid hb0
  have HX0 := Lib.hid hx0
  clear hR1 ht hT hPut hin hQ hQn hQl hq hL1 eS c2 c3 c4 c5 c6 c7 HLK hb0 hx0 hfz
  go_wp2_with fail
  rw [← hW0]
  clear hW0
  have HAI : Hid (q ∈ RS → ∀ W, Below w1.heap.size w1 W → AddOut w B FT FR rb ar L RS s1 s2 vs (.returned (.tuple #[.bool false, .int .i64 0])) W) := fun hm W hb => by
    have hs := HT1.out.size
    have hs2 := hb.size
    refine ⟨_, FR, L1, RS, to, _, false, rfl, (HT1.out.trans (Turns.of_below (F := fun _ => False) hb) (fun _ h => h.elim)).mono (fun _ h => .inl h), HR1.out.below hb, fun k hk => ?_, HQ0.out.2.symm, .inl ⟨rfl, by rw [HQ0.out.1]; exact hm, rfl⟩⟩
    rcases hk with (hk | hk) | hk
    · exact .inl (.inl hk)
    · exact .inr ⟨hk.1, by omega⟩
    · exact .inl (.inr hk)
  have HDN : Hid (q ∉ RS → ∀ W mb ro' rc' w3 v', MidR w1 W B (fun k => FT k ∨ w.heap.size ≤ k ∧ k < w1.heap.size) FR rb ar L1 RS (RS ++ [q]) s1 s2 q w1.heap.size mb ro' rc' → W.grownBy w3 (Value.slice ro' RS.length rc').ownBlock → w3.ownsRow 0 72 6 v' (RS.length + 1) (RS.flatMap six ++ six q) →
      (v'.ownBlock = (Value.slice ro' RS.length rc').ownBlock ∨ v'.ownBlock = some W.heap.size) → AddOut w B FT FR rb ar L RS s1 s2 vs (.returned (.tuple #[.bool true, .int .i64 0])) (w3.setCell ⟨rb, 4, none⟩ v')) := fun hn W mb ro' rc' w3 v' hM hg hr hl => by
    obtain ⟨t1, t2⟩ := hM.done HR1.out ⟨HQ.out.2.2, HQ.out.2.1⟩ hn hg hr hl
    have hs := HT1.out.size
    have hs2 := t1.size
    refine ⟨_, _, L1, RS ++ [q], some mb, v', true, rfl, (HT1.out.mono (fun _ h => .inl h)).trans t1 (fun k hk hlt => ?_), t2, fun k hk => ?_, HQ0.out.2.symm, .inr ⟨rfl, by rw [HQ0.out.1]; exact hn, by rw [HQ0.out.1]⟩⟩
    · rcases hk with (hk | hk) | hk
      · exact .inl hk
      · omega
      · exact .inr hk
    · rcases hk with (hk | hk) | hk | hk
      · exact .inl (.inl hk)
      · exact .inr ⟨hk.1, by omega⟩
      · exact .inl (.inr hk)
      · exact .inr ⟨by omega, hk.2⟩
  obtain ⟨W1, hW1⟩ : ∃ W1, W1 = (W0.alloc (.cells #[] 74)).drew := ⟨_, rfl⟩
  have hb1 : Below w1.heap.size w1 W1 := by rw [hW1]; exact (HB0.out.alloc (by omega) _).drew
  have hx1 : SixAt W1 w1.heap.size q := HX0.out.turns (Turns.of_below (F := fun _ => False) (show Below W0.heap.size W0 W1 by rw [hW1]; exact ((Below.refl _ _).alloc (Nat.le_refl _) _).drew)) (fun h => h)
  have HB1 := Lib.hid hb1
  have HX1 := Lib.hid hx1
  by_cases hmem : q ∈ RS
  · have hd : decide (q ∈ RS) = true := decide_eq_true hmem
    rw [hd] at hrun1 hrun2
    have HO := Lib.hid (HAI.out hmem W1 hb1)
    clear hd hmem
    go_region
    all_goals
      go_wp2
      rw [← hW1]
      go_ret2
      exact HO.out
  · have hd : decide (q ∈ RS) = false := decide_eq_false hmem
    rw [hd] at hrun1 hrun2
    have HDN := Lib.hid (HDN.out hmem)
    obtain ⟨i0, hi, hz0, hz1, hz2⟩ := info_parts infoNum
    have hRSm := HL.out.2
    have he1 := eqlSomeQ
    have he2 := eqlNilQ
    have hmm := @run_makeMap Try.prog
    have hw11 := hb1.size
    obtain ⟨e2, e3, e4, e5, e6, e7, hrb1, hfz1⟩ := (HR1.out.below hb1).cells
    clear hd hmem HAI hb1 hx1
    cases to with
    | none =>
      have HM := Lib.hid (midR_none (mb := W1.heap.size) HR1.out HB1.out HX1.out (Nat.le_refl _) rfl)
      go_region
      all_goals
        rw [← hW1]
        clear hW1
        go_wp2
        generalize ((W1.setCell { block := rb, off := 3 } (Value.map (some W1.heap.size))).alloc (Obj.map #[] 0)) = W2 at HM ⊢
        generalize W1.heap.size = mb at HM ⊢
        clear d2 d3 d4 d5 d6 d7 e2 e3 e4 e5 e6 e7 k0 k1 k2 k3 k4 k5 hrun1 hrun2 he1 he2 hmm HB1 HX1 HB0 HX0
        obtain ⟨w2, hrun, hM2⟩ := HST.out _ _ _ _ HM.out
        have HM2 := Lib.hid hM2
        obtain ⟨p0, p1, p2, p3⟩ := HM.out.cells
        obtain ⟨k0, k1, k2, k3, k4, k5⟩ := HSC.out _ _ HM.out.box
        have kl := HM.out.box.lt
        obtain ⟨q0, q1, q2, q3⟩ := HM2.out.cells
        obtain ⟨m0, m1, m2, m3, m4, m5⟩ := HSC.out _ _ HM2.out.box
        have ml := HM2.out.box.lt
        clear hM2 HM
        go_region
        go_wp2
        clear hrun p0 p1 p2 p3 k0 k1 k2 k3 k4 k5
        have hMA := HM2.out.below (show Below w2.heap.size w2 (w2.drew.alloc (.cells #[.int .i64 x0, .int .i64 x1, .int .i64 x2, .int .i64 x3, .int .i64 x4, .int .i64 x5] 72)) from ((Below.refl _ _).drew).alloc (by simp) _)
        have HRW : Hid ((w2.drew.alloc (.cells #[.int .i64 x0, .int .i64 x1, .int .i64 x2, .int .i64 x3, .int .i64 x4, .int .i64 x5] 72)).ownsRow 0 72 6 (.slice ro RS.length rc) RS.length (RS.flatMap six)) := hMA.row
        have HC : Hid (∀ (w3 : World), (w2.drew.alloc (.cells #[.int .i64 x0, .int .i64 x1, .int .i64 x2, .int .i64 x3, .int .i64 x4, .int .i64 x5] 72)).grownBy w3 (Value.slice ro RS.length rc).ownBlock → w3.cell? ⟨rb, 4, none⟩ = some (.slice ro RS.length rc) ∧ w3.frozen? ⟨rb, 4, none⟩ = false ∧ rb < w3.heap.size) := fun w3 hg => hMA.cells3 hg
        have HD : Hid (∀ (w3 : World) (v' : Value), (w2.drew.alloc (.cells #[.int .i64 x0, .int .i64 x1, .int .i64 x2, .int .i64 x3, .int .i64 x4, .int .i64 x5] 72)).grownBy w3 (Value.slice ro RS.length rc).ownBlock → w3.ownsRow 0 72 6 v' (RS.length + 1) (RS.flatMap six ++ [.int .i64 x0, .int .i64 x1, .int .i64 x2, .int .i64 x3, .int .i64 x4, .int .i64 x5]) →
            (v'.ownBlock = (Value.slice ro RS.length rc).ownBlock ∨ v'.ownBlock = some (w2.drew.alloc (.cells #[.int .i64 x0, .int .i64 x1, .int .i64 x2, .int .i64 x3, .int .i64 x4, .int .i64 x5] 72)).heap.size) → AddOut w B FT FR rb ar L RS s1 s2 vs (.returned (.tuple #[.bool true, .int .i64 0])) (w3.setCell ⟨rb, 4, none⟩ v')) := fun w3 v' hg hr hl => by
          rw [← HSIX.out] at hr
          exact HDN.out _ _ _ _ _ _ hMA hg hr hl
        clear HM2 hMA
        go_region_law (refine step_append_own rfl (.tmp 54) (.tmp 56) 67 rfl 72 i0 _ 6 48 Try.underlying67 hi hz0 hz1 hz2 rfl (by decide) (.slice ro RS.length rc) RS.length (RS.flatMap six) (by simp [Act.eval, Act.put]) HRW.out ⟨w2.heap.size, 0, none⟩ 1 1 [.int .i64 x0, .int .i64 x1, .int .i64 x2, .int .i64 x3, .int .i64 x4, .int .i64 x5] (by simp [Act.eval, Act.put]) rfl (six_new w2 #[.int .i64 x0, .int .i64 x1, .int .i64 x2, .int .i64 x3, .int .i64 x4, .int .i64 x5] _) (by simp [Value.oneCell']) (by unfold maxLen; omega) (by omega) ?_; intro v' w3 hr3 hg3 hl3; obtain ⟨s1, s2, s3⟩ := HC.out w3 hg3; have s4 := HD.out w3 v' hg3 hr3 hl3; obtain ⟨g', cap', hv'⟩ := Joins.ownsRow_form hr3 (Nat.succ_pos _); subst hv'; have HE := Lib.hid s4; clear s4 hr3 hg3 hl3)
        all_goals
          go_wp2
          go_ret2
          exact HE.out
    | some mb =>
      have HM := Lib.hid (midR_some HR1.out HB1.out HX1.out (Nat.le_refl _))
      go_region
      all_goals
        rw [← hW1]
        clear hW1
        go_wp2
        clear d2 d3 d4 d5 d6 d7 e2 e3 e4 e5 e6 e7 k0 k1 k2 k3 k4 k5 hrun1 hrun2 he1 he2 hmm HB1 HX1 HB0 HX0
        obtain ⟨w2, hrun, hM2⟩ := HST.out _ _ _ _ HM.out
        have HM2 := Lib.hid hM2
        obtain ⟨p0, p1, p2, p3⟩ := HM.out.cells
        obtain ⟨k0, k1, k2, k3, k4, k5⟩ := HSC.out _ _ HM.out.box
        have kl := HM.out.box.lt
        obtain ⟨q0, q1, q2, q3⟩ := HM2.out.cells
        obtain ⟨m0, m1, m2, m3, m4, m5⟩ := HSC.out _ _ HM2.out.box
        have ml := HM2.out.box.lt
        clear hM2 HM
        go_region
        go_wp2
        clear hrun p0 p1 p2 p3 k0 k1 k2 k3 k4 k5
        have hMA := HM2.out.below (show Below w2.heap.size w2 (w2.drew.alloc (.cells #[.int .i64 x0, .int .i64 x1, .int .i64 x2, .int .i64 x3, .int .i64 x4, .int .i64 x5] 72)) from ((Below.refl _ _).drew).alloc (by simp) _)
        have HRW : Hid ((w2.drew.alloc (.cells #[.int .i64 x0, .int .i64 x1, .int .i64 x2, .int .i64 x3, .int .i64 x4, .int .i64 x5] 72)).ownsRow 0 72 6 (.slice ro RS.length rc) RS.length (RS.flatMap six)) := hMA.row
        have HC : Hid (∀ (w3 : World), (w2.drew.alloc (.cells #[.int .i64 x0, .int .i64 x1, .int .i64 x2, .int .i64 x3, .int .i64 x4, .int .i64 x5] 72)).grownBy w3 (Value.slice ro RS.length rc).ownBlock → w3.cell? ⟨rb, 4, none⟩ = some (.slice ro RS.length rc) ∧ w3.frozen? ⟨rb, 4, none⟩ = false ∧ rb < w3.heap.size) := fun w3 hg => hMA.cells3 hg
        have HD : Hid (∀ (w3 : World) (v' : Value), (w2.drew.alloc (.cells #[.int .i64 x0, .int .i64 x1, .int .i64 x2, .int .i64 x3, .int .i64 x4, .int .i64 x5] 72)).grownBy w3 (Value.slice ro RS.length rc).ownBlock → w3.ownsRow 0 72 6 v' (RS.length + 1) (RS.flatMap six ++ [.int .i64 x0, .int .i64 x1, .int .i64 x2, .int .i64 x3, .int .i64 x4, .int .i64 x5]) →
            (v'.ownBlock = (Value.slice ro RS.length rc).ownBlock ∨ v'.ownBlock = some (w2.drew.alloc (.cells #[.int .i64 x0, .int .i64 x1, .int .i64 x2, .int .i64 x3, .int .i64 x4, .int .i64 x5] 72)).heap.size) → AddOut w B FT FR rb ar L RS s1 s2 vs (.returned (.tuple #[.bool true, .int .i64 0])) (w3.setCell ⟨rb, 4, none⟩ v')) := fun w3 v' hg hr hl => by
          rw [← HSIX.out] at hr
          exact HDN.out _ _ _ _ _ _ hMA hg hr hl
        clear HM2 hMA
        go_region_law (refine step_append_own rfl (.tmp 54) (.tmp 56) 67 rfl 72 i0 _ 6 48 Try.underlying67 hi hz0 hz1 hz2 rfl (by decide) (.slice ro RS.length rc) RS.length (RS.flatMap six) (by simp [Act.eval, Act.put]) HRW.out ⟨w2.heap.size, 0, none⟩ 1 1 [.int .i64 x0, .int .i64 x1, .int .i64 x2, .int .i64 x3, .int .i64 x4, .int .i64 x5] (by simp [Act.eval, Act.put]) rfl (six_new w2 #[.int .i64 x0, .int .i64 x1, .int .i64 x2, .int .i64 x3, .int .i64 x4, .int .i64 x5] _) (by simp [Value.oneCell']) (by unfold maxLen; omega) (by omega) ?_; intro v' w3 hr3 hg3 hl3; obtain ⟨s1, s2, s3⟩ := HC.out w3 hg3; have s4 := HD.out w3 v' hg3 hr3 hl3; obtain ⟨g', cap', hv'⟩ := Joins.ownsRow_form hr3 (Nat.succ_pos _); subst hv'; have HE := Lib.hid s4; clear s4 hr3 hg3 hl3)
        all_goals
          go_wp2
          go_ret2
          exact HE.out
end Go.Proofs.Ytkkpcphmojegmaa
