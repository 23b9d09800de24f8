/-
  Plain facts for a relation's Add: what stands in memory between its statements.
-/
import Derived.Test.YtfjkfblejfiglaaRRel
namespace Go.Proofs.Ytfjkfblejfiglaa
set_option linter.unusedSimpArgs false
set_option linter.unusedVariables false
set_option linter.unusedSectionVars false
set_option maxRecDepth 100000
open Go.RowKit Go.Maps
variable [DecidableEq V]

/-- A store into one of the relation's other cells. -/
theorem Tbl.set {w : World} {B : Nat} {F : Nat → Prop} {tb : Nat} {X Y : Ex} {L : List V} (h : Tbl w B F tb X L) (o : Nat) (v : Value)
    (hX : ∀ m s : Value, (#[m, s, X.a, X.b, X.c, X.d, X.e, X.f] : Array Value).setIfInBounds o v = #[m, s, Y.a, Y.b, Y.c, Y.d, Y.e, Y.f]) : Tbl (w.setCell ⟨tb, o, none⟩ v) B F tb Y L := by
  have hlt := h.lt
  obtain ⟨mo, sv, h0, h1, h2, h3, h4, h5, h6, h7, h8⟩ := h
  have e0 := heap_setCell_same w tb o _ _ v h0
  rw [hX] at e0
  have nb : ∀ k, F k → k ≠ tb → (w.setCell ⟨tb, o, none⟩ v).heap[k]? = w.heap[k]? := fun k _ hk => Below.heap_setCell _ _ _ _ hk
  refine ⟨mo, sv, e0, ownsRow_block h1 (fun k hk => Below.heap_setCell _ _ _ _ (fun e => ?_)), h2, fun mb e => ?_, h4, h5, h6, fun k hk => ?_, h8⟩
  · obtain ⟨cur, hc⟩ := row_block h1 hk
    simp at e
    rw [e, h0] at hc
    simp at hc
  · obtain ⟨D, a, b⟩ := h3 mb e
    refine ⟨D, ownsMap_block a (Below.heap_setCell _ _ _ _ (fun e' => ?_)), b⟩
    obtain ⟨es, cl, hb, _⟩ := a
    simp at e'
    rw [e', h0] at hb
    cases hb
  · have := h7 k hk
    simpa using this
theorem row_block6 {w : World} {e : TypeId} {v : Value} {n k : Nat} {xs : List Value} (h : w.ownsRow 0 e 6 v n xs) (hk : v.ownBlock = some k) : ∃ cur, w.heap[k]? = some (.cells cur e (0, 0)) := by
  rcases h.2 with ⟨rfl, _⟩ | ⟨g, cap', cur, rfl, _, h2, _⟩
  · simp [Value.ownBlock] at hk
  · simp [Value.ownBlock] at hk
    subst hk
    exact ⟨cur, h2⟩

/-- Inside Add: the list of rows tells RS, the map M; the row that came lies in block qb. -/
structure MidR (w W : World) (B : Nat) (FT FR : Nat → Prop) (rb ar : Nat) (L : List V) (RS M : List (List Nat)) (s1 s2 : Nat) (q : List Nat) (qb mb : Nat) (ao : Option Addr) (cap : Nat) : Prop where
  tab : Tbl W B FT rb ⟨.int .i64 (ar : Int), .map (some mb), .slice ao RS.length cap, .int .i64 0, .int .i64 (s1 : Int), .int .i64 (s2 : Int)⟩ L
  row : W.ownsRow 0 78 6 (.slice ao RS.length cap) RS.length (RS.flatMap six)
  map : ∃ D, W.ownsMap Try.prog 78 unitElem mb M.length D ∧ ReadsQ D ar M
  box : SixAt W qb q
  fmb : FR mb ∨ w.heap.size ≤ mb
  fsv : ∀ sb, (Value.slice ao RS.length cap).ownBlock = some sb → FR sb
  turns : Turns (fun k => FT k ∨ FR k) w W
  size : w.heap.size ≤ qb
  lowT : ∀ k, FT k → B ≤ k ∧ k < w.heap.size
  lowR : ∀ k, FR k → B ≤ k ∧ k < w.heap.size
  dis : ∀ k, FR k → ¬ FT k
  ftb : FT rb
section
variable {w W : World} {B : Nat} {FT FR : Nat → Prop} {rb ar : Nat} {L : List V} {RS M : List (List Nat)} {s1 s2 : Nat} {q : List Nat} {qb mb : Nat} {ao : Option Addr} {cap : Nat}

theorem MidR.cells (h : MidR w W B FT FR rb ar L RS M s1 s2 q qb mb ao cap) : W.cell? ⟨rb, 3, none⟩ = some (.map (some mb)) ∧ W.cell? ⟨rb, 4, none⟩ = some (.slice ao RS.length cap) ∧ W.frozen? ⟨rb, 4, none⟩ = false ∧ rb < W.heap.size := by
  have hlt := h.tab.lt
  obtain ⟨mo, sv, h0, -⟩ := h.tab
  exact ⟨by rw [cell_of_row W rb 3 _ _ _ h0]; rfl, by rw [cell_of_row W rb 4 _ _ _ h0]; rfl, by simp [World.frozen?, h0], hlt⟩
theorem MidR.nots (h : MidR w W B FT FR rb ar L RS M s1 s2 q qb mb ao cap) : ¬ FT mb ∧ ¬ FT qb ∧ ¬ FR qb ∧ mb ≠ qb ∧ (Value.slice ao RS.length cap).ownBlock ≠ some mb ∧ (Value.slice ao RS.length cap).ownBlock ≠ some rb ∧ mb ≠ rb := by
  obtain ⟨D, ⟨es, cl, hb, _⟩, _⟩ := h.map
  have hs := h.size
  have nT : ¬ FT mb := fun g => by
    rcases h.fmb with h' | h'
    · exact h.dis _ h' g
    · have := (h.lowT _ g).2; omega
  refine ⟨nT, fun g => by have := (h.lowT _ g).2; omega, fun g => by have := (h.lowR _ g).2; omega, fun e => ?_, fun e => ?_, fun e => h.dis _ (h.fsv _ e) h.ftb, fun e => nT (e ▸ h.ftb)⟩
  · have hx := h.box
    unfold SixAt at hx
    rw [← e, hb] at hx; cases hx
  · obtain ⟨cur, h2⟩ := row_block6 h.row e
    rw [hb] at h2; cases h2
theorem MidR.below {W' : World} (h : MidR w W B FT FR rb ar L RS M s1 s2 q qb mb ao cap) (hb : Below W.heap.size W W') : MidR w W' B FT FR rb ar L RS M s1 s2 q qb mb ao cap where
  tab := h.tab.below hb
  row := ownsRow_block h.row (fun k hk => hb.block k (h.row.lt k hk).2)
  map := let ⟨D, a, b⟩ := h.map; ⟨D, ownsMap_block a (hb.block mb a.lt), b⟩
  box := h.box.turns (Turns.of_below (F := fun _ => False) hb) (fun h => h)
  fmb := h.fmb
  fsv := h.fsv
  turns := h.turns.trans (Turns.of_below (F := fun _ => False) hb) (fun _ h => h.elim)
  size := h.size
  lowT := h.lowT
  lowR := h.lowR
  dis := h.dis
  ftb := h.ftb
/-- The map's store. -/
theorem MidR.store (h : MidR w W B FT FR rb ar L RS RS s1 s2 q qb mb ao cap) (hq : QOk q) (hl : q.length = ar) (hm : RS.length < 1000000) :
    ∃ w2, (Instr.mapUpdate 72 (.map (some mb)) (.agg #[.int .i64 (q.getD 0 0 : Nat), .int .i64 (q.getD 1 0 : Nat), .int .i64 (q.getD 2 0 : Nat), .int .i64 (q.getD 3 0 : Nat), .int .i64 (q.getD 4 0 : Nat), .int .i64 (q.getD 5 0 : Nat)]) (.agg #[])).run Try.prog W.drew = .ok () w2 ∧ MidR w w2 B FT FR rb ar L RS (RS ++ [q]) s1 s2 q qb mb ao cap := by
  obtain ⟨D, hown, hR⟩ := h.map
  obtain ⟨w2, hrun, hown2, hturn⟩ := (hown.drew).store lawNum Try.underlying72 (show RS.length < maxLen by unfold maxLen; omega) (keyNum hq) (show unitElem (.agg #[]) = some (.agg [], []) from rfl)
  have hg : W.grownBy w2 (some mb) := by have := hturn.grown; exact ⟨this.os, this.tape, this.output, this.size, this.block⟩
  obtain ⟨n1, n2, n3, n4, n5, n6, n7⟩ := h.nots
  have hT : Turns (fun k => k = mb) W w2 := (Turns.refl _ W).grown hg (fun k e _ => by cases e; rfl)
  refine ⟨w2, hrun, ⟨h.tab.turns hT (fun k e => by subst e; exact n1), ownsRow_block h.row (fun k hk => hg.block k (h.row.lt k hk).2 (fun e => ?_)), ⟨_, by simpa using hown2, readsQ_put hR hown.isMap hq hl _⟩, h.box.turns hT (fun e => n4 e.symm), h.fmb, h.fsv, h.turns.trans hT (fun i e hi => ?_), h.size, h.lowT, h.lowR, h.dis, h.ftb⟩⟩
  · cases e; exact n5 hk
  · subst e
    rcases h.fmb with h' | h'
    · exact .inr h'
    · omega
/-- Behind the append: the relation's own cells, ahead of the store of its list. -/
theorem MidR.cells3 {w3 : World} (h : MidR w W B FT FR rb ar L RS M s1 s2 q qb mb ao cap) (hg : W.grownBy w3 (Value.slice ao RS.length cap).ownBlock) : w3.cell? ⟨rb, 4, none⟩ = some (.slice ao RS.length cap) ∧ w3.frozen? ⟨rb, 4, none⟩ = false ∧ rb < w3.heap.size := by
  have hlt := h.tab.lt
  obtain ⟨mo, sv, h0, -⟩ := h.tab
  have e := (hg.block rb hlt (fun e => h.nots.2.2.2.2.2.1 e.symm)).trans h0
  exact ⟨by rw [cell_of_row w3 rb 4 _ _ _ e]; rfl, by simp [World.frozen?, e], (Array.getElem?_eq_some_iff.1 e).1⟩
/-- The store of the list's cell: the relation tells one row more. -/
theorem MidR.done {w3 : World} {v' : Value} (h : MidR w W B FT FR rb ar L RS (RS ++ [q]) s1 s2 q qb mb ao cap) {to : Option Nat} {rv : Value} (hR : Rl w B FT FR rb ar L RS to rv s1 s2) (hq : q.length = ar ∧ ∀ n ∈ q, n < L.length) (hn : q ∉ RS) (hg : W.grownBy w3 (Value.slice ao RS.length cap).ownBlock)
    (hr : w3.ownsRow 0 78 6 v' (RS.length + 1) (RS.flatMap six ++ six q)) (hloc : v'.ownBlock = (Value.slice ao RS.length cap).ownBlock ∨ v'.ownBlock = some W.heap.size) :
    Turns (fun k => FT k ∨ FR k) w (w3.setCell ⟨rb, 4, none⟩ v') ∧ Rl (w3.setCell ⟨rb, 4, none⟩ v') B FT (fun k => FR k ∨ w.heap.size ≤ k ∧ k < (w3.setCell ⟨rb, 4, none⟩ v').heap.size) rb ar L (RS ++ [q]) (some mb) v' s1 s2 := by
  obtain ⟨n1, n2, n3, n4, n5, n6, n7⟩ := h.nots
  have hT3 : Turns FR W w3 := (Turns.refl _ W).grown hg (fun k e _ => h.fsv k e)
  have hT : Turns (fun k => FT k ∨ FR k) w w3 := h.turns.trans hT3 (fun k g _ => .inr g)
  have tab3 := h.tab.turns hT3 (fun k g => h.dis k g)
  have tab4 := tab3.set (Y := ⟨.int .i64 (ar : Int), .map (some mb), v', .int .i64 0, .int .i64 (s1 : Int), .int .i64 (s2 : Int)⟩) 4 v' (fun m s => rfl)
  have hs := h.turns.size
  have hs3 := hT3.size
  have hwB : B ≤ w.heap.size := by have := h.lowT rb h.ftb; omega
  obtain ⟨D, hown, hRd⟩ := h.map
  have hne : v'.ownBlock ≠ some rb := by
    rcases hloc with hl | hl
    · rw [hl]; exact n6
    · rw [hl]; have := h.tab.lt; simp; omega
  refine ⟨hT.setCell (fun _ => .inl h.ftb) _, ⟨tab4, (fun e => by cases e), fun k ek => ?_, ?_, fun k ek => ?_, fun sb es => ?_, fun k hk => ?_, fun k hk => ?_, fun u hu => ?_, ?_, hR.ndL, hR.bareL, hR.ar6, hR.h1, (by have := hR.h2; simp; omega)⟩⟩
  · cases ek
    refine ⟨D, ownsMap_block hown ?_, hRd⟩
    rw [Below.heap_setCell _ _ _ _ n7]
    exact hg.block mb hown.lt (fun e => n5 e.symm)
  · have : w3.ownsRow 0 78 6 v' (RS ++ [q]).length ((RS ++ [q]).flatMap six) := by simpa using hr
    exact ownsRow_block this (fun k hk => Below.heap_setCell _ _ _ _ (fun e => hne (by rw [hk, e])))
  · cases ek
    rcases h.fmb with h' | h'
    · exact .inl h'
    · have := hown.lt; simp; omega
  · rcases hloc with hl | hl
    · exact .inl (h.fsv sb (hl ▸ es))
    · have hl' := (hr.lt sb es).2
      rw [es] at hl
      cases hl
      simp; omega
  · rcases hk with hk | hk
    · have := h.lowR k hk; simp; omega
    · exact ⟨by omega, hk.2⟩
  · rcases hk with hk | hk
    · exact h.dis k hk
    · exact fun g => by have := (h.lowT k g).2; omega
  · rcases List.mem_append.1 hu with hu | hu
    · exact hR.rows u hu
    · rw [List.mem_singleton.1 hu]; exact hq
  · refine List.nodup_append.2 ⟨hR.nd, by simp, fun a ha c hc e => ?_⟩
    simp at hc
    subst e hc
    exact hn ha
end
/-- The map is there already. -/
theorem midR_some {w W : World} {B : Nat} {FT FR : Nat → Prop} {rb ar : Nat} {L : List V} {RS : List (List Nat)} {s1 s2 : Nat} {q : List Nat} {qb mb : Nat} {ao : Option Addr} {cap : Nat} (hR : Rl w B FT FR rb ar L RS (some mb) (.slice ao RS.length cap) s1 s2) (hb : Below w.heap.size w W) (hx : SixAt W qb q) (hqb : w.heap.size ≤ qb) :
    MidR w W B FT FR rb ar L RS RS s1 s2 q qb mb ao cap :=
  have h := hR.below hb
  ⟨h.tab, h.row, h.map mb rfl, hx, .inl (h.fm mb rfl), h.fr, Turns.of_below hb, hqb, hR.lowT.2, hR.low, hR.dis, hR.lowT.1⟩
/-- There was no map yet. -/
theorem midR_none {w W : World} {B : Nat} {FT FR : Nat → Prop} {rb ar : Nat} {L : List V} {RS : List (List Nat)} {s1 s2 : Nat} {q : List Nat} {qb mb : Nat} {ao : Option Addr} {cap : Nat} (hR : Rl w B FT FR rb ar L RS none (.slice ao RS.length cap) s1 s2) (hb : Below w.heap.size w W) (hx : SixAt W qb q) (hqb : w.heap.size ≤ qb) (hmb : mb = W.heap.size) :
    MidR w ((W.setCell ⟨rb, 3, none⟩ (.map (some mb))).alloc (.map #[] 0)) B FT FR rb ar L RS RS s1 s2 q qb mb ao cap := by
  have h := hR.below hb
  subst hmb
  have hs := hb.size
  have hrb := hR.lowT.2 rb hR.lowT.1
  have tab1 := h.tab.set (Y := ⟨.int .i64 (ar : Int), .map (some W.heap.size), .slice ao RS.length cap, .int .i64 0, .int .i64 (s1 : Int), .int .i64 (s2 : Int)⟩) 3 (.map (some W.heap.size)) (fun m s => rfl)
  have hS : Turns (fun k => k = rb) W (W.setCell ⟨rb, 3, none⟩ (.map (some W.heap.size))) := (Turns.refl (fun k => k = rb) W).setCell (p := ⟨rb, 3, none⟩) (fun _ => rfl) _
  have hA : Below (W.setCell ⟨rb, 3, none⟩ (.map (some W.heap.size))).heap.size (W.setCell ⟨rb, 3, none⟩ (.map (some W.heap.size))) ((W.setCell ⟨rb, 3, none⟩ (.map (some W.heap.size))).alloc (.map #[] 0)) := (Below.refl _ _).alloc (Nat.le_refl _) _
  have hTA := Turns.of_below (F := fun _ => False) hA
  have e1 : (W.setCell ⟨rb, 3, none⟩ (.map (some W.heap.size))).heap.size = W.heap.size := by simp
  refine ⟨tab1.below hA, ?_, ⟨.map [], ?_, ?_⟩, (hx.turns hS (by omega)).turns hTA (fun h => h), .inr hs, hR.fr, ((Turns.of_below hb).trans hS (fun k e _ => .inl (e ▸ hR.lowT.1))).trans hTA (fun _ h => h.elim), hqb, hR.lowT.2, hR.low, hR.dis, hR.lowT.1⟩
  · refine (ownsRow_block h.row (fun k hk => Below.heap_setCell _ _ _ _ (fun e => ?_))).alloc _
    simp at e
    exact hR.dis _ (hR.fr k hk) (e ▸ hR.lowT.1)
  · have := World.ownsMap_made (H := Unit) (W.setCell ⟨rb, 3, none⟩ (.map (some W.heap.size))) Try.prog 78 unitElem
    rw [e1] at this
    rw [hR.nomap rfl]
    exact this
  · rw [hR.nomap rfl]; exact readsQ_nil ar
end Go.Proofs.Ytfjkfblejfiglaa
