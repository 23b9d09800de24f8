/-
  Lists of the call's own whose elements came in, or were made of what did (OwnW); append of one element, and of a whole list. Plain facts; no walk.
-/
import Derived.Test.YtcpdikhiodbdjaaQMem
import Derived.Deep.Slices
namespace Go.Proofs.Ytcpdikhiodbdjaa
set_option linter.unusedSimpArgs false
set_option linter.unusedVariables false
set_option linter.unusedSectionVars false
set_option maxRecDepth 100000
open Go.RowKit Go.Maps

/-- What a kind of elements is: its slices' type, its own, how many cells, how many bytes. -/
def ElTy (t e : TypeId) (k bytes : Nat) : Prop :=
  Try.prog.underlying t = some (.slice e) ∧ 0 < k ∧ ∃ i z, Try.prog.info? e = some i ∧ i.zero = some z ∧ i.size = k ∧ i.bytes = bytes ∧ z.cells.size = k
theorem elTy {t e : TypeId} {k bytes : Nat} {z : Value} (h1 : Try.prog.underlying t = some (.slice e)) (h2 : (Try.prog.info? e).map (fun i => (i.zero, i.size, i.bytes)) = some (some z, k, bytes)) (h3 : z.cells.size = k) (h4 : 0 < k) : ElTy t e k bytes := by
  obtain ⟨i, a, b, c, d⟩ := info_parts h2
  exact ⟨h1, h4, i, z, a, b, c, d, h3⟩
/-- An element's cells, as they stand in memory w0. -/
def CellW {α : Type} (R : RelW α) (k : Nat) (w0 : World) (a : α) (c : List Value) : Prop := c.length = k ∧ (∀ u ∈ c, u.oneCell' = true) ∧ R w0 a c
/-- All cells of that kind are so. -/
def CellR {α : Type} (R : RelW α) (k : Nat) : Prop := ∀ w a c, R w a c → c.length = k ∧ ∀ u ∈ c, u.oneCell' = true
/-- A list of the call's own (from B on) of elements that memory w0 tells. -/
def OwnW {α : Type} (R : RelW α) (e : TypeId) (k : Nat) (w0 W : World) (B : Nat) (v : Value) (L : List α) : Prop := ∃ cs, AllR (CellW R k w0) L cs ∧ W.ownsRow B e k v L.length cs.flatten
theorem AllR.memW {α : Type} {R : α → List Value → Prop} {P : List Value → Prop} (h : ∀ a c, R a c → P c) : ∀ {L : List α} {cs : List (List Value)}, AllR R L cs → ∀ c ∈ cs, P c
  | [], [], _, c, hc => by simp at hc
  | a :: L, c :: cs, ⟨h1, h2⟩, d, hd => by
    rcases List.mem_cons.1 hd with rfl | hd
    · exact h a _ h1
    · exact AllR.memW h h2 d hd
  | [], _ :: _, k, _, _ => k.elim
  | _ :: _, [], k, _, _ => k.elim
theorem AllR.catW {α : Type} {R : α → List Value → Prop} : ∀ {L M : List α} {cs ds : List (List Value)}, AllR R L cs → AllR R M ds → AllR R (L ++ M) (cs ++ ds)
  | [], _, [], _, _, k => k
  | _ :: _, _, _ :: _, _, ⟨h1, h2⟩, k => ⟨h1, AllR.catW h2 k⟩
  | [], _, _ :: _, _, h, _ => h.elim
  | _ :: _, _, [], _, h, _ => h.elim

variable {α : Type} {R : RelW α} {t e : TypeId} {k bytes : Nat}
theorem OwnW.form {w0 W : World} {B : Nat} {v : Value} {L : List α} (h : OwnW R e k w0 W B v L) : ∃ o c, v = .slice o L.length c := by
  obtain ⟨cs, h1, h2, h3⟩ := h
  rcases h3 with ⟨rfl, h0⟩ | ⟨g, cap, cur, rfl, -⟩
  · exact ⟨none, 0, by rw [h0]⟩
  · exact ⟨_, _, rfl⟩
theorem OwnW.formN {w0 W : World} {B : Nat} {v : Value} {L : List α} (h : OwnW R e k w0 W B v L) : ∃ o n c, v = .slice o n c ∧ n = L.length := by
  obtain ⟨o, c, hv⟩ := h.form
  exact ⟨o, _, c, hv, rfl⟩
theorem OwnW.lt {w0 W : World} {B : Nat} {v : Value} {L : List α} (h : OwnW R e k w0 W B v L) : ∀ g, v.ownBlock = some g → B ≤ g ∧ g < W.heap.size := by
  obtain ⟨cs, h1, h2⟩ := h
  intro g hg
  exact h2.lt g hg
theorem OwnW.far {w0 W W' : World} {B : Nat} {v : Value} {L : List α} (h : OwnW R e k w0 W B v L) (hb : ∀ g, v.ownBlock = some g → W'.heap[g]? = W.heap[g]?) : OwnW R e k w0 W' B v L := by
  obtain ⟨cs, h1, h2, h3⟩ := h
  refine ⟨cs, h1, h2, ?_⟩
  rcases h3 with h3 | ⟨g, cap, cur, e, e1, e2, e3⟩
  · exact .inl h3
  · exact .inr ⟨g, cap, cur, e, e1, (hb g (by rw [e]; rfl)).trans e2, e3⟩
theorem OwnW.below {w0 W W' : World} {B : Nat} {v : Value} {L : List α} (h : OwnW R e k w0 W B v L) (hb : Below W.heap.size W W') : OwnW R e k w0 W' B v L :=
  h.far (fun g hg => hb.block g (h.lt g hg).2)
theorem OwnW.nil (w0 W : World) (B : Nat) : OwnW R e k w0 W B (.slice none 0 0) [] := ⟨[], trivial, World.ownsRow_nil _ _ _ _⟩
theorem OwnW.made {w0 W : World} {B b : Nat} (hB : B ≤ b) (h : W.heap[b]? = some (.cells #[] e (0, 0))) : OwnW R e k w0 W B (.slice (some ⟨b, 0, none⟩) 0 0) [] :=
  ⟨[], trivial, by simp, Or.inr ⟨b, 0, #[], rfl, hB, h, Nat.le_refl _, Nat.zero_le _, by simp, by simp⟩⟩
/-- It can be read. -/
theorem OwnW.rd {w0 W : World} {B : Nat} {v : Value} {L : List α} (hS : StayR R) (h : OwnW R e k w0 W B v L) (hb : Below w0.heap.size w0 W) (hm : L.length ≤ maxLen) : RdL R k W v L := by
  obtain ⟨cs, h1, h2⟩ := h
  have h2' := h2
  obtain ⟨h3, h4⟩ := h2
  rcases h4 with ⟨e, h0⟩ | ⟨g, cap, cur, e, hB, hg, hc⟩
  · have : L = [] := List.length_eq_zero_iff.1 h0
    subst this e
    exact RdL.nil _ _ _
  · subst e
    refine ⟨some ⟨g, 0, none⟩, cap, rfl, ⟨?_, fun e => by cases e⟩, hm, fun i hi => ?_⟩
    · first | exact hc.1 | exact hc.2.1 | omega
    · obtain ⟨c, hci, hl, hone, hR⟩ := h1.at i hi
      refine ⟨g, 0, c, rfl, (Array.getElem?_eq_some_iff.1 hg).1, hS _ _ _ _ hb hR, fun j u hj => ?_⟩
      have := World.ownsRow.cells h2' (g := g) rfl _ u (flat_at (h1.memW (P := fun c => c.length = k) (fun _ _ h => h.1)) i c hci j u hj)
      rw [add_noneK] at this
      rw [Nat.zero_add]
      simpa using this
theorem RdL.formN {W : World} {v : Value} {L : List α} (h : RdL R k W v L) : ∃ o n c, v = .slice o n c ∧ n = L.length := by
  obtain ⟨o, c, hv, -⟩ := h
  exact ⟨o, _, c, hv, rfl⟩
theorem AllR.flat_len {w0 : World} {L : List α} {cs : List (List Value)} (h : AllR (CellW R k w0) L cs) : cs.flatten.length = L.length * k := by
  have hl := h.length
  have h3 := h.memW (P := fun c => c.length = k) (fun _ _ h => h.1)
  have : ∀ ds : List (List Value), (∀ c ∈ ds, c.length = k) → ds.flatten.length = ds.length * k := by
    intro ds
    induction ds with
    | nil => simp
    | cons d ds ih =>
      intro hd
      have h1 := hd d (by simp)
      have h2 := ih (fun c hc => hd c (by simp [hc]))
      rw [List.flatten_cons, List.length_append, List.length_cons, h1, h2, Nat.succ_mul]
      omega
  rw [this cs h3, hl]
theorem AllR.flat_one {w0 : World} {L : List α} {cs : List (List Value)} (h : AllR (CellW R k w0) L cs) : ∀ u ∈ cs.flatten, u.oneCell' = true := by
  intro u hu
  obtain ⟨c, hc, hu⟩ := List.mem_flatten.1 hu
  exact h.memW (P := fun c => ∀ u ∈ c, u.oneCell' = true) (fun a c hR => hR.2.1) c hc u hu
/-- The cells of a list that came in. -/
theorem RdL.flat {w0 : World} (hC : CellR R k) {ad : Addr} {n cap : Nat} {L : List α} (h : RdL R k w0 (.slice (some ad) n cap) L) : ∃ cs, AllR (CellW R k w0) L cs ∧ ∀ j u, cs.flatten[j]? = some u → w0.cell? (ad.add j) = some u := by
  obtain ⟨ao, cap', e, h1, h2, h3⟩ := h
  cases e
  have key : ∀ (M : List α) (o : Nat), (∀ (i : Nat) (hi : i < M.length), ∃ b off c, (some ad : Option Addr) = some ⟨b, off, none⟩ ∧ R w0 M[i] c ∧ ∀ j u, c[j]? = some u → w0.cell? ⟨b, off + (o + i) * k + j, none⟩ = some u) →
      ∃ cs, AllR (CellW R k w0) M cs ∧ ∀ j u, cs.flatten[j]? = some u → w0.cell? (ad.add (o * k + j)) = some u := by
    intro M
    induction M with
    | nil => intro o _; exact ⟨[], trivial, fun j u hj => by simp at hj⟩
    | cons a M ih =>
      intro o hM
      obtain ⟨b, off, c, e, hc, hcell⟩ := hM 0 (by simp)
      cases e
      obtain ⟨hl, hone⟩ := hC _ _ _ hc
      obtain ⟨cs, k1, k2⟩ := ih (o + 1) (fun i hi => by
        obtain ⟨b', off', c', e', hc', hcell'⟩ := hM (i + 1) (by simpa using hi)
        refine ⟨b', off', c', e', hc', fun j u hj => ?_⟩
        have := hcell' j u hj
        have e3 : o + (i + 1) = o + 1 + i := by omega
        rw [e3] at this
        exact this)
      refine ⟨c :: cs, ⟨⟨hl, hone, hc⟩, k1⟩, fun j u hj => ?_⟩
      rw [List.flatten_cons] at hj
      rw [add_noneK]
      by_cases hj3 : j < k
      · rw [List.getElem?_append_left (by rw [hl]; exact hj3)] at hj
        have := hcell j u hj
        simpa [Nat.add_assoc] using this
      · rw [List.getElem?_append_right (by rw [hl]; omega), hl] at hj
        have := k2 (j - k) u hj
        rw [add_noneK] at this
        have e4 : off + ((o + 1) * k + (j - k)) = off + (o * k + j) := by rw [Nat.succ_mul]; omega
        rw [e4] at this
        exact this
  obtain ⟨cs, k1, k2⟩ := key L 0 (fun i hi => by
    obtain ⟨b, off, c, e, hl, hr, hc⟩ := h3 i hi
    exact ⟨b, off, c, e, hr, fun j u hj => by rw [Nat.zero_add]; exact hc j u hj⟩)
  exact ⟨cs, k1, fun j u hj => by have := k2 j u hj; simpa using this⟩
theorem lt_cellW {w : World} {a : Addr} {u : Value} (h : w.cell? a = some u) : a.block < w.heap.size := by
  cases hh : w.heap[a.block]? with
  | none => simp [World.cell?, hh] at h
  | some o => exact (Array.getElem?_eq_some_iff.1 hh).1
/-- The run of append of a whole list: what comes of it. -/
theorem run_append_all (hT : ElTy t e k bytes) (hC : CellR R k) (ty : TypeId) {w0 w : World} {B : Nat} {v : Value} {E : List α} (hown : OwnW R e k w0 w B v E) {xv : Value} {M : List α} (hV : RdL R k w0 xv M)
    (hb : Below w0.heap.size w0 w) (hm : E.length + M.length ≤ maxLen) (hbytes : (E.length + M.length) * bytes ≤ 140737488355328) (hB : B ≤ w.heap.size) :
    ∃ v' w', (Builtin.append_ #[t, t] ty #[v, xv]).run Try.prog w = .ok v' w' ∧ OwnW R e k w0 w' B v' (E ++ M) ∧ Below B w w' ∧ w.grownBy w' v.ownBlock ∧ (v'.ownBlock = v.ownBlock ∨ v'.ownBlock = some w.heap.size) := by
  obtain ⟨hu, hk, i0, z, hi, hz0, hz1, hz2, hz3⟩ := hT
  obtain ⟨cs, hA, hrow⟩ := hown
  obtain ⟨ao, c, rfl, h1, h2⟩ := hV.form
  cases ao with
  | none =>
    have hM : M = [] := by
      cases M with
      | nil => rfl
      | cons r M =>
        obtain ⟨ao', cap', e, -, -, h3⟩ := hV
        cases e
        obtain ⟨b, off, c, e, -⟩ := h3 0 (by simp)
        cases e
    subst hM
    have hc : c = 0 := hV.nilc _ _ rfl
    subst hc
    have hr := run_append_owned_none (P := Try.prog) w B t ty e i0 k hu hi v E.length cs.flatten hrow
    exact ⟨v, w, hr, by rw [List.append_nil]; exact ⟨cs, hA, hrow⟩, Below.refl _ _, ⟨rfl, rfl, rfl, Nat.le_refl _, fun _ _ _ => rfl⟩, .inl rfl⟩
  | some ad =>
    obtain ⟨ds, hD, hcell⟩ := hV.flat hC
    have hcell' : ∀ j u, ds.flatten[j]? = some u → w.cell? (ad.add j) = some u := fun j u hj => by
      have h0 := hcell j u hj
      exact (hb.cell (p := ad.add j) (lt_cellW h0)).trans h0
    obtain ⟨v', w', hr, r2, r3, r4, r5⟩ := run_append_own_at (P := Try.prog) w B t ty e i0 z k bytes hu hi hz0 hz1 hz2 hz3 hk v E.length cs.flatten hrow ad M.length c ds.flatten hD.flat_len hcell' hD.flat_one hm hbytes hB
    refine ⟨v', w', hr, ⟨cs ++ ds, hA.catW hD, ?_⟩, (Below.refl _ _).grown r3 hB (fun k hk => (hrow.lt k hk).1), r3, r5⟩
    rw [List.length_append, List.flatten_append]
    exact r2
/-- One element more, out of a block of its own. -/
theorem run_append_one (hT : ElTy t e k bytes) (ty : TypeId) {w0 w : World} {B : Nat} {v : Value} {E : List α} (hown : OwnW R e k w0 w B v E) {a : α} {c : List Value} (ha : CellW R k w0 a c) {b cap : Nat} {cs' : Array Value}
    (hbk : Blk w b cs' e) (hcs : cs'.toList = c) (hm : E.length + 1 ≤ maxLen) (hbytes : (E.length + 1) * bytes ≤ 140737488355328) (hB : B ≤ w.heap.size) :
    ∃ v' w', (Builtin.append_ #[t, t] ty #[v, .slice (some ⟨b, 0, none⟩) 1 cap]).run Try.prog w = .ok v' w' ∧ OwnW R e k w0 w' B v' (E ++ [a]) ∧ Below B w w' ∧ w.grownBy w' v.ownBlock ∧ (v'.ownBlock = v.ownBlock ∨ v'.ownBlock = some w.heap.size) := by
  obtain ⟨hu, hk, i0, z, hi, hz0, hz1, hz2, hz3⟩ := hT
  obtain ⟨cs, hA, hrow⟩ := hown
  obtain ⟨v', w', hr, r2, r3, r4, r5⟩ := run_append_own_at (P := Try.prog) w B t ty e i0 z k bytes hu hi hz0 hz1 hz2 hz3 hk v E.length cs.flatten hrow ⟨b, 0, none⟩ 1 cap c (by rw [ha.1, Nat.one_mul]) (fun j u hj => by
    rw [add_noneK, hbk.cell, Nat.zero_add, ← Array.getElem?_toList, hcs]; exact hj) ha.2.1 hm hbytes hB
  refine ⟨v', w', hr, ⟨cs ++ [c], hA.add ha, ?_⟩, (Below.refl _ _).grown r3 hB (fun k hk => (hrow.lt k hk).1), r3, r5⟩
  rw [List.length_append, List.flatten_append]
  simpa using r2
/-- As steps of a walk. -/
theorem wpList_append_all {ops : Array Oper} {rest : List Oper} {o : Oper} {a : Act} {Q : Exit → Act → World → Prop} (hgd : o.guard = none) (s x : Operand) (t : TypeId)
    (ho : o.op = .call { callee := .builtin .append, args := #[s, x], argTypes := #[t, t] }) (hT : ElTy t e k bytes) (hC : CellR R k) {w0 w : World} (B : Nat) (v : Value) (E : List α) (hs : a.eval s = v) (hown : OwnW R e k w0 w B v E) (xv : Value) (M : List α) (hx : a.eval x = xv) (hV : RdL R k w0 xv M)
    (hb : Below w0.heap.size w0 w) (hm : E.length + M.length ≤ maxLen) (hbytes : (E.length + M.length) * bytes ≤ 140737488355328) (hB : B ≤ w.heap.size)
    (h : ∀ v' w', OwnW R e k w0 w' B v' (E ++ M) → Below B w w' → w.grownBy w' v.ownBlock → (v'.ownBlock = v.ownBlock ∨ v'.ownBlock = some w.heap.size) → wpList Try.prog ops Q rest (a.put o.dst v') w') : wpList Try.prog ops Q (o :: rest) a w := by
  refine wpList_plain hgd fun K hK => ?_
  obtain ⟨v', w', hr, h2, h3, h4, h5⟩ := run_append_all hT hC o.type hown hV hb hm hbytes hB
  unfold Oper.wp execOp
  simp only [ho, resolve, invoke, builtin, Sem.run_bind, Sem.run_pure, Result.andThen_ok, List.map_toArray, List.map_cons, List.map_nil, hs, hx, hr]
  exact hK _ _ (h v' w' h2 h3 h4 h5)
theorem wpList_append_one {ops : Array Oper} {rest : List Oper} {o : Oper} {a : Act} {Q : Exit → Act → World → Prop} (hgd : o.guard = none) (s x : Operand) (t : TypeId)
    (ho : o.op = .call { callee := .builtin .append, args := #[s, x], argTypes := #[t, t] }) (hT : ElTy t e k bytes) {w0 w : World} (B : Nat) (v : Value) (E : List α) (hs : a.eval s = v) (hown : OwnW R e k w0 w B v E) {b cap : Nat} (hx : a.eval x = .slice (some ⟨b, 0, none⟩) 1 cap) (el : α) (c : List Value) (ha : CellW R k w0 el c) {cs' : Array Value}
    (hbk : Blk w b cs' e) (hcs : cs'.toList = c) (hm : E.length + 1 ≤ maxLen) (hbytes : (E.length + 1) * bytes ≤ 140737488355328) (hB : B ≤ w.heap.size)
    (h : ∀ v' w', OwnW R e k w0 w' B v' (E ++ [el]) → Below B w w' → w.grownBy w' v.ownBlock → (v'.ownBlock = v.ownBlock ∨ v'.ownBlock = some w.heap.size) → wpList Try.prog ops Q rest (a.put o.dst v') w') : wpList Try.prog ops Q (o :: rest) a w := by
  refine wpList_plain hgd fun K hK => ?_
  obtain ⟨v', w', hr, h2, h3, h4, h5⟩ := run_append_one (cap := cap) hT o.type hown ha hbk hcs hm hbytes hB
  obtain ⟨xv, hxv⟩ : ∃ xv, xv = Value.slice (some ⟨b, 0, none⟩) 1 cap := ⟨_, rfl⟩
  rw [← hxv] at hx hr
  unfold Oper.wp execOp
  simp only [ho, resolve, invoke, builtin, Sem.run_bind, Sem.run_pure, Result.andThen_ok, List.map_toArray, List.map_cons, List.map_nil, hs, hx, hr]
  exact hK _ _ (h v' w' h2 h3 h4 h5)
theorem app_farW {W W' : World} {v v' : Value} (hg : W.grownBy W' v.ownBlock) (hl : v'.ownBlock = v.ownBlock ∨ v'.ownBlock = some W.heap.size) : ∀ (b : Nat) (o : Obj), W.heap[b]? = some o → v.ownBlock ≠ some b → W'.heap[b]? = some o ∧ v'.ownBlock ≠ some b := by
  intro b o h hne
  have hlt : b < W.heap.size := (Array.getElem?_eq_some_iff.1 h).1
  refine ⟨(hg.block b hlt (fun e => hne e.symm)).trans h, ?_⟩
  rcases hl with hl | hl
  · rw [hl]; exact hne
  · rw [hl]; intro e; cases e; omega
/-- A part of a list that came in: from i on, as far as j. -/
theorem RdL.cut {w : World} {b off cap : Nat} {n : Nat} {L : List α} (h : RdL R k w (.slice (some ⟨b, off, none⟩) n cap) L) {i j : Nat} (hij : i ≤ j) (hj : j ≤ L.length) (c' : Nat) (hc : j - i ≤ c') :
    RdL R k w (.slice (some ⟨b, off + i * k, none⟩) (j - i) c') ((L.take j).drop i) := by
  obtain ⟨ao, cap', e, h1, h2, h3⟩ := h
  cases e
  have hl : ((L.take j).drop i).length = j - i := by simp; omega
  refine ⟨_, c', by rw [hl], ⟨by omega, fun e => by cases e⟩, by omega, fun q hq => ?_⟩
  rw [hl] at hq
  obtain ⟨b', off', c, e, hlt, hR, hcell⟩ := h3 (i + q) (by omega)
  cases e
  have he : ((L.take j).drop i)[q]'(by rw [hl]; exact hq) = L[i + q]'(by omega) := by simp
  refine ⟨b, off + i * k, c, rfl, hlt, by rw [he]; exact hR, fun p u hp => ?_⟩
  have := hcell p u hp
  have e4 : off + i * k + q * k + p = off + (i + q) * k + p := by rw [Nat.add_mul]; omega
  rw [e4]
  exact this

/-- What a cut of a list is. -/
theorem RdL.sliced {w : World} {ao : Option Addr} {cap : Nat} {L : List α} (h : RdL R k w (.slice ao L.length cap) L) {i j : Nat} (hij : i ≤ j) (hj : j ≤ L.length) :
    RdL R k w (sliced ao i j cap k) ((L.take j).drop i) ∧ ∃ yo, sliced ao i j cap k = .slice yo (j - i) (cap - i) := by
  obtain ⟨ao', cap', e, h1, h2, h3⟩ := h
  cases e
  refine ⟨?_, _, rfl⟩
  have hl : ((L.take j).drop i).length = j - i := by simp; omega
  unfold Go.sliced
  cases ao with
  | none =>
    have hc : cap = 0 := h1.2 rfl
    have h0 : j = 0 := by omega
    have hi : i = 0 := by omega
    subst hc h0 hi
    exact ⟨none, 0, by simp, ⟨by simp, fun _ => rfl⟩, by simp [maxLen], fun q hq => by simp at hq⟩
  | some a =>
    by_cases hm : cap = i
    · rw [if_pos hm]
      have h0 : j - i = 0 := by omega
      exact ⟨some a, cap - i, by rw [hl], ⟨by omega, fun e => by cases e⟩, by rw [hl, h0]; exact Nat.zero_le _, fun q hq => by omega⟩
    · rw [if_neg hm]
      by_cases h0 : j - i = 0
      · exact ⟨_, cap - i, by rw [hl], ⟨by omega, fun e => by cases e⟩, by rw [hl, h0]; exact Nat.zero_le _, fun q hq => by omega⟩
      · obtain ⟨b, off, c, e, -⟩ := h3 0 (by omega)
        cases e
        have := RdL.cut (R := R) (k := k) (w := w) (b := b) (off := off) (cap := cap) (n := L.length) (L := L) ⟨_, _, rfl, h1, h2, h3⟩ hij hj (cap - i) (by omega)
        rw [Option.map_some, add_noneK]
        exact this
theorem sizeOf_el {t e : TypeId} {k bytes : Nat} (hT : ElTy t e k bytes) (w : World) : (sizeOf (Try.prog.elem t)).run Try.prog w = .ok k w ∧ Try.prog.underlying t = some (.slice (Try.prog.elem t)) := by
  obtain ⟨hu, hk, i0, z, hi, hz0, hz1, hz2, hz3⟩ := hT
  have he : Try.prog.elem t = e := by simp [Program.elem, hu]
  rw [he]
  exact ⟨by simp [sizeOf, typeInfo, hi, hz1, go_sem], hu⟩
theorem cut_to (hT : ElTy t e k bytes) (ao : Option Addr) (n cap j : Nat) (hj : j ≤ cap) (hc : cap ≤ maxLen) (W : World) :
    (Instr.slice t (.slice ao n cap) none (some (.int .i64 (j : Int))) none).run Try.prog W = .ok (sliced ao 0 j cap k) W := by
  rw [run_slice_h (P := Try.prog) W _ _ _ _ (sizeOf_el hT W).2 .i64 (j : Int) (by omega) (by omega), (sizeOf_el hT W).1]
  simp [Result.andThen]
theorem cut_from (hT : ElTy t e k bytes) (ao : Option Addr) (n cap i : Nat) (hi : i ≤ n) (W : World) :
    (Instr.slice t (.slice ao n cap) (some (.int .i64 (i : Int))) none none).run Try.prog W = .ok (sliced ao i n cap k) W := by
  rw [run_slice_l (P := Try.prog) W _ _ _ _ (sizeOf_el hT W).2 .i64 (i : Int) (by omega) (by omega), (sizeOf_el hT W).1]
  simp [Result.andThen]

/-- A list whose cells lie in one block. -/
theorem RdL.laid {W : World} {L : List α} {CS : List (List Value)} {b c : Nat} {cs : Array Value} {ty : TypeId} {fr : Nat × Nat} (hA : AllR (CellW R k W) L CS) (hb : W.heap[b]? = some (.cells cs ty fr)) (hc : cs.toList = CS.flatten) (hle : L.length ≤ c) (hm : L.length ≤ maxLen) :
    RdL R k W (.slice (some ⟨b, 0, none⟩) L.length c) L := by
  refine ⟨_, c, rfl, ⟨hle, fun e => by cases e⟩, hm, fun i hi => ?_⟩
  obtain ⟨x, hx, hl, hone, hR⟩ := hA.at i hi
  refine ⟨b, 0, x, rfl, (Array.getElem?_eq_some_iff.1 hb).1, hR, fun j u hj => ?_⟩
  have := flat_at (hA.memW (P := fun c => c.length = k) (fun _ _ h => h.1)) i x hx j u hj
  rw [cell_of_row W b _ _ _ _ hb, ← Array.getElem?_toList, hc, Nat.zero_add]
  exact this

theorem cellRTm : CellR TmI 5 := fun w a c h => by obtain rfl : c = _ := h; exact ⟨rfl, by simp [Tm.cells, Value.oneCell']⟩
theorem cellRDe : CellR DeI 2 := fun w a c h => by obtain rfl : c = _ := h; exact ⟨rfl, by simp [De.cells, Value.oneCell']⟩
theorem cellRLt : CellR LtI 14 := fun w a c h => by
  obtain ⟨x, rfl, hx⟩ := h
  obtain ⟨_, _, rfl, -⟩ := hx.form
  exact ⟨rfl, by simp [LtC, Value.oneCell']⟩
theorem cellRRu : CellR RuI 3 := fun w a c h => by
  obtain ⟨x, y, rfl, hx, hy⟩ := h
  obtain ⟨_, _, rfl, -⟩ := hx.form
  obtain ⟨_, _, rfl, -⟩ := hy.form
  exact ⟨rfl, by simp [Value.oneCell']⟩
theorem elTm : ElTy 22 51 5 56 := elTy (z := .agg #[.bool false, .string ⟨#[]⟩, .bool false, .string ⟨#[]⟩, .int .i64 0]) Try.underlying22 (by kernel_rfl) rfl (by decide)
theorem elDe : ElTy 28 113 2 24 := elTy (z := .agg #[.string ⟨#[]⟩, .int .i64 0]) Try.underlying28 (by kernel_rfl) rfl (by decide)
theorem elLt : ElTy 25 53 14 176 := elTy (z := .agg #[.int .i64 0, .string ⟨#[]⟩, .slice none 0 0, .string ⟨#[]⟩, .bool false, .string ⟨#[]⟩, .bool false, .string ⟨#[]⟩, .int .i64 0, .bool false, .string ⟨#[]⟩, .bool false, .string ⟨#[]⟩, .int .i64 0]) Try.underlying25 (by kernel_rfl) rfl (by decide)
theorem elRu : ElTy 29 27 3 64 := elTy (z := .agg #[.string ⟨#[]⟩, .slice none 0 0, .slice none 0 0]) Try.underlying29 (by kernel_rfl) rfl (by decide)
end Go.Proofs.Ytcpdikhiodbdjaa
