/-
  PrinterLines' walk.
-/
import Derived.Test.YtddioikfhabjpaaGreatDoorPLinesP
import Derived.Test.YtddioikfhabjpaaGreatDoorPD
import Derived.Test.YtddioikfhabjpaaGreatDoorPB
import Derived.Maps.AppendAt
import Derived.Deep.RegionHeld3
namespace Go.Proofs.YtddioikfhabjpaaGreatDoor
set_option linter.unusedSimpArgs false
set_option linter.unusedVariables false
set_option linter.unusedSectionVars false
set_option maxRecDepth 100000
open Go.RowKit Go.Maps

/-- Rules that came in, put to a list of the call's own: their own lists lie in memory that was there. -/
def RuC (w0 : World) (r : Ru) (c : List Value) : Prop := c.length = 3 ∧ RuI w0 r c
def OwnRu (w0 W : World) (B : Nat) (v : Value) (L : List Ru) : Prop := ∃ cs, AllR (RuC w0) L cs ∧ W.ownsRow B 40 3 v L.length cs.flatten
theorem AllR.mem {α : Type} {R : α → List Value → Prop} {P : List Value → Prop} (h : ∀ a c, R a c → P c) : ∀ {L : List α} {cs : List (List Value)}, AllR R L cs → ∀ c ∈ cs, P c
  | [], [], _, c, hc => by simp at hc
  | a :: L, c :: cs, ⟨h1, h2⟩, d, hd => by
    rcases List.mem_cons.1 hd with rfl | hd
    · exact h a _ h1
    · exact AllR.mem h h2 d hd
  | [], _ :: _, k, _, _ => k.elim
  | _ :: _, [], k, _, _ => k.elim
theorem AllR.cat {α : Type} {R : α → List Value → Prop} : ∀ {L M : List α} {cs ds : List (List Value)}, AllR R L cs → AllR R M ds → AllR R (L ++ M) (cs ++ ds)
  | [], _, [], _, _, k => k
  | _ :: _, _, _ :: _, _, ⟨h1, h2⟩, k => ⟨h1, AllR.cat h2 k⟩
  | [], _, _ :: _, _, h, _ => h.elim
  | _ :: _, _, [], _, h, _ => h.elim
theorem OwnRu.rus {w0 W : World} {B : Nat} {v : Value} {L : List Ru} (h : OwnRu w0 W B v L) (hb : Below w0.heap.size w0 W) (hm : L.length ≤ maxLen) : Rus W v L := by
  obtain ⟨cs, h1, h2⟩ := h
  have h2' := h2
  obtain ⟨h3, h4⟩ := h2
  rcases h4 with ⟨e, h0⟩ | ⟨g, cap, cur, e, hB, hg, hc⟩
  · have : L = [] := List.length_eq_zero_iff.1 h0
    subst this e
    exact RdL.nil _ _ _ _ _
  · subst e
    refine ⟨some ⟨g, 0, none⟩, cap, rfl, ?_, hm, fun i hi => ?_⟩
    · first | exact hc.1 | exact hc.2.1 | omega
    · obtain ⟨c, hci, hl, hR⟩ := h1.at i hi
      refine ⟨g, 0, c, rfl, (Array.getElem?_eq_some_iff.1 hg).1, stayRu _ _ _ _ hb hR, fun j u hj => ?_⟩
      have := World.ownsRow.cells h2' (g := g) rfl _ u (flat_at (h1.mem (P := fun c => c.length = 3) (fun _ _ h => h.1)) i c hci j u hj)
      rw [add_noneK] at this
      rw [Nat.zero_add]
      simpa using this
/-- The cells of rules that came in. -/
theorem rus_cells {w0 : World} {ad : Addr} {n cap : Nat} {L : List Ru} (h : Rus w0 (.slice (some ad) n cap) L) : ∃ cs, AllR (RuC w0) L cs ∧ ∀ j u, cs.flatten[j]? = some u → w0.cell? (ad.add j) = some u := by
  obtain ⟨ao, cap', e, h1, h2, h3⟩ := h
  cases e
  have key : ∀ (M : List Ru) (o : Nat), (∀ (i : Nat) (hi : i < M.length), ∃ b off c, (some ad : Option Addr) = some ⟨b, off, none⟩ ∧ RuC w0 M[i] c ∧ ∀ j u, c[j]? = some u → w0.cell? ⟨b, off + (o + i) * 3 + j, none⟩ = some u) →
      ∃ cs, AllR (RuC w0) M cs ∧ ∀ j u, cs.flatten[j]? = some u → w0.cell? (ad.add (o * 3 + j)) = some u := by
    intro M
    induction M with
    | nil => intro o _; exact ⟨[], trivial, fun j u hj => by simp at hj⟩
    | cons a M ih =>
      intro o hM
      obtain ⟨b, off, c, e, hc, hcell⟩ := hM 0 (by simp)
      cases e
      obtain ⟨cs, k1, k2⟩ := ih (o + 1) (fun i hi => by
        obtain ⟨b', off', c', e', hc', hcell'⟩ := hM (i + 1) (by simpa using hi)
        refine ⟨b', off', c', e', hc', fun j u hj => ?_⟩
        have := hcell' j u hj
        have e3 : o + (i + 1) = o + 1 + i := by omega
        rw [e3] at this
        exact this)
      refine ⟨c :: cs, ⟨hc, k1⟩, fun j u hj => ?_⟩
      rw [List.flatten_cons] at hj
      rw [add_noneK]
      by_cases hj3 : j < 3
      · rw [List.getElem?_append_left (by rw [hc.1]; exact hj3)] at hj
        have := hcell j u hj
        simpa [Nat.add_assoc] using this
      · rw [List.getElem?_append_right (by rw [hc.1]; omega), hc.1] at hj
        have := k2 (j - 3) u hj
        rw [add_noneK] at this
        have e4 : off + ((o + 1) * 3 + (j - 3)) = off + (o * 3 + j) := by omega
        rw [e4] at this
        exact this
  obtain ⟨cs, k1, k2⟩ := key L 0 (fun i hi => by
    obtain ⟨b, off, c, e, hl, hr, hc⟩ := h3 i hi
    refine ⟨b, off, c, e, ⟨?_, hr⟩, fun j u hj => by rw [Nat.zero_add]; exact hc j u hj⟩
    obtain ⟨x, y, rfl, -⟩ := hr
    rfl)
  exact ⟨cs, k1, fun j u hj => by have := k2 j u hj; simpa using this⟩
/-- A list that is nil has no room. -/
def NilC (x : Value) : Prop := ∀ n c, x = .slice none n c → c = 0
theorem rul_one {w0 : World} {L : List Ru} {cs : List (List Value)} (h : AllR (RuC w0) L cs) : ∀ u ∈ cs.flatten, u.oneCell' = true := by
  intro u hu
  obtain ⟨c, hc, hu⟩ := List.mem_flatten.1 hu
  refine h.mem (P := fun c => ∀ u ∈ c, u.oneCell' = true) (fun a c hR => ?_) c hc u hu
  obtain ⟨-, x, y, rfl, hx, hy⟩ := hR
  obtain ⟨_, _, rfl, -⟩ := hx.form
  obtain ⟨_, _, rfl, -⟩ := hy.form
  intro u hu
  simp at hu
  rcases hu with rfl | rfl | rfl <;> rfl
theorem rul_len {w0 : World} {L : List Ru} {cs : List (List Value)} (h : AllR (RuC w0) L cs) : cs.flatten.length = L.length * 3 := by
  have hl := h.length
  have h3 := h.mem (P := fun c => c.length = 3) (fun _ _ h => h.1)
  have : ∀ ds : List (List Value), (∀ c ∈ ds, c.length = 3) → ds.flatten.length = ds.length * 3 := by
    intro ds
    induction ds with
    | nil => simp
    | cons d ds ih =>
      intro hd
      have h1 := hd d (by simp)
      have h2 := ih (fun c hc => hd c (by simp [hc]))
      rw [List.flatten_cons, List.length_append, List.length_cons, h1, h2]
      omega
  rw [this cs h3, hl]
theorem infoRuL : (Tryz.prog.info? 40).map (fun i => (i.zero, i.size, i.bytes)) = some (some (.agg #[.string ⟨#[]⟩, .slice none 0 0, .slice none 0 0]), 3, 64) := by kernel_rfl
theorem lt_cellP {w : World} {a : Addr} {u : Value} (h : w.cell? a = some u) : a.block < w.heap.size := by
  cases hh : w.heap[a.block]? with
  | none => simp [World.cell?, hh] at h
  | some o => exact (Array.getElem?_eq_some_iff.1 hh).1
theorem app_far {W W' : World} {v v' : Value} (hg : W.grownBy W' v.ownBlock) (hl : v'.ownBlock = v.ownBlock ∨ v'.ownBlock = some W.heap.size) : ∀ (b : Nat) (o : Obj), W.heap[b]? = some o → v.ownBlock ≠ some b → W'.heap[b]? = some o ∧ v'.ownBlock ≠ some b := by
  intro b o h hne
  have hlt : b < W.heap.size := (Array.getElem?_eq_some_iff.1 h).1
  refine ⟨(hg.block b hlt (fun e => hne e.symm)).trans h, ?_⟩
  rcases hl with hl | hl
  · rw [hl]; exact hne
  · rw [hl]; intro e; cases e; omega
/-- append of rules that came in, as one step of a region that draws. -/
theorem step_append_ru {ops : Array Oper} {o : Oper} {a : Act} {w : World} {K : Act → World → Prop} {Q : Exit → Act → World → Prop} {EE : Prop} {w0 : World}
    (hg : o.guard = none) (s x : Operand) (hop : o.op = Op.call { callee := Callee.builtin Builtin.append, args := #[s, x], argTypes := #[23, 23] })
    (B : Nat) (v : Value) (E : List Ru) (hs : a.eval s = v) (hown : OwnRu w0 w B v E) (xv : Value) (M : List Ru) (hx : a.eval x = xv) (hV : Rus w0 xv M) (hN : NilC xv)
    (hb : Below w0.heap.size w0 w) (hbytes : E.length + M.length ≤ 2000000) (hB : B ≤ w.heap.size)
    (hK : ∀ v' w', OwnRu w0 w' B v' (E ++ M) → Below B w w' → (∀ b o, w.heap[b]? = some o → v.ownBlock ≠ some b → w'.heap[b]? = some o ∧ v'.ownBlock ≠ some b) → K (a.put o.dst v') w') :
    if Region.wanted o (yielded ops a.tmps) = true then Oper.wp Tryz.prog o a w K Q else EE := by
  have hw : Region.wanted o (yielded ops a.tmps) = true := by simp [Region.wanted, hg]
  rw [if_pos hw]
  obtain ⟨i0, hi, hz0, hz1, hz2⟩ := info_parts infoRuL
  obtain ⟨cs, hA, hrow⟩ := hown
  obtain ⟨ao, c, rfl, h1, h2⟩ := hV.form
  cases ao with
  | none =>
    have hM : M = [] := by
      cases M with
      | nil => rfl
      | cons r M =>
        obtain ⟨ao', cap', e, -, -, h3⟩ := hV
        cases e
        obtain ⟨b, off, c, e, -⟩ := h3 0 (by simp)
        cases e
    subst hM
    have hc : c = 0 := hN _ _ rfl
    subst hc
    have hr := run_append_owned_none (P := Tryz.prog) w B 23 o.type 40 i0 3 Tryz.underlying23 hi v E.length cs.flatten hrow
    unfold Oper.wp
    simp only [List.length_nil] at hx
    simp [execOp, hop, resolve, invoke, builtin, hs, hx, hr, Result.andThen]
    exact hK v w (by rw [List.append_nil]; exact ⟨cs, hA, hrow⟩) (Below.refl _ _) (fun _ _ h1 h2 => ⟨h1, h2⟩)
  | some ad =>
    obtain ⟨ds, hD, hcell⟩ := rus_cells hV
    have hcell' : ∀ j u, ds.flatten[j]? = some u → w.cell? (ad.add j) = some u := fun j u hj => by
      have h0 := hcell j u hj
      exact (hb.cell (p := ad.add j) (lt_cellP h0)).trans h0
    obtain ⟨v', w', hr, r2, r3, r4, r5⟩ := run_append_own_at (P := Tryz.prog) w B 23 o.type 40 i0 _ 3 64 Tryz.underlying23 hi hz0 hz1 hz2 rfl (by decide) v E.length cs.flatten hrow ad M.length c ds.flatten (rul_len hD) hcell' (rul_one hD) (by unfold maxLen; omega) (by omega) hB
    unfold Oper.wp
    simp [execOp, hop, resolve, invoke, builtin, hs, hx, hr, Result.andThen]
    refine hK v' w' ⟨cs ++ ds, hA.cat hD, ?_⟩ ((Below.refl _ _).grown r3 hB (fun k hk => (hrow.lt k hk).1)) (app_far r3 r5)
    rw [List.length_append, List.flatten_append]
    exact r2
theorem OwnRu.empty {w0 w : World} {B : Nat} (hB : B ≤ w.heap.size) : OwnRu w0 (w.alloc (.cells #[] 40)) B (.slice (some ⟨w.heap.size, 0, none⟩) 0 0) [] :=
  ⟨[], trivial, rfl, Or.inr ⟨w.heap.size, 0, #[], rfl, hB, (MapKept.heap_alloc w _).1, Nat.le_refl _, Nat.zero_le _, rfl, rfl⟩⟩
theorem OwnRu.below {w0 W W' : World} {B : Nat} {v : Value} {L : List Ru} (h : OwnRu w0 W B v L) (hb : Below W.heap.size W W') : OwnRu w0 W' B v L := by
  obtain ⟨cs, h1, h2⟩ := h
  exact ⟨cs, h1, owns_keep h2 (Nat.le_refl _) (fun i _ hi => hb.block i hi)⟩
theorem own_empty_ru {w0 w : World} {B b : Nat} (hB : B ≤ b) (h : w.heap[b]? = some (.cells #[] 40 (0, 0))) : OwnRu w0 w B (.slice (some ⟨b, 0, none⟩) 0 0) [] :=
  ⟨[], trivial, rfl, Or.inr ⟨b, 0, #[], rfl, hB, h, Nat.le_refl _, Nat.zero_le _, rfl, rfl⟩⟩
theorem OwnRu.form {w0 W : World} {B : Nat} {v : Value} {L : List Ru} (h : OwnRu w0 W B v L) : ∃ o c, v = .slice o L.length c := by
  obtain ⟨cs, h1, h2, h3⟩ := h
  rcases h3 with ⟨rfl, h0⟩ | ⟨g, cap, cur, rfl, -⟩
  · exact ⟨none, 0, by rw [h0]⟩
  · exact ⟨_, _, rfl⟩
theorem OwnRu.lt {w0 W : World} {B : Nat} {v : Value} {L : List Ru} (h : OwnRu w0 W B v L) : ∀ g, v.ownBlock = some g → g < W.heap.size := by
  obtain ⟨cs, h1, h2⟩ := h
  intro g hg
  exact (h2.lt g hg).2
/-- The call's own list stays where its block stays. -/
theorem OwnRu.far {w0 W W' : World} {B : Nat} {v : Value} {L : List Ru} (h : OwnRu w0 W B v L) (hb : ∀ g, v.ownBlock = some g → W'.heap[g]? = W.heap[g]?) : OwnRu w0 W' B v L := by
  obtain ⟨cs, h1, h2, h3⟩ := h
  refine ⟨cs, h1, h2, ?_⟩
  rcases h3 with h3 | ⟨g, cap, cur, e, e1, e2, e3⟩
  · exact .inl h3
  · exact .inr ⟨g, cap, cur, e, e1, (hb g (by rw [e]; rfl)).trans e2, e3⟩
theorem heap1L (w : World) (a : Obj) : (w.alloc a).heap[w.heap.size]? = some a := (MapKept.heap_alloc w a).1
theorem heap2L (w : World) (a b : Obj) : ((w.alloc a).alloc b).heap[w.heap.size + 1]? = some b := by
  have := (MapKept.heap_alloc (w.alloc a) b).1
  rwa [World.size_alloc] at this
theorem heap1oL (w : World) (a b : Obj) : ((w.alloc a).alloc b).heap[w.heap.size]? = some a := by
  rw [Below.heap_alloc _ _ _ (by simp)]; exact heap1L w a
theorem box9 {w : World} {b : Nat} {x y : Value} {t : TypeId} (h : w.heap[b]? = some (.cells #[x, y] t (0, 0))) : w.cell? ⟨b, 0, none⟩ = some x ∧ w.cell? ⟨b, 1, none⟩ = some y ∧ w.frozen? ⟨b, 0, none⟩ = false ∧ w.frozen? ⟨b, 1, none⟩ = false ∧ b < w.heap.size := by
  refine ⟨by simp [World.cell?, h], by simp [World.cell?, h], by simp [World.frozen?, h], by simp [World.frozen?, h], (Array.getElem?_eq_some_iff.1 h).1⟩
end Go.Proofs.YtddioikfhabjpaaGreatDoor
