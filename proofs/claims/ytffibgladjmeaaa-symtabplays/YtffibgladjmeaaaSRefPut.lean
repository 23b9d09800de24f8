/-
  Contract of the document's Put (lambrequinref02.Put): the list with the value at its end, if it isn't there.
-/
import Derived.Test.YtffibgladjmeaaaSRef
namespace Go.Proofs.Ytffibgladjmeaaa
set_option linter.unusedSimpArgs false
set_option linter.unusedVariables false
set_option linter.unusedSectionVars false
open Go.RowKit Go.Maps
variable [DecidableEq V]

/-- A list in a block of its own is a list of values. -/
theorem vals_row {w : World} {x : Value} {L : List V} (h : w.ownsRow 0 24 3 x L.length (L.flatMap V.cells)) (hok : ∀ v ∈ L, v.Ok) : Vals w x L := by
  have h' := h
  rcases h.2 with ⟨rfl, hn⟩ | ⟨g, cap, cur, rfl, _, hg, h1, h2, _⟩
  · exact ⟨none, 0, by rw [hn], by rw [hn]; exact Nat.zero_le _, hok, fun i hi => absurd hi (by omega)⟩
  · refine ⟨some ⟨g, 0, none⟩, cap, rfl, by omega, hok, fun i hi => ⟨g, 0, rfl, (Array.getElem?_eq_some_iff.1 hg).1, ?_⟩⟩
    obtain ⟨e0, e1, e2⟩ := flat_at L i hi
    have c := h'.cells (g := g) rfl
    have c0 := c _ _ e0
    have c1 := c _ _ e1
    have c2 := c _ _ e2
    rw [add_none] at c0 c1 c2
    exact ⟨c0, by simpa [Nat.add_assoc] using c1, by simpa [Nat.add_assoc] using c2⟩

theorem own_empty {w : World} {b : Nat} (h : w.heap[b]? = some (.cells #[] 24 (0, 0))) : w.ownsRow 0 24 3 (.slice (some ⟨b, 0, none⟩) 0 0) 0 [] :=
  ⟨rfl, Or.inr ⟨b, 0, #[], rfl, Nat.zero_le _, h, Nat.le_refl _, Nat.zero_le _, rfl, rfl⟩⟩
theorem heap2 (w : World) (a b : Obj) : ((w.alloc a).alloc b).heap[w.heap.size + 1]? = some b := by
  have := (MapKept.heap_alloc (w.alloc a) b).1
  rwa [World.size_alloc] at this
theorem heap2o (w : World) (a b c : Obj) : (((w.alloc a).alloc b).alloc c).heap[w.heap.size + 1]? = some b := by
  rw [Below.heap_alloc _ _ _ (by simp)]; exact heap2 w a b
theorem heap3 (w : World) (a b c : Obj) : (((w.alloc a).alloc b).alloc c).heap[w.heap.size + 1 + 1]? = some c := by
  have := (MapKept.heap_alloc ((w.alloc a).alloc b) c).1
  rwa [World.size_alloc, World.size_alloc] at this
theorem three_at {w : World} {b : Nat} {x y z : Value} {t : TypeId} {fr : Nat × Nat} (h : w.heap[b]? = some (.cells #[x, y, z] t fr)) : ∀ j u, [x, y, z][j]? = some u → w.cell? ((⟨b, 0, none⟩ : Addr).add j) = some u := by
  intro j u hj
  rw [add_none, cell_of_row w b _ _ _ _ h]
  simpa using hj
theorem flat_one (L : List V) : ∀ u ∈ L.flatMap V.cells, u.oneCell' = true := by
  intro u hu
  obtain ⟨v, _, hv⟩ := List.mem_flatMap.1 hu
  simp [V.cells] at hv
  rcases hv with rfl | rfl | rfl <;> rfl
theorem held_grow {w W w3 : World} {b : Nat} {a0 a1 a2 : Value} {r : Option Nat}
    (h : W.cell? ⟨b, 0, none⟩ = some a0 ∧ W.cell? ⟨b, 1, none⟩ = some a1 ∧ W.cell? ⟨b, 2, none⟩ = some a2 ∧ b < W.heap.size ∧ Below w.heap.size w W) (hg : W.grownBy w3 r) (hr : ∀ e, r = some e → b < e) (hb : w.heap.size ≤ b) :
    w3.cell? ⟨b, 0, none⟩ = some a0 ∧ w3.cell? ⟨b, 1, none⟩ = some a1 ∧ w3.cell? ⟨b, 2, none⟩ = some a2 ∧ b < w3.heap.size ∧ Below w.heap.size w w3 := by
  obtain ⟨h1, h2, h3, h4, h5⟩ := h
  have hk := hg.block b h4 (fun e => by have := hr b e.symm; omega)
  exact ⟨(World.cell?_of_block (a := ⟨b, 0, none⟩) hk).trans h1, (World.cell?_of_block (a := ⟨b, 1, none⟩) hk).trans h2, (World.cell?_of_block (a := ⟨b, 2, none⟩) hk).trans h3, Nat.lt_of_lt_of_le h4 hg.size, h5.grown hg (by have := h5.size; omega) (fun k e => by have := hr k e; omega)⟩
theorem own_past {v1 : Value} {e0 N b : Nat} (hl : v1.ownBlock = some e0 ∨ v1.ownBlock = some N) (h1 : b < e0) (h2 : b < N) : ∀ e, v1.ownBlock = some e → b < e := by
  intro e he
  rcases hl with hl | hl
  · rw [hl] at he; cases he; exact h1
  · rw [hl] at he; cases he; exact h2
/-- append of nothing. -/
theorem step_append_none {P : Program} {ops : Array Oper} {o : Oper} {a : Act} {w : World} {K : Act → World → Prop} {Q : Exit → Act → World → Prop} {E : Prop}
    (hg : o.guard = none) (s x : Operand) (t : TypeId) (hop : o.op = Op.call { callee := Callee.builtin Builtin.append, args := #[s, x], argTypes := #[t, t] })
    (e : TypeId) (i : TypeInfo) (size : Nat) (h1 : P.underlying t = some (.slice e)) (h2 : P.info? e = some i)
    (v : Value) (n : Nat) (xs : List Value) (hs : a.eval s = v) (hown : w.ownsRow 0 e size v n xs) (hx : a.eval x = .slice none 0 0)
    (hK : K (a.put o.dst v) w) :
    if Region.wanted o (yielded ops a.tmps) = true then Oper.wp P o a w K Q else E := by
  have hw : Region.wanted o (yielded ops a.tmps) = true := by simp [Region.wanted, hg]
  rw [if_pos hw]
  have hrun := run_append_owned_none (P := P) w 0 t o.type e i size h1 h2 v n xs hown
  unfold Oper.wp
  simp [execOp, hop, resolve, invoke, builtin, hs, hx, hrun, Result.andThen]
  exact hK

set_option maxHeartbeats 6400000 in
set_option maxRecDepth 100000 in
theorem refPut_out_false {x : Value} {L : List V} {s : ByteArray} {n : Int} {w : World} (hx : w.ownsRow 0 24 3 x L.length (L.flatMap V.cells)) (hok : ∀ v ∈ L, v.Ok) (hv : (V.mk false s n).Ok) (hbare : ∀ u ∈ L, u.bare = u) (hn : (V.mk false s n).bare ∉ L) (hL : L.length < 1000000) :
    Calls Try.prog 11 #[x, .agg #[.bool false, .string s, .int .i64 n]] w
      fun e w' => ∃ x', e = .returned (.tuple #[x', .int .i64 (L.length : Nat)]) ∧ Below w.heap.size w w' ∧ w'.ownsRow 0 24 3 x' (L.length + 1) (L.flatMap V.cells ++ [.bool false, .string ⟨#[]⟩, .int .i64 n]) ∧ ∀ g, x'.ownBlock = some g → w.heap.size ≤ g := by
  obtain ⟨i0, hi, hz0, hz1, hz2⟩ := info_parts infoVal
  have hF : Hid (∀ W, Below w.heap.size w W → Calls Try.prog 14 #[x, .agg #[.bool false, .string s, .int .i64 n]] W fun e w' => e = .returned (.tuple #[.int .i64 0, .bool false]) ∧ Below W.heap.size W w') := fun W hb => by
    have h1 := refFind_any ((vals_row hx hok).below hb) hv hbare
    rwa [show at0 L (V.mk false s n).bare = 0 from if_neg hn, decide_eq_false hn] at h1
  have HX := Lib.hid hx
  have hLI : (L.length : Int) ≤ 1000000 := by omega
  clear hx hv hbare hn hok
  go_enter Try.func11, Try.ntmps11
  go_wp2_with fail
  refine (hF.out _ ((Below.refl _ _).alloc (Nat.le_refl _) _)).mono ?_
  rintro e w1 ⟨rfl, hb1⟩
  have hz : w.heap.size < w1.heap.size := by have := hb1.size; simp at this; omega
  obtain ⟨hc1, -⟩ := bcell hb1
  have HB1 : Hid (Below w.heap.size w w1) := ((Below.refl _ _).alloc (Nat.le_refl _) _).trans (hb1.mono (by simp))
  clear hb1
  go_wp2_with fail
  have I0 : Hid (Below w.heap.size w (w1.alloc (.cells #[.bool false, .string ⟨#[]⟩, .int .i64 n] 24)).drew) := (HB1.out.alloc (by omega) _).drew
  clear hc1
  rcases HX.out.2 with ⟨rfl, h0⟩ | ⟨g, cap, cur, rfl, -, hg, hnc, hcm, -⟩
  · obtain rfl : L = [] := List.eq_nil_of_length_eq_zero h0
    go_region_held3 (fun w' => w'.cell? ⟨w1.heap.size, 0, none⟩ = some (.bool false) ∧ w'.cell? ⟨w1.heap.size, 1, none⟩ = some (.string ⟨#[]⟩) ∧ w'.cell? ⟨w1.heap.size, 2, none⟩ = some (.int .i64 n) ∧ w1.heap.size < w'.heap.size ∧ Below w.heap.size w w')
      (first | assumption | exact ⟨by simp, by simp, by simp, by simp, I0.out⟩ | exact held_keep (by assumption) ((Below.refl _ _).alloc (Nat.le_refl _) _))
      (first
        | (refine step_append_none rfl (.tmp 26) (.tmp 27) 22 rfl 24 i0 3 Try.underlying22 hi (.slice (some ⟨_, 0, none⟩) 0 0) 0 [] rfl (own_empty (by first | exact heap2 _ _ _ | exact heap2o _ _ _ _ | exact heap3 _ _ _ _)) rfl ?_)
        | (refine step_append_own rfl (.tmp 28) (.tmp 30) 22 rfl 24 i0 _ 3 32 Try.underlying22 hi hz0 hz1 hz2 rfl (by decide) (.slice (some ⟨_, 0, none⟩) 0 0) 0 [] rfl (own_empty (by first | exact heap2 _ _ _ | exact heap2o _ _ _ _ | exact heap3 _ _ _ _)) _ 1 1 [.bool false, .string ⟨#[]⟩, .int .i64 n] rfl rfl (by first | exact three_new _ _ _ _ _ | exact three_at (by first | exact heap2 _ _ _ | exact heap2o _ _ _ _ | exact heap3 _ _ _ _)) (by simp [Value.oneCell']) (by decide) (by decide) ?_; intro v' w3 hr3 hg3 hl3; have hS3 := held_grow (w := w) (b := w1.heap.size) (by assumption) hg3 (by intro e he; simp [Value.ownBlock] at he; omega) (Nat.le_of_lt hz)))
    all_goals
      go_wp2
      go_ret2
      refine ⟨v', rfl, hS3.2.2.2.2, by simpa using hr3, fun g hg' => ?_⟩
      rcases hl3 with hl | hl
      · rw [hl] at hg'; simp [Value.ownBlock] at hg'; omega
      · rw [hl] at hg'; simp at hg'; omega
  · have hglt : g < w.heap.size := (Array.getElem?_eq_some_iff.1 hg).1
    have HC : Hid (∀ W, Below w.heap.size w W → ∀ j u, (L.flatMap V.cells)[j]? = some u → W.cell? ((⟨g, 0, none⟩ : Addr).add j) = some u) := fun W hb j u hu => by
      have := HX.out.cells (g := g) rfl j u hu
      rw [add_none] at this ⊢
      exact (hb.cell (p := ⟨g, 0 + j, none⟩) hglt).trans this
    clear hg
    go_region_held3 (fun w' => w'.cell? ⟨w1.heap.size, 0, none⟩ = some (.bool false) ∧ w'.cell? ⟨w1.heap.size, 1, none⟩ = some (.string ⟨#[]⟩) ∧ w'.cell? ⟨w1.heap.size, 2, none⟩ = some (.int .i64 n) ∧ w1.heap.size < w'.heap.size ∧ Below w.heap.size w w')
      (first | assumption | exact ⟨by simp, by simp, by simp, by simp, I0.out⟩ | exact held_keep (by assumption) ((Below.refl _ _).alloc (Nat.le_refl _) _))
      (first
        | (refine step_append_own rfl (.tmp 26) (.tmp 27) 22 rfl 24 i0 _ 3 32 Try.underlying22 hi hz0 hz1 hz2 rfl (by decide) (.slice (some ⟨_, 0, none⟩) 0 0) 0 [] rfl (own_empty (by first | exact heap2 _ _ _ | exact heap2o _ _ _ _ | exact heap3 _ _ _ _)) ⟨g, 0, none⟩ L.length cap (L.flatMap V.cells) rfl (cells_flat L) (HC.out _ (by go_split_ands; assumption)) (flat_one L) (by unfold maxLen; omega) (by omega) ?_; intro v1 w2 hr2 hg2 hl2; have hS2 := held_grow (w := w) (b := w1.heap.size) (by assumption) hg2 (by intro e he; simp [Value.ownBlock] at he; omega) (Nat.le_of_lt hz); have hr2' : w2.ownsRow 0 24 3 v1 L.length (L.flatMap V.cells) := (by simpa using hr2); have he2 : ∀ e, v1.ownBlock = some e → w1.heap.size < e := own_past hl2 (by simp <;> omega) (by simp <;> omega); have HE := Lib.hid (And.intro hr2' he2); have HG2 := Lib.hid hg2; clear hr2 hr2' he2 hl2 hg2)
        | (refine step_append_own rfl (.tmp 28) (.tmp 30) 22 rfl 24 i0 _ 3 32 Try.underlying22 hi hz0 hz1 hz2 rfl (by decide) v1 L.length (L.flatMap V.cells) rfl (by first | exact HE.out.1 | exact HE.out.1.alloc _) _ 1 1 [.bool false, .string ⟨#[]⟩, .int .i64 n] rfl rfl (by first | exact three_new _ _ _ _ _ | exact three_at ((HG2.out.block _ (by simp) (by simp [Value.ownBlock])).trans (by first | exact heap2 _ _ _ | exact heap2o _ _ _ _ | exact heap3 _ _ _ _))) (by simp [Value.oneCell']) (by unfold maxLen; omega) (by omega) ?_; intro v' w3 hr3 hg3 hl3; have hS3 := held_grow (w := w) (b := w1.heap.size) (by assumption) hg3 HE.out.2 (Nat.le_of_lt hz)))
    all_goals
      go_wp2
      go_ret2
      refine ⟨v', rfl, hS3.2.2.2.2, hr3, fun g hg' => ?_⟩
      rcases hl3 with hl | hl
      · rw [hl] at hg'; have := HE.out.2 g hg'; omega
      · rw [hl] at hg'; have := hS2.2.2.2.1; simp at hg'; omega

set_option maxHeartbeats 6400000 in
set_option maxRecDepth 100000 in
theorem refPut_out_true {x : Value} {L : List V} {s : ByteArray} {n : Int} {w : World} (hx : w.ownsRow 0 24 3 x L.length (L.flatMap V.cells)) (hok : ∀ v ∈ L, v.Ok) (hv : (V.mk true s n).Ok) (hbare : ∀ u ∈ L, u.bare = u) (hn : (V.mk true s n).bare ∉ L) (hL : L.length < 1000000) :
    Calls Try.prog 11 #[x, .agg #[.bool true, .string s, .int .i64 n]] w
      fun e w' => ∃ x', e = .returned (.tuple #[x', .int .i64 (L.length : Nat)]) ∧ Below w.heap.size w w' ∧ w'.ownsRow 0 24 3 x' (L.length + 1) (L.flatMap V.cells ++ [.bool true, .string s, .int .i64 0]) ∧ ∀ g, x'.ownBlock = some g → w.heap.size ≤ g := by
  obtain ⟨i0, hi, hz0, hz1, hz2⟩ := info_parts infoVal
  have hF : Hid (∀ W, Below w.heap.size w W → Calls Try.prog 14 #[x, .agg #[.bool true, .string s, .int .i64 n]] W fun e w' => e = .returned (.tuple #[.int .i64 0, .bool false]) ∧ Below W.heap.size W w') := fun W hb => by
    have h1 := refFind_any ((vals_row hx hok).below hb) hv hbare
    rwa [show at0 L (V.mk true s n).bare = 0 from if_neg hn, decide_eq_false hn] at h1
  have HX := Lib.hid hx
  have hLI : (L.length : Int) ≤ 1000000 := by omega
  clear hx hv hbare hn hok
  go_enter Try.func11, Try.ntmps11
  go_wp2_with fail
  refine (hF.out _ ((Below.refl _ _).alloc (Nat.le_refl _) _)).mono ?_
  rintro e w1 ⟨rfl, hb1⟩
  have hz : w.heap.size < w1.heap.size := by have := hb1.size; simp at this; omega
  obtain ⟨hc1, -⟩ := bcell hb1
  have HB1 : Hid (Below w.heap.size w w1) := ((Below.refl _ _).alloc (Nat.le_refl _) _).trans (hb1.mono (by simp))
  clear hb1
  go_wp2_with fail
  have I0 : Hid (Below w.heap.size w (w1.alloc (.cells #[.bool true, .string s, .int .i64 0] 24)).drew) := (HB1.out.alloc (by omega) _).drew
  clear hc1
  rcases HX.out.2 with ⟨rfl, h0⟩ | ⟨g, cap, cur, rfl, -, hg, hnc, hcm, -⟩
  · obtain rfl : L = [] := List.eq_nil_of_length_eq_zero h0
    go_region_held3 (fun w' => w'.cell? ⟨w1.heap.size, 0, none⟩ = some (.bool true) ∧ w'.cell? ⟨w1.heap.size, 1, none⟩ = some (.string s) ∧ w'.cell? ⟨w1.heap.size, 2, none⟩ = some (.int .i64 0) ∧ w1.heap.size < w'.heap.size ∧ Below w.heap.size w w')
      (first | assumption | exact ⟨by simp, by simp, by simp, by simp, I0.out⟩ | exact held_keep (by assumption) ((Below.refl _ _).alloc (Nat.le_refl _) _))
      (first
        | (refine step_append_none rfl (.tmp 26) (.tmp 27) 22 rfl 24 i0 3 Try.underlying22 hi (.slice (some ⟨_, 0, none⟩) 0 0) 0 [] rfl (own_empty (by first | exact heap2 _ _ _ | exact heap2o _ _ _ _ | exact heap3 _ _ _ _)) rfl ?_)
        | (refine step_append_own rfl (.tmp 28) (.tmp 30) 22 rfl 24 i0 _ 3 32 Try.underlying22 hi hz0 hz1 hz2 rfl (by decide) (.slice (some ⟨_, 0, none⟩) 0 0) 0 [] rfl (own_empty (by first | exact heap2 _ _ _ | exact heap2o _ _ _ _ | exact heap3 _ _ _ _)) _ 1 1 [.bool true, .string s, .int .i64 0] rfl rfl (by first | exact three_new _ _ _ _ _ | exact three_at (by first | exact heap2 _ _ _ | exact heap2o _ _ _ _ | exact heap3 _ _ _ _)) (by simp [Value.oneCell']) (by decide) (by decide) ?_; intro v' w3 hr3 hg3 hl3; have hS3 := held_grow (w := w) (b := w1.heap.size) (by assumption) hg3 (by intro e he; simp [Value.ownBlock] at he; omega) (Nat.le_of_lt hz)))
    all_goals
      go_wp2
      go_ret2
      refine ⟨v', rfl, hS3.2.2.2.2, by simpa using hr3, fun g hg' => ?_⟩
      rcases hl3 with hl | hl
      · rw [hl] at hg'; simp [Value.ownBlock] at hg'; omega
      · rw [hl] at hg'; simp at hg'; omega
  · have hglt : g < w.heap.size := (Array.getElem?_eq_some_iff.1 hg).1
    have HC : Hid (∀ W, Below w.heap.size w W → ∀ j u, (L.flatMap V.cells)[j]? = some u → W.cell? ((⟨g, 0, none⟩ : Addr).add j) = some u) := fun W hb j u hu => by
      have := HX.out.cells (g := g) rfl j u hu
      rw [add_none] at this ⊢
      exact (hb.cell (p := ⟨g, 0 + j, none⟩) hglt).trans this
    clear hg
    go_region_held3 (fun w' => w'.cell? ⟨w1.heap.size, 0, none⟩ = some (.bool true) ∧ w'.cell? ⟨w1.heap.size, 1, none⟩ = some (.string s) ∧ w'.cell? ⟨w1.heap.size, 2, none⟩ = some (.int .i64 0) ∧ w1.heap.size < w'.heap.size ∧ Below w.heap.size w w')
      (first | assumption | exact ⟨by simp, by simp, by simp, by simp, I0.out⟩ | exact held_keep (by assumption) ((Below.refl _ _).alloc (Nat.le_refl _) _))
      (first
        | (refine step_append_own rfl (.tmp 26) (.tmp 27) 22 rfl 24 i0 _ 3 32 Try.underlying22 hi hz0 hz1 hz2 rfl (by decide) (.slice (some ⟨_, 0, none⟩) 0 0) 0 [] rfl (own_empty (by first | exact heap2 _ _ _ | exact heap2o _ _ _ _ | exact heap3 _ _ _ _)) ⟨g, 0, none⟩ L.length cap (L.flatMap V.cells) rfl (cells_flat L) (HC.out _ (by go_split_ands; assumption)) (flat_one L) (by unfold maxLen; omega) (by omega) ?_; intro v1 w2 hr2 hg2 hl2; have hS2 := held_grow (w := w) (b := w1.heap.size) (by assumption) hg2 (by intro e he; simp [Value.ownBlock] at he; omega) (Nat.le_of_lt hz); have hr2' : w2.ownsRow 0 24 3 v1 L.length (L.flatMap V.cells) := (by simpa using hr2); have he2 : ∀ e, v1.ownBlock = some e → w1.heap.size < e := own_past hl2 (by simp <;> omega) (by simp <;> omega); have HE := Lib.hid (And.intro hr2' he2); have HG2 := Lib.hid hg2; clear hr2 hr2' he2 hl2 hg2)
        | (refine step_append_own rfl (.tmp 28) (.tmp 30) 22 rfl 24 i0 _ 3 32 Try.underlying22 hi hz0 hz1 hz2 rfl (by decide) v1 L.length (L.flatMap V.cells) rfl (by first | exact HE.out.1 | exact HE.out.1.alloc _) _ 1 1 [.bool true, .string s, .int .i64 0] rfl rfl (by first | exact three_new _ _ _ _ _ | exact three_at ((HG2.out.block _ (by simp) (by simp [Value.ownBlock])).trans (by first | exact heap2 _ _ _ | exact heap2o _ _ _ _ | exact heap3 _ _ _ _))) (by simp [Value.oneCell']) (by unfold maxLen; omega) (by omega) ?_; intro v' w3 hr3 hg3 hl3; have hS3 := held_grow (w := w) (b := w1.heap.size) (by assumption) hg3 HE.out.2 (Nat.le_of_lt hz)))
    all_goals
      go_wp2
      go_ret2
      refine ⟨v', rfl, hS3.2.2.2.2, hr3, fun g hg' => ?_⟩
      rcases hl3 with hl | hl
      · rw [hl] at hg'; have := HE.out.2 g hg'; omega
      · rw [hl] at hg'; have := hS2.2.2.2.1; simp at hg'; omega

end Go.Proofs.Ytffibgladjmeaaa
