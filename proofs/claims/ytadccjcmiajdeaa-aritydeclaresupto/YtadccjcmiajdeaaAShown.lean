/-
  Contracts of the law's atom, shown, few.
-/
import Derived.Test.YtadccjcmiajdeaaAOf
import Derived.Test.YtadccjcmiajdeaaADocO
import Derived.Deep.RegionHeld3
namespace Go.Proofs.Ytadccjcmiajdeaa
set_option linter.unusedSimpArgs false
set_option linter.unusedVariables false
set_option linter.unusedSectionVars false
set_option maxRecDepth 100000
open Go.RowKit Go.Maps

theorem infoTmA : (Try.prog.info? 52).map (fun i => (i.zero, i.size, i.bytes)) = some (some (.agg #[.bool false, .string ⟨#[]⟩, .bool false, .string ⟨#[]⟩, .int .i64 0]), 5, 56) := by kernel_rfl

set_option maxHeartbeats 4000000 in
theorem atom0 (p : ByteArray) (w : World) :
    Calls Try.prog 16 #[.string p, .int .i64 0] w fun e w' => ∃ x, e = .returned (.agg #[.string p, x]) ∧ Tms w' x [] ∧ Below w.heap.size w w' := by
  obtain ⟨i0, hi, hz0, hz1, hz2⟩ := info_parts infoTmA
  have hmk : ∀ W, (Instr.makeSlice 41 (.int .i64 0) (.int .i64 0)).run Try.prog W = .ok (.slice (some ⟨W.heap.size, 0, none⟩) 0 0) (W.alloc (.cells #[] 52)) := fun W => by
    rw [run_make (P := Try.prog) W 41 52 i0 _ Try.underlying41 hi hz0 .i64 .i64 0 0 (by decide) (by decide) (by rw [hz2]; decide) (by decide), hz1, show madeCells (Value.agg #[.bool false, .string ⟨#[]⟩, .bool false, .string ⟨#[]⟩, .int .i64 0]).cells (Int.toNat 0 * 5) = #[] by kernel_rfl]
    rfl
  go_enter Try.func16, Try.ntmps16
  go_wp2
  refine bodyPost_ret (ret_cell1 (fn := Try.f16) rfl rfl (heap1W _ _ _) Try.underlying43 rfl) rfl ⟨_, rfl, ?_, ((Below.refl _ w).alloc (Nat.le_refl _) _).alloc (by simp) _⟩
  exact RdL.laid (L := []) (CS := []) trivial (heap2W _ _ _) rfl (Nat.le_refl _) (by unfold maxLen; simp)

set_option maxHeartbeats 4000000 in
theorem atom1 (p : ByteArray) (w : World) :
    Calls Try.prog 16 #[.string p, .int .i64 1] w fun e w' => ∃ x, e = .returned (.agg #[.string p, x]) ∧ Tms w' x [Tm.zero] ∧ Below w.heap.size w w' := by
  obtain ⟨i0, hi, hz0, hz1, hz2⟩ := info_parts infoTmA
  have hmk : ∀ W, (Instr.makeSlice 41 (.int .i64 1) (.int .i64 1)).run Try.prog W = .ok (.slice (some ⟨W.heap.size, 0, none⟩) 1 1) (W.alloc (.cells #[.bool false, .string ⟨#[]⟩, .bool false, .string ⟨#[]⟩, .int .i64 0] 52)) := fun W => by
    rw [run_make (P := Try.prog) W 41 52 i0 _ Try.underlying41 hi hz0 .i64 .i64 1 1 (by decide) (by decide) (by rw [hz2]; decide) (by decide), hz1, show madeCells (Value.agg #[.bool false, .string ⟨#[]⟩, .bool false, .string ⟨#[]⟩, .int .i64 0]).cells (Int.toNat 1 * 5) = #[.bool false, .string ⟨#[]⟩, .bool false, .string ⟨#[]⟩, .int .i64 0] by kernel_rfl]
    rfl
  go_enter Try.func16, Try.ntmps16
  go_wp2
  refine bodyPost_ret (ret_cell1 (fn := Try.f16) rfl rfl (heap1W _ _ _) Try.underlying43 rfl) rfl ⟨_, rfl, ?_, ((Below.refl _ w).alloc (Nat.le_refl _) _).alloc (by simp) _⟩
  exact RdL.laid (L := [Tm.zero]) (CS := [Tm.zero.cells]) ⟨⟨rfl, by simp [Tm.cells, Value.oneCell'], rfl⟩, trivial⟩ (heap2W _ _ _) rfl (Nat.le_refl _) (by unfold maxLen; simp)

set_option maxHeartbeats 4000000 in
theorem atom2 (p : ByteArray) (w : World) :
    Calls Try.prog 16 #[.string p, .int .i64 2] w fun e w' => ∃ x, e = .returned (.agg #[.string p, x]) ∧ Tms w' x [Tm.zero, Tm.zero] ∧ Below w.heap.size w w' := by
  obtain ⟨i0, hi, hz0, hz1, hz2⟩ := info_parts infoTmA
  have hmk : ∀ W, (Instr.makeSlice 41 (.int .i64 2) (.int .i64 2)).run Try.prog W = .ok (.slice (some ⟨W.heap.size, 0, none⟩) 2 2) (W.alloc (.cells #[.bool false, .string ⟨#[]⟩, .bool false, .string ⟨#[]⟩, .int .i64 0, .bool false, .string ⟨#[]⟩, .bool false, .string ⟨#[]⟩, .int .i64 0] 52)) := fun W => by
    rw [run_make (P := Try.prog) W 41 52 i0 _ Try.underlying41 hi hz0 .i64 .i64 2 2 (by decide) (by decide) (by rw [hz2]; decide) (by decide), hz1, show madeCells (Value.agg #[.bool false, .string ⟨#[]⟩, .bool false, .string ⟨#[]⟩, .int .i64 0]).cells (Int.toNat 2 * 5) = #[.bool false, .string ⟨#[]⟩, .bool false, .string ⟨#[]⟩, .int .i64 0, .bool false, .string ⟨#[]⟩, .bool false, .string ⟨#[]⟩, .int .i64 0] by kernel_rfl]
    rfl
  go_enter Try.func16, Try.ntmps16
  go_wp2
  refine bodyPost_ret (ret_cell1 (fn := Try.f16) rfl rfl (heap1W _ _ _) Try.underlying43 rfl) rfl ⟨_, rfl, ?_, ((Below.refl _ w).alloc (Nat.le_refl _) _).alloc (by simp) _⟩
  exact RdL.laid (L := [Tm.zero, Tm.zero]) (CS := [Tm.zero.cells, Tm.zero.cells]) ⟨⟨rfl, by simp [Tm.cells, Value.oneCell'], rfl⟩, ⟨⟨rfl, by simp [Tm.cells, Value.oneCell'], rfl⟩, trivial⟩⟩ (heap2W _ _ _) rfl (Nat.le_refl _) (by unfold maxLen; simp)

def lt1S : Lt := ⟨1, ⟨⟨#[113]⟩, [Tm.zero, Tm.zero]⟩, ⟨#[]⟩, Tm.zero, Tm.zero⟩
def lt2S : Lt := ⟨2, ⟨⟨#[112]⟩, []⟩, ⟨#[]⟩, Tm.zero, Tm.zero⟩
def hdS : Am := ⟨⟨#[112]⟩, [Tm.zero]⟩
def prog1S : Pr := ⟨[], [⟨hdS, [lt1S, lt2S]⟩]⟩
def prog2S : Pr := ⟨[], [⟨hdS, [lt1S]⟩]⟩
theorem told1S : told (usesL prog1S) = ⟨[], 2, true⟩ := by kernel_rfl
theorem told2S : told (usesL prog2S) = ⟨[⟨⟨#[112]⟩, 1⟩, ⟨⟨#[113]⟩, 2⟩], 0, false⟩ := by kernel_rfl
theorem uses1S : usesL prog1S = [⟨⟨#[112]⟩, 1⟩, ⟨⟨#[113]⟩, 2⟩, ⟨⟨#[112]⟩, 0⟩] := by kernel_rfl
theorem uses2S : usesL prog2S = [⟨⟨#[112]⟩, 1⟩, ⟨⟨#[113]⟩, 2⟩] := by kernel_rfl
theorem heap3W (w : World) (a b c : Obj) : (((w.alloc a).alloc b).alloc c).heap[w.heap.size + 1 + 1]? = some c := by
  have := heap2W (w.alloc a) b c
  rwa [World.size_alloc] at this
theorem heap2Wb (w : World) (a b c : Obj) : (((w.alloc a).alloc b).alloc c).heap[w.heap.size + 1]? = some b := by
  rw [Below.heap_alloc _ _ _ (by simp)]; exact heap2W w a b
theorem lits_new {w3 : World} {o2 o3 : Option Addr} {c2 c3 : Nat} (h2 : Tms w3 (.slice o2 2 c2) [Tm.zero, Tm.zero]) (h3 : Tms w3 (.slice o3 0 c3) []) :
    Lts (w3.alloc (.cells #[.int .i64 1, .string ⟨#[113]⟩, .slice o2 2 c2, .string ⟨#[]⟩, .bool false, .string ⟨#[]⟩, .bool false, .string ⟨#[]⟩, .int .i64 0, .bool false, .string ⟨#[]⟩, .bool false, .string ⟨#[]⟩, .int .i64 0, .int .i64 2, .string ⟨#[112]⟩, .slice o3 0 c3, .string ⟨#[]⟩, .bool false, .string ⟨#[]⟩, .bool false, .string ⟨#[]⟩, .int .i64 0, .bool false, .string ⟨#[]⟩, .bool false, .string ⟨#[]⟩, .int .i64 0] 54)) (.slice (some ⟨w3.heap.size, 0, none⟩) 2 2) [lt1S, lt2S] :=
  RdL.laid (L := [lt1S, lt2S]) (CS := [LtC lt1S (.slice o2 2 c2), LtC lt2S (.slice o3 0 c3)])
    ⟨⟨rfl, by simp [LtC, lt1S, Tm.zero, Value.oneCell'], ⟨_, rfl, h2.below stayTm (al_bel _ _)⟩⟩, ⟨rfl, by simp [LtC, lt2S, Tm.zero, Value.oneCell'], ⟨_, rfl, h3.below stayTm (al_bel _ _)⟩⟩, trivial⟩ (Blk.new _ _ _) rfl (Nat.le_refl _) (by unfold maxLen; simp)
theorem lit_one {W : World} {b c : Nat} (h : Lts W (.slice (some ⟨b, 0, none⟩) 2 c) [lt1S, lt2S]) (hc : 1 ≤ c) : Lts W (.slice (some ⟨b, 0, none⟩) 1 c) [lt1S] := by
  have := RdL.cut (i := 0) (j := 1) h (by omega) (by simp) c (by omega)
  simpa using this
theorem rule_new {V W : World} {o1 : Option Addr} {c1 b : Nat} {y : Value} {L : List Lt} (h1 : Tms W (.slice o1 1 c1) [Tm.zero]) (hy : Lts W y L) (hb : W.heap[b]? = some (.cells #[.string ⟨#[112]⟩, .slice o1 1 c1, y] 46 (0, 0))) :
    Rus W (.slice (some ⟨b, 0, none⟩) 1 1) [⟨hdS, L⟩] := by
  obtain ⟨yo, yc, rfl, -⟩ := hy.form
  exact RdL.laid (L := ([⟨hdS, L⟩] : List Ru)) (CS := [[.string ⟨#[112]⟩, .slice o1 1 c1, .slice yo L.length yc]]) ⟨⟨rfl, by simp [Value.oneCell'], ⟨_, _, rfl, h1, hy⟩⟩, trivial⟩ hb rfl (Nat.le_refl _) (by unfold maxLen; simp)
theorem okS {L : List De} (h : L = ([⟨⟨#[112]⟩, 1⟩, ⟨⟨#[113]⟩, 2⟩, ⟨⟨#[112]⟩, 0⟩] : List De) ∨ L = ([⟨⟨#[112]⟩, 1⟩, ⟨⟨#[113]⟩, 2⟩] : List De)) : (∀ u ∈ L, u.p.size ≤ maxLen ∧ InR u.ar) ∧ L.length ≤ 1000000000 := by
  have hs : (1 : Nat) ≤ maxLen := by unfold maxLen; omega
  rcases h with rfl | rfl
  · refine ⟨fun u hu => ?_, by simp⟩
    simp at hu
    rcases hu with rfl | rfl | rfl <;> exact ⟨hs, by unfold InR; simp⟩
  · refine ⟨fun u hu => ?_, by simp⟩
    simp at hu
    rcases hu with rfl | rfl <;> exact ⟨hs, by unfold InR; simp⟩
theorem OfOut.des {w w' : World} {L : List De} {e : Ending} (h : OfOut w L e w') (hl : L.length ≤ 1000000000) : ∃ v, e = .returned (.tuple #[v, .int .i64 ((told L).at' : Nat), .int .i64 (if (told L).bad then 5 else 0)]) ∧ Des w' v (told L).l ∧ Below w.heap.size w w' := by
  obtain ⟨v, h1, h2, h3⟩ := h
  refine ⟨v, h1, ?_, h3⟩
  have hle : (told L).l.length ≤ L.length := by
    have aux : ∀ (r pre : List De), (toldF pre r).l.length ≤ (pre ++ r).length := by
      intro r
      induction r with
      | nil => intro pre; simp only [toldF, List.append_nil]; exact firsts_len pre
      | cons u r ih =>
        intro pre
        by_cases hc : clash pre u = true
        · rw [toldF_bad hc]; simp
        · rw [Bool.not_eq_true] at hc
          rw [toldF_ok hc]
          have := ih (pre ++ [u])
          simpa using this
    simpa [told] using aux L []
  have hA : ∀ M : List De, AllR (CellW DeI 2 w') M (M.map De.cells) := by
    intro M
    induction M with
    | nil => trivial
    | cons d M ih => exact ⟨⟨rfl, by simp [De.cells, Value.oneCell'], rfl⟩, ih⟩
  have : OwnW DeI 39 2 w' w' w.heap.size v (told L).l := ⟨(told L).l.map De.cells, hA _, by rw [← List.flatMap_def]; exact h2⟩
  exact this.rd stayDe (Below.refl _ _) (by unfold maxLen; omega)

set_option maxHeartbeats 8000000 in
theorem shown_any (w : World) : Calls Try.prog 8 #[] w fun e w' => e = .returned (.bool true) ∧ Below w.heap.size w w' := by
  go_enter Try.func8, Try.ntmps8
  go_wp2_with (first
    | (go_at_call 16; with_reducible refine (atom1 ⟨#[112]⟩ _).mono ?_; rintro e w1 ⟨x1, rfl, hx1, hb1⟩
       obtain ⟨o1, c1, rfl, -⟩ := hx1.form)
    | (go_at_call 16; with_reducible refine (atom2 ⟨#[113]⟩ _).mono ?_; rintro e w2 ⟨x2, rfl, hx2, hb2⟩
       obtain ⟨o2, c2, rfl, -⟩ := hx2.form)
    | (go_at_call 16; with_reducible refine (atom0 ⟨#[112]⟩ _).mono ?_; rintro e w3 ⟨x3, rfl, hx3, hb3⟩
       obtain ⟨o3, c3, rfl, -⟩ := hx3.form
       have HB3 := Lib.hid ((hb1.trans (hb2.mono hb1.size)).trans (hb3.mono (Nat.le_trans hb1.size hb2.size)))
       have H1 := Lib.hid ((hx1.below stayTm (hb2.trans (hb3.mono hb2.size))).below stayTm (al_bel w3 (.cells #[.int .i64 1, .string ⟨#[113]⟩, .slice o2 2 c2, .string ⟨#[]⟩, .bool false, .string ⟨#[]⟩, .bool false, .string ⟨#[]⟩, .int .i64 0, .bool false, .string ⟨#[]⟩, .bool false, .string ⟨#[]⟩, .int .i64 0, .int .i64 2, .string ⟨#[112]⟩, .slice o3 0 c3, .string ⟨#[]⟩, .bool false, .string ⟨#[]⟩, .bool false, .string ⟨#[]⟩, .int .i64 0, .bool false, .string ⟨#[]⟩, .bool false, .string ⟨#[]⟩, .int .i64 0] 54)))
       have HL := Lib.hid (lits_new (hx2.below stayTm hb3) hx3)
       clear hb1 hb2 hb3 hx1 hx2 hx3))
  refine (of_any prog1S _ _ ((w3.alloc (.cells #[.int .i64 1, .string ⟨#[113]⟩, .slice o2 2 c2, .string ⟨#[]⟩, .bool false, .string ⟨#[]⟩, .bool false, .string ⟨#[]⟩, .int .i64 0, .bool false, .string ⟨#[]⟩, .bool false, .string ⟨#[]⟩, .int .i64 0, .int .i64 2, .string ⟨#[112]⟩, .slice o3 0 c3, .string ⟨#[]⟩, .bool false, .string ⟨#[]⟩, .bool false, .string ⟨#[]⟩, .int .i64 0, .bool false, .string ⟨#[]⟩, .bool false, .string ⟨#[]⟩, .int .i64 0] 54)).alloc (.cells #[.string ⟨#[112]⟩, .slice o1 1 c1, .slice (some ⟨w3.heap.size, 0, none⟩) 2 2] 46) |>.alloc (.cells #[.string ⟨#[112]⟩, .slice o1 1 c1, .slice (some ⟨w3.heap.size, 0, none⟩) 2 2] 46)) (RdL.nil _ _ _) (rule_new (V := w3) (H1.out.below stayTm (((al_bel _ _).alloc (by simp) _).mono (Nat.le_refl _))) (HL.out.below stayLt (((al_bel _ _).alloc (by simp) _).mono (Nat.le_refl _))) (heap3W _ _ _ _)) (okS (.inl uses1S)).1 (okS (.inl uses1S)).2).mono ?_
  intro e w5 h5
  obtain ⟨v5, he, -, hb5⟩ := h5.des (okS (.inl uses1S)).2
  rw [told1S] at he
  obtain rfl : e = .returned (.tuple #[v5, .int .i64 2, .int .i64 5]) := he
  clear h5
  have hV : Below (w3.alloc (.cells #[.int .i64 1, .string ⟨#[113]⟩, .slice o2 2 c2, .string ⟨#[]⟩, .bool false, .string ⟨#[]⟩, .bool false, .string ⟨#[]⟩, .int .i64 0, .bool false, .string ⟨#[]⟩, .bool false, .string ⟨#[]⟩, .int .i64 0, .int .i64 2, .string ⟨#[112]⟩, .slice o3 0 c3, .string ⟨#[]⟩, .bool false, .string ⟨#[]⟩, .bool false, .string ⟨#[]⟩, .int .i64 0, .bool false, .string ⟨#[]⟩, .bool false, .string ⟨#[]⟩, .int .i64 0] 54)).heap.size (w3.alloc (.cells #[.int .i64 1, .string ⟨#[113]⟩, .slice o2 2 c2, .string ⟨#[]⟩, .bool false, .string ⟨#[]⟩, .bool false, .string ⟨#[]⟩, .int .i64 0, .bool false, .string ⟨#[]⟩, .bool false, .string ⟨#[]⟩, .int .i64 0, .int .i64 2, .string ⟨#[112]⟩, .slice o3 0 c3, .string ⟨#[]⟩, .bool false, .string ⟨#[]⟩, .bool false, .string ⟨#[]⟩, .int .i64 0, .bool false, .string ⟨#[]⟩, .bool false, .string ⟨#[]⟩, .int .i64 0] 54)) w5 := ((al_bel _ _).alloc (by simp) _).trans (hb5.mono (by simp))
  have hr5 : w5.heap[w3.heap.size + 1]? = some (Obj.cells #[.string ⟨#[112]⟩, .slice o1 1 c1, .slice (some ⟨w3.heap.size, 0, none⟩) 2 2] 46 (0, 0)) := (hb5.block _ (by simp)).trans (heap2Wb _ _ _ _)
  have z0 : w5.cell? ⟨w3.heap.size + 1, 0, none⟩ = some (.string ⟨#[112]⟩) := by rw [cell_of_row w5 _ 0 _ _ _ hr5]; rfl
  have z1 : w5.cell? ⟨w3.heap.size + 1, 1, none⟩ = some (.slice o1 1 c1) := by rw [cell_of_row w5 _ 1 _ _ _ hr5]; rfl
  have z2 : w5.cell? ⟨w3.heap.size + 1, 2, none⟩ = some (.slice (some ⟨w3.heap.size, 0, none⟩) 2 2) := by rw [cell_of_row w5 _ 2 _ _ _ hr5]; rfl
  have z3 : w5.frozen? ⟨w3.heap.size + 1, 2, none⟩ = false := by simp [World.frozen?, hr5]
  have HV := Lib.hid hV
  have HB5 := Lib.hid (HB3.out.trans ((((al_bel _ _).trans (((al_bel _ _).alloc (by simp) _).mono (by simp))).mono HB3.out.size).trans (hb5.mono (by have := HB3.out.size; simp; omega))))
  clear hV hb5 hr5
  have hsz : (w5.setCell ⟨w3.heap.size + 1, 2, none⟩ (.slice (some ⟨w3.heap.size, 0, none⟩) 1 2)).heap.size = w5.heap.size := by simp [World.setCell]
  have hV6 : Below (w3.alloc (.cells #[.int .i64 1, .string ⟨#[113]⟩, .slice o2 2 c2, .string ⟨#[]⟩, .bool false, .string ⟨#[]⟩, .bool false, .string ⟨#[]⟩, .int .i64 0, .bool false, .string ⟨#[]⟩, .bool false, .string ⟨#[]⟩, .int .i64 0, .int .i64 2, .string ⟨#[112]⟩, .slice o3 0 c3, .string ⟨#[]⟩, .bool false, .string ⟨#[]⟩, .bool false, .string ⟨#[]⟩, .int .i64 0, .bool false, .string ⟨#[]⟩, .bool false, .string ⟨#[]⟩, .int .i64 0] 54)).heap.size (w3.alloc (.cells #[.int .i64 1, .string ⟨#[113]⟩, .slice o2 2 c2, .string ⟨#[]⟩, .bool false, .string ⟨#[]⟩, .bool false, .string ⟨#[]⟩, .int .i64 0, .bool false, .string ⟨#[]⟩, .bool false, .string ⟨#[]⟩, .int .i64 0, .int .i64 2, .string ⟨#[112]⟩, .slice o3 0 c3, .string ⟨#[]⟩, .bool false, .string ⟨#[]⟩, .bool false, .string ⟨#[]⟩, .int .i64 0, .bool false, .string ⟨#[]⟩, .bool false, .string ⟨#[]⟩, .int .i64 0] 54)) ((w5.setCell ⟨w3.heap.size + 1, 2, none⟩ (.slice (some ⟨w3.heap.size, 0, none⟩) 1 2)).alloc (.cells #[.string ⟨#[112]⟩, .slice o1 1 c1, (.slice (some ⟨w3.heap.size, 0, none⟩) 1 2)] 46)) := (HV.out.setCell (p := ⟨w3.heap.size + 1, 2, none⟩) (by simp) _).alloc (by rw [hsz]; exact HV.out.size) _
  have HR6 : Hid (Rus ((w5.setCell ⟨w3.heap.size + 1, 2, none⟩ (.slice (some ⟨w3.heap.size, 0, none⟩) 1 2)).alloc (.cells #[.string ⟨#[112]⟩, .slice o1 1 c1, (.slice (some ⟨w3.heap.size, 0, none⟩) 1 2)] 46)) (.slice (some ⟨w5.heap.size, 0, none⟩) 1 1) [⟨hdS, [lt1S]⟩]) :=
    rule_new (V := w3) (H1.out.below stayTm hV6) (lit_one (HL.out.below stayLt hV6) (by omega)) (by have := Blk.new (w5.setCell ⟨w3.heap.size + 1, 2, none⟩ (.slice (some ⟨w3.heap.size, 0, none⟩) 1 2)) #[.string ⟨#[112]⟩, .slice o1 1 c1, (.slice (some ⟨w3.heap.size, 0, none⟩) 1 2)] 46; rw [hsz] at this; exact this)
  have HB6 : Hid (Below w.heap.size w ((w5.setCell ⟨w3.heap.size + 1, 2, none⟩ (.slice (some ⟨w3.heap.size, 0, none⟩) 1 2)).alloc (.cells #[.string ⟨#[112]⟩, .slice o1 1 c1, (.slice (some ⟨w3.heap.size, 0, none⟩) 1 2)] 46))) := (HB5.out.setCell (p := ⟨w3.heap.size + 1, 2, none⟩) (show w.heap.size ≤ w3.heap.size + 1 by have := HB3.out.size; omega) _).alloc (by rw [hsz]; exact HB5.out.size) _
  clear hsz hV6
  go_wp2_with (first
    | (go_at_call 10; refine (of_any prog2S _ _ _ (RdL.nil _ _ _) HR6.out (okS (.inr uses2S)).1 (okS (.inr uses2S)).2).mono ?_; intro e w7 h7
       obtain ⟨v7, he, hd7, hb7⟩ := h7.des (okS (.inr uses2S)).2
       rw [told2S] at he hd7
       obtain rfl : e = .returned (.tuple #[v7, .int .i64 0, .int .i64 0]) := he
       have HB7 := Lib.hid (HB6.out.trans (hb7.mono HB6.out.size))
       obtain ⟨o7, c7, rfl, hc7, -⟩ := hd7.form
       obtain ⟨b, off, cs, rfl, hbl, hR, hcell⟩ := hd7.at 1 (by simp)
       obtain rfl : cs = _ := hR
       have q0 := hcell 0 _ rfl
       have q1 := hcell 1 _ rfl
       simp at q0 q1
       have heq := fun W => eql_de (x := ⟨⟨#[113]⟩, 2⟩) (y := ⟨⟨#[113]⟩, 2⟩) ⟨by decide, by unfold InR; simp⟩ ⟨by decide, by unfold InR; simp⟩ (b := true) (by simp) W
       simp only [List.length_cons, List.length_nil, Nat.zero_add, Nat.reduceAdd] at hc7
       clear h7 hb7 hd7 hcell HR6 HB6 z0 z1 z2 z3))
  go_ret
  exact ⟨rfl, HB7.out⟩

set_option maxHeartbeats 1000000 in
/-- few: it says yes just where the uses are so few. -/
theorem few_any (g : Pr) (x y : Value) (w : World) (hx : Des w x g.decls) (hy : Rus w y g.rules) (hl : (usesL g).length ≤ 1000000000) :
    Calls Try.prog 9 #[.agg #[x, y]] w fun e w' => e = .returned (.bool (decide ((usesL g).length ≤ 300))) ∧ Below w.heap.size w w' := by
  obtain ⟨xo, xc, rfl, -⟩ := hx.form
  obtain ⟨yo, yc, rfl, -⟩ := hy.form
  have hbw := al_bel w (.cells #[.slice xo g.decls.length xc, .slice yo g.rules.length yc] 25)
  have HU := Lib.hid (ruses_any g _ _ (w.alloc (.cells #[.slice xo g.decls.length xc, .slice yo g.rules.length yc] 25)) (hx.below stayDe hbw) (hy.below stayRu hbw) hl)
  have HBW := Lib.hid hbw
  obtain ⟨U, hU⟩ : ∃ U, U = usesL g := ⟨_, rfl⟩
  rw [← hU] at HU hl ⊢
  clear hx hy hU hbw
  go_enter Try.func9, Try.ntmps9
  go_wp2_with (go_at_call 15; refine HU.out.mono ?_; clear HU; rintro e w1 ⟨u, rfl, hu, hb1⟩; obtain ⟨o, c, rfl⟩ := hu.form)
  go_ret
  exact ⟨by simp; omega, HBW.out.trans (hb1.mono (by simp))⟩
end Go.Proofs.Ytadccjcmiajdeaa
