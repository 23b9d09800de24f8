/-
  Contracts of the document's Of and Same.
-/
import Derived.Test.YtadccjcmiajdeaaADocU
import Derived.Deep.Matrix
import Derived.DeepKeys5
import Derived.DeepKeys3
import Derived.Deep.QuietTactic
namespace Go.Proofs.Ytadccjcmiajdeaa
set_option linter.unusedSimpArgs false
set_option linter.unusedVariables false
set_option linter.unusedSectionVars false
set_option maxRecDepth 100000
open Go.RowKit Go.Maps

theorem below_drewN' {B : Nat} {a w : World} (h : Below B a w) (n : Nat) : Below B a (w.drewN n) := h.trans ⟨rfl, rfl, rfl, Nat.le_refl _, fun _ _ => rfl⟩
/-- What the document's Of hands back. -/
def ROut (w : World) (L : List De) (e : Ending) (w' : World) : Prop :=
  ∃ v, e = .returned (.tuple #[v, .int .i64 ((told L).at' : Nat), .int .i64 (if (told L).bad then 5 else 0)]) ∧ Des w' v (told L).l ∧ Below w.heap.size w w'
theorem told_split {L : List De} {k : Nat} (hk : k < L.length) (hf : Fine (L.take k)) (hc : clash (L.take k) (L[k]'hk) = true) : told L = ⟨[], k, true⟩ := by
  have hl : (L.take k).length = k := by simp; omega
  have e : L = L.take k ++ L[k]'hk :: L.drop (k + 1) := by rw [List.getElem_cons_drop, List.take_append_drop]
  generalize L.take k = A, L[k]'hk = l, L.drop (k + 1) = B at *
  subst e
  rw [told_bad hf hc, hl]

set_option maxHeartbeats 8000000 in
theorem rof_any (g : Pr) (x y : Value) (w : World) (hx : Des w x g.decls) (hy : Rus w y g.rules) (hl : (usesL g).length ≤ 1000000000) :
    Calls Try.prog 11 #[.agg #[x, y]] w (ROut w (usesL g)) := by
  obtain ⟨xo, xc, rfl, -⟩ := hx.form
  obtain ⟨yo, yc, rfl, -⟩ := hy.form
  have hbw := al_bel w (.cells #[.slice xo g.decls.length xc, .slice yo g.rules.length yc] 25)
  have HU := Lib.hid (ruses_any g _ _ (w.alloc (.cells #[.slice xo g.decls.length xc, .slice yo g.rules.length yc] 25)) (hx.below stayDe hbw) (hy.below stayRu hbw) hl)
  obtain ⟨U, hU⟩ : ∃ U, U = usesL g := ⟨_, rfl⟩
  rw [← hU] at HU hl ⊢
  have HBW := Lib.hid hbw
  clear hx hy hU hbw
  go_enter Try.func11, Try.ntmps11
  go_wp2_with (go_at_call 15; refine HU.out.mono ?_; clear HU; rintro e w1 ⟨u, rfl, hu, hb1⟩)
  have hB1 : Below w.heap.size w w1 := HBW.out.trans (hb1.mono (by simp))
  have hud : Des w1 u U := hu.rd stayDe hb1 (by unfold maxLen; omega)
  obtain ⟨uo, uc, rfl, huc, hum⟩ := hud.form
  have HUD := Lib.hid hud
  have HB1 := Lib.hid hB1
  clear hu hb1 hud HBW hB1
  go_loopw [6, 7] (fun v i wr => ∃ (k n : Nat) (o : Option Addr) (c : Nat), k ≤ U.length ∧ i = .int .i64 (k : Int) ∧ v = .slice o n c ∧ Hid (n = (firsts (U.take k)).length) ∧ Hid (OwnW DeI 39 2 w1 wr w1.heap.size (.slice o n c) (firsts (U.take k)) ∧ Below w1.heap.size w1 wr ∧ Fine (U.take k)))
    (fun _ i _ => U.length - (intOf i).toNat)
  case atStart => exact ⟨0, 0, none, 0, Nat.zero_le _, rfl, rfl, rfl, OwnW.nil _ _ _, Below.refl _ _, fine_nil⟩
  case round =>
    obtain ⟨k, n, o, c, hk, rfl, rfl, HNL, HS⟩ := hrel
    by_cases hlt : k < U.length
    · have hltI : (k : Int) < (U.length : Int) := by omega
      have hr : Des wr (.slice uo U.length uc) U := HUD.out.below stayDe HS.out.2.1
      obtain ⟨b, off, cs, rfl, hbl, hR, hcell⟩ := hr.at k hlt
      obtain rfl : cs = _ := hR
      have q0 := hcell 0 _ rfl
      have q1 := hcell 1 _ rfl
      simp only [Nat.add_zero] at q0
      obtain ⟨hcut, yo2, hyo⟩ := hr.sliced (i := 0) (j := k) (Nat.zero_le _) hk
      have hrun : ∀ W, (Instr.slice 22 (.slice (some ⟨b, off, none⟩) U.length uc) none (some (.int .i64 (k : Int))) none).run Try.prog W = .ok (sliced (some ⟨b, off, none⟩) 0 k uc 2) W := fun W => by
        rw [run_slice_h (P := Try.prog) W _ _ _ _ (sizeOf_el elDe W).2 .i64 (k : Int) (by omega) (by omega), (sizeOf_el elDe W).1]
        simp [Result.andThen]
      rw [List.drop_zero] at hcut
      obtain ⟨z, hz⟩ : ∃ z, z = sliced (some ⟨b, off, none⟩) 0 k uc 2 := ⟨_, rfl⟩
      rw [← hz] at hrun hcut
      clear hz hyo hcell
      obtain ⟨d, hd⟩ : ∃ d, d = U[k]'hlt := ⟨_, rfl⟩
      have HCL : Hid (clash (U.take k) d = true → told U = ⟨[], k, true⟩) := fun h => told_split hlt HS.out.2.2 (by rw [← hd]; exact h)
      have HT : Hid (U.take (k + 1) = U.take k ++ [d]) := by show _ = _; rw [hd, List.take_succ_eq_append_getElem hlt]
      rw [← hd] at q0 q1
      clear hd
      have HFL : Hid ((firsts (U.take k)).length ≤ 1000000000) := by show _ ≤ _; have := firsts_len (U.take k); simp at this; omega
      have HQ := Lib.hid hcut
      clear hcut hr
      obtain ⟨dp, dar⟩ := d
      simp only [De.cells] at q0 q1
      have HF := Lib.hid (fun nq => rfind_any (w := wr.drewN nq) (HQ.out.below stayDe (below_drewN' (Below.refl _ _) nq)) dp)
      cases hf : findD (U.take k) dp with
      | some j =>
        rw [hf] at HF
        simp only [Option.getD_some, Option.isSome_some] at HF
        by_cases hj : j = dar
        · subst hj
          have HC : Hid (clash (U.take k) ⟨dp, j⟩ = false) := by show _ = _; unfold clash; rw [hf]; simp
          have HFI : Hid (firsts (U.take k ++ [⟨dp, j⟩]) = firsts (U.take k)) := by show _ = _; rw [firsts_snoc', hf]; rfl
          clear hf
          go_wp2
          go_quiet ((go_at_call 13; refine Calls.quiet_of_same (HF.out _)))
          go_wp2
          go_roundw
          case rel => exact ⟨k + 1, n, o, c, by omega, by simp, rfl, by rw [HT.out, HFI.out]; exact HNL, by rw [HT.out, HFI.out]; exact ⟨HS.out.1.below (below_drewN' (Below.refl _ _) _), HS.out.2.1.trans (below_drewN' (Below.refl _ _) _), HS.out.2.2.snoc HC.out⟩⟩
          case measure => simp [intOf]; omega
        · have HC : Hid (clash (U.take k) ⟨dp, dar⟩ = true) := by show _ = _; unfold clash; rw [hf]; simp [hj]
          have hne : (j != dar) = true := by simp [hj]
          clear hf
          go_wp2
          go_quiet ((go_at_call 13; refine Calls.quiet_of_same (HF.out _)))
          go_wp2
          go_ret3
          have ht := HCL.out HC.out
          exact ⟨.slice none 0 0, by rw [ht]; rfl, by rw [ht]; exact RdL.nil _ _ _, (HB1.out.trans (HS.out.2.1.mono HB1.out.size)).trans (below_drewN' (Below.refl _ _) _)⟩
      | none =>
        rw [hf] at HF
        simp only [Option.getD_none, Option.isSome_none] at HF
        have HC : Hid (clash (U.take k) ⟨dp, dar⟩ = false) := by show _ = _; unfold clash; rw [hf]
        have HFI : Hid (firsts (U.take k ++ [⟨dp, dar⟩]) = firsts (U.take k) ++ [⟨dp, dar⟩]) := by show _ = _; rw [firsts_snoc', hf]; rfl
        clear hf
        go_wp2
        go_quiet ((go_at_call 13; refine Calls.quiet_of_same (HF.out _)))
        go_wp2_with (first
          | (at_builtin; refine wpList_append_one rfl _ _ 22 rfl elDe w1.heap.size (.slice o n c) (firsts (U.take k)) rfl ((HS.out.1.below (below_drewN' (Below.refl _ _) _)).below (al_bel _ _)) (b := wr.heap.size) (cap := 1) rfl ⟨dp, dar⟩ _ (cellW_de _ _) (Blk.new _ _ _) rfl (by have := HFL.out; unfold maxLen; omega) (by have := HFL.out; omega) (by have := HS.out.2.1.size; simp; omega) ?_; intro v2 w2 h2 hb2 hg2 hl2
             obtain ⟨o4, n4, c4, rfl, hn4⟩ := h2.formN
             have HN4 := Lib.hid hn4
             have HN2 : Hid (OwnW DeI 39 2 w1 w2 w1.heap.size (.slice o4 n4 c4) (firsts (U.take k) ++ [⟨dp, dar⟩]) ∧ Below w1.heap.size w1 w2) := ⟨h2, HS.out.2.1.trans ((((below_drewN' (Below.refl _ wr) _).trans (al_bel _ _)).mono HS.out.2.1.size).trans hb2)⟩
             clear h2 hb2 hg2 hl2 hn4))
        go_roundw
        case rel => exact ⟨k + 1, n4, o4, c4, by omega, by simp, rfl, by rw [HT.out, HFI.out]; exact HN4, by rw [HT.out, HFI.out]; exact ⟨HN2.out.1, HN2.out.2, HS.out.2.2.snoc HC.out⟩⟩
        case measure => simp [intOf]; omega
    · have hltI : ¬ (k : Int) < (U.length : Int) := by omega
      obtain rfl : k = U.length := by omega
      have HS2 : Hid (OwnW DeI 39 2 w1 wr w1.heap.size (.slice o n c) (firsts U) ∧ Below w1.heap.size w1 wr ∧ Fine U) := by
        have := HS.out
        rw [List.take_length] at this
        exact this
      have HL := Lib.hid hl
      go_wp2
      go_ret3
      have ht := told_fine HS2.out.2.2
      exact ⟨.slice o n c, by rw [ht]; rfl, by rw [ht]; exact HS2.out.1.rd stayDe HS2.out.2.1 (show (firsts U).length ≤ maxLen by have := firsts_len U; have := HL.out; unfold maxLen; omega), HB1.out.trans (HS2.out.2.1.mono HB1.out.size)⟩

/-- Two lists held against each other. -/
def DeV (d : De) : Prop := d.p.size ≤ maxLen ∧ InR d.ar
theorem wideDe : (match Try.prog.underlying 39 with | some (.array _ _) | some (.struct _) => true | _ => false) = true := by kernel_rfl
theorem keyTypeDe : Try.prog.keyType 39 = true := by kernel_rfl
theorem tiledDe : Try.prog.tiled 3 39 = true := by kernel_rfl
theorem keyTypeAtDe : Try.prog.keyTypeAt 3 39 = true := by kernel_rfl
theorem cellsDeQ : Try.prog.cellsOf 39 = 2 := by kernel_rfl
theorem cellsStQ : Try.prog.cellsOf 9 = 1 := by kernel_rfl
theorem cellsInQ : Try.prog.cellsOf 3 = 1 := by kernel_rfl
theorem keyOf_twoW {P : Program} {t : TypeId} {f0 f1 : Field} (ht : P.underlying t = some (.struct #[f0, f1])) (hk : P.keyType t = true) (ct : P.cellsOf t = 2) (hm : ∃ m, P.types.size = m + 1)
    (o0 : f0.offset = 0) (o1 : f1.offset = 1) (c0 : P.cellsOf f0.type = 1) (c1 : P.cellsOf f1.type = 1) (n0 : f0.name ≠ "_") (n1 : f1.name ≠ "_")
    (u0 : P.underlying f0.type = some .string) (u1 : P.underlying f1.type = some (.int .i64)) {d : De} (h : DeV d) :
    ∃ l, keyOf P t (.agg #[.string d.p, .int .i64 d.ar]) = some l := by
  obtain ⟨m, hm⟩ := hm
  have hs := h.1
  have hw : (Lit.int .i64 d.ar).wf = true := WalkArith.wf_i64 ⟨h.2.1, h.2.2⟩
  simp [keyOf, ht, hk, Value.formed, ct, hm, Program.keyLits, o0, o1, c0, c1, n0, n1, u0, u1, Value.cells, hs, hw]
theorem keyDe {d : De} (h : DeV d) : ∃ l, keyOf Try.prog 39 (.agg #[.string d.p, .int .i64 d.ar]) = some l :=
  keyOf_twoW Try.underlying39 keyTypeDe cellsDeQ ⟨_, (show Try.prog.types.size = (Try.prog.types.size - 1) + 1 by kernel_rfl)⟩ rfl rfl cellsStQ cellsInQ (by decide) (by decide) Try.underlying9 Try.underlying3 h
theorem eql_de {x y : De} (hx : DeV x) (hy : DeV y) {b : Bool} (hb : b = true ↔ x = y) (w : World) : (binOp .eql 39 (.agg #[.string x.p, .int .i64 x.ar]) (.agg #[.string y.p, .int .i64 y.ar])).run Try.prog w = .ok (.bool b) w := by
  obtain ⟨l, hl⟩ := keyDe hx
  obtain ⟨m, hm⟩ := keyDe hy
  obtain ⟨r, hr, hiff⟩ := run_equal_deep (P := Try.prog) w (m := 3) (by omega) (k := 39) keyTypeAtDe wideDe hl hm
  have : r = b := by
    have h1 : r = true ↔ b = true := by
      rw [hiff, hb]
      constructor
      · intro e
        subst e
        have a := keyOf_inj_deep tiledDe wideDe hl hm
        obtain ⟨xp, xn⟩ := x
        obtain ⟨yp, yn⟩ := y
        simp at a
        obtain ⟨rfl, rfl⟩ := a
        rfl
      · intro e
        subst e
        exact Option.some.inj (hl.symm.trans hm)
    cases r <;> cases b <;> simp_all
  subst this
  simp [binOp, hr, Result.andThen]
theorem neq_de {x y : De} (hx : DeV x) (hy : DeV y) {b : Bool} (hb : b = true ↔ x = y) (w : World) : (binOp .neq 39 (.agg #[.string x.p, .int .i64 x.ar]) (.agg #[.string y.p, .int .i64 y.ar])).run Try.prog w = .ok (.bool !b) w := by
  obtain ⟨l, hl⟩ := keyDe hx
  obtain ⟨m, hm⟩ := keyDe hy
  obtain ⟨r, hr, hiff⟩ := run_equal_deep (P := Try.prog) w (m := 3) (by omega) (k := 39) keyTypeAtDe wideDe hl hm
  have he := eql_de hx hy hb w
  have : r = b := by
    have h2 := he
    simp [binOp, hr, Result.andThen] at h2
    exact h2
  subst this
  simp [binOp, hr, Result.andThen]

set_option maxHeartbeats 4000000 in
/-- The document's Same, where the lists are the same. -/
theorem rsame_any {x y : Value} {L : List De} {w : World} (hx : Des w x L) (hy : Des w y L) (hL : ∀ d ∈ L, DeV d) :
    Calls Try.prog 14 #[x, y] w fun e w' => e = .returned (.bool true) ∧ Below w.heap.size w w' := by
  obtain ⟨xo, xc, rfl, hxc, hxm⟩ := hx.form
  obtain ⟨yo, yc, rfl, hyc, hym⟩ := hy.form
  unfold maxLen at hxm
  have HX := Lib.hid hx
  have HY := Lib.hid hy
  have HL := Lib.hid hL
  clear hx hy hL hym
  go_enter Try.func14, Try.ntmps14
  go_wp2
  go_loopw [5] (fun i wr => ∃ k : Nat, k ≤ L.length ∧ i = .int .i64 (k : Int) ∧ Hid (Below w.heap.size w wr)) (fun i _ => L.length - (intOf i).toNat)
  case atStart => exact ⟨0, Nat.zero_le _, rfl, Below.refl _ _⟩
  case round =>
    obtain ⟨k, hk, rfl, HB⟩ := hrel
    by_cases hlt : k < L.length
    · have hltI : (k : Int) < (L.length : Int) := by omega
      obtain ⟨b, off, cs, rfl, hbl, hR, hcell⟩ := (HX.out.below stayDe HB.out).at k hlt
      obtain rfl : cs = _ := hR
      obtain ⟨b2, off2, cs, rfl, hbl2, hR, hcell2⟩ := (HY.out.below stayDe HB.out).at k hlt
      obtain rfl : cs = _ := hR
      have q0 := hcell 0 _ rfl
      have q1 := hcell 1 _ rfl
      have p0 := hcell2 0 _ rfl
      have p1 := hcell2 1 _ rfl
      simp only [Nat.add_zero] at q0 p0
      have hv := HL.out _ (List.getElem_mem hlt)
      have hrun : ∀ nq, (binOp .neq 39 (.agg #[.string (L[k]'hlt).p, .int .i64 (L[k]'hlt).ar]) (.agg #[.string (L[k]'hlt).p, .int .i64 (L[k]'hlt).ar])).run Try.prog (wr.drewN nq) = .ok (.bool false) (wr.drewN nq) := fun nq => neq_de hv hv (b := true) (by simp) _
      obtain ⟨d, hd⟩ : ∃ d, d = L[k]'hlt := ⟨_, rfl⟩
      rw [← hd] at q0 q1 p0 p1
      simp only [← hd] at hrun
      clear hcell hcell2 hd hv
      go_wp2
      go_quiet (fail)
      go_wp2
      go_roundw
      case rel => exact ⟨k + 1, by omega, by simp, below_drewN' HB.out _⟩
      case measure => simp [intOf]; omega
    · have hltI : ¬ (k : Int) < (L.length : Int) := by omega
      go_wp2
      go_ret
      exact ⟨rfl, HB.out⟩
end Go.Proofs.Ytadccjcmiajdeaa
