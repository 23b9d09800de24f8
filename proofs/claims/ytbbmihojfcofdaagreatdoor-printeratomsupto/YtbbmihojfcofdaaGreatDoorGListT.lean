/-
  Contract of parse's list of terms.
-/
import Derived.Test.YtbbmihojfcofdaaGreatDoorGTerm2
namespace Go.Proofs.YtbbmihojfcofdaaGreatDoor
set_option linter.unusedSimpArgs false
set_option linter.unusedVariables false
set_option linter.unusedSectionVars false
set_option maxRecDepth 100000
open Go.RowKit

theorem infoT : (Tryz.prog.info? 35).map (fun i => (i.zero, i.size, i.bytes)) = some (some (.agg #[.bool false, .string ⟨#[]⟩, .bool false, .string ⟨#[]⟩, .int .i64 0]), 5, 56) := by kernel_rfl
/-- The state of the loop: the list v so far, the tokens that are left. -/
structure LsT (w : World) (pb : Nat) (en : Int) (L : List Tk) (wr : World) (v : Value) (A : List Tm) (M : List Tk) : Prop where
  took : Took w pb M en wr
  own : OwnL TmR 35 5 wr w.heap.size v A
  le : A.length ≤ 6
  eq : listP (termP en) en (6 - A.length) A M = listP (termP en) en 6 [] L
theorem LsT.hit {w : World} {pb : Nat} {en : Int} {L M : List Tk} {wr : World} {v : Value} {A : List Tm} (h : LsT w pb en L wr v A M) (hlt : A.length < 6) :
    listP (termP en) en 6 [] L = if (termP en M).bad = 0 then if isMk [44] (atT en (termP en M).rest 0) = true then listP (termP en) en (6 - (A.length + 1)) (A ++ [(termP en M).val]) (termP en M).rest.tail else ⟨0, A ++ [(termP en M).val], (termP en M).rest⟩ else ⟨(termP en M).bad, [], (termP en M).rest⟩ := by
  rw [← h.eq, show 6 - A.length = (6 - (A.length + 1)) + 1 by omega]
  rfl
theorem LsT.full {w : World} {pb : Nat} {en : Int} {L M : List Tk} {wr : World} {v : Value} {A : List Tm} (h : LsT w pb en L wr v A M) (hlt : ¬ A.length < 6) : listP (termP en) en 6 [] L = ⟨4, [], M⟩ := by
  rw [← h.eq, show 6 - A.length = 0 by have := h.le; omega]
  rfl
theorem cells_atT {W : World} {b : Nat} (hb : b = W.heap.size) {a0 : Bool} {a1 : ByteArray} {a2 : Bool} {a3 : ByteArray} {a4 : Int} {ty : TypeId} : ∀ j u, ([.bool a0, .string a1, .bool a2, .string a3, .int .i64 a4] : List Value)[j]? = some u → (W.alloc (.cells #[.bool a0, .string a1, .bool a2, .string a3, .int .i64 a4] ty)).cell? ((⟨b, 0, none⟩ : Addr).add j) = some u := by
  subst hb
  intro j u hj
  rw [add_noneK, (Blk.new W _ ty).cell]
  simpa using hj
theorem oneT (t : Tm) : ∀ u ∈ t.cells, u.oneCell' = true := by
  intro u hu
  simp [Tm.cells] at hu
  rcases hu with rfl | rfl | rfl | rfl | rfl <;> rfl

/-- What the list's call leaves. -/
def ListTOut (w : World) (pb : Nat) (en : Int) (r : Rd (List Tm)) (e : Ending) (w' : World) : Prop :=
  ∃ x, e = .returned (.tuple #[x, .int .i64 (r.bad : Int)]) ∧ Took w pb r.rest en w' ∧ OwnL TmR 35 5 w' w.heap.size x r.val

set_option maxHeartbeats 4000000 in
theorem listT_any {w : World} {pb : Nat} {L : List Tk} {en : Int} (hF : Feed w pb L en) :
    Calls Tryz.prog 72 #[.pointer (some ⟨pb, 0, none⟩), .int .i64 6, .func (.func 73) #[] #[]] w fun e w' => ListTOut w pb en (listP (termP en) en 6 [] L) e w' := by
  obtain ⟨i0, hi, hz0, hz1, hz2⟩ := info_parts infoT
  have HL0 : Hid (LsT w pb en L w (.slice none 0 0) [] L) := ⟨⟨Turns.refl _ _, hF⟩, OwnL.nil _ _ _ _ _, Nat.zero_le _, rfl⟩
  have hpb := hF.lt
  clear hF
  go_enter Tryz.func72, Tryz.ntmps72
  go_wp2_with fail
  go_loopw [8] (fun xv wr => ∃ (v : Value) (A : List Tm) (M : List Tk), v = xv ∧ Hid (LsT w pb en L wr v A M)) (fun xv _ => 6 - lenV xv)
  case atStart => exact ⟨_, [], L, rfl, HL0⟩
  case round =>
    clear HL0
    obtain ⟨v, A, M, hv, HS⟩ := hrel
    subst hv
    obtain ⟨ao, cap, rfl, hcap, -⟩ := HS.out.own.cells
    have hsz : w.heap.size ≤ wr.heap.size := HS.out.took.turns.size
    by_cases hlt : A.length < 6
    · have hltI : (A.length : Int) < 6 := by omega
      have HIT := Lib.hid (HS.out.hit hlt)
      have HRD := Lib.hid (term_any HS.out.took.feed)
      obtain ⟨g, hg⟩ : ∃ g, g = termP en M := ⟨_, rfl⟩
      rw [← hg] at HIT HRD
      clear hg
      obtain ⟨bd, x, M1⟩ := g
      simp only at HIT HRD
      by_cases hbd : bd = 0
      · subst hbd
        rw [if_pos rfl] at HIT
        obtain ⟨xv, xname, xk, xs, xn⟩ := x
        obtain ⟨cs, hA, hcl, hrow⟩ := HS.out.own
        have HCL := Lib.hid hcl
        simp only at HRD HIT
        have HMK := Lib.hid (fun W (hW : Feed W pb M1 en) => takeMark_any hW ⟨#[44]⟩)
        obtain ⟨mb, hmb⟩ : ∃ mb, mb = isMk [44] (atT en M1 0) := ⟨_, rfl⟩
        simp only [← hmb] at HMK HIT
        clear hmb
        cases mb
        · rw [if_neg (by decide)] at HIT
          simp only [Bool.false_eq_true, if_false] at HMK
          go_wp2_with (first
            | (go_at_call 73; refine (HRD.out).mono ?_; rintro e w1 ⟨rfl, ht1⟩; have HT1 : Hid (Took w pb M1 en w1) := HS.out.took.then ht1; have HAL1 : Hid (AllR (TmR w1 w.heap.size) A cs) := hA; have HROW1 := Lib.hid (owns_keep (w' := w1) hrow (Nat.le_refl _) (fun j hB hj => ht1.turns.block j hj (by omega))); have hsz1 : w.heap.size ≤ w1.heap.size := HT1.out.turns.size; clear ht1)
            | (at_builtin; refine wpList_append_own _ rfl _ _ 29 rfl w.heap.size 35 i0 _ 5 56 Tryz.underlying29 hi hz0 hz1 hz2 rfl (by decide) _ A.length cs.flatten rfl (World.ownsRow.alloc (owns_keep HROW1.out (Nat.le_refl _) (fun j _ hj => (al_below w1 _).block j hj)) _) ⟨w1.heap.size + 1, 0, none⟩ 1 1 [.bool xv, .string xname, .bool xk, .string xs, .int .i64 xn] rfl rfl (cells_atT (by simp)) (oneT ⟨xv, xname, xk, xs, xn⟩) (by unfold maxLen; omega) (by omega) (by simp; omega) ?_; intro v' w4 hown4 hg4 hnil4; obtain ⟨ho4, hb4, -⟩ := own_step (keepNTm _) hsz1 HAL1.out HCL.out HROW1.out (a := ⟨xv, xname, xk, xs, xn⟩) (show TmR _ _ _ _ from rfl) rfl (al_below w1 _) hown4 hg4; have HO4 := Lib.hid ho4; have HT4 : Hid (Took w pb M1 en w4) := HT1.out.step hb4 (Nat.le_refl _) hpb hsz1; have hs4 : w.heap.size ≤ w4.heap.size := HT4.out.turns.size; clear hown4 hg4 hnil4 ho4 hb4)
            | (go_at_call 71; refine (HMK.out _ HT4.out.feed).mono ?_; rintro e w5 ⟨rfl, ht5⟩; have HT5 : Hid (Took w pb M1 en w5) := HT4.out.then ht5; have HO5 := Lib.hid (HO4.out.turns (keepTm) ht5.turns hpb); clear ht5))
          go_ret2
          rw [HIT.out]
          exact ⟨_, rfl, HT5.out, HO5.out⟩
        · rw [if_pos rfl] at HIT
          simp only [if_true] at HMK
          go_wp2_with (first
            | (go_at_call 73; refine (HRD.out).mono ?_; rintro e w1 ⟨rfl, ht1⟩; have HT1 : Hid (Took w pb M1 en w1) := HS.out.took.then ht1; have HAL1 : Hid (AllR (TmR w1 w.heap.size) A cs) := hA; have HROW1 := Lib.hid (owns_keep (w' := w1) hrow (Nat.le_refl _) (fun j hB hj => ht1.turns.block j hj (by omega))); have hsz1 : w.heap.size ≤ w1.heap.size := HT1.out.turns.size; clear ht1)
            | (at_builtin; refine wpList_append_own _ rfl _ _ 29 rfl w.heap.size 35 i0 _ 5 56 Tryz.underlying29 hi hz0 hz1 hz2 rfl (by decide) _ A.length cs.flatten rfl (World.ownsRow.alloc (owns_keep HROW1.out (Nat.le_refl _) (fun j _ hj => (al_below w1 _).block j hj)) _) ⟨w1.heap.size + 1, 0, none⟩ 1 1 [.bool xv, .string xname, .bool xk, .string xs, .int .i64 xn] rfl rfl (cells_atT (by simp)) (oneT ⟨xv, xname, xk, xs, xn⟩) (by unfold maxLen; omega) (by omega) (by simp; omega) ?_; intro v' w4 hown4 hg4 hnil4; obtain ⟨ho4, hb4, -⟩ := own_step (keepNTm _) hsz1 HAL1.out HCL.out HROW1.out (a := ⟨xv, xname, xk, xs, xn⟩) (show TmR _ _ _ _ from rfl) rfl (al_below w1 _) hown4 hg4; have HO4 := Lib.hid ho4; have HT4 : Hid (Took w pb M1 en w4) := HT1.out.step hb4 (Nat.le_refl _) hpb hsz1; have hs4 : w.heap.size ≤ w4.heap.size := HT4.out.turns.size; clear hown4 hg4 hnil4 ho4 hb4)
            | (go_at_call 71; refine (HMK.out _ HT4.out.feed).mono ?_; rintro e w5 ⟨rfl, ht5⟩; have HT5 : Hid (Took w pb M1.tail en w5) := HT4.out.then ht5; have HO5 := Lib.hid (HO4.out.turns (keepTm) ht5.turns hpb); clear ht5))
          have HS5 : Hid (LsT w pb en L w5 v' (A ++ [⟨xv, xname, xk, xs, xn⟩]) M1.tail) := ⟨HT5.out, HO5.out, by simp; omega, by rw [List.length_append]; exact HIT.out.symm⟩
          obtain ⟨ao', cap', hv', -⟩ := HO5.out.cells
          go_roundw
          case rel => exact ⟨_, _, _, rfl, HS5⟩
          case measure => rw [hv']; simp [lenV]; omega
      · rw [if_neg hbd] at HIT
        have hbdI : ¬ (bd : Int) = 0 := by omega
        have hbdB : ((bd : Int) == 0) = false := by simpa using hbdI
        have hbdN : ((bd : Int) != 0) = true := by simp [bne, hbdB]
        go_wp2_with (go_at_call 73; refine (HRD.out).mono ?_; rintro e w1 ⟨rfl, ht1⟩; have HT1 : Hid (Took w pb M1 en w1) := HS.out.took.then ht1; clear ht1)
        go_ret2
        rw [HIT.out]
        exact ⟨_, rfl, HT1.out.below (al_below w1 _), OwnL.nil _ _ _ _ _⟩
    · have hltI : ¬ (A.length : Int) < 6 := by omega
      have HFU := Lib.hid (HS.out.full hlt)
      go_wp2
      go_ret2
      rw [HFU.out]
      exact ⟨_, rfl, HS.out.took, OwnL.nil _ _ _ _ _⟩
end Go.Proofs.YtbbmihojfcofdaaGreatDoor
