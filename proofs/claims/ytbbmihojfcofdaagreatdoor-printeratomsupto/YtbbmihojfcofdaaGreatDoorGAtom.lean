/-
  Contracts of parse's atom, atomLiteral and comparison.
-/
import Derived.Test.YtbbmihojfcofdaaGreatDoorGListT
namespace Go.Proofs.YtbbmihojfcofdaaGreatDoor
set_option linter.unusedSimpArgs false
set_option linter.unusedVariables false
set_option linter.unusedSectionVars false
set_option maxRecDepth 100000
open Go.RowKit

theorem one_am (p : ByteArray) (ao : Option Addr) (n c : Nat) : (#[.string p, .slice ao n c] : Array Value).all (·.oneCell') = true := by simp [Value.oneCell']
/-- What atom's call leaves. -/
def AtomOut (w : World) (pb : Nat) (en : Int) (r : Rd Am) (e : Ending) (w' : World) : Prop :=
  ∃ x, e = .returned (.tuple #[.agg #[.string r.val.p, x], .int .i64 (r.bad : Int)]) ∧ Took w pb r.rest en w' ∧ TmsO w' w.heap.size x r.val.args
theorem AtomOut.fail {w w' : World} {pb : Nat} {en : Int} {r : Rd Am} {bd : Nat} {M : List Tk} (hr : r = ⟨bd, Am.zero, M⟩) {v : Value} (hv : v = .tuple #[.agg #[.string ⟨#[]⟩, .slice none 0 0], .int .i64 (bd : Int)]) (ht : Took w pb M en w') : AtomOut w pb en r (.returned v) w' :=
  ⟨.slice none 0 0, by rw [hv, hr]; rfl, by rw [hr]; exact ht, by rw [hr]; exact OwnL.nil _ _ _ _ _⟩

set_option maxHeartbeats 4000000 in
theorem atom_any {w : World} {pb : Nat} {L : List Tk} {en : Int} (hF : Feed w pb L en) :
    Calls Tryz.prog 53 #[.pointer (some ⟨pb, 0, none⟩)] w fun e w' => AtomOut w pb en (atomP en L) e w' := by
  have hb0 := (Below.refl w.heap.size w).alloc (Nat.le_refl _) (.cells #[.string ⟨#[]⟩, .slice none 0 0] 31)
  have HR0 := Lib.hid (Blk.new w #[.string ⟨#[]⟩, .slice none 0 0] 31)
  have HNM := Lib.hid (name_any' (hF.below hb0))
  have hpb := hF.lt
  have HT0 : Hid (Took w pb L en (w.alloc (.cells #[.string ⟨#[]⟩, .slice none 0 0] 31))) := Took.start hF hb0
  obtain ⟨r, hr⟩ : ∃ r, r = atomP en L := ⟨_, rfl⟩
  rw [← hr]
  unfold atomP at hr
  obtain ⟨g, hg⟩ : ∃ g, g = nameP en L := ⟨_, rfl⟩
  rw [← hg] at hr HNM
  obtain ⟨bd, p, M⟩ := g
  simp only at hr HNM
  clear hb0 hF hg
  by_cases hbd : bd = 0
  · subst hbd
    rw [if_pos rfl] at hr
    have HMK := Lib.hid (fun W (hW : Feed W pb M en) => takeMark_any hW ⟨#[40]⟩)
    obtain ⟨mb, hmb⟩ : ∃ mb, mb = isMk [40] (atT en M 0) := ⟨_, rfl⟩
    simp only [← hmb] at HMK hr
    clear hmb
    cases mb
    · rw [if_neg (by decide)] at hr
      simp only [Bool.false_eq_true, if_false] at HMK
      have HR := Lib.hid hr
      clear hr
      go_enter Tryz.func53, Tryz.ntmps53
      go_wp2_with (first
        | (go_at_call 70; refine (HNM.out).mono ?_; rintro e w1 ⟨rfl, ht1⟩; have HR1 := Lib.hid (HR0.out.took ht1 hpb); have HT1 := Lib.hid (HT0.out.then ht1); clear ht1)
        | (go_at_call 71; refine (HMK.out _ HT1.out.feed).mono ?_; rintro e w2 ⟨rfl, ht2⟩; have HR2 := Lib.hid (HR1.out.took ht2 hpb); have HT2 := Lib.hid (HT1.out.then ht2); clear HMK; clear ht2)
        | (refine wpList_store_row rfl 31 _ _ rfl w.heap.size #[.string p, .slice none 0 0] rfl rfl 31 _ HR2.out (by kernel_rfl) rfl (one_am _ _ _ _) ?_))
      exact bodyPost_ret (ret_cell2 Tryz.results53 rfl rfl (HR2.out.lay _) Tryz.underlying31 (by kernel_rfl)) rfl ⟨.slice none 0 0, by rw [HR.out]; rfl, by rw [HR.out]; exact HT2.out.lay (Nat.le_refl _) hpb _, by rw [HR.out]; exact OwnL.nil _ _ _ _ _⟩
    · rw [if_pos rfl] at hr
      simp only [if_true] at HMK
      have HLS := Lib.hid (fun W (hW : Feed W pb M.tail en) => listT_any hW)
      obtain ⟨q, hq⟩ : ∃ q, q = listP (termP en) en 6 [] M.tail := ⟨_, rfl⟩
      rw [← hq] at HLS hr
      obtain ⟨qb, A, M2⟩ := q
      simp only [ListTOut] at HLS
      clear hq
      by_cases hqb : qb = 0
      · subst hqb
        unfold argsP at hr
        rw [if_pos rfl] at hr
        unfold endP at hr
        have HMK2 := Lib.hid (fun W (hW : Feed W pb M2 en) => takeMark_any hW ⟨#[41]⟩)
        obtain ⟨mb, hmb⟩ : ∃ mb, mb = isMk [41] (atT en M2 0) := ⟨_, rfl⟩
        simp only [← hmb] at HMK2 hr
        clear hmb
        cases mb
        · rw [if_neg (by decide)] at hr
          simp only [Bool.false_eq_true, if_false] at HMK2
          have HR := Lib.hid hr
          clear hr
          go_enter Tryz.func53, Tryz.ntmps53
          go_wp2_with (first
            | (go_at_call 70; refine (HNM.out).mono ?_; rintro e w1 ⟨rfl, ht1⟩; have HR1 := Lib.hid (HR0.out.took ht1 hpb); have HT1 := Lib.hid (HT0.out.then ht1); have HZ1 : Hid (w.heap.size + 1 ≤ w1.heap.size) := (by have := ht1.turns.size; simp at this; exact this); clear ht1)
            | (go_at_call 72; refine (HLS.out _ HT2.out.feed).mono ?_; rintro e w3 ⟨x, rfl, ht3, ho3⟩; have HR3 := Lib.hid (HR2.out.took ht3 hpb); have HT3 := Lib.hid (HT2.out.then ht3); clear ht3 ho3)
            | (go_at_call 71; refine (HMK.out _ HT1.out.feed).mono ?_; rintro e w2 ⟨rfl, ht2⟩; have HR2 := Lib.hid (HR1.out.took ht2 hpb); have HT2 := Lib.hid (HT1.out.then ht2); clear HMK; clear ht2)
            | (go_at_call 71; refine (HMK2.out _ HT3.out.feed).mono ?_; rintro e w4 ⟨rfl, ht4⟩; have HR4 := Lib.hid (HR3.out.took ht4 hpb); have HT4 := Lib.hid (HT3.out.then ht4); clear ht4)
            | (refine wpList_store_row rfl 31 _ _ rfl w.heap.size #[.string ⟨#[]⟩, .slice none 0 0] rfl rfl 31 _ HR4.out (by kernel_rfl) rfl (one_am _ _ _ _) ?_))
          exact bodyPost_ret (ret_cell2 Tryz.results53 rfl rfl (HR4.out.lay _) Tryz.underlying31 (by kernel_rfl)) rfl (AtomOut.fail HR.out rfl (HT4.out.lay (Nat.le_refl _) hpb _))
        · rw [if_pos rfl] at hr
          simp only [if_true] at HMK2
          have HR := Lib.hid hr
          clear hr
          go_enter Tryz.func53, Tryz.ntmps53
          go_wp2_with (first
            | (go_at_call 70; refine (HNM.out).mono ?_; rintro e w1 ⟨rfl, ht1⟩; have HR1 := Lib.hid (HR0.out.took ht1 hpb); have HT1 := Lib.hid (HT0.out.then ht1); have HZ1 : Hid (w.heap.size + 1 ≤ w1.heap.size) := (by have := ht1.turns.size; simp at this; exact this); clear ht1)
            | (go_at_call 72; refine (HLS.out _ HT2.out.feed).mono ?_; rintro e w3 ⟨x, rfl, ht3, ho3⟩; have HR3 := Lib.hid (HR2.out.took ht3 hpb); have HT3 := Lib.hid (HT2.out.then ht3); have HO3 : Hid (TmsO w3 (w.heap.size + 1) x A) := ho3.mono keepTm HZ2.out; clear ht3 ho3)
            | (go_at_call 71; refine (HMK.out _ HT1.out.feed).mono ?_; rintro e w2 ⟨rfl, ht2⟩; have HR2 := Lib.hid (HR1.out.took ht2 hpb); have HT2 := Lib.hid (HT1.out.then ht2); clear HMK; have HZ2 : Hid (w.heap.size + 1 ≤ w2.heap.size) := Nat.le_trans HZ1.out ht2.turns.size; clear ht2)
            | (go_at_call 71; refine (HMK2.out _ HT3.out.feed).mono ?_; rintro e w4 ⟨rfl, ht4⟩; have HR4 := Lib.hid (HR3.out.took ht4 hpb); have HT4 := Lib.hid (HT3.out.then ht4); have HO4 := Lib.hid (HO3.out.turns keepTm ht4.turns (by omega)); obtain ⟨ao4, cap4, hx4, -⟩ := HO4.out.cells; subst hx4; clear ht4)
            | (refine wpList_store_row rfl 31 _ _ rfl w.heap.size #[.string p, .slice ao4 A.length cap4] rfl rfl 31 _ HR4.out (by kernel_rfl) rfl (one_am _ _ _ _) ?_))
          exact bodyPost_ret (ret_cell2 Tryz.results53 rfl rfl (HR4.out.lay _) Tryz.underlying31 (by kernel_rfl)) rfl ⟨_, by rw [HR.out]; rfl, by rw [HR.out]; exact HT4.out.lay (Nat.le_refl _) hpb _, by rw [HR.out]; exact (HO4.out.turns keepTm (Turns.laid _ w.heap.size _) (Nat.lt_succ_self _)).mono keepTm (Nat.le_succ _)⟩
      · unfold argsP at hr
        rw [if_neg hqb] at hr
        have hbdI : ¬ (qb : Int) = 0 := by omega
        have hbdB : ((qb : Int) == 0) = false := by simpa using hbdI
        have hbdN : ((qb : Int) != 0) = true := by simp [bne, hbdB]
        have HR := Lib.hid hr
        clear hr
        go_enter Tryz.func53, Tryz.ntmps53
        go_wp2_with (first
          | (go_at_call 70; refine (HNM.out).mono ?_; rintro e w1 ⟨rfl, ht1⟩; have HR1 := Lib.hid (HR0.out.took ht1 hpb); have HT1 := Lib.hid (HT0.out.then ht1); clear ht1)
          | (go_at_call 72; refine (HLS.out _ HT2.out.feed).mono ?_; rintro e w3 ⟨x, rfl, ht3, ho3⟩; have HR3 := Lib.hid (HR2.out.took ht3 hpb); have HT3 := Lib.hid (HT2.out.then ht3); clear ht3 ho3)
          | (go_at_call 71; refine (HMK.out _ HT1.out.feed).mono ?_; rintro e w2 ⟨rfl, ht2⟩; have HR2 := Lib.hid (HR1.out.took ht2 hpb); have HT2 := Lib.hid (HT1.out.then ht2); clear HMK; clear ht2)
          | (refine wpList_store_row rfl 31 _ _ rfl w.heap.size #[.string ⟨#[]⟩, .slice none 0 0] rfl rfl 31 _ HR3.out (by kernel_rfl) rfl (one_am _ _ _ _) ?_))
        exact bodyPost_ret (ret_cell2 Tryz.results53 rfl rfl (HR3.out.lay _) Tryz.underlying31 (by kernel_rfl)) rfl (AtomOut.fail HR.out rfl (HT3.out.lay (Nat.le_refl _) hpb _))
  · rw [if_neg hbd] at hr
    have hbdI : ¬ (bd : Int) = 0 := by omega
    have hbdB : ((bd : Int) == 0) = false := by simpa using hbdI
    have hbdN : ((bd : Int) != 0) = true := by simp [bne, hbdB]
    have HR := Lib.hid hr
    clear hr
    go_enter Tryz.func53, Tryz.ntmps53
    go_wp2_with (first
      | (go_at_call 70; refine (HNM.out).mono ?_; rintro e w1 ⟨rfl, ht1⟩; have HR1 := Lib.hid (HR0.out.took ht1 hpb); have HT1 := Lib.hid (HT0.out.then ht1); clear ht1)
      | (refine wpList_store_row rfl 31 _ _ rfl w.heap.size #[.string ⟨#[]⟩, .slice none 0 0] rfl rfl 31 _ HR1.out (by kernel_rfl) rfl (one_am _ _ _ _) ?_))
    exact bodyPost_ret (ret_cell2 Tryz.results53 rfl rfl (HR1.out.lay _) Tryz.underlying31 (by kernel_rfl)) rfl (AtomOut.fail HR.out rfl (HT1.out.lay (Nat.le_refl _) hpb _))
end Go.Proofs.YtbbmihojfcofdaaGreatDoor
