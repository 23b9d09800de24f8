/-
  Contracts of parse's rule and decl.
-/
import Derived.Test.YtbbmihojfcofdaaGreatDoorGListL
namespace Go.Proofs.YtbbmihojfcofdaaGreatDoor
set_option linter.unusedSimpArgs false
set_option linter.unusedVariables false
set_option linter.unusedSectionVars false
set_option maxRecDepth 100000
open Go.RowKit

/-- What rule's call leaves. -/
def RuleOut (w : World) (pb : Nat) (en : Int) (r : Rd Ru) (e : Ending) (w' : World) : Prop :=
  ∃ x y, e = .returned (.tuple #[.agg #[.string r.val.head.p, x, y], .int .i64 (r.bad : Int)]) ∧ Took w pb r.rest en w' ∧ TmsO w' w.heap.size x r.val.head.args ∧ LtsO w' w.heap.size y r.val.body
theorem RuleOut.fail {w w' : World} {pb : Nat} {en : Int} {r : Rd Ru} {bd : Nat} {M : List Tk} (hr : r = ⟨bd, Ru.zero, M⟩) {v : Value} (hv : v = .tuple #[.agg #[.string ⟨#[]⟩, .slice none 0 0, .slice none 0 0], .int .i64 (bd : Int)]) (ht : Took w pb M en w') : RuleOut w pb en r (.returned v) w' :=
  ⟨.slice none 0 0, .slice none 0 0, by rw [hv, hr]; rfl, by rw [hr]; exact ht, by rw [hr]; exact OwnL.nil _ _ _ _ _, by rw [hr]; exact OwnL.nil _ _ _ _ _⟩

set_option maxHeartbeats 8000000 in
theorem rule_any {w : World} {pb : Nat} {L : List Tk} {en : Int} (hF : Feed w pb L en) (hO : OpsM w) (h10 : 10 ≤ pb) :
    Calls Tryz.prog 89 #[.pointer (some ⟨pb, 0, none⟩)] w fun e w' => RuleOut w pb en (ruleP en L) e w' := by
  have hb0 := (Below.refl w.heap.size w).alloc (Nat.le_refl _) (.cells #[.string ⟨#[]⟩, .slice none 0 0, .slice none 0 0] 40)
  have HR0 := Lib.hid (Blk.new w #[.string ⟨#[]⟩, .slice none 0 0, .slice none 0 0] 40)
  have HT0 : Hid (Took w pb L en (w.alloc (.cells #[.string ⟨#[]⟩, .slice none 0 0, .slice none 0 0] 40))) := Took.start hF hb0
  have hpb := hF.lt
  have HA := Lib.hid (atom_any HT0.out.feed)
  have HOP : Hid (∀ W, Turns (fun i => i = pb) w W → OpsM W) := fun W h => hO.turns h (by omega)
  obtain ⟨r, hr⟩ : ∃ r, r = ruleP en L := ⟨_, rfl⟩
  rw [← hr]
  unfold ruleP at hr
  obtain ⟨g, hg⟩ : ∃ g, g = atomP en L := ⟨_, rfl⟩
  rw [← hg] at hr HA
  obtain ⟨bd, ⟨p, A⟩, M⟩ := g
  simp only [AtomOut] at hr HA
  clear hb0 hF hg hO
  by_cases hbd : bd = 0
  · subst hbd
    rw [if_pos rfl] at hr
    have HMK := Lib.hid (fun W (hW : Feed W pb M en) => takeMark_any hW ⟨#[58, 45]⟩)
    obtain ⟨mb, hmb⟩ : ∃ mb, mb = isMk [58, 45] (atT en M 0) := ⟨_, rfl⟩
    simp only [← hmb] at HMK hr
    clear hmb
    cases mb
    · rw [if_neg (by decide)] at hr
      simp only [Bool.false_eq_true, if_false] at HMK
      unfold endP at hr
      have HMK2 := Lib.hid (fun W (hW : Feed W pb M en) => takeMark_any hW ⟨#[46]⟩)
      obtain ⟨mb, hmb⟩ : ∃ mb, mb = isMk [46] (atT en M 0) := ⟨_, rfl⟩
      simp only [← hmb] at HMK2 hr
      clear hmb
      cases mb
      · rw [if_neg (by decide)] at hr
        simp only [Bool.false_eq_true, if_false] at HMK2
        have HR := Lib.hid hr
        clear hr
        go_enter Tryz.func89, Tryz.ntmps89
        go_wp2_with (first
          | (go_at_call 53; refine (HA.out).mono ?_; rintro e w1 ⟨x, rfl, h1, ho⟩; have HR1 := Lib.hid (HR0.out.took h1 hpb); have HT1 := Lib.hid (HT0.out.then h1); have HO_1 : Hid (TmsO w1 (w.heap.size + 1) x A) := ho.mono keepTm HR0.out.lt; obtain ⟨ao, cap, hx, -⟩ := HO_1.out.cells; subst hx; clear ho; have HX_l : Hid (pb < w1.heap.size) := (show pb < _ by have := HT1.out.turns.size; omega); have HR3 := Lib.hid (HR1.out.below (al_below w1 (.cells #[.string p, .slice ao A.length cap] 31))); have HT3 := Lib.hid (HT1.out.below (al_below w1 (.cells #[.string p, .slice ao A.length cap] 31))); have HO_3 := Lib.hid (HO_1.out.below keepTm (al_below w1 (.cells #[.string p, .slice ao A.length cap] 31))); have HX_3 := Lib.hid (Blk.new w1 #[.string p, .slice ao A.length cap] 31); clear HA)
          | (go_at_call 71; refine (HMK.out _ HT3.out.feed).mono ?_; rintro e w2 ⟨rfl, h2⟩; have HR4 := Lib.hid (HR3.out.took h2 hpb); have HT4 := Lib.hid (HT3.out.then h2); have HO_4 := Lib.hid (HO_3.out.turns keepTm h2.turns (by omega)); have HX_4 := Lib.hid (HX_3.out.took h2 HX_l.out); clear HMK)
          | (go_at_call 71; refine (HMK2.out _ HT4.out.feed).mono ?_; rintro e w3 ⟨rfl, h3⟩; have HR5 := Lib.hid (HR4.out.took h3 hpb); have HT5 := Lib.hid (HT4.out.then h3); have HO_5 := Lib.hid (HO_4.out.turns keepTm h3.turns (by omega)); have HX_5 := Lib.hid (HX_4.out.took h3 HX_l.out))
          | (refine wpList_store_row rfl 40 _ _ rfl w.heap.size #[.string ⟨#[]⟩, .slice none 0 0, .slice none 0 0] rfl rfl 40 _ HR5.out (by kernel_rfl) rfl (by simp [Value.oneCell']) ?_))
        exact bodyPost_ret (ret_cell2 Tryz.results89 rfl rfl (HR5.out.lay _) Tryz.underlying40 (by kernel_rfl)) rfl (RuleOut.fail HR.out rfl (HT5.out.lay (Nat.le_refl _) hpb _))
      · rw [if_pos rfl] at hr
        simp only [if_true] at HMK2
        have HR := Lib.hid hr
        clear hr
        go_enter Tryz.func89, Tryz.ntmps89
        go_wp2_with (first
          | (go_at_call 53; refine (HA.out).mono ?_; rintro e w1 ⟨x, rfl, h1, ho⟩; have HR1 := Lib.hid (HR0.out.took h1 hpb); have HT1 := Lib.hid (HT0.out.then h1); have HO_1 : Hid (TmsO w1 (w.heap.size + 1) x A) := ho.mono keepTm HR0.out.lt; obtain ⟨ao, cap, hx, -⟩ := HO_1.out.cells; subst hx; clear ho; have HX_l : Hid (pb < w1.heap.size) := (show pb < _ by have := HT1.out.turns.size; omega); have HR3 := Lib.hid (HR1.out.below (al_below w1 (.cells #[.string p, .slice ao A.length cap] 31))); have HT3 := Lib.hid (HT1.out.below (al_below w1 (.cells #[.string p, .slice ao A.length cap] 31))); have HO_3 := Lib.hid (HO_1.out.below keepTm (al_below w1 (.cells #[.string p, .slice ao A.length cap] 31))); have HX_3 := Lib.hid (Blk.new w1 #[.string p, .slice ao A.length cap] 31); clear HA)
          | (go_at_call 71; refine (HMK.out _ HT3.out.feed).mono ?_; rintro e w2 ⟨rfl, h2⟩; have HR4 := Lib.hid (HR3.out.took h2 hpb); have HT4 := Lib.hid (HT3.out.then h2); have HO_4 := Lib.hid (HO_3.out.turns keepTm h2.turns (by omega)); have HX_4 := Lib.hid (HX_3.out.took h2 HX_l.out); clear HMK)
          | (go_at_call 71; refine (HMK2.out _ HT4.out.feed).mono ?_; rintro e w3 ⟨rfl, h3⟩; have HR5 := Lib.hid (HR4.out.took h3 hpb); have HT5 := Lib.hid (HT4.out.then h3); have HO_5 := Lib.hid (HO_4.out.turns keepTm h3.turns (by omega)); have HX_5 := Lib.hid (HX_4.out.took h3 HX_l.out); have HXd := HX_5.out.cell; have HXd0 := HXd 0; have HXd1 := HXd 1; simp at HXd0 HXd1; clear HXd)
          | (refine wpList_store_row rfl 40 _ _ rfl w.heap.size #[.string p, .slice ao A.length cap, .slice none 0 0] rfl rfl 40 _ HR5.out (by kernel_rfl) rfl (by simp [Value.oneCell']) ?_))
        exact bodyPost_ret (ret_cell2 Tryz.results89 rfl rfl (HR5.out.lay _) Tryz.underlying40 (by kernel_rfl)) rfl (⟨_, _, by rw [HR.out]; rfl, by rw [HR.out]; exact HT5.out.lay (Nat.le_refl _) hpb _, by rw [HR.out]; exact (HO_5.out.turns keepTm (Turns.laid _ w.heap.size _) (Nat.lt_succ_self _)).mono keepTm (Nat.le_succ _), by rw [HR.out]; exact OwnL.nil _ _ _ _ _⟩)
    · rw [if_pos rfl] at hr
      simp only [if_true] at HMK
      have HLS := Lib.hid (fun W (hW : Feed W pb M.tail en) (hT : Turns (fun i => i = pb) w W) => listL_any hW (HOP.out _ hT) h10)
      obtain ⟨q, hq⟩ : ∃ q, q = listP (litP en) en 8 [] M.tail := ⟨_, rfl⟩
      rw [← hq] at HLS hr
      obtain ⟨qb, B, M2⟩ := q
      simp only [ListLOut] at HLS
      unfold bodyP at hr
      clear hq
      by_cases hqb : qb = 0
      · subst hqb
        rw [if_pos rfl] at hr
        unfold endP at hr
        have HMK2 := Lib.hid (fun W (hW : Feed W pb M2 en) => takeMark_any hW ⟨#[46]⟩)
        obtain ⟨mb, hmb⟩ : ∃ mb, mb = isMk [46] (atT en M2 0) := ⟨_, rfl⟩
        simp only [← hmb] at HMK2 hr
        clear hmb
        cases mb
        · rw [if_neg (by decide)] at hr
          simp only [Bool.false_eq_true, if_false] at HMK2
          have HR := Lib.hid hr
          clear hr
          go_enter Tryz.func89, Tryz.ntmps89
          go_wp2_with (first
            | (go_at_call 53; refine (HA.out).mono ?_; rintro e w1 ⟨x, rfl, h1, ho⟩; have HR1 := Lib.hid (HR0.out.took h1 hpb); have HT1 := Lib.hid (HT0.out.then h1); have HO_1 : Hid (TmsO w1 (w.heap.size + 1) x A) := ho.mono keepTm HR0.out.lt; obtain ⟨ao, cap, hx, -⟩ := HO_1.out.cells; subst hx; clear ho; have HX_l : Hid (pb < w1.heap.size) := (show pb < _ by have := HT1.out.turns.size; omega); have HR3 := Lib.hid (HR1.out.below (al_below w1 (.cells #[.string p, .slice ao A.length cap] 31))); have HT3 := Lib.hid (HT1.out.below (al_below w1 (.cells #[.string p, .slice ao A.length cap] 31))); have HO_3 := Lib.hid (HO_1.out.below keepTm (al_below w1 (.cells #[.string p, .slice ao A.length cap] 31))); have HX_3 := Lib.hid (Blk.new w1 #[.string p, .slice ao A.length cap] 31); clear HA)
            | (go_at_call 71; refine (HMK.out _ HT3.out.feed).mono ?_; rintro e w2 ⟨rfl, h2⟩; have HR4 := Lib.hid (HR3.out.took h2 hpb); have HT4 := Lib.hid (HT3.out.then h2); have HO_4 := Lib.hid (HO_3.out.turns keepTm h2.turns (by omega)); have HX_4 := Lib.hid (HX_3.out.took h2 HX_l.out); clear HMK)
            | (go_at_call 112; refine (HLS.out _ HT4.out.feed HT4.out.turns).mono ?_; rintro e w3 ⟨y, rfl, h3, hob⟩; have HR5 := Lib.hid (HR4.out.took h3 hpb); have HT5 := Lib.hid (HT4.out.then h3); have HO_5 := Lib.hid (HO_4.out.turns keepTm h3.turns (by omega)); have HX_5 := Lib.hid (HX_4.out.took h3 HX_l.out); have HB_5 : Hid (LtsO w3 (w.heap.size + 1) y B) := hob.mono keepLt HR4.out.lt; obtain ⟨bo, bcap, hy, -⟩ := HB_5.out.cells; subst hy; clear hob)
            | (go_at_call 71; refine (HMK2.out _ HT5.out.feed).mono ?_; rintro e w4 ⟨rfl, h4⟩; have HR6 := Lib.hid (HR5.out.took h4 hpb); have HT6 := Lib.hid (HT5.out.then h4); have HO_6 := Lib.hid (HO_5.out.turns keepTm h4.turns (by omega)); have HB_6 := Lib.hid (HB_5.out.turns keepLt h4.turns (by omega)); have HX_6 := Lib.hid (HX_5.out.took h4 HX_l.out))
            | (refine wpList_store_row rfl 40 _ _ rfl w.heap.size #[.string ⟨#[]⟩, .slice none 0 0, .slice none 0 0] rfl rfl 40 _ HR6.out (by kernel_rfl) rfl (by simp [Value.oneCell']) ?_))
          exact bodyPost_ret (ret_cell2 Tryz.results89 rfl rfl (HR6.out.lay _) Tryz.underlying40 (by kernel_rfl)) rfl (RuleOut.fail HR.out rfl (HT6.out.lay (Nat.le_refl _) hpb _))
        · rw [if_pos rfl] at hr
          simp only [if_true] at HMK2
          have HR := Lib.hid hr
          clear hr
          go_enter Tryz.func89, Tryz.ntmps89
          go_wp2_with (first
            | (go_at_call 53; refine (HA.out).mono ?_; rintro e w1 ⟨x, rfl, h1, ho⟩; have HR1 := Lib.hid (HR0.out.took h1 hpb); have HT1 := Lib.hid (HT0.out.then h1); have HO_1 : Hid (TmsO w1 (w.heap.size + 1) x A) := ho.mono keepTm HR0.out.lt; obtain ⟨ao, cap, hx, -⟩ := HO_1.out.cells; subst hx; clear ho; have HX_l : Hid (pb < w1.heap.size) := (show pb < _ by have := HT1.out.turns.size; omega); have HR3 := Lib.hid (HR1.out.below (al_below w1 (.cells #[.string p, .slice ao A.length cap] 31))); have HT3 := Lib.hid (HT1.out.below (al_below w1 (.cells #[.string p, .slice ao A.length cap] 31))); have HO_3 := Lib.hid (HO_1.out.below keepTm (al_below w1 (.cells #[.string p, .slice ao A.length cap] 31))); have HX_3 := Lib.hid (Blk.new w1 #[.string p, .slice ao A.length cap] 31); clear HA)
            | (go_at_call 71; refine (HMK.out _ HT3.out.feed).mono ?_; rintro e w2 ⟨rfl, h2⟩; have HR4 := Lib.hid (HR3.out.took h2 hpb); have HT4 := Lib.hid (HT3.out.then h2); have HO_4 := Lib.hid (HO_3.out.turns keepTm h2.turns (by omega)); have HX_4 := Lib.hid (HX_3.out.took h2 HX_l.out); clear HMK)
            | (go_at_call 112; refine (HLS.out _ HT4.out.feed HT4.out.turns).mono ?_; rintro e w3 ⟨y, rfl, h3, hob⟩; have HR5 := Lib.hid (HR4.out.took h3 hpb); have HT5 := Lib.hid (HT4.out.then h3); have HO_5 := Lib.hid (HO_4.out.turns keepTm h3.turns (by omega)); have HX_5 := Lib.hid (HX_4.out.took h3 HX_l.out); have HB_5 : Hid (LtsO w3 (w.heap.size + 1) y B) := hob.mono keepLt HR4.out.lt; obtain ⟨bo, bcap, hy, -⟩ := HB_5.out.cells; subst hy; clear hob)
            | (go_at_call 71; refine (HMK2.out _ HT5.out.feed).mono ?_; rintro e w4 ⟨rfl, h4⟩; have HR6 := Lib.hid (HR5.out.took h4 hpb); have HT6 := Lib.hid (HT5.out.then h4); have HO_6 := Lib.hid (HO_5.out.turns keepTm h4.turns (by omega)); have HB_6 := Lib.hid (HB_5.out.turns keepLt h4.turns (by omega)); have HX_6 := Lib.hid (HX_5.out.took h4 HX_l.out); have HXd := HX_6.out.cell; have HXd0 := HXd 0; have HXd1 := HXd 1; simp at HXd0 HXd1; clear HXd)
            | (refine wpList_store_row rfl 40 _ _ rfl w.heap.size #[.string p, .slice ao A.length cap, .slice bo B.length bcap] rfl rfl 40 _ HR6.out (by kernel_rfl) rfl (by simp [Value.oneCell']) ?_))
          exact bodyPost_ret (ret_cell2 Tryz.results89 rfl rfl (HR6.out.lay _) Tryz.underlying40 (by kernel_rfl)) rfl (⟨_, _, by rw [HR.out]; rfl, by rw [HR.out]; exact HT6.out.lay (Nat.le_refl _) hpb _, by rw [HR.out]; exact (HO_6.out.turns keepTm (Turns.laid _ w.heap.size _) (Nat.lt_succ_self _)).mono keepTm (Nat.le_succ _), by rw [HR.out]; exact (HB_6.out.turns keepLt (Turns.laid _ w.heap.size _) (Nat.lt_succ_self _)).mono keepLt (Nat.le_succ _)⟩)
      · rw [if_neg hqb] at hr
        have hbdI : ¬ (qb : Int) = 0 := by omega
        have hbdB : ((qb : Int) == 0) = false := by simpa using hbdI
        have hbdN : ((qb : Int) != 0) = true := by simp [bne, hbdB]
        have HR := Lib.hid hr
        clear hr
        go_enter Tryz.func89, Tryz.ntmps89
        go_wp2_with (first
          | (go_at_call 53; refine (HA.out).mono ?_; rintro e w1 ⟨x, rfl, h1, ho⟩; have HR1 := Lib.hid (HR0.out.took h1 hpb); have HT1 := Lib.hid (HT0.out.then h1); have HO_1 : Hid (TmsO w1 (w.heap.size + 1) x A) := ho.mono keepTm HR0.out.lt; obtain ⟨ao, cap, hx, -⟩ := HO_1.out.cells; subst hx; clear ho; have HX_l : Hid (pb < w1.heap.size) := (show pb < _ by have := HT1.out.turns.size; omega); have HR3 := Lib.hid (HR1.out.below (al_below w1 (.cells #[.string p, .slice ao A.length cap] 31))); have HT3 := Lib.hid (HT1.out.below (al_below w1 (.cells #[.string p, .slice ao A.length cap] 31))); have HO_3 := Lib.hid (HO_1.out.below keepTm (al_below w1 (.cells #[.string p, .slice ao A.length cap] 31))); have HX_3 := Lib.hid (Blk.new w1 #[.string p, .slice ao A.length cap] 31); clear HA)
          | (go_at_call 71; refine (HMK.out _ HT3.out.feed).mono ?_; rintro e w2 ⟨rfl, h2⟩; have HR4 := Lib.hid (HR3.out.took h2 hpb); have HT4 := Lib.hid (HT3.out.then h2); have HO_4 := Lib.hid (HO_3.out.turns keepTm h2.turns (by omega)); have HX_4 := Lib.hid (HX_3.out.took h2 HX_l.out); clear HMK)
          | (go_at_call 112; refine (HLS.out _ HT4.out.feed HT4.out.turns).mono ?_; rintro e w3 ⟨y, rfl, h3, hob⟩; have HR5 := Lib.hid (HR4.out.took h3 hpb); have HT5 := Lib.hid (HT4.out.then h3); have HO_5 := Lib.hid (HO_4.out.turns keepTm h3.turns (by omega)); have HX_5 := Lib.hid (HX_4.out.took h3 HX_l.out); have HB_5 : Hid (LtsO w3 (w.heap.size + 1) y B) := hob.mono keepLt HR4.out.lt; obtain ⟨bo, bcap, hy, -⟩ := HB_5.out.cells; subst hy; clear hob)
          | (refine wpList_store_row rfl 40 _ _ rfl w.heap.size #[.string ⟨#[]⟩, .slice none 0 0, .slice none 0 0] rfl rfl 40 _ HR5.out (by kernel_rfl) rfl (by simp [Value.oneCell']) ?_))
        exact bodyPost_ret (ret_cell2 Tryz.results89 rfl rfl (HR5.out.lay _) Tryz.underlying40 (by kernel_rfl)) rfl (RuleOut.fail HR.out rfl (HT5.out.lay (Nat.le_refl _) hpb _))
  · rw [if_neg hbd] at hr
    have hbdI : ¬ (bd : Int) = 0 := by omega
    have hbdB : ((bd : Int) == 0) = false := by simpa using hbdI
    have hbdN : ((bd : Int) != 0) = true := by simp [bne, hbdB]
    have HR := Lib.hid hr
    clear hr
    go_enter Tryz.func89, Tryz.ntmps89
    go_wp2_with (first
      | (go_at_call 53; refine (HA.out).mono ?_; rintro e w1 ⟨x, rfl, h1, ho⟩; have HR1 := Lib.hid (HR0.out.took h1 hpb); have HT1 := Lib.hid (HT0.out.then h1); have HO_1 : Hid (TmsO w1 (w.heap.size + 1) x A) := ho.mono keepTm HR0.out.lt; obtain ⟨ao, cap, hx, -⟩ := HO_1.out.cells; subst hx; clear ho; have HR3 := Lib.hid (HR1.out.below (al_below w1 (.cells #[.string p, .slice ao A.length cap] 31))); have HT3 := Lib.hid (HT1.out.below (al_below w1 (.cells #[.string p, .slice ao A.length cap] 31))); have HO_3 := Lib.hid (HO_1.out.below keepTm (al_below w1 (.cells #[.string p, .slice ao A.length cap] 31))); clear HA)
      | (refine wpList_store_row rfl 40 _ _ rfl w.heap.size #[.string ⟨#[]⟩, .slice none 0 0, .slice none 0 0] rfl rfl 40 _ HR3.out (by kernel_rfl) rfl (by simp [Value.oneCell']) ?_))
    exact bodyPost_ret (ret_cell2 Tryz.results89 rfl rfl (HR3.out.lay _) Tryz.underlying40 (by kernel_rfl)) rfl (RuleOut.fail HR.out rfl (HT3.out.lay (Nat.le_refl _) hpb _))

/-- What decl's call leaves. -/
def DeclOut (w : World) (pb : Nat) (en : Int) (r : Rd De) (e : Ending) (w' : World) : Prop :=
  e = .returned (.tuple #[.agg #[.string r.val.p, .int .i64 r.val.ar], .int .i64 (r.bad : Int)]) ∧ Took w pb r.rest en w'
theorem DeclOut.put {w w' : World} {pb : Nat} {en : Int} {r : Rd De} {bd : Nat} {d : De} {M : List Tk} (hr : r = ⟨bd, d, M⟩) {v : Value} (hv : v = .tuple #[.agg #[.string d.p, .int .i64 d.ar], .int .i64 (bd : Int)]) (ht : Took w pb M en w') : DeclOut w pb en r (.returned v) w' :=
  ⟨by rw [hv, hr], by rw [hr]; exact ht⟩

set_option maxHeartbeats 8000000 in
theorem decl_any {w : World} {pb : Nat} {L : List Tk} {en : Int} (hF : Feed w pb L en) (hs : isMk [47] (atT en L 1) = true) :
    Calls Tryz.prog 88 #[.pointer (some ⟨pb, 0, none⟩)] w fun e w' => DeclOut w pb en (declP en L) e w' := by
  have hb0 := (Below.refl w.heap.size w).alloc (Nat.le_refl _) (.cells #[.string ⟨#[]⟩, .int .i64 0] 63)
  have HR0 := Lib.hid (Blk.new w #[.string ⟨#[]⟩, .int .i64 0] 63)
  have HT0 : Hid (Took w pb L en (w.alloc (.cells #[.string ⟨#[]⟩, .int .i64 0] 63))) := Took.start hF hb0
  have hpb := hF.lt
  have HA := Lib.hid (name_any' HT0.out.feed)
  have hl2 : 1 < L.length := at_ne (by rw [mk_kind hs]; decide)
  have hl1 : (nameP en L).bad = 0 → 0 < (nameP en L).rest.length := fun h => by
    unfold nameP at *
    split at h
    · rw [if_pos (by assumption)]; simp; omega
    · cases h
  obtain ⟨r, hr⟩ : ∃ r, r = declP en L := ⟨_, rfl⟩
  rw [← hr]
  unfold declP at hr
  obtain ⟨g, hg⟩ : ∃ g, g = nameP en L := ⟨_, rfl⟩
  rw [← hg] at hr HA hl1
  obtain ⟨bd, p, M⟩ := g
  simp only at hr HA hl1
  clear hb0 hF hg hs hl2
  by_cases hbd : bd = 0
  · subst hbd
    rw [if_pos rfl] at hr
    have HTK := Lib.hid (fun W (hW : Feed W pb M en) => take_one hW (hl1 rfl))
    have HNX := Lib.hid (fun W (hW : Feed W pb M.tail en) => next_any hW)
    unfold declN at hr
    have hl3 : (atT en M.tail 0).kind = 3 → 0 < M.tail.length := fun h => at_ne (by rw [h]; decide)
    obtain ⟨t, ht⟩ : ∃ t, t = atT en M.tail 0 := ⟨_, rfl⟩
    simp only [← ht] at HNX hr hl3
    clear ht hl1
    obtain ⟨kd, st, nn, qq, pp⟩ := t
    simp only at HNX hr hl3
    by_cases hk : kd = 3
    · subst hk
      rw [if_pos rfl] at hr
      by_cases hn : nn < 0 ∨ 6 < nn
      · rw [if_pos hn] at hr
        have HR := Lib.hid hr
        clear hr
        rcases hn with hn | hn
        · have hnB : decide (nn < 0) = true := by simpa using hn
          go_enter Tryz.func88, Tryz.ntmps88
          go_wp2_with (first
            | (go_at_call 70; refine (HA.out).mono ?_; rintro e w1 ⟨rfl, h1⟩; have HR1 := Lib.hid (HR0.out.took h1 hpb); have HT1 := Lib.hid (HT0.out.then h1); clear HA)
            | (go_at_call 91; refine (HTK.out _ HT1.out.feed).mono ?_; rintro e w2 ⟨rfl, h2⟩; have HR2 := Lib.hid (HR1.out.took h2 hpb); have HT2 := Lib.hid (HT1.out.then h2); clear HTK)
            | (go_at_call 68; refine (HNX.out _ HT2.out.feed).mono ?_; rintro e w3 ⟨rfl, h3⟩; have HR3 := Lib.hid (HR2.out.below h3); have HT3 := Lib.hid (HT2.out.below h3); have HX_l : Hid (pb < w3.heap.size) := (show pb < _ by have := HT3.out.turns.size; omega); have HR5 := Lib.hid (HR3.out.below (al_below w3 (.cells #[.int .i64 3, .string st, .int .i64 nn, .bool qq, .int .i64 pp] 110))); have HT5 := Lib.hid (HT3.out.below (al_below w3 (.cells #[.int .i64 3, .string st, .int .i64 nn, .bool qq, .int .i64 pp] 110))); have HX_5 := Lib.hid (Blk.new w3 #[.int .i64 3, .string st, .int .i64 nn, .bool qq, .int .i64 pp] 110))
            | (refine wpList_store_row rfl 63 _ _ rfl w.heap.size #[.string ⟨#[]⟩, .int .i64 0] rfl rfl 63 _ HR5.out (by kernel_rfl) rfl (by simp [Value.oneCell']) ?_))
          exact bodyPost_ret (ret_cell2 Tryz.results88 rfl rfl (HR5.out.lay _) Tryz.underlying63 (by kernel_rfl)) rfl (DeclOut.put HR.out rfl (HT5.out.lay (Nat.le_refl _) hpb _))
        · have hnB : decide (nn < 0) = false := by simp; omega
          have hnC : decide (6 < nn) = true := by simpa using hn
          have hn0 : ¬ nn < 0 := by omega
          go_enter Tryz.func88, Tryz.ntmps88
          go_wp2_with (first
            | (go_at_call 70; refine (HA.out).mono ?_; rintro e w1 ⟨rfl, h1⟩; have HR1 := Lib.hid (HR0.out.took h1 hpb); have HT1 := Lib.hid (HT0.out.then h1); clear HA)
            | (go_at_call 91; refine (HTK.out _ HT1.out.feed).mono ?_; rintro e w2 ⟨rfl, h2⟩; have HR2 := Lib.hid (HR1.out.took h2 hpb); have HT2 := Lib.hid (HT1.out.then h2); clear HTK)
            | (go_at_call 68; refine (HNX.out _ HT2.out.feed).mono ?_; rintro e w3 ⟨rfl, h3⟩; have HR3 := Lib.hid (HR2.out.below h3); have HT3 := Lib.hid (HT2.out.below h3); have HX_l : Hid (pb < w3.heap.size) := (show pb < _ by have := HT3.out.turns.size; omega); have HR5 := Lib.hid (HR3.out.below (al_below w3 (.cells #[.int .i64 3, .string st, .int .i64 nn, .bool qq, .int .i64 pp] 110))); have HT5 := Lib.hid (HT3.out.below (al_below w3 (.cells #[.int .i64 3, .string st, .int .i64 nn, .bool qq, .int .i64 pp] 110))); have HX_5 := Lib.hid (Blk.new w3 #[.int .i64 3, .string st, .int .i64 nn, .bool qq, .int .i64 pp] 110))
            | (refine wpList_store_row rfl 63 _ _ rfl w.heap.size #[.string ⟨#[]⟩, .int .i64 0] rfl rfl 63 _ HR5.out (by kernel_rfl) rfl (by simp [Value.oneCell']) ?_))
          exact bodyPost_ret (ret_cell2 Tryz.results88 rfl rfl (HR5.out.lay _) Tryz.underlying63 (by kernel_rfl)) rfl (DeclOut.put HR.out rfl (HT5.out.lay (Nat.le_refl _) hpb _))
      · rw [if_neg hn] at hr
        have hnB : decide (nn < 0) = false := by simp; omega
        have hnC : decide (6 < nn) = false := by simp; omega
        have hn0 : ¬ nn < 0 := by omega
        have hn6 : ¬ 6 < nn := by omega
        unfold endP at hr
        have HTK2 := Lib.hid (fun W (hW : Feed W pb M.tail en) => take_one hW (hl3 rfl))
        have HMK := Lib.hid (fun W (hW : Feed W pb M.tail.tail en) => takeMark_any hW ⟨#[46]⟩)
        obtain ⟨mb, hmb⟩ : ∃ mb, mb = isMk [46] (atT en M.tail.tail 0) := ⟨_, rfl⟩
        simp only [← hmb] at HMK hr
        clear hmb hn
        cases mb
        · rw [if_neg (by decide)] at hr
          simp only [Bool.false_eq_true, if_false] at HMK
          have HR := Lib.hid hr
          clear hr
          go_enter Tryz.func88, Tryz.ntmps88
          go_wp2_with (first
            | (go_at_call 70; refine (HA.out).mono ?_; rintro e w1 ⟨rfl, h1⟩; have HR1 := Lib.hid (HR0.out.took h1 hpb); have HT1 := Lib.hid (HT0.out.then h1); clear HA)
            | (go_at_call 91; refine (HTK.out _ HT1.out.feed).mono ?_; rintro e w2 ⟨rfl, h2⟩; have HR2 := Lib.hid (HR1.out.took h2 hpb); have HT2 := Lib.hid (HT1.out.then h2); clear HTK)
            | (go_at_call 68; refine (HNX.out _ HT2.out.feed).mono ?_; rintro e w3 ⟨rfl, h3⟩; have HR3 := Lib.hid (HR2.out.below h3); have HT3 := Lib.hid (HT2.out.below h3); have HX_l : Hid (pb < w3.heap.size) := (show pb < _ by have := HT3.out.turns.size; omega); have HR5 := Lib.hid (HR3.out.below (al_below w3 (.cells #[.int .i64 3, .string st, .int .i64 nn, .bool qq, .int .i64 pp] 110))); have HT5 := Lib.hid (HT3.out.below (al_below w3 (.cells #[.int .i64 3, .string st, .int .i64 nn, .bool qq, .int .i64 pp] 110))); have HX_5 := Lib.hid (Blk.new w3 #[.int .i64 3, .string st, .int .i64 nn, .bool qq, .int .i64 pp] 110))
            | (go_at_call 91; refine (HTK2.out _ HT5.out.feed).mono ?_; rintro e w4 ⟨rfl, h4⟩; have HR6 := Lib.hid (HR5.out.took h4 hpb); have HT6 := Lib.hid (HT5.out.then h4); have HX_6 := Lib.hid (HX_5.out.took h4 HX_l.out); clear HTK2)
            | (go_at_call 71; refine (HMK.out _ HT6.out.feed).mono ?_; rintro e w5 ⟨rfl, h5⟩; have HR7 := Lib.hid (HR6.out.took h5 hpb); have HT7 := Lib.hid (HT6.out.then h5); have HX_7 := Lib.hid (HX_6.out.took h5 HX_l.out))
            | (refine wpList_store_row rfl 63 _ _ rfl w.heap.size #[.string ⟨#[]⟩, .int .i64 0] rfl rfl 63 _ HR7.out (by kernel_rfl) rfl (by simp [Value.oneCell']) ?_))
          exact bodyPost_ret (ret_cell2 Tryz.results88 rfl rfl (HR7.out.lay _) Tryz.underlying63 (by kernel_rfl)) rfl (DeclOut.put HR.out rfl (HT7.out.lay (Nat.le_refl _) hpb _))
        · rw [if_pos rfl] at hr
          simp only [if_true] at HMK
          have HR := Lib.hid hr
          clear hr
          go_enter Tryz.func88, Tryz.ntmps88
          go_wp2_with (first
            | (go_at_call 70; refine (HA.out).mono ?_; rintro e w1 ⟨rfl, h1⟩; have HR1 := Lib.hid (HR0.out.took h1 hpb); have HT1 := Lib.hid (HT0.out.then h1); clear HA)
            | (go_at_call 91; refine (HTK.out _ HT1.out.feed).mono ?_; rintro e w2 ⟨rfl, h2⟩; have HR2 := Lib.hid (HR1.out.took h2 hpb); have HT2 := Lib.hid (HT1.out.then h2); clear HTK)
            | (go_at_call 68; refine (HNX.out _ HT2.out.feed).mono ?_; rintro e w3 ⟨rfl, h3⟩; have HR3 := Lib.hid (HR2.out.below h3); have HT3 := Lib.hid (HT2.out.below h3); have HX_l : Hid (pb < w3.heap.size) := (show pb < _ by have := HT3.out.turns.size; omega); have HR5 := Lib.hid (HR3.out.below (al_below w3 (.cells #[.int .i64 3, .string st, .int .i64 nn, .bool qq, .int .i64 pp] 110))); have HT5 := Lib.hid (HT3.out.below (al_below w3 (.cells #[.int .i64 3, .string st, .int .i64 nn, .bool qq, .int .i64 pp] 110))); have HX_5 := Lib.hid (Blk.new w3 #[.int .i64 3, .string st, .int .i64 nn, .bool qq, .int .i64 pp] 110))
            | (go_at_call 91; refine (HTK2.out _ HT5.out.feed).mono ?_; rintro e w4 ⟨rfl, h4⟩; have HR6 := Lib.hid (HR5.out.took h4 hpb); have HT6 := Lib.hid (HT5.out.then h4); have HX_6 := Lib.hid (HX_5.out.took h4 HX_l.out); clear HTK2)
            | (go_at_call 71; refine (HMK.out _ HT6.out.feed).mono ?_; rintro e w5 ⟨rfl, h5⟩; have HR7 := Lib.hid (HR6.out.took h5 hpb); have HT7 := Lib.hid (HT6.out.then h5); have HX_7 := Lib.hid (HX_6.out.took h5 HX_l.out); have HXd := HX_7.out.cell; have HXd2 := HXd 2; simp at HXd2; clear HXd)
            | (refine wpList_store_row rfl 63 _ _ rfl w.heap.size #[.string p, .int .i64 nn] rfl rfl 63 _ HR7.out (by kernel_rfl) rfl (by simp [Value.oneCell']) ?_))
          exact bodyPost_ret (ret_cell2 Tryz.results88 rfl rfl (HR7.out.lay _) Tryz.underlying63 (by kernel_rfl)) rfl (DeclOut.put HR.out rfl (HT7.out.lay (Nat.le_refl _) hpb _))
    · rw [if_neg hk] at hr
      have hkB : (kd == 3) = false := by simpa using hk
      have hkN : (kd != 3) = true := by simp [bne, hkB]
      have HR := Lib.hid hr
      clear hr
      go_enter Tryz.func88, Tryz.ntmps88
      go_wp2_with (first
        | (go_at_call 70; refine (HA.out).mono ?_; rintro e w1 ⟨rfl, h1⟩; have HR1 := Lib.hid (HR0.out.took h1 hpb); have HT1 := Lib.hid (HT0.out.then h1); clear HA)
        | (go_at_call 91; refine (HTK.out _ HT1.out.feed).mono ?_; rintro e w2 ⟨rfl, h2⟩; have HR2 := Lib.hid (HR1.out.took h2 hpb); have HT2 := Lib.hid (HT1.out.then h2); clear HTK)
        | (go_at_call 68; refine (HNX.out _ HT2.out.feed).mono ?_; rintro e w3 ⟨rfl, h3⟩; have HR3 := Lib.hid (HR2.out.below h3); have HT3 := Lib.hid (HT2.out.below h3); have HX_l : Hid (pb < w3.heap.size) := (show pb < _ by have := HT3.out.turns.size; omega); have HR5 := Lib.hid (HR3.out.below (al_below w3 (.cells #[.int .i64 kd, .string st, .int .i64 nn, .bool qq, .int .i64 pp] 110))); have HT5 := Lib.hid (HT3.out.below (al_below w3 (.cells #[.int .i64 kd, .string st, .int .i64 nn, .bool qq, .int .i64 pp] 110))); have HX_5 := Lib.hid (Blk.new w3 #[.int .i64 kd, .string st, .int .i64 nn, .bool qq, .int .i64 pp] 110))
        | (refine wpList_store_row rfl 63 _ _ rfl w.heap.size #[.string ⟨#[]⟩, .int .i64 0] rfl rfl 63 _ HR5.out (by kernel_rfl) rfl (by simp [Value.oneCell']) ?_))
      exact bodyPost_ret (ret_cell2 Tryz.results88 rfl rfl (HR5.out.lay _) Tryz.underlying63 (by kernel_rfl)) rfl (DeclOut.put HR.out rfl (HT5.out.lay (Nat.le_refl _) hpb _))
  · rw [if_neg hbd] at hr
    have hbdI : ¬ (bd : Int) = 0 := by omega
    have hbdB : ((bd : Int) == 0) = false := by simpa using hbdI
    have hbdN : ((bd : Int) != 0) = true := by simp [bne, hbdB]
    have HR := Lib.hid hr
    clear hr
    go_enter Tryz.func88, Tryz.ntmps88
    go_wp2_with (first
      | (go_at_call 70; refine (HA.out).mono ?_; rintro e w1 ⟨rfl, h1⟩; have HR1 := Lib.hid (HR0.out.took h1 hpb); have HT1 := Lib.hid (HT0.out.then h1); clear HA)
      | (refine wpList_store_row rfl 63 _ _ rfl w.heap.size #[.string ⟨#[]⟩, .int .i64 0] rfl rfl 63 _ HR1.out (by kernel_rfl) rfl (by simp [Value.oneCell']) ?_))
    exact bodyPost_ret (ret_cell2 Tryz.results88 rfl rfl (HR1.out.lay _) Tryz.underlying63 (by kernel_rfl)) rfl (DeclOut.put HR.out rfl (HT1.out.lay (Nat.le_refl _) hpb _))
end Go.Proofs.YtbbmihojfcofdaaGreatDoor
