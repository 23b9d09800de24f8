/-
  Contract of parse's literal.
-/
import Derived.Test.YtbbmihojfcofdaaGreatDoorGLit
namespace Go.Proofs.YtbbmihojfcofdaaGreatDoor
set_option linter.unusedSimpArgs false
set_option linter.unusedVariables false
set_option linter.unusedSectionVars false
set_option maxRecDepth 100000
open Go.RowKit

set_option maxHeartbeats 8000000 in
theorem lit_any {w : World} {pb : Nat} {L : List Tk} {en : Int} (hF : Feed w pb L en) (hO : OpsM w) (h10 : 10 ≤ pb) :
    Calls Tryz.prog 113 #[.pointer (some ⟨pb, 0, none⟩)] w fun e w' => LitOut w pb en (litP en L) e w' := by
  have hb0 := (Below.refl w.heap.size w).alloc (Nat.le_refl _) (.cells #[.int .i64 0, .string ⟨#[]⟩, .slice none 0 0, .string ⟨#[]⟩, .bool false, .string ⟨#[]⟩, .bool false, .string ⟨#[]⟩, .int .i64 0, .bool false, .string ⟨#[]⟩, .bool false, .string ⟨#[]⟩, .int .i64 0] 37)
  have HR0 := Lib.hid (Blk.new w #[.int .i64 0, .string ⟨#[]⟩, .slice none 0 0, .string ⟨#[]⟩, .bool false, .string ⟨#[]⟩, .bool false, .string ⟨#[]⟩, .int .i64 0, .bool false, .string ⟨#[]⟩, .bool false, .string ⟨#[]⟩, .int .i64 0] 37)
  have HT0 : Hid (Took w pb L en (w.alloc (.cells #[.int .i64 0, .string ⟨#[]⟩, .slice none 0 0, .string ⟨#[]⟩, .bool false, .string ⟨#[]⟩, .bool false, .string ⟨#[]⟩, .int .i64 0, .bool false, .string ⟨#[]⟩, .bool false, .string ⟨#[]⟩, .int .i64 0] 37))) := Took.start hF hb0
  have hpb := hF.lt
  have HNX := Lib.hid (next_any HT0.out.feed)
  have HOP : Hid (∀ W, Turns (fun i => i = pb) w W → OpsM W) := fun W h => hO.turns h (by omega)
  have HNG := Lib.hid (fun W => isNeg_any (atT en L 0) W)
  have HNM := Lib.hid (fun W => isName_any (atT en L 0) W (hF.size 0))
  have hl : isNg (atT en L 0) = true → 0 < L.length := fun h => at_ne (by rw [ng_kind h]; decide)
  obtain ⟨r, hr⟩ : ∃ r, r = litP en L := ⟨_, rfl⟩
  rw [← hr]
  unfold litP at hr
  obtain ⟨t, ht⟩ : ∃ t, t = atT en L 0 := ⟨_, rfl⟩
  simp only [← ht] at HNX HNG HNM hr hl
  obtain ⟨b, hb⟩ : ∃ b, b = isNg t := ⟨_, rfl⟩
  obtain ⟨c, hc⟩ : ∃ c, c = isNm t := ⟨_, rfl⟩
  simp only [← hb, ← hc] at HNG HNM hr hl
  clear ht hb hc hb0 hF
  obtain ⟨kd, st, nn, qq, pp⟩ := t
  simp only at HNX HNG HNM
  cases b
  · rw [if_neg (by decide)] at hr
    cases c
    · rw [if_neg (by simp)] at hr
      have HC := Lib.hid (fun W (hW : Feed W pb L en) (hT : Turns (fun i => i = pb) w W) => cmp_any hW (hO.turns hT (by omega)) h10)
      rw [← hr] at HC
      simp only [LitOut] at HC
      clear hl hr hO
      go_enter Tryz.func113, Tryz.ntmps113
      go_wp2_with (first
        | (go_at_call 68; refine (HNX.out).mono ?_; rintro e w1 ⟨rfl, h1⟩; have HR1 := Lib.hid (HR0.out.below h1); have HT1 := Lib.hid (HT0.out.below h1); have HX_l : Hid (pb < w1.heap.size) := (show pb < _ by have := HT1.out.turns.size; omega); have HR3 := Lib.hid (HR1.out.below (al_below w1 (.cells #[.int .i64 kd, .string st, .int .i64 nn, .bool qq, .int .i64 pp] 110))); have HT3 := Lib.hid (HT1.out.below (al_below w1 (.cells #[.int .i64 kd, .string st, .int .i64 nn, .bool qq, .int .i64 pp] 110))); have HX_3 := Lib.hid (Blk.new w1 #[.int .i64 kd, .string st, .int .i64 nn, .bool qq, .int .i64 pp] 110); clear HNX)
        | (go_at_call 114; refine (HNG.out _).mono ?_; rintro e w2 ⟨rfl, h2⟩; have HR4 := Lib.hid (HR3.out.below h2); have HT4 := Lib.hid (HT3.out.below h2); have HX_4 := Lib.hid (HX_3.out.below h2); have HXd := HX_4.out.cell; have HXd0 := HXd 0; have HXd1 := HXd 1; have HXd2 := HXd 2; have HXd3 := HXd 3; have HXd4 := HXd 4; simp at HXd0 HXd1 HXd2 HXd3 HXd4; clear HXd; clear HNG)
        | (go_at_call 90; refine (HNM.out _).mono ?_; rintro e w3 ⟨rfl, h3⟩; have HR5 := Lib.hid (HR4.out.below h3); have HT5 := Lib.hid (HT4.out.below h3); have HX_5 := Lib.hid (HX_4.out.below h3))
        | (go_at_call 132; refine (HC.out _ HT5.out.feed HT5.out.turns).mono ?_; rintro e w4 ⟨x, rfl, h4, ho⟩; have HR6 := Lib.hid (HR5.out.took h4 hpb); have HT6 := Lib.hid (HT5.out.then h4); have HX_6 := Lib.hid (HX_5.out.took h4 HX_l.out); have HO_6 : Hid (TmsO w4 (w.heap.size + 1) x r.val.atom.args) := ho.mono keepTm HR5.out.lt; obtain ⟨ao, cap, hx, -⟩ := HO_6.out.cells; subst hx; clear ho)
        | (refine wpList_store_row rfl 37 _ _ rfl w.heap.size #[.int .i64 r.val.kind, .string r.val.atom.p, .slice ao r.val.atom.args.length cap, .string r.val.op, .bool r.val.l.v, .string r.val.l.name, .bool r.val.l.k, .string r.val.l.s, .int .i64 r.val.l.n, .bool r.val.r.v, .string r.val.r.name, .bool r.val.r.k, .string r.val.r.s, .int .i64 r.val.r.n] rfl rfl 37 _ HR6.out (by kernel_rfl) rfl (by simp [Value.oneCell']) ?_))
      exact bodyPost_ret (ret_cell2 Tryz.results113 rfl rfl (HR6.out.lay _) Tryz.underlying37 (by kernel_rfl)) rfl (⟨_, rfl, HT6.out.lay (Nat.le_refl _) hpb _, (HO_6.out.turns keepTm (Turns.laid _ w.heap.size _) (Nat.lt_succ_self _)).mono keepTm (Nat.le_succ _)⟩)
    · have HAH := Lib.hid (fun W (hW : Feed W pb L en) => ahead1_any hW)
      have HIS := Lib.hid (fun W (hW : OpsM W) => isOp_any (atT en L 1) W hW)
      obtain ⟨t1, ht1⟩ : ∃ t, t = atT en L 1 := ⟨_, rfl⟩
      simp only [← ht1] at HAH HIS hr
      obtain ⟨d, hd⟩ : ∃ d, d = isOp t1 := ⟨_, rfl⟩
      simp only [← hd] at HIS hr
      clear ht1 hd
      obtain ⟨kd1, st1, nn1, qq1, pp1⟩ := t1
      simp only at HAH HIS
      cases d
      · rw [if_pos (by simp)] at hr
        have HC := Lib.hid (fun W (hW : Feed W pb L en) => atomLit_any hW 1)
        rw [← hr] at HC
        simp only [LitOut] at HC
        clear hl hr hO
        go_enter Tryz.func113, Tryz.ntmps113
        go_wp2_with (first
          | (go_at_call 68; refine (HNX.out).mono ?_; rintro e w1 ⟨rfl, h1⟩; have HR1 := Lib.hid (HR0.out.below h1); have HT1 := Lib.hid (HT0.out.below h1); have HX_l : Hid (pb < w1.heap.size) := (show pb < _ by have := HT1.out.turns.size; omega); have HR3 := Lib.hid (HR1.out.below (al_below w1 (.cells #[.int .i64 kd, .string st, .int .i64 nn, .bool qq, .int .i64 pp] 110))); have HT3 := Lib.hid (HT1.out.below (al_below w1 (.cells #[.int .i64 kd, .string st, .int .i64 nn, .bool qq, .int .i64 pp] 110))); have HX_3 := Lib.hid (Blk.new w1 #[.int .i64 kd, .string st, .int .i64 nn, .bool qq, .int .i64 pp] 110); clear HNX)
          | (go_at_call 114; refine (HNG.out _).mono ?_; rintro e w2 ⟨rfl, h2⟩; have HR4 := Lib.hid (HR3.out.below h2); have HT4 := Lib.hid (HT3.out.below h2); have HX_4 := Lib.hid (HX_3.out.below h2); have HXd := HX_4.out.cell; have HXd0 := HXd 0; have HXd1 := HXd 1; have HXd2 := HXd 2; have HXd3 := HXd 3; have HXd4 := HXd 4; simp at HXd0 HXd1 HXd2 HXd3 HXd4; clear HXd; clear HNG)
          | (go_at_call 90; refine (HNM.out _).mono ?_; rintro e w3 ⟨rfl, h3⟩; have HR5 := Lib.hid (HR4.out.below h3); have HT5 := Lib.hid (HT4.out.below h3); have HX_5 := Lib.hid (HX_4.out.below h3))
          | (go_at_call 86; refine (HAH.out _ HT5.out.feed).mono ?_; rintro e w4 ⟨rfl, h4⟩; have HR6 := Lib.hid (HR5.out.below h4); have HT6 := Lib.hid (HT5.out.below h4); have HX_6 := Lib.hid (HX_5.out.below h4))
          | (go_at_call 131; refine (HIS.out _ (HOP.out _ HT6.out.turns)).mono ?_; rintro e w5 ⟨rfl, h5⟩; have HR7 := Lib.hid (HR6.out.below h5); have HT7 := Lib.hid (HT6.out.below h5); have HX_7 := Lib.hid (HX_6.out.below h5))
          | (go_at_call 130; refine (HC.out _ HT7.out.feed).mono ?_; rintro e w6 ⟨x, rfl, h6, ho⟩; have HR8 := Lib.hid (HR7.out.took h6 hpb); have HT8 := Lib.hid (HT7.out.then h6); have HX_8 := Lib.hid (HX_7.out.took h6 HX_l.out); have HO_8 : Hid (TmsO w6 (w.heap.size + 1) x r.val.atom.args) := ho.mono keepTm HR7.out.lt; obtain ⟨ao, cap, hx, -⟩ := HO_8.out.cells; subst hx; clear ho)
          | (refine wpList_store_row rfl 37 _ _ rfl w.heap.size #[.int .i64 r.val.kind, .string r.val.atom.p, .slice ao r.val.atom.args.length cap, .string r.val.op, .bool r.val.l.v, .string r.val.l.name, .bool r.val.l.k, .string r.val.l.s, .int .i64 r.val.l.n, .bool r.val.r.v, .string r.val.r.name, .bool r.val.r.k, .string r.val.r.s, .int .i64 r.val.r.n] rfl rfl 37 _ HR8.out (by kernel_rfl) rfl (by simp [Value.oneCell']) ?_))
        exact bodyPost_ret (ret_cell2 Tryz.results113 rfl rfl (HR8.out.lay _) Tryz.underlying37 (by kernel_rfl)) rfl (⟨_, rfl, HT8.out.lay (Nat.le_refl _) hpb _, (HO_8.out.turns keepTm (Turns.laid _ w.heap.size _) (Nat.lt_succ_self _)).mono keepTm (Nat.le_succ _)⟩)
      · rw [if_neg (by simp)] at hr
        have HC := Lib.hid (fun W (hW : Feed W pb L en) (hT : Turns (fun i => i = pb) w W) => cmp_any hW (hO.turns hT (by omega)) h10)
        rw [← hr] at HC
        simp only [LitOut] at HC
        clear hl hr hO
        go_enter Tryz.func113, Tryz.ntmps113
        go_wp2_with (first
          | (go_at_call 68; refine (HNX.out).mono ?_; rintro e w1 ⟨rfl, h1⟩; have HR1 := Lib.hid (HR0.out.below h1); have HT1 := Lib.hid (HT0.out.below h1); have HX_l : Hid (pb < w1.heap.size) := (show pb < _ by have := HT1.out.turns.size; omega); have HR3 := Lib.hid (HR1.out.below (al_below w1 (.cells #[.int .i64 kd, .string st, .int .i64 nn, .bool qq, .int .i64 pp] 110))); have HT3 := Lib.hid (HT1.out.below (al_below w1 (.cells #[.int .i64 kd, .string st, .int .i64 nn, .bool qq, .int .i64 pp] 110))); have HX_3 := Lib.hid (Blk.new w1 #[.int .i64 kd, .string st, .int .i64 nn, .bool qq, .int .i64 pp] 110); clear HNX)
          | (go_at_call 114; refine (HNG.out _).mono ?_; rintro e w2 ⟨rfl, h2⟩; have HR4 := Lib.hid (HR3.out.below h2); have HT4 := Lib.hid (HT3.out.below h2); have HX_4 := Lib.hid (HX_3.out.below h2); have HXd := HX_4.out.cell; have HXd0 := HXd 0; have HXd1 := HXd 1; have HXd2 := HXd 2; have HXd3 := HXd 3; have HXd4 := HXd 4; simp at HXd0 HXd1 HXd2 HXd3 HXd4; clear HXd; clear HNG)
          | (go_at_call 90; refine (HNM.out _).mono ?_; rintro e w3 ⟨rfl, h3⟩; have HR5 := Lib.hid (HR4.out.below h3); have HT5 := Lib.hid (HT4.out.below h3); have HX_5 := Lib.hid (HX_4.out.below h3))
          | (go_at_call 86; refine (HAH.out _ HT5.out.feed).mono ?_; rintro e w4 ⟨rfl, h4⟩; have HR6 := Lib.hid (HR5.out.below h4); have HT6 := Lib.hid (HT5.out.below h4); have HX_6 := Lib.hid (HX_5.out.below h4))
          | (go_at_call 131; refine (HIS.out _ (HOP.out _ HT6.out.turns)).mono ?_; rintro e w5 ⟨rfl, h5⟩; have HR7 := Lib.hid (HR6.out.below h5); have HT7 := Lib.hid (HT6.out.below h5); have HX_7 := Lib.hid (HX_6.out.below h5))
          | (go_at_call 132; refine (HC.out _ HT7.out.feed HT7.out.turns).mono ?_; rintro e w6 ⟨x, rfl, h6, ho⟩; have HR8 := Lib.hid (HR7.out.took h6 hpb); have HT8 := Lib.hid (HT7.out.then h6); have HX_8 := Lib.hid (HX_7.out.took h6 HX_l.out); have HO_8 : Hid (TmsO w6 (w.heap.size + 1) x r.val.atom.args) := ho.mono keepTm HR7.out.lt; obtain ⟨ao, cap, hx, -⟩ := HO_8.out.cells; subst hx; clear ho)
          | (refine wpList_store_row rfl 37 _ _ rfl w.heap.size #[.int .i64 r.val.kind, .string r.val.atom.p, .slice ao r.val.atom.args.length cap, .string r.val.op, .bool r.val.l.v, .string r.val.l.name, .bool r.val.l.k, .string r.val.l.s, .int .i64 r.val.l.n, .bool r.val.r.v, .string r.val.r.name, .bool r.val.r.k, .string r.val.r.s, .int .i64 r.val.r.n] rfl rfl 37 _ HR8.out (by kernel_rfl) rfl (by simp [Value.oneCell']) ?_))
        exact bodyPost_ret (ret_cell2 Tryz.results113 rfl rfl (HR8.out.lay _) Tryz.underlying37 (by kernel_rfl)) rfl (⟨_, rfl, HT8.out.lay (Nat.le_refl _) hpb _, (HO_8.out.turns keepTm (Turns.laid _ w.heap.size _) (Nat.lt_succ_self _)).mono keepTm (Nat.le_succ _)⟩)
  · rw [if_pos rfl] at hr
    have HTK := Lib.hid (fun W (hW : Feed W pb L en) => take_one hW (hl rfl))
    have HC := Lib.hid (fun W (hW : Feed W pb L.tail en) => atomLit_any hW 2)
    rw [← hr] at HC
    simp only [LitOut] at HC
    clear hl hr hO
    go_enter Tryz.func113, Tryz.ntmps113
    go_wp2_with (first
      | (go_at_call 68; refine (HNX.out).mono ?_; rintro e w1 ⟨rfl, h1⟩; have HR1 := Lib.hid (HR0.out.below h1); have HT1 := Lib.hid (HT0.out.below h1); have HX_l : Hid (pb < w1.heap.size) := (show pb < _ by have := HT1.out.turns.size; omega); have HR3 := Lib.hid (HR1.out.below (al_below w1 (.cells #[.int .i64 kd, .string st, .int .i64 nn, .bool qq, .int .i64 pp] 110))); have HT3 := Lib.hid (HT1.out.below (al_below w1 (.cells #[.int .i64 kd, .string st, .int .i64 nn, .bool qq, .int .i64 pp] 110))); have HX_3 := Lib.hid (Blk.new w1 #[.int .i64 kd, .string st, .int .i64 nn, .bool qq, .int .i64 pp] 110); clear HNX)
      | (go_at_call 114; refine (HNG.out _).mono ?_; rintro e w2 ⟨rfl, h2⟩; have HR4 := Lib.hid (HR3.out.below h2); have HT4 := Lib.hid (HT3.out.below h2); have HX_4 := Lib.hid (HX_3.out.below h2); have HXd := HX_4.out.cell; have HXd0 := HXd 0; have HXd1 := HXd 1; have HXd2 := HXd 2; have HXd3 := HXd 3; have HXd4 := HXd 4; simp at HXd0 HXd1 HXd2 HXd3 HXd4; clear HXd; clear HNG)
      | (go_at_call 91; refine (HTK.out _ HT4.out.feed).mono ?_; rintro e w3 ⟨rfl, h3⟩; have HR5 := Lib.hid (HR4.out.took h3 hpb); have HT5 := Lib.hid (HT4.out.then h3); have HX_5 := Lib.hid (HX_4.out.took h3 HX_l.out))
      | (go_at_call 130; refine (HC.out _ HT5.out.feed).mono ?_; rintro e w4 ⟨x, rfl, h4, ho⟩; have HR6 := Lib.hid (HR5.out.took h4 hpb); have HT6 := Lib.hid (HT5.out.then h4); have HX_6 := Lib.hid (HX_5.out.took h4 HX_l.out); have HO_6 : Hid (TmsO w4 (w.heap.size + 1) x r.val.atom.args) := ho.mono keepTm HR5.out.lt; obtain ⟨ao, cap, hx, -⟩ := HO_6.out.cells; subst hx; clear ho)
      | (refine wpList_store_row rfl 37 _ _ rfl w.heap.size #[.int .i64 r.val.kind, .string r.val.atom.p, .slice ao r.val.atom.args.length cap, .string r.val.op, .bool r.val.l.v, .string r.val.l.name, .bool r.val.l.k, .string r.val.l.s, .int .i64 r.val.l.n, .bool r.val.r.v, .string r.val.r.name, .bool r.val.r.k, .string r.val.r.s, .int .i64 r.val.r.n] rfl rfl 37 _ HR6.out (by kernel_rfl) rfl (by simp [Value.oneCell']) ?_))
    exact bodyPost_ret (ret_cell2 Tryz.results113 rfl rfl (HR6.out.lay _) Tryz.underlying37 (by kernel_rfl)) rfl (⟨_, rfl, HT6.out.lay (Nat.le_refl _) hpb _, (HO_6.out.turns keepTm (Turns.laid _ w.heap.size _) (Nat.lt_succ_self _)).mono keepTm (Nat.le_succ _)⟩)
end Go.Proofs.YtbbmihojfcofdaaGreatDoor
