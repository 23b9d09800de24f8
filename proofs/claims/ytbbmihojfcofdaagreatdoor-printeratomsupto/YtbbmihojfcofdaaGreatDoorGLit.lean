/-
  Contracts of parse's atomLiteral, comparison and literal.
-/
import Derived.Test.YtbbmihojfcofdaaGreatDoorGAtom
namespace Go.Proofs.YtbbmihojfcofdaaGreatDoor
set_option linter.unusedSimpArgs false
set_option linter.unusedVariables false
set_option linter.unusedSectionVars false
set_option maxRecDepth 100000
open Go.RowKit

/-- What a literal's call leaves. -/
def LitOut (w : World) (pb : Nat) (en : Int) (r : Rd Lt) (e : Ending) (w' : World) : Prop :=
  ∃ x, e = .returned (.tuple #[.agg #[.int .i64 r.val.kind, .string r.val.atom.p, x, .string r.val.op, .bool r.val.l.v, .string r.val.l.name, .bool r.val.l.k, .string r.val.l.s, .int .i64 r.val.l.n, .bool r.val.r.v, .string r.val.r.name, .bool r.val.r.k, .string r.val.r.s, .int .i64 r.val.r.n], .int .i64 (r.bad : Int)]) ∧ Took w pb r.rest en w' ∧ TmsO w' w.heap.size x r.val.atom.args
theorem LitOut.fail {w w' : World} {pb : Nat} {en : Int} {r : Rd Lt} {bd : Nat} {M : List Tk} (hr : r = ⟨bd, Lt.zero, M⟩) {v : Value} (hv : v = .tuple #[.agg #[.int .i64 0, .string ⟨#[]⟩, .slice none 0 0, .string ⟨#[]⟩, .bool false, .string ⟨#[]⟩, .bool false, .string ⟨#[]⟩, .int .i64 0, .bool false, .string ⟨#[]⟩, .bool false, .string ⟨#[]⟩, .int .i64 0], .int .i64 (bd : Int)]) (ht : Took w pb M en w') : LitOut w pb en r (.returned v) w' :=
  ⟨.slice none 0 0, by rw [hv, hr]; rfl, by rw [hr]; exact ht, by rw [hr]; exact OwnL.nil _ _ _ _ _⟩
theorem LitOut.past {w w1 w2 w' : World} {pb : Nat} {en : Int} {L : List Tk} {r : Rd Lt} {e : Ending} (ht : Took w pb L en w1) (h : LitOut w1 pb en r e w2) (hw : w2 = w') : LitOut w pb en r e w' := by
  subst hw
  obtain ⟨x, h1, h2, h3⟩ := h
  exact ⟨x, h1, ht.then h2, h3.mono keepTm ht.turns.size⟩

set_option maxHeartbeats 4000000 in
theorem atomLit_any {w : World} {pb : Nat} {L : List Tk} {en : Int} (hF : Feed w pb L en) (kk : Int) :
    Calls Tryz.prog 130 #[.pointer (some ⟨pb, 0, none⟩), .int .i64 kk] w fun e w' => LitOut w pb en (litA kk (atomP en L)) e w' := by
  have hb0 := (Below.refl w.heap.size w).alloc (Nat.le_refl _) (.cells #[.int .i64 0, .string ⟨#[]⟩, .slice none 0 0, .string ⟨#[]⟩, .bool false, .string ⟨#[]⟩, .bool false, .string ⟨#[]⟩, .int .i64 0, .bool false, .string ⟨#[]⟩, .bool false, .string ⟨#[]⟩, .int .i64 0] 37)
  have HR0 := Lib.hid (Blk.new w #[.int .i64 0, .string ⟨#[]⟩, .slice none 0 0, .string ⟨#[]⟩, .bool false, .string ⟨#[]⟩, .bool false, .string ⟨#[]⟩, .int .i64 0, .bool false, .string ⟨#[]⟩, .bool false, .string ⟨#[]⟩, .int .i64 0] 37)
  have HT0 : Hid (Took w pb L en (w.alloc (.cells #[.int .i64 0, .string ⟨#[]⟩, .slice none 0 0, .string ⟨#[]⟩, .bool false, .string ⟨#[]⟩, .bool false, .string ⟨#[]⟩, .int .i64 0, .bool false, .string ⟨#[]⟩, .bool false, .string ⟨#[]⟩, .int .i64 0] 37))) := Took.start hF hb0
  have hpb := hF.lt
  have HA := Lib.hid (atom_any HT0.out.feed)
  obtain ⟨r, hr⟩ : ∃ r, r = litA kk (atomP en L) := ⟨_, rfl⟩
  rw [← hr]
  unfold litA at hr
  obtain ⟨g, hg⟩ : ∃ g, g = atomP en L := ⟨_, rfl⟩
  rw [← hg] at hr HA
  obtain ⟨bd, ⟨p, A⟩, M⟩ := g
  simp only [AtomOut] at hr HA
  clear hb0 hF hg
  by_cases hbd : bd = 0
  · subst hbd
    rw [if_pos rfl] at hr
    have HR := Lib.hid hr
    clear hr
    go_enter Tryz.func130, Tryz.ntmps130
    go_wp2_with (first
      | (go_at_call 53; refine (HA.out).mono ?_; rintro e w1 ⟨x, rfl, h1, ho⟩; have HR1 := Lib.hid (HR0.out.took h1 hpb); have HT1 := Lib.hid (HT0.out.then h1); have HO_1 : Hid (TmsO w1 (w.heap.size + 1) x A) := ho.mono keepTm HR0.out.lt; obtain ⟨ao, cap, hx, -⟩ := HO_1.out.cells; subst hx; clear ho; have HR3 := Lib.hid (HR1.out.below (al_below w1 (.cells #[.string p, .slice ao A.length cap] 31))); have HT3 := Lib.hid (HT1.out.below (al_below w1 (.cells #[.string p, .slice ao A.length cap] 31))); have HO_3 := Lib.hid (HO_1.out.below keepTm (al_below w1 (.cells #[.string p, .slice ao A.length cap] 31))))
      | (refine wpList_store_row rfl 37 _ _ rfl w.heap.size #[.int .i64 kk, .string p, .slice ao A.length cap, .string ⟨#[]⟩, .bool false, .string ⟨#[]⟩, .bool false, .string ⟨#[]⟩, .int .i64 0, .bool false, .string ⟨#[]⟩, .bool false, .string ⟨#[]⟩, .int .i64 0] rfl rfl 37 _ HR3.out (by kernel_rfl) rfl (by simp [Value.oneCell']) ?_))
    exact bodyPost_ret (ret_cell2 Tryz.results130 rfl rfl (HR3.out.lay _) Tryz.underlying37 (by kernel_rfl)) rfl (⟨_, by rw [HR.out]; rfl, by rw [HR.out]; exact HT3.out.lay (Nat.le_refl _) hpb _, by rw [HR.out]; exact (HO_3.out.turns keepTm (Turns.laid _ w.heap.size _) (Nat.lt_succ_self _)).mono keepTm (Nat.le_succ _)⟩)
  · rw [if_neg hbd] at hr
    have hbdI : ¬ (bd : Int) = 0 := by omega
    have hbdB : ((bd : Int) == 0) = false := by simpa using hbdI
    have hbdN : ((bd : Int) != 0) = true := by simp [bne, hbdB]
    have HR := Lib.hid hr
    clear hr
    go_enter Tryz.func130, Tryz.ntmps130
    go_wp2_with (first
      | (go_at_call 53; refine (HA.out).mono ?_; rintro e w1 ⟨x, rfl, h1, ho⟩; have HR1 := Lib.hid (HR0.out.took h1 hpb); have HT1 := Lib.hid (HT0.out.then h1); have HO_1 : Hid (TmsO w1 (w.heap.size + 1) x A) := ho.mono keepTm HR0.out.lt; obtain ⟨ao, cap, hx, -⟩ := HO_1.out.cells; subst hx; clear ho; have HR3 := Lib.hid (HR1.out.below (al_below w1 (.cells #[.string p, .slice ao A.length cap] 31))); have HT3 := Lib.hid (HT1.out.below (al_below w1 (.cells #[.string p, .slice ao A.length cap] 31))); have HO_3 := Lib.hid (HO_1.out.below keepTm (al_below w1 (.cells #[.string p, .slice ao A.length cap] 31))))
      | (refine wpList_store_row rfl 37 _ _ rfl w.heap.size #[.int .i64 0, .string ⟨#[]⟩, .slice none 0 0, .string ⟨#[]⟩, .bool false, .string ⟨#[]⟩, .bool false, .string ⟨#[]⟩, .int .i64 0, .bool false, .string ⟨#[]⟩, .bool false, .string ⟨#[]⟩, .int .i64 0] rfl rfl 37 _ HR3.out (by kernel_rfl) rfl (by simp [Value.oneCell']) ?_))
    exact bodyPost_ret (ret_cell2 Tryz.results130 rfl rfl (HR3.out.lay _) Tryz.underlying37 (by kernel_rfl)) rfl (LitOut.fail HR.out rfl (HT3.out.lay (Nat.le_refl _) hpb _))

set_option maxHeartbeats 8000000 in
theorem cmp_any {w : World} {pb : Nat} {L : List Tk} {en : Int} (hF : Feed w pb L en) (hO : OpsM w) (h10 : 10 ≤ pb) :
    Calls Tryz.prog 132 #[.pointer (some ⟨pb, 0, none⟩)] w fun e w' => LitOut w pb en (cmpP en L) e w' := by
  have hb0 := (Below.refl w.heap.size w).alloc (Nat.le_refl _) (.cells #[.int .i64 0, .string ⟨#[]⟩, .slice none 0 0, .string ⟨#[]⟩, .bool false, .string ⟨#[]⟩, .bool false, .string ⟨#[]⟩, .int .i64 0, .bool false, .string ⟨#[]⟩, .bool false, .string ⟨#[]⟩, .int .i64 0] 37)
  have HR0 := Lib.hid (Blk.new w #[.int .i64 0, .string ⟨#[]⟩, .slice none 0 0, .string ⟨#[]⟩, .bool false, .string ⟨#[]⟩, .bool false, .string ⟨#[]⟩, .int .i64 0, .bool false, .string ⟨#[]⟩, .bool false, .string ⟨#[]⟩, .int .i64 0] 37)
  have HT0 : Hid (Took w pb L en (w.alloc (.cells #[.int .i64 0, .string ⟨#[]⟩, .slice none 0 0, .string ⟨#[]⟩, .bool false, .string ⟨#[]⟩, .bool false, .string ⟨#[]⟩, .int .i64 0, .bool false, .string ⟨#[]⟩, .bool false, .string ⟨#[]⟩, .int .i64 0] 37))) := Took.start hF hb0
  have hpb := hF.lt
  have HA := Lib.hid (term_any HT0.out.feed)
  have HOP : Hid (∀ W, Turns (fun i => i = pb) w W → OpsM W) := fun W h => hO.turns h (by omega)
  obtain ⟨r, hr⟩ : ∃ r, r = cmpP en L := ⟨_, rfl⟩
  rw [← hr]
  unfold cmpP at hr
  obtain ⟨g, hg⟩ : ∃ g, g = termP en L := ⟨_, rfl⟩
  rw [← hg] at hr HA
  obtain ⟨bd, ⟨lv, lname, lk, ls, ln⟩, M⟩ := g
  simp only at hr HA
  clear hb0 hF hg hO
  by_cases hbd : bd = 0
  · subst hbd
    rw [if_pos rfl] at hr
    have HNX := Lib.hid (fun W (hW : Feed W pb M en) => next_any hW)
    have HIS := Lib.hid (fun W (hW : OpsM W) => isOp_any (atT en M 0) W hW)
    have hl : isOp (atT en M 0) = true → 0 < M.length := fun h => at_ne (by rw [op_kind h]; decide)
    obtain ⟨t, ht⟩ : ∃ t, t = atT en M 0 := ⟨_, rfl⟩
    simp only [← ht] at HNX HIS hr hl
    obtain ⟨b, hb⟩ : ∃ b, b = isOp t := ⟨_, rfl⟩
    simp only [← hb] at HIS hr hl
    clear ht hb
    obtain ⟨kd, st, nn, qq, pp⟩ := t
    simp only at HNX HIS hr
    cases b
    · rw [if_neg (by decide)] at hr
      have HR := Lib.hid hr
      clear hr hl
      go_enter Tryz.func132, Tryz.ntmps132
      go_wp2_with (first
        | (go_at_call 73; refine (HA.out).mono ?_; rintro e w1 ⟨rfl, h1⟩; have HR1 := Lib.hid (HR0.out.took h1 hpb); have HT1 := Lib.hid (HT0.out.then h1); have HX_l : Hid (pb < w1.heap.size) := (show pb < _ by have := HT1.out.turns.size; omega); have HR3 := Lib.hid (HR1.out.below (al_below w1 (.cells #[.bool lv, .string lname, .bool lk, .string ls, .int .i64 ln] 35))); have HT3 := Lib.hid (HT1.out.below (al_below w1 (.cells #[.bool lv, .string lname, .bool lk, .string ls, .int .i64 ln] 35))); have HX_3 := Lib.hid (Blk.new w1 #[.bool lv, .string lname, .bool lk, .string ls, .int .i64 ln] 35))
        | (go_at_call 68; refine (HNX.out _ HT3.out.feed).mono ?_; rintro e w2 ⟨rfl, h2⟩; have HR4 := Lib.hid (HR3.out.below h2); have HT4 := Lib.hid (HT3.out.below h2); have HX_4 := Lib.hid (HX_3.out.below h2); have HY_l : Hid (pb < w2.heap.size) := (show pb < _ by have := HT4.out.turns.size; omega); have HR6 := Lib.hid (HR4.out.below (al_below w2 (.cells #[.int .i64 kd, .string st, .int .i64 nn, .bool qq, .int .i64 pp] 110))); have HT6 := Lib.hid (HT4.out.below (al_below w2 (.cells #[.int .i64 kd, .string st, .int .i64 nn, .bool qq, .int .i64 pp] 110))); have HX_6 := Lib.hid (HX_4.out.below (al_below w2 (.cells #[.int .i64 kd, .string st, .int .i64 nn, .bool qq, .int .i64 pp] 110))); have HY_6 := Lib.hid (Blk.new w2 #[.int .i64 kd, .string st, .int .i64 nn, .bool qq, .int .i64 pp] 110))
        | (go_at_call 131; refine (HIS.out _ (HOP.out _ HT6.out.turns)).mono ?_; rintro e w3 ⟨rfl, h3⟩; have HR7 := Lib.hid (HR6.out.below h3); have HT7 := Lib.hid (HT6.out.below h3); have HX_7 := Lib.hid (HX_6.out.below h3); have HY_7 := Lib.hid (HY_6.out.below h3))
        | (refine wpList_store_row rfl 37 _ _ rfl w.heap.size #[.int .i64 0, .string ⟨#[]⟩, .slice none 0 0, .string ⟨#[]⟩, .bool false, .string ⟨#[]⟩, .bool false, .string ⟨#[]⟩, .int .i64 0, .bool false, .string ⟨#[]⟩, .bool false, .string ⟨#[]⟩, .int .i64 0] rfl rfl 37 _ HR7.out (by kernel_rfl) rfl (by simp [Value.oneCell']) ?_))
      exact bodyPost_ret (ret_cell2 Tryz.results132 rfl rfl (HR7.out.lay _) Tryz.underlying37 (by kernel_rfl)) rfl (LitOut.fail HR.out rfl (HT7.out.lay (Nat.le_refl _) hpb _))
    · rw [if_pos rfl] at hr
      have HTK := Lib.hid (fun W (hW : Feed W pb M en) => take_one hW (hl rfl))
      have HA2 := Lib.hid (fun W (hW : Feed W pb M.tail en) => term_any hW)
      unfold cmpR at hr
      clear hl
      obtain ⟨g, hg⟩ : ∃ g, g = termP en M.tail := ⟨_, rfl⟩
      simp only [← hg] at hr HA2
      clear hg
      obtain ⟨bd, ⟨rv, rname, rk, rs, rn⟩, M2⟩ := g
      simp only at hr HA2
      by_cases hbd : bd = 0
      · subst hbd
        rw [if_pos rfl] at hr
        have HR := Lib.hid hr
        clear hr
        go_enter Tryz.func132, Tryz.ntmps132
        go_wp2_with (first
          | (go_at_call 73; refine (HA.out).mono ?_; rintro e w1 ⟨rfl, h1⟩; have HR1 := Lib.hid (HR0.out.took h1 hpb); have HT1 := Lib.hid (HT0.out.then h1); have HX_l : Hid (pb < w1.heap.size) := (show pb < _ by have := HT1.out.turns.size; omega); have HR3 := Lib.hid (HR1.out.below (al_below w1 (.cells #[.bool lv, .string lname, .bool lk, .string ls, .int .i64 ln] 35))); have HT3 := Lib.hid (HT1.out.below (al_below w1 (.cells #[.bool lv, .string lname, .bool lk, .string ls, .int .i64 ln] 35))); have HX_3 := Lib.hid (Blk.new w1 #[.bool lv, .string lname, .bool lk, .string ls, .int .i64 ln] 35); clear HA)
          | (go_at_call 68; refine (HNX.out _ HT3.out.feed).mono ?_; rintro e w2 ⟨rfl, h2⟩; have HR4 := Lib.hid (HR3.out.below h2); have HT4 := Lib.hid (HT3.out.below h2); have HX_4 := Lib.hid (HX_3.out.below h2); have HY_l : Hid (pb < w2.heap.size) := (show pb < _ by have := HT4.out.turns.size; omega); have HR6 := Lib.hid (HR4.out.below (al_below w2 (.cells #[.int .i64 kd, .string st, .int .i64 nn, .bool qq, .int .i64 pp] 110))); have HT6 := Lib.hid (HT4.out.below (al_below w2 (.cells #[.int .i64 kd, .string st, .int .i64 nn, .bool qq, .int .i64 pp] 110))); have HX_6 := Lib.hid (HX_4.out.below (al_below w2 (.cells #[.int .i64 kd, .string st, .int .i64 nn, .bool qq, .int .i64 pp] 110))); have HY_6 := Lib.hid (Blk.new w2 #[.int .i64 kd, .string st, .int .i64 nn, .bool qq, .int .i64 pp] 110))
          | (go_at_call 131; refine (HIS.out _ (HOP.out _ HT6.out.turns)).mono ?_; rintro e w3 ⟨rfl, h3⟩; have HR7 := Lib.hid (HR6.out.below h3); have HT7 := Lib.hid (HT6.out.below h3); have HX_7 := Lib.hid (HX_6.out.below h3); have HY_7 := Lib.hid (HY_6.out.below h3))
          | (go_at_call 91; refine (HTK.out _ HT7.out.feed).mono ?_; rintro e w4 ⟨rfl, h4⟩; have HR8 := Lib.hid (HR7.out.took h4 hpb); have HT8 := Lib.hid (HT7.out.then h4); have HX_8 := Lib.hid (HX_7.out.took h4 HX_l.out); have HY_8 := Lib.hid (HY_7.out.took h4 HY_l.out))
          | (go_at_call 73; refine (HA2.out _ HT8.out.feed).mono ?_; rintro e w5 ⟨rfl, h5⟩; have HR9 := Lib.hid (HR8.out.took h5 hpb); have HT9 := Lib.hid (HT8.out.then h5); have HX_9 := Lib.hid (HX_8.out.took h5 HX_l.out); have HY_9 := Lib.hid (HY_8.out.took h5 HY_l.out); have HR11 := Lib.hid (HR9.out.below (al_below w5 (.cells #[.bool rv, .string rname, .bool rk, .string rs, .int .i64 rn] 35))); have HT11 := Lib.hid (HT9.out.below (al_below w5 (.cells #[.bool rv, .string rname, .bool rk, .string rs, .int .i64 rn] 35))); have HX_11 := Lib.hid (HX_9.out.below (al_below w5 (.cells #[.bool rv, .string rname, .bool rk, .string rs, .int .i64 rn] 35))); have HY_11 := Lib.hid (HY_9.out.below (al_below w5 (.cells #[.bool rv, .string rname, .bool rk, .string rs, .int .i64 rn] 35))); have HXd := HX_11.out.cell; have HXd0 := HXd 0; have HXd1 := HXd 1; have HXd2 := HXd 2; have HXd3 := HXd 3; have HXd4 := HXd 4; simp at HXd0 HXd1 HXd2 HXd3 HXd4; clear HXd; have HYd := HY_11.out.cell; have HYd1 := HYd 1; simp at HYd1; clear HYd)
          | (refine wpList_store_row rfl 37 _ _ rfl w.heap.size #[.int .i64 3, .string ⟨#[]⟩, .slice none 0 0, .string st, .bool lv, .string lname, .bool lk, .string ls, .int .i64 ln, .bool rv, .string rname, .bool rk, .string rs, .int .i64 rn] rfl rfl 37 _ HR11.out (by kernel_rfl) rfl (by simp [Value.oneCell']) ?_))
        exact bodyPost_ret (ret_cell2 Tryz.results132 rfl rfl (HR11.out.lay _) Tryz.underlying37 (by kernel_rfl)) rfl (⟨.slice none 0 0, by rw [HR.out]; rfl, by rw [HR.out]; exact HT11.out.lay (Nat.le_refl _) hpb _, by rw [HR.out]; exact OwnL.nil _ _ _ _ _⟩)
      · rw [if_neg hbd] at hr
        have hbdI : ¬ (bd : Int) = 0 := by omega
        have hbdB : ((bd : Int) == 0) = false := by simpa using hbdI
        have hbdN : ((bd : Int) != 0) = true := by simp [bne, hbdB]
        have HR := Lib.hid hr
        clear hr
        go_enter Tryz.func132, Tryz.ntmps132
        go_wp2_with (first
          | (go_at_call 73; refine (HA.out).mono ?_; rintro e w1 ⟨rfl, h1⟩; have HR1 := Lib.hid (HR0.out.took h1 hpb); have HT1 := Lib.hid (HT0.out.then h1); have HX_l : Hid (pb < w1.heap.size) := (show pb < _ by have := HT1.out.turns.size; omega); have HR3 := Lib.hid (HR1.out.below (al_below w1 (.cells #[.bool lv, .string lname, .bool lk, .string ls, .int .i64 ln] 35))); have HT3 := Lib.hid (HT1.out.below (al_below w1 (.cells #[.bool lv, .string lname, .bool lk, .string ls, .int .i64 ln] 35))); have HX_3 := Lib.hid (Blk.new w1 #[.bool lv, .string lname, .bool lk, .string ls, .int .i64 ln] 35); clear HA)
          | (go_at_call 68; refine (HNX.out _ HT3.out.feed).mono ?_; rintro e w2 ⟨rfl, h2⟩; have HR4 := Lib.hid (HR3.out.below h2); have HT4 := Lib.hid (HT3.out.below h2); have HX_4 := Lib.hid (HX_3.out.below h2); have HY_l : Hid (pb < w2.heap.size) := (show pb < _ by have := HT4.out.turns.size; omega); have HR6 := Lib.hid (HR4.out.below (al_below w2 (.cells #[.int .i64 kd, .string st, .int .i64 nn, .bool qq, .int .i64 pp] 110))); have HT6 := Lib.hid (HT4.out.below (al_below w2 (.cells #[.int .i64 kd, .string st, .int .i64 nn, .bool qq, .int .i64 pp] 110))); have HX_6 := Lib.hid (HX_4.out.below (al_below w2 (.cells #[.int .i64 kd, .string st, .int .i64 nn, .bool qq, .int .i64 pp] 110))); have HY_6 := Lib.hid (Blk.new w2 #[.int .i64 kd, .string st, .int .i64 nn, .bool qq, .int .i64 pp] 110))
          | (go_at_call 131; refine (HIS.out _ (HOP.out _ HT6.out.turns)).mono ?_; rintro e w3 ⟨rfl, h3⟩; have HR7 := Lib.hid (HR6.out.below h3); have HT7 := Lib.hid (HT6.out.below h3); have HX_7 := Lib.hid (HX_6.out.below h3); have HY_7 := Lib.hid (HY_6.out.below h3))
          | (go_at_call 91; refine (HTK.out _ HT7.out.feed).mono ?_; rintro e w4 ⟨rfl, h4⟩; have HR8 := Lib.hid (HR7.out.took h4 hpb); have HT8 := Lib.hid (HT7.out.then h4); have HX_8 := Lib.hid (HX_7.out.took h4 HX_l.out); have HY_8 := Lib.hid (HY_7.out.took h4 HY_l.out))
          | (go_at_call 73; refine (HA2.out _ HT8.out.feed).mono ?_; rintro e w5 ⟨rfl, h5⟩; have HR9 := Lib.hid (HR8.out.took h5 hpb); have HT9 := Lib.hid (HT8.out.then h5); have HX_9 := Lib.hid (HX_8.out.took h5 HX_l.out); have HY_9 := Lib.hid (HY_8.out.took h5 HY_l.out); have HR11 := Lib.hid (HR9.out.below (al_below w5 (.cells #[.bool rv, .string rname, .bool rk, .string rs, .int .i64 rn] 35))); have HT11 := Lib.hid (HT9.out.below (al_below w5 (.cells #[.bool rv, .string rname, .bool rk, .string rs, .int .i64 rn] 35))); have HX_11 := Lib.hid (HX_9.out.below (al_below w5 (.cells #[.bool rv, .string rname, .bool rk, .string rs, .int .i64 rn] 35))); have HY_11 := Lib.hid (HY_9.out.below (al_below w5 (.cells #[.bool rv, .string rname, .bool rk, .string rs, .int .i64 rn] 35))))
          | (refine wpList_store_row rfl 37 _ _ rfl w.heap.size #[.int .i64 0, .string ⟨#[]⟩, .slice none 0 0, .string ⟨#[]⟩, .bool false, .string ⟨#[]⟩, .bool false, .string ⟨#[]⟩, .int .i64 0, .bool false, .string ⟨#[]⟩, .bool false, .string ⟨#[]⟩, .int .i64 0] rfl rfl 37 _ HR11.out (by kernel_rfl) rfl (by simp [Value.oneCell']) ?_))
        exact bodyPost_ret (ret_cell2 Tryz.results132 rfl rfl (HR11.out.lay _) Tryz.underlying37 (by kernel_rfl)) rfl (LitOut.fail HR.out rfl (HT11.out.lay (Nat.le_refl _) hpb _))
  · rw [if_neg hbd] at hr
    have hbdI : ¬ (bd : Int) = 0 := by omega
    have hbdB : ((bd : Int) == 0) = false := by simpa using hbdI
    have hbdN : ((bd : Int) != 0) = true := by simp [bne, hbdB]
    have HR := Lib.hid hr
    clear hr
    go_enter Tryz.func132, Tryz.ntmps132
    go_wp2_with (first
      | (go_at_call 73; refine (HA.out).mono ?_; rintro e w1 ⟨rfl, h1⟩; have HR1 := Lib.hid (HR0.out.took h1 hpb); have HT1 := Lib.hid (HT0.out.then h1); have HR3 := Lib.hid (HR1.out.below (al_below w1 (.cells #[.bool lv, .string lname, .bool lk, .string ls, .int .i64 ln] 35))); have HT3 := Lib.hid (HT1.out.below (al_below w1 (.cells #[.bool lv, .string lname, .bool lk, .string ls, .int .i64 ln] 35))))
      | (refine wpList_store_row rfl 37 _ _ rfl w.heap.size #[.int .i64 0, .string ⟨#[]⟩, .slice none 0 0, .string ⟨#[]⟩, .bool false, .string ⟨#[]⟩, .bool false, .string ⟨#[]⟩, .int .i64 0, .bool false, .string ⟨#[]⟩, .bool false, .string ⟨#[]⟩, .int .i64 0] rfl rfl 37 _ HR3.out (by kernel_rfl) rfl (by simp [Value.oneCell']) ?_))
    exact bodyPost_ret (ret_cell2 Tryz.results132 rfl rfl (HR3.out.lay _) Tryz.underlying37 (by kernel_rfl)) rfl (LitOut.fail HR.out rfl (HT3.out.lay (Nat.le_refl _) hpb _))
end Go.Proofs.YtbbmihojfcofdaaGreatDoor
