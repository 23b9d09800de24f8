/-
  Contract of parse's program.
-/
import Derived.Test.YtbbmihojfcofdaaGreatDoorGClause
namespace Go.Proofs.YtbbmihojfcofdaaGreatDoor
set_option linter.unusedSimpArgs false
set_option linter.unusedVariables false
set_option linter.unusedSectionVars false
set_option maxRecDepth 100000
open Go.RowKit Go.Maps

theorem progG_rest (e : Int) : ∀ (f : Nat) (g : Pr) (L : List Tk), (progF e f g L).bad = 0 → (progF e f g L).rest = [] := by
  intro f
  induction f with
  | zero => intro g L _; rfl
  | succ f ih =>
    intro g L h
    unfold progF at h ⊢
    by_cases h0 : L = []
    · rw [if_pos h0]
    rw [if_neg h0] at h ⊢
    by_cases hb : (clauseP e g L).bad = 0
    · rw [if_pos hb] at h ⊢
      exact ih _ _ h
    · rw [if_neg hb] at h
      exact absurd h hb
/-- A clause that was read leaves no more than may be. -/
theorem clauseP_most {e : Int} {g : Pr} {L : List Tk} (hb : (clauseP e g L).bad = 0) (hd : g.decls.length ≤ 400) (hr : g.rules.length ≤ 400) : (clauseP e g L).val.decls.length ≤ 400 ∧ (clauseP e g L).val.rules.length ≤ 400 := by
  unfold clauseP at hb ⊢
  split
  · rename_i h1
    rw [if_pos h1] at hb
    split
    · exact ⟨hd, hr⟩
    · simp; omega
  · rename_i h1
    rw [if_neg h1] at hb
    split
    · exact ⟨hd, hr⟩
    · simp; omega

/-- The state of program's loop. -/
structure PgSt (w : World) (pb : Nat) (en : Int) (L : List Tk) (wr : World) (g : Pr) (M : List Tk) : Prop where
  turns : Turns (fun i => i = pb ∨ w.heap.size + 1 ≤ i) (w.alloc (.cells #[.slice none 0 0, .slice none 0 0] 25)) wr
  feed : Feed wr pb M en
  pg : PgM wr (w.heap.size + 1) g
  eq : progG en g M = progP en L
  d : g.decls.length ≤ 400
  r : g.rules.length ≤ 400
theorem PgSt.res {w : World} {pb : Nat} {en : Int} {L : List Tk} {wr : World} {g : Pr} {M : List Tk} (h : PgSt w pb en L wr g M) (hp : pb < w.heap.size) : Blk wr w.heap.size #[.slice none 0 0, .slice none 0 0] 25 :=
  (h.turns.block w.heap.size (by simp) (by omega)).trans (Blk.new w _ _)
theorem PgSt.res2 {w : World} {pb : Nat} {en : Int} {L : List Tk} {wr w1 : World} {g : Pr} {M M1 : List Tk} (h : PgSt w pb en L wr g M) (hp : pb < w.heap.size) (h1 : Turns (fun i => i = pb ∨ w.heap.size + 1 ≤ i) wr w1) (h2 : Feed w1 pb M1 en) : Blk w1 w.heap.size #[.slice none 0 0, .slice none 0 0] 25 ∧ Took w pb M1 en w1 := by
  have ht := h.turns.then h1
  refine ⟨(ht.block w.heap.size (by simp) (by omega)).trans (Blk.new w _ _), ⟨ht.os, ht.tape, ht.output, Nat.le_trans (by simp) ht.size, fun k hk hF => (ht.block k (by simp; omega) (by omega)).trans (Below.heap_alloc _ _ _ hk)⟩, h2⟩
theorem PgSt.next {w : World} {pb : Nat} {en : Int} {L : List Tk} {wr w1 : World} {g : Pr} {M : List Tk} {r : Rd Pr} (h : PgSt w pb en L wr g M) (hr : r = clauseP en g M) (hb : r.bad = 0) (hM : 0 < M.length) (h1 : Turns (fun i => i = pb ∨ w.heap.size + 1 ≤ i) wr w1) (h2 : Feed w1 pb r.rest en) (h3 : PgM w1 (w.heap.size + 1) r.val) : PgSt w pb en L w1 r.val r.rest ∧ r.rest.length < M.length := by
  subst hr
  have hm := clauseP_most hb h.d h.r
  refine ⟨⟨h.turns.then h1, h2, h3, ?_, hm.1, hm.2⟩, (clauseP_len en g M).2 hb⟩
  rw [← h.eq, progG_step en g (by rintro rfl; simp at hM), if_pos hb]
/-- What program's call leaves. -/
def ProgOut (w : World) (pb : Nat) (en : Int) (r : Rd Pr) (e : Ending) (w' : World) : Prop :=
  ∃ x y, e = .returned (.tuple #[.agg #[x, y], .int .i64 (r.bad : Int)]) ∧ Took w pb r.rest en w' ∧ DesO w' w.heap.size x r.val.decls ∧ RusO w' w.heap.size y r.val.rules
theorem PgSt.took {w : World} {pb : Nat} {en : Int} {L : List Tk} {w1 : World} {M : List Tk} (h : Turns (fun i => i = pb ∨ w.heap.size + 1 ≤ i) (w.alloc (.cells #[.slice none 0 0, .slice none 0 0] 25)) w1) (h2 : Feed w1 pb M en) : Took w pb M en w1 :=
  ⟨⟨h.os, h.tape, h.output, Nat.le_trans (by simp) h.size, fun k hk hF => (h.block k (by simp; omega) (by omega)).trans (Below.heap_alloc _ _ _ hk)⟩, h2⟩
theorem PgM.empty (w : World) : PgM (w.alloc (.cells #[.slice none 0 0, .slice none 0 0] 25)) w.heap.size Pr.zero := ⟨_, _, Blk.new _ _ _, OwnL.nil _ _ _ _ _, OwnL.nil _ _ _ _ _⟩

set_option maxHeartbeats 4000000 in
theorem program_any {w : World} {pb : Nat} {L : List Tk} {en : Int} (hF : Feed w pb L en) (hO : OpsM w) (h10 : 10 ≤ pb) (hmax : L.length ≤ 65536) :
    Calls Tryz.prog 50 #[.pointer (some ⟨pb, 0, none⟩)] w fun e w' => ProgOut w pb en (progP en L) e w' := by
  have hpb := hF.lt
  have hb0 := (Below.refl w.heap.size w).alloc (Nat.le_refl _) (.cells #[.slice none 0 0, .slice none 0 0] 25)
  have hs0 : (w.alloc (.cells #[.slice none 0 0, .slice none 0 0] 25)).heap.size = w.heap.size + 1 := by simp
  have HO := Lib.hid (hO.below hb0)
  have HS0 : Hid (PgSt w pb en L ((w.alloc (.cells #[.slice none 0 0, .slice none 0 0] 25)).alloc (.cells #[.slice none 0 0, .slice none 0 0] 25)) Pr.zero L) := by
    refine ⟨(Turns.refl _ _).alloc _, (hF.below hb0).below (al_below _ _), ?_, rfl, by simp [Pr.zero], by simp [Pr.zero]⟩
    have := PgM.empty (w.alloc (.cells #[.slice none 0 0, .slice none 0 0] 25))
    rw [hs0] at this
    exact this
  have HP : Hid (∀ wr, Turns (fun i => i = pb ∨ w.heap.size + 1 ≤ i) (w.alloc (.cells #[.slice none 0 0, .slice none 0 0] 25)) wr → OpsM wr) := fun wr h => HO.out.turns h (by omega)
  clear hF hO hb0 hs0 HO
  go_enter Tryz.func50, Tryz.ntmps50
  go_wp2_with fail
  go_loopw [5] (fun _ wr => ∃ (g : Pr) (M : List Tk), Hid (PgSt w pb en L wr g M)) (fun _ wr => lenV ((wr.cell? ⟨pb, 0, none⟩).getD .nilFunc))
  case atStart => exact ⟨_, _, HS0⟩
  case round =>
    clear HS0
    obtain ⟨g, M, HS⟩ := hrel
    have HMR := Lib.hid (more_any HS.out.feed)
    have HR0 := Lib.hid (HS.out.res hpb)
    obtain ⟨ao, cap, c0, -⟩ := HS.out.feed.cells
    have HME : Hid (lenV ((wr.cell? ⟨pb, 0, none⟩).getD .nilFunc) = M.length) := by show lenV _ = _; rw [c0]; rfl
    clear c0
    by_cases hM : 0 < M.length
    · have hdB : decide (0 < M.length) = true := by simpa using hM
      rw [hdB] at HMR
      clear hdB
      have HCL := Lib.hid (clause_any HS.out.feed HS.out.pg (by omega) (HP.out _ HS.out.turns) h10 HS.out.d HS.out.r)
      obtain ⟨r, hr⟩ : ∃ r, r = clauseP en g M := ⟨_, rfl⟩
      rw [← hr] at HCL
      simp only [ClauseOut] at HCL
      have HNX := Lib.hid (fun w1 hb h1 h2 h3 => HS.out.next (w1 := w1) hr hb hM h1 h2 h3)
      have HEND : Hid (r.bad ≠ 0 → progP en L = ⟨r.bad, Pr.zero, r.rest⟩) := fun hb => by rw [← HS.out.eq, progG_step en g (by rintro rfl; simp at hM), if_neg (by rw [← hr]; exact hb), ← hr]
      obtain ⟨bd, g1, M1⟩ := r
      simp only at HCL HNX HEND
      clear hr hM
      by_cases hbd : bd = 0
      · subst hbd
        go_wp2_with (first
          | (go_at_call 67; refine (HMR.out).mono ?_; rintro e w1 ⟨rfl, rfl⟩; clear HMR)
          | (go_at_call 69; refine (HCL.out).mono ?_; rintro e w2 ⟨rfl, h1, h2, h3⟩; have HX := Lib.hid (HNX.out w2 (by trivial) h1 h2 h3); clear h1 h2 h3))
        obtain ⟨ao2, cap2, d0, -⟩ := HX.out.1.feed.cells
        go_roundw
        case rel => exact ⟨_, _, HX.out.1⟩
        case measure => rw [HME.out, d0]; exact HX.out.2
      · have hbdI : ¬ (bd : Int) = 0 := by omega
        have hbdB : ((bd : Int) == 0) = false := by simpa using hbdI
        have hbdN : ((bd : Int) != 0) = true := by simp [bne, hbdB]
        have HR := Lib.hid (HEND.out hbd)
        go_wp2_with (first
          | (go_at_call 67; refine (HMR.out).mono ?_; rintro e w1 ⟨rfl, rfl⟩; clear HMR)
          | (go_at_call 69; refine (HCL.out).mono ?_; rintro e w2 ⟨rfl, h1, h2, h3⟩; obtain ⟨k1, k2⟩ := HS.out.res2 hpb h1 h2; have HR1 := Lib.hid k1; have HT1 := Lib.hid k2; clear k1 k2 h1 h2 h3)
          | (refine wpList_store_row rfl 25 _ _ rfl w.heap.size #[.slice none 0 0, .slice none 0 0] rfl rfl 25 _ HR1.out (by kernel_rfl) rfl (by simp [Value.oneCell']) ?_))
        exact bodyPost_ret (ret_cell2 Tryz.results50 rfl rfl (HR1.out.lay _) Tryz.underlying25 (by kernel_rfl)) rfl ⟨.slice none 0 0, .slice none 0 0, by rw [HR.out]; rfl, by rw [HR.out]; exact HT1.out.lay (Nat.le_refl _) hpb _, by rw [HR.out]; exact OwnL.nil _ _ _ _ _, by rw [HR.out]; exact OwnL.nil _ _ _ _ _⟩
    · have hdB : decide (0 < M.length) = false := by simpa using hM
      rw [hdB] at HMR
      obtain rfl : M = [] := List.length_eq_zero_iff.1 (by omega)
      have HR : Hid (progP en L = ⟨0, g, []⟩) := by show progP en L = _; rw [← HS.out.eq]; rfl
      have HT1 := Lib.hid (PgSt.took (L := L) HS.out.turns HS.out.feed)
      obtain ⟨x, y, hx, hd, hr⟩ := HS.out.pg
      obtain ⟨ao1, cap1, rfl, -⟩ := hd.cells
      obtain ⟨ao2, cap2, rfl, -⟩ := hr.cells
      have c0 := hx.cell 0
      have c1 := hx.cell 1
      simp at c0 c1
      have HD := Lib.hid hd
      have HRU := Lib.hid hr
      clear hdB hM hx hd hr
      go_wp2_with (first
        | (go_at_call 67; refine (HMR.out).mono ?_; rintro e w1 ⟨rfl, rfl⟩; clear HMR)
        | (refine wpList_store_row rfl 25 _ _ rfl w.heap.size #[.slice ao1 g.decls.length cap1, .slice ao2 g.rules.length cap2] rfl rfl 25 _ HR0.out (by kernel_rfl) rfl (by simp [Value.oneCell']) ?_))
      exact bodyPost_ret (ret_cell2 Tryz.results50 rfl rfl (HR0.out.lay _) Tryz.underlying25 (by kernel_rfl)) rfl ⟨_, _, by rw [HR.out]; rfl, by rw [HR.out]; exact HT1.out.lay (Nat.le_refl _) hpb _, by rw [HR.out]; exact (HD.out.turns keepDe (Turns.laid _ w.heap.size _) (by omega)).mono keepDe (by omega), by rw [HR.out]; exact (HRU.out.turns keepRu (Turns.laid _ w.heap.size _) (by omega)).mono keepRu (by omega)⟩
end Go.Proofs.YtbbmihojfcofdaaGreatDoor
