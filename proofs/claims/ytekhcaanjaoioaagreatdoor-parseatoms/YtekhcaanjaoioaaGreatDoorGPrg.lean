/-
  Contract of parse's program.
-/
import Derived.Test.YtekhcaanjaoioaaGreatDoorGClause
import Derived.Test.YtekhcaanjaoioaaGreatDoorKFacts
import Derived.BigRegion
namespace Go.Proofs.YtekhcaanjaoioaaGreatDoor
set_option linter.unusedSimpArgs false
set_option linter.unusedVariables false
set_option linter.unusedSectionVars false
set_option maxRecDepth 100000
open Go.RowKit Go.Maps

theorem progG_rest (e : Int) : ∀ (f : Nat) (g : Pr) (L : List Tk), (progF e f g L).bad = 0 → (progF e f g L).rest = [] := by
  intro f
  induction f with
  | zero => intro g L _; rfl
  | succ f ih =>
    intro g L h
    unfold progF at h ⊢
    by_cases h0 : L = []
    · rw [if_pos h0]
    rw [if_neg h0] at h ⊢
    by_cases hb : (clauseP e g L).bad = 0
    · rw [if_pos hb] at h ⊢
      exact ih _ _ h
    · rw [if_neg hb] at h
      exact absurd h hb
/-- A clause that was read leaves no more than may be. -/
theorem clauseP_most {e : Int} {g : Pr} {L : List Tk} (hb : (clauseP e g L).bad = 0) (hd : g.decls.length ≤ 400) (hr : g.rules.length ≤ 400) : (clauseP e g L).val.decls.length ≤ 400 ∧ (clauseP e g L).val.rules.length ≤ 400 := by
  unfold clauseP at hb ⊢
  split
  · rename_i h1
    rw [if_pos h1] at hb
    split
    · exact ⟨hd, hr⟩
    · simp; omega
  · rename_i h1
    rw [if_neg h1] at hb
    split
    · exact ⟨hd, hr⟩
    · simp; omega

/-- The state of program's loop. -/
structure PgSt (w : World) (pb : Nat) (en : Int) (L : List Tk) (wr : World) (g : Pr) (M : List Tk) : Prop where
  turns : Turns (fun i => i = pb ∨ w.heap.size + 1 ≤ i) (w.alloc (.cells #[.slice none 0 0, .slice none 0 0] 36)) wr
  feed : Feed wr pb M en
  pg : PgM wr (w.heap.size + 1) g
  eq : progG en g M = progP en L
  d : g.decls.length ≤ 400
  r : g.rules.length ≤ 400
theorem PgSt.res {w : World} {pb : Nat} {en : Int} {L : List Tk} {wr : World} {g : Pr} {M : List Tk} (h : PgSt w pb en L wr g M) (hp : pb < w.heap.size) : Blk wr w.heap.size #[.slice none 0 0, .slice none 0 0] 36 :=
  (h.turns.block w.heap.size (by simp) (by omega)).trans (Blk.new w _ _)
theorem PgSt.res2 {w : World} {pb : Nat} {en : Int} {L : List Tk} {wr w1 : World} {g : Pr} {M M1 : List Tk} (h : PgSt w pb en L wr g M) (hp : pb < w.heap.size) (h1 : Turns (fun i => i = pb ∨ w.heap.size + 1 ≤ i) wr w1) (h2 : Feed w1 pb M1 en) : Blk w1 w.heap.size #[.slice none 0 0, .slice none 0 0] 36 ∧ Took w pb M1 en w1 := by
  have ht := h.turns.then h1
  refine ⟨(ht.block w.heap.size (by simp) (by omega)).trans (Blk.new w _ _), ⟨ht.os, ht.tape, ht.output, Nat.le_trans (by simp) ht.size, fun k hk hF => (ht.block k (by simp; omega) (by omega)).trans (Below.heap_alloc _ _ _ hk)⟩, h2⟩
theorem PgSt.next {w : World} {pb : Nat} {en : Int} {L : List Tk} {wr w1 : World} {g : Pr} {M : List Tk} {r : Rd Pr} (h : PgSt w pb en L wr g M) (hr : r = clauseP en g M) (hb : r.bad = 0) (hM : 0 < M.length) (h1 : Turns (fun i => i = pb ∨ w.heap.size + 1 ≤ i) wr w1) (h2 : Feed w1 pb r.rest en) (h3 : PgM w1 (w.heap.size + 1) r.val) : PgSt w pb en L w1 r.val r.rest ∧ r.rest.length < M.length := by
  subst hr
  have hm := clauseP_most hb h.d h.r
  refine ⟨⟨h.turns.then h1, h2, h3, ?_, hm.1, hm.2⟩, (clauseP_len en g M).2 hb⟩
  rw [← h.eq, progG_step en g (by rintro rfl; simp at hM), if_pos hb]
/-- What program's call leaves. -/
def ProgOut (w : World) (pb : Nat) (en : Int) (r : Rd Pr) (e : Ending) (w' : World) : Prop :=
  ∃ x y, e = .returned (.tuple #[.agg #[x, y], .int .i64 (r.bad : Int)]) ∧ Took w pb r.rest en w' ∧ DesO w' w.heap.size x r.val.decls ∧ RusO w' w.heap.size y r.val.rules
theorem PgSt.took {w : World} {pb : Nat} {en : Int} {L : List Tk} {w1 : World} {M : List Tk} (h : Turns (fun i => i = pb ∨ w.heap.size + 1 ≤ i) (w.alloc (.cells #[.slice none 0 0, .slice none 0 0] 36)) w1) (h2 : Feed w1 pb M en) : Took w pb M en w1 :=
  ⟨⟨h.os, h.tape, h.output, Nat.le_trans (by simp) h.size, fun k hk hF => (h.block k (by simp; omega) (by omega)).trans (Below.heap_alloc _ _ _ hk)⟩, h2⟩
theorem PgM.empty (w : World) : PgM (w.alloc (.cells #[.slice none 0 0, .slice none 0 0] 36)) w.heap.size Pr.zero := ⟨_, _, Blk.new _ _ _, OwnL.nil _ _ _ _ _, OwnL.nil _ _ _ _ _⟩

set_option maxHeartbeats 4000000 in
theorem program_any {w : World} {pb : Nat} {L : List Tk} {en : Int} (hF : Feed w pb L en) (hO : OpsM w) (h10 : 10 ≤ pb) (hmax : L.length ≤ 65536) :
    Calls Tryz.prog 14 #[.pointer (some ⟨pb, 0, none⟩)] w fun e w' => ProgOut w pb en (progP en L) e w' := by
  have hpb := hF.lt
  have hb0 := (Below.refl w.heap.size w).alloc (Nat.le_refl _) (.cells #[.slice none 0 0, .slice none 0 0] 36)
  have hs0 : (w.alloc (.cells #[.slice none 0 0, .slice none 0 0] 36)).heap.size = w.heap.size + 1 := by simp
  have HO := Lib.hid (hO.below hb0)
  have HS0 : Hid (PgSt w pb en L ((w.alloc (.cells #[.slice none 0 0, .slice none 0 0] 36)).alloc (.cells #[.slice none 0 0, .slice none 0 0] 36)) Pr.zero L) := by
    refine ⟨(Turns.refl _ _).alloc _, (hF.below hb0).below (al_below _ _), ?_, rfl, by simp [Pr.zero], by simp [Pr.zero]⟩
    have := PgM.empty (w.alloc (.cells #[.slice none 0 0, .slice none 0 0] 36))
    rw [hs0] at this
    exact this
  have HP : Hid (∀ wr, Turns (fun i => i = pb ∨ w.heap.size + 1 ≤ i) (w.alloc (.cells #[.slice none 0 0, .slice none 0 0] 36)) wr → OpsM wr) := fun wr h => HO.out.turns h (by omega)
  clear hF hO hb0 hs0 HO
  go_enter Tryz.func14, Tryz.ntmps14
  go_wp2_with fail
  go_loopw [5] (fun _ wr => ∃ (g : Pr) (M : List Tk), Hid (PgSt w pb en L wr g M)) (fun _ wr => lenV ((wr.cell? ⟨pb, 0, none⟩).getD .nilFunc))
  case atStart => exact ⟨_, _, HS0⟩
  case round =>
    clear HS0
    obtain ⟨g, M, HS⟩ := hrel
    have HMR := Lib.hid (more_any HS.out.feed)
    have HR0 := Lib.hid (HS.out.res hpb)
    obtain ⟨ao, cap, c0, -⟩ := HS.out.feed.cells
    have HME : Hid (lenV ((wr.cell? ⟨pb, 0, none⟩).getD .nilFunc) = M.length) := by show lenV _ = _; rw [c0]; rfl
    clear c0
    by_cases hM : 0 < M.length
    · have hdB : decide (0 < M.length) = true := by simpa using hM
      rw [hdB] at HMR
      clear hdB
      have HCL := Lib.hid (clause_any HS.out.feed HS.out.pg (by omega) (HP.out _ HS.out.turns) h10 HS.out.d HS.out.r)
      obtain ⟨r, hr⟩ : ∃ r, r = clauseP en g M := ⟨_, rfl⟩
      rw [← hr] at HCL
      simp only [ClauseOut] at HCL
      have HNX := Lib.hid (fun w1 hb h1 h2 h3 => HS.out.next (w1 := w1) hr hb hM h1 h2 h3)
      have HEND : Hid (r.bad ≠ 0 → progP en L = ⟨r.bad, Pr.zero, r.rest⟩) := fun hb => by rw [← HS.out.eq, progG_step en g (by rintro rfl; simp at hM), if_neg (by rw [← hr]; exact hb), ← hr]
      obtain ⟨bd, g1, M1⟩ := r
      simp only at HCL HNX HEND
      clear hr hM
      by_cases hbd : bd = 0
      · subst hbd
        go_wp2_with (first
          | (go_at_call 16; refine (HMR.out).mono ?_; rintro e w1 ⟨rfl, rfl⟩; clear HMR)
          | (go_at_call 29; refine (HCL.out).mono ?_; rintro e w2 ⟨rfl, h1, h2, h3⟩; have HX := Lib.hid (HNX.out w2 (by trivial) h1 h2 h3); clear h1 h2 h3))
        obtain ⟨ao2, cap2, d0, -⟩ := HX.out.1.feed.cells
        go_roundw
        case rel => exact ⟨_, _, HX.out.1⟩
        case measure => rw [HME.out, d0]; exact HX.out.2
      · have hbdI : ¬ (bd : Int) = 0 := by omega
        have hbdB : ((bd : Int) == 0) = false := by simpa using hbdI
        have hbdN : ((bd : Int) != 0) = true := by simp [bne, hbdB]
        have HR := Lib.hid (HEND.out hbd)
        go_wp2_with (first
          | (go_at_call 16; refine (HMR.out).mono ?_; rintro e w1 ⟨rfl, rfl⟩; clear HMR)
          | (go_at_call 29; refine (HCL.out).mono ?_; rintro e w2 ⟨rfl, h1, h2, h3⟩; obtain ⟨k1, k2⟩ := HS.out.res2 hpb h1 h2; have HR1 := Lib.hid k1; have HT1 := Lib.hid k2; clear k1 k2 h1 h2 h3)
          | (refine wpList_store_row rfl 36 _ _ rfl w.heap.size #[.slice none 0 0, .slice none 0 0] rfl rfl 36 _ HR1.out (by kernel_rfl) rfl (by simp [Value.oneCell']) ?_))
        exact bodyPost_ret (ret_cell2 Tryz.results14 rfl rfl (HR1.out.lay _) Tryz.underlying36 (by kernel_rfl)) rfl ⟨.slice none 0 0, .slice none 0 0, by rw [HR.out]; rfl, by rw [HR.out]; exact HT1.out.lay (Nat.le_refl _) hpb _, by rw [HR.out]; exact OwnL.nil _ _ _ _ _, by rw [HR.out]; exact OwnL.nil _ _ _ _ _⟩
    · have hdB : decide (0 < M.length) = false := by simpa using hM
      rw [hdB] at HMR
      obtain rfl : M = [] := List.length_eq_zero_iff.1 (by omega)
      have HR : Hid (progP en L = ⟨0, g, []⟩) := by show progP en L = _; rw [← HS.out.eq]; rfl
      have HT1 := Lib.hid (PgSt.took (L := L) HS.out.turns HS.out.feed)
      obtain ⟨x, y, hx, hd, hr⟩ := HS.out.pg
      obtain ⟨ao1, cap1, rfl, -⟩ := hd.cells
      obtain ⟨ao2, cap2, rfl, -⟩ := hr.cells
      have c0 := hx.cell 0
      have c1 := hx.cell 1
      simp at c0 c1
      have HD := Lib.hid hd
      have HRU := Lib.hid hr
      clear hdB hM hx hd hr
      go_wp2_with (first
        | (go_at_call 16; refine (HMR.out).mono ?_; rintro e w1 ⟨rfl, rfl⟩; clear HMR)
        | (refine wpList_store_row rfl 36 _ _ rfl w.heap.size #[.slice ao1 g.decls.length cap1, .slice ao2 g.rules.length cap2] rfl rfl 36 _ HR0.out (by kernel_rfl) rfl (by simp [Value.oneCell']) ?_))
      exact bodyPost_ret (ret_cell2 Tryz.results14 rfl rfl (HR0.out.lay _) Tryz.underlying36 (by kernel_rfl)) rfl ⟨_, _, by rw [HR.out]; rfl, by rw [HR.out]; exact HT1.out.lay (Nat.le_refl _) hpb _, by rw [HR.out]; exact (HD.out.turns keepDe (Turns.laid _ w.heap.size _) (by omega)).mono keepDe (by omega), by rw [HR.out]; exact (HRU.out.turns keepRu (Turns.laid _ w.heap.size _) (by omega)).mono keepRu (by omega)⟩
end Go.Proofs.YtekhcaanjaoioaaGreatDoor

/-
  Contract of parse.Parse.
-/
namespace Go.Proofs.YtekhcaanjaoioaaGreatDoor
set_option linter.unusedSimpArgs false
set_option linter.unusedVariables false
set_option linter.unusedSectionVars false
set_option maxRecDepth 100000
open Go.RowKit Go.Maps

theorem quoS_short {l : List UInt8} {r : List UInt8 × Nat} (h : quoS l = some r) : r.1.length ≤ l.length := by
  have aux : ∀ (n : Nat) (l : List UInt8), l.length ≤ n → ∀ r, quoS l = some r → r.1.length ≤ l.length := by
    intro n
    induction n with
    | zero =>
      intro l hl r hr
      have : l = [] := List.length_eq_zero_iff.1 (by omega)
      subst this
      simp [quoS] at hr
    | succ n ih =>
      intro l hl r hr
      match l, hl, hr with
      | [], _, hr => simp [quoS] at hr
      | c :: l, hl, hr =>
        by_cases h1 : c = 39
        · subst h1
          rw [quoS_39] at hr
          cases hr
          simp
        by_cases h2 : c = 10
        · subst h2
          rw [quoS_10] at hr
          cases hr
        by_cases h3 : c = 92
        · subst h3
          match l, hl, hr with
          | [], _, hr => simp [quoS] at hr
          | d :: l', hl, hr =>
            rw [quoS_92] at hr
            cases he : escO [d] with
            | none => rw [he] at hr; cases hr
            | some b =>
              rw [he] at hr
              obtain ⟨q, hq, rfl⟩ := Option.map_eq_some_iff.1 hr
              have := ih l' (by simp at hl; omega) q hq
              simp
              omega
        · rw [quoS_else _ h1 h2 h3] at hr
          obtain ⟨q, hq, rfl⟩ := Option.map_eq_some_iff.1 hr
          have := ih l (by simp at hl; omega) q hq
          simp
          omega
  exact aux l.length l (Nat.le_refl _) r h
theorem oneL_short {l : List UInt8} (h0 : l ≠ []) (h : (oneL l).bad = 0) : (oneL l).tok.s.size ≤ 32 ∨ (oneL l).tok.s.size ≤ l.length := by
  rcases oneL_kind h0 h 0 with ⟨h1, h2, -⟩ | ⟨-, -, -, h4, -⟩ | ⟨-, -, -, h4, -⟩ | ⟨-, -, h3⟩ | ⟨-, -, -, h4⟩
  · right
    match l, h0 with
    | c :: t, _ =>
      rw [oneL_cons] at h h1 h2 ⊢
      unfold oneC at h h1 h2 ⊢
      by_cases h1' : smallQ c = true
      · rw [if_pos h1'] at h h2
        unfold nameL at h h2
        split at h
        · simp at h
        · rename_i hn; rw [if_neg hn] at h2; cases h2
      rw [if_neg h1'] at h h2 ⊢
      by_cases h2' : greatQ c = true
      · rw [if_pos h2'] at h h2
        unfold nameL at h h2
        split at h
        · simp at h
        · rename_i hn; rw [if_neg hn] at h2; cases h2
      rw [if_neg h2'] at h h2 ⊢
      by_cases h3 : c = 39
      · rw [if_pos h3] at h h2 ⊢
        unfold quoL at h ⊢
        simp only [List.tail_cons] at h ⊢
        cases hq : quoS t with
        | none => rw [hq] at h; simp [quoOf] at h
        | some r =>
          have := quoS_short hq
          simp [quoOf, ByteArray.size]
          omega
      rw [if_neg h3] at h h2 ⊢
      by_cases h4 : (figureQ c || (c == 45 && decide (0 < runLen figureQ t))) = true
      · rw [if_pos h4] at h2
        unfold numL numOf at h2
        split at h2 <;> cases h2
      · rw [if_neg h4] at h2
        unfold markL markOf at h2
        split at h2 <;> cases h2
  · exact .inl h4
  · exact .inl h4
  · left
    have h3' : (oneL l).tok.s = ⟨#[]⟩ := h3
    rw [h3']; decide
  · left
    have h4' : (oneL l).tok.s.size = 1 ∨ (oneL l).tok.s.size = 2 := h4
    omega
theorem scanF_short (f p : Nat) (l : List UInt8) : ∀ t ∈ (scanF f p l).toks, t.s.size ≤ 32 ∨ t.s.size ≤ l.length := by
  induction f generalizing p l with
  | zero => simp [scanF]
  | succ f ih =>
    intro t ht
    unfold scanF at ht
    split at ht
    · simp at ht
    · rename_i h1
      split at ht
      · rename_i h2
        have hne : l.drop (skipS false l) ≠ [] := by intro e; have := congrArg List.length e; simp at this; omega
        have ht' : t = (oneL (l.drop (skipS false l))).tok.put (p + skipS false l) ∨ t ∈ (scanF f (p + skipS false l + (oneL (l.drop (skipS false l))).len) (l.drop (skipS false l + (oneL (l.drop (skipS false l))).len))).toks := by
          unfold Res.cons at ht
          split at ht
          · exact List.mem_cons.1 ht
          · exact .inr ht
        rcases ht' with rfl | ht'
        · have := oneL_short hne h2
          simp only [Tk.put]
          rcases this with h | h
          · exact .inl h
          · right; simp at h; omega
        · rcases ih _ _ t ht' with h | h
          · exact .inl h
          · right; simp at h; omega
      · simp at ht
theorem scanR_short {s : ByteArray} {t : Tk} (h : t ∈ (scanR s).toks) : t.s.size ≤ 65536 := by
  unfold scanR at h
  split at h
  · simp at h
  · rename_i h1
    rcases scanF_short _ _ _ t h with h2 | h2
    · omega
    · simp at h2; omega

/-- What a text is: an error's number (0: none), its place, the program. -/
structure Pg where
  bad : Nat
  pl : Int
  g : Pr
def parseL (s : ByteArray) (L : List Tk) : Pg := if (progP (s.size : Int) L).bad = 0 then ⟨0, 0, (progP (s.size : Int) L).val⟩ else ⟨(progP (s.size : Int) L).bad, (atT (s.size : Int) (progP (s.size : Int) L).rest 0).pl, Pr.zero⟩
def parseR (s : ByteArray) : Pg := if (scanR s).bad = 0 then parseL s (scanR s).toks else ⟨(scanR s).bad, ((scanR s).pl : Int), Pr.zero⟩
/-- What Parse leaves. -/
def ParseOut (w : World) (r : Pg) (e : Ending) (w' : World) : Prop :=
  ∃ x y, e = .returned (.tuple #[.agg #[x, y], .int .i64 r.pl, .int .i64 (r.bad : Int)]) ∧ Below w.heap.size w w' ∧ DesO w' w.heap.size x r.g.decls ∧ RusO w' w.heap.size y r.g.rules
theorem ParseOut.fail {w w' : World} {r : Pg} {bd : Nat} {pl : Int} (hr : r = ⟨bd, pl, Pr.zero⟩) {v : Value} (hv : v = .tuple #[.agg #[.slice none 0 0, .slice none 0 0], .int .i64 pl, .int .i64 (bd : Int)]) (hb : Below w.heap.size w w') : ParseOut w r (.returned v) w' := by
  subst hr hv
  exact ⟨.slice none 0 0, .slice none 0 0, rfl, hb, OwnL.nil _ _ _ _ _, OwnL.nil _ _ _ _ _⟩
/-- A parser that is new. -/
theorem Feed.new {w : World} {B : Nat} {v : Value} {L : List Tk} (h : TkOwn w B v L) (hl : L.length ≤ maxLen) (hs : ∀ t ∈ L, t.s.size ≤ 65536) (en : Int) : Feed (w.alloc (.cells #[v, .int .i64 en] 71)) w.heap.size L en := by
  have ht := h.tks hl
  obtain ⟨ao, cap, rfl, h1, h2⟩ := ht.form
  refine ⟨ao, cap, (MapKept.heap_alloc w _).1, ht.below (al_below w _), fun a ha => ?_, hs⟩
  subst ha
  exact (World.ownsRow.lt h a.block rfl).2
end Go.Proofs.YtekhcaanjaoioaaGreatDoor

/-
  Contract of parse.Parse.
-/
namespace Go.Proofs.YtekhcaanjaoioaaGreatDoor
set_option linter.unusedSimpArgs false
set_option linter.unusedVariables false
set_option linter.unusedSectionVars false
set_option maxRecDepth 100000
open Go.RowKit Go.Maps

/-- What the rows' variables hold. -/
structure PEnv (w : World) : Prop where
  env : Env w
  ops : OpsM w
  big : 8 ≤ w.heap.size
theorem PEnv.below {w w' : World} (h : PEnv w) (hb : Below w.heap.size w w') : PEnv w' := ⟨h.env.below hb, h.ops.below hb, Nat.le_trans h.big hb.size⟩
/-- Two programs' blocks, both still empty. -/
theorem two_blocks (w : World) : ∃ w0, w0 = (w.alloc (.cells #[.slice none 0 0, .slice none 0 0] 36)).alloc (.cells #[.slice none 0 0, .slice none 0 0] 36) ∧ Below w.heap.size w w0 ∧ w0.heap.size = w.heap.size + 2 ∧ Blk w0 w.heap.size #[.slice none 0 0, .slice none 0 0] 36 ∧ Blk w0 (w.heap.size + 1) #[.slice none 0 0, .slice none 0 0] 36 := by
  refine ⟨_, rfl, ((Below.refl _ _).alloc (Nat.le_refl _) _).alloc (by simp) _, by simp, ?_, ?_⟩
  · exact (Blk.new w #[.slice none 0 0, .slice none 0 0] 36).below (al_below _ _)
  · have := Blk.new (w.alloc (.cells #[.slice none 0 0, .slice none 0 0] 36)) #[.slice none 0 0, .slice none 0 0] 36
    have e : (w.alloc (.cells #[.slice none 0 0, .slice none 0 0] 36)).heap.size = w.heap.size + 1 := by simp
    rw [e] at this
    exact this

set_option maxHeartbeats 8000000 in
theorem whole_any (s : ByteArray) (w : World) (hE : PEnv w) (hsz : s.size ≤ maxLen) :
    Calls Tryz.prog 13 #[.string s, .func (.func 14) #[] #[]] w fun e w' => ParseOut w (parseR s) e w' := by
  obtain ⟨w0, hw0, hb0, hs0, hR0, hN0⟩ := two_blocks w
  have HE0 := Lib.hid (hE.below hb0)
  have HSC := Lib.hid (scan_any s w0 HE0.out.env)
  have HW0 := Lib.hid hw0
  have HB0 := Lib.hid hb0
  have HS0 := Lib.hid hs0
  have HR0 := Lib.hid hR0
  have HN0 := Lib.hid hN0
  unfold maxLen at hsz
  obtain ⟨r, hr⟩ : ∃ r, r = parseR s := ⟨_, rfl⟩
  rw [← hr]
  unfold parseR at hr
  have HSH : Hid (∀ t ∈ (scanR s).toks, t.s.size ≤ 65536) := fun t h => scanR_short h
  have HLN : Hid ((scanR s).toks.length ≤ 65536) := scanR_len s
  obtain ⟨q, hq⟩ : ∃ q, q = scanR s := ⟨_, rfl⟩
  unfold ScanOut at HSC
  rw [← hq] at hr HSC HSH HLN
  obtain ⟨bd, pl, T⟩ := q
  simp only at hr HSC HSH HLN
  have h8 := hE.big
  clear hE hw0 hb0 hs0 hR0 hN0 hq
  by_cases hbd : bd = 0
  · subst hbd
    rw [if_pos rfl] at hr
    unfold parseL at hr
    have HPR := Lib.hid (fun W pb (hW : Feed W pb T (s.size : Int)) (hO : OpsM W) (h10 : 10 ≤ pb) => program_any hW hO h10 HLN.out)
    have HRST := Lib.hid (progG_rest (s.size : Int) T.length Pr.zero T)
    obtain ⟨p, hp⟩ : ∃ p, p = progP (s.size : Int) T := ⟨_, rfl⟩
    have hp' : progF (s.size : Int) T.length Pr.zero T = p := hp.symm
    rw [hp'] at HRST
    simp only [← hp, ProgOut] at hr HPR
    clear hp hp'
    obtain ⟨qb, g, M⟩ := p
    simp only at hr HPR HRST
    by_cases hqb : qb = 0
    · subst hqb
      rw [if_pos rfl] at hr
      obtain rfl : M = [] := HRST.out rfl
      have HR := Lib.hid hr
      clear hr HRST
      go_enter Tryz.func13, Tryz.ntmps13
      go_wp2_with fail
      rw [← HW0.out]
      refine (HSC.out).mono ?_
      rintro e w1 ⟨v, rfl, hb1, ho1⟩
      have hF := Feed.new ho1 (by have := HLN.out; unfold maxLen; omega) HSH.out (s.size : Int)
      obtain ⟨ao, cap, hv, -⟩ := (ho1.tks (by have := HLN.out; unfold maxLen; omega)).form
      subst hv
      have hb1' := hb1.trans ((al_below w1 (.cells #[.slice ao T.length cap, .int .i64 (s.size : Int)] 71)).mono hb1.size)
      have HF1 := Lib.hid hF
      have HB1 : Hid (Below w.heap.size w (w1.alloc (.cells #[.slice ao T.length cap, .int .i64 (s.size : Int)] 71))) := HB0.out.trans (hb1'.mono HB0.out.size)
      have HR1 := Lib.hid (HR0.out.below hb1')
      have HL1 : Hid (w.heap.size + 2 ≤ w1.heap.size) := by show _ ≤ _; rw [← HS0.out]; exact hb1.size
      have HC := Lib.hid (HPR.out _ _ HF1.out (HE0.out.below hb1').ops (by have := HL1.out; omega))
      clear hF hb1 hb1' ho1 HSC HPR HW0
      go_wp2_with (first
        | (go_at_call 14; refine (HC.out).mono ?_; rintro e w2 ⟨x, y, rfl, h2, hd, hu⟩; obtain ⟨xo, xc, hx, -⟩ := hd.cells; subst hx; obtain ⟨yo, yc, hy, -⟩ := hu.cells; subst hy; have HR2 := Lib.hid ((HR1.out.turns h2.turns (by have := HL1.out; omega)).below (al_below w2 (.cells #[.slice xo g.decls.length xc, .slice yo g.rules.length yc] 36))); have HB2 : Hid (Below w.heap.size w (w2.alloc (.cells #[.slice xo g.decls.length xc, .slice yo g.rules.length yc] 36))) := (HB1.out.trans (h2.turns.below HB1.out.size (fun k e => by have e' : k = w1.heap.size := e; have := HL1.out; omega))).alloc (by have := HB1.out.size; have := h2.turns.size; omega) _; have HD2 := Lib.hid (hd.below keepDe (al_below w2 (.cells #[.slice xo g.decls.length xc, .slice yo g.rules.length yc] 36))); have HU2 := Lib.hid (hu.below keepRu (al_below w2 (.cells #[.slice xo g.decls.length xc, .slice yo g.rules.length yc] 36))); have HQ2 : Hid (w.heap.size < (w1.alloc (.cells #[.slice ao T.length cap, .int .i64 (s.size : Int)] 71)).heap.size) := (show w.heap.size < _ by have := HL1.out; simp; omega); clear hd hu; have HM2 := Lib.hid (more_any (h2.feed.below (al_below w2 (.cells #[.slice xo g.decls.length xc, .slice yo g.rules.length yc] 36)))); clear HC)
        | (go_at_call 16; refine (HM2.out).mono ?_; rintro e w3 ⟨rfl, rfl⟩; clear HM2)
        | (refine wpList_store_row rfl 36 _ _ rfl w.heap.size #[.slice xo g.decls.length xc, .slice yo g.rules.length yc] rfl rfl 36 _ HR2.out (by kernel_rfl) rfl (by simp [Value.oneCell']) ?_))
      refine bodyPost_ret (ret_cell3 Tryz.results13 rfl rfl rfl (HR2.out.lay _) Tryz.underlying36 (by kernel_rfl)) rfl ?_
      rw [HR.out]
      exact ⟨_, _, rfl, below_lay HB2.out (Nat.le_refl _) _, (HD2.out.turns keepDe (Turns.laid _ w.heap.size _) HQ2.out).mono keepDe (Nat.le_of_lt HQ2.out), (HU2.out.turns keepRu (Turns.laid _ w.heap.size _) HQ2.out).mono keepRu (Nat.le_of_lt HQ2.out)⟩
    · rw [if_neg hqb] at hr
      have hbdI : ¬ (qb : Int) = 0 := by omega
      have hbdB : ((qb : Int) == 0) = false := by simpa using hbdI
      have hbdN : ((qb : Int) != 0) = true := by simp [bne, hbdB]
      obtain ⟨t, ht⟩ : ∃ t, t = atT (s.size : Int) M 0 := ⟨_, rfl⟩
      have HNE := Lib.hid (fun W pb (hW : Feed W pb M (s.size : Int)) => next_any hW)
      simp only [← ht, tokV] at hr HNE
      have hfd : ∀ W : World, (Instr.field 62 (.agg #[.int .i64 t.kind, .string t.s, .int .i64 t.n, .bool t.q, .int .i64 t.pl]) 4).run Tryz.prog W = .ok (.int .i64 t.pl) W := fun _ => by kernel_rfl
      have HR := Lib.hid hr
      clear hr HRST ht
      go_enter Tryz.func13, Tryz.ntmps13
      go_wp2_with fail
      rw [← HW0.out]
      refine (HSC.out).mono ?_
      rintro e w1 ⟨v, rfl, hb1, ho1⟩
      have hF := Feed.new ho1 (by have := HLN.out; unfold maxLen; omega) HSH.out (s.size : Int)
      obtain ⟨ao, cap, hv, -⟩ := (ho1.tks (by have := HLN.out; unfold maxLen; omega)).form
      subst hv
      have hb1' := hb1.trans ((al_below w1 (.cells #[.slice ao T.length cap, .int .i64 (s.size : Int)] 71)).mono hb1.size)
      have HF1 := Lib.hid hF
      have HB1 : Hid (Below w.heap.size w (w1.alloc (.cells #[.slice ao T.length cap, .int .i64 (s.size : Int)] 71))) := HB0.out.trans (hb1'.mono HB0.out.size)
      have HR1 := Lib.hid (HR0.out.below hb1')
      have HL1 : Hid (w.heap.size + 2 ≤ w1.heap.size) := by show _ ≤ _; rw [← HS0.out]; exact hb1.size
      have HC := Lib.hid (HPR.out _ _ HF1.out (HE0.out.below hb1').ops (by have := HL1.out; omega))
      have HN1 := Lib.hid (HN0.out.below hb1')
      clear hF hb1 hb1' ho1 HSC HPR HW0
      go_wp2_with (go_at_call 14; refine (HC.out).mono ?_; rintro e w2 ⟨x, y, rfl, h2, hd, hu⟩; obtain ⟨xo, xc, hx, -⟩ := hd.cells; subst hx; obtain ⟨yo, yc, hy, -⟩ := hu.cells; subst hy; have HR2 := Lib.hid ((HR1.out.turns h2.turns (by have := HL1.out; omega)).below (al_below w2 (.cells #[.slice xo g.decls.length xc, .slice yo g.rules.length yc] 36))); have HN2 := ((HN1.out.turns h2.turns (by have := HL1.out; omega)).below (al_below w2 (.cells #[.slice xo g.decls.length xc, .slice yo g.rules.length yc] 36))); have HB2 : Hid (Below w.heap.size w (w2.alloc (.cells #[.slice xo g.decls.length xc, .slice yo g.rules.length yc] 36))) := (HB1.out.trans (h2.turns.below HB1.out.size (fun k e => by have e' : k = w1.heap.size := e; have := HL1.out; omega))).alloc (by have := HB1.out.size; have := h2.turns.size; omega) _; have HNX := Lib.hid (h2.feed.below (al_below w2 (.cells #[.slice xo g.decls.length xc, .slice yo g.rules.length yc] 36))); have n0 := HN2.cell 0; have n1 := HN2.cell 1; simp at n0 n1; have HNN := Lib.hid HN2; clear HN2 HC hd hu)
      obtain ⟨W2, hW2⟩ : ∃ W2, W2 = (w2.alloc (.cells #[.slice xo g.decls.length xc, .slice yo g.rules.length yc] 36)) := ⟨_, rfl⟩
      rw [← hW2] at HR2 HNN n0 n1 HB2 HNX ⊢
      clear hW2
      have HNC := Lib.hid (fun W (hb : Below W2.heap.size W2 W) => HNE.out W _ (HNX.out.below hb))
      have hl1 := HR2.out.lt
      have hl2 := HNN.out.lt
      go_region_with (go_at_call 17; refine (HNC.out _ (by first | exact Below.refl _ _ | exact (Below.refl _ _).drew | exact below_drewN _ _)).mono ?_; rintro e w3 ⟨rfl, hb3⟩; have HR3 := Lib.hid (HR2.out.below (Below.trans (by first | exact Below.refl _ _ | exact (Below.refl _ _).drew | exact below_drewN _ _) hb3)); have r0 := HR3.out.cell 0; have r1 := HR3.out.cell 1; have k0 := HR3.out.frozen 0; have k1 := HR3.out.frozen 1; have HN3 := HNN.out.below (Below.trans (by first | exact Below.refl _ _ | exact (Below.refl _ _).drew | exact below_drewN _ _) hb3); have m0 := HN3.cell 0; have m1 := HN3.cell 1; simp at r0 r1 m0 m1; clear HN3; have HB3 : Hid (Below w.heap.size w w3) := HB2.out.trans (Below.mono (Below.trans (by first | exact Below.refl _ _ | exact (Below.refl _ _).drew | exact below_drewN _ _) hb3) HB2.out.size); clear hb3)
      all_goals
        go_wp2
        have hz := heap_set (o := 1) (heap_set (o := 0) HR3.out (.slice none 0 0)) (.slice none 0 0)
        exact bodyPost_ret (ret_cell3 Tryz.results13 rfl rfl rfl (show Blk _ _ _ _ from hz) Tryz.underlying36 (by kernel_rfl)) rfl (ParseOut.fail HR.out rfl ((HB3.out.setCell (Nat.le_refl _) _).setCell (Nat.le_refl _) _))
  · rw [if_neg hbd] at hr
    have hbdI : ¬ (bd : Int) = 0 := by omega
    have hbdB : ((bd : Int) == 0) = false := by simpa using hbdI
    have hbdN : ((bd : Int) != 0) = true := by simp [bne, hbdB]
    have HR := Lib.hid hr
    clear hr
    go_enter Tryz.func13, Tryz.ntmps13
    go_wp2_with fail
    rw [← HW0.out]
    refine (HSC.out).mono ?_
    rintro e w1 ⟨v, rfl, hb1, -⟩
    have HR1 := Lib.hid (HR0.out.below hb1)
    have HN1 := HN0.out.below hb1
    have n0 := HN1.cell 0
    have n1 := HN1.cell 1
    simp at n0 n1
    have HB1 : Hid (Below w.heap.size w w1) := HB0.out.trans (hb1.mono HB0.out.size)
    clear HN1 hb1 HSC HW0
    go_wp2_with (refine wpList_store_row rfl 36 _ _ rfl w.heap.size #[.slice none 0 0, .slice none 0 0] rfl rfl 36 _ HR1.out (by kernel_rfl) rfl (by simp [Value.oneCell']) ?_)
    exact bodyPost_ret (ret_cell3 Tryz.results13 rfl rfl rfl (HR1.out.lay _) Tryz.underlying36 (by kernel_rfl)) rfl (ParseOut.fail HR.out rfl (below_lay HB1.out (Nat.le_refl _) _))

set_option maxHeartbeats 2000000 in
theorem parse_any (s : ByteArray) (w : World) (hE : PEnv w) (hsz : s.size ≤ maxLen) :
    Calls Tryz.prog 8 #[.string s] w fun e w' => ParseOut w (parseR s) e w' := by
  have hb0 := (Below.refl w.heap.size w).alloc (Nat.le_refl _) (.cells #[.slice none 0 0, .slice none 0 0] 36)
  have HB0 := Lib.hid hb0
  have HR0 := Lib.hid (Blk.new w #[.slice none 0 0, .slice none 0 0] 36)
  have HW := Lib.hid (whole_any s _ (hE.below hb0) hsz)
  obtain ⟨r, hr⟩ : ∃ r, r = parseR s := ⟨_, rfl⟩
  rw [← hr] at HW ⊢
  simp only [ParseOut] at HW
  clear hE hb0 hr
  go_enter Tryz.func8, Tryz.ntmps8
  go_wp2_with (first
    | (go_at_call 13; refine (HW.out).mono ?_; rintro e w1 ⟨x, y, rfl, hb1, hd, hu⟩; obtain ⟨xo, xc, hx, -⟩ := hd.cells; subst hx; obtain ⟨yo, yc, hy, -⟩ := hu.cells; subst hy; have HR1 := Lib.hid (HR0.out.below hb1); have HB1 : Hid (Below w.heap.size w w1) := HB0.out.trans (hb1.mono HB0.out.size); have HD1 := Lib.hid hd; have HU1 := Lib.hid hu; clear hb1 hd hu HW)
    | (refine wpList_store_row rfl 36 _ _ rfl w.heap.size #[.slice xo r.g.decls.length xc, .slice yo r.g.rules.length yc] rfl rfl 36 _ HR1.out (by kernel_rfl) rfl (by simp [Value.oneCell']) ?_))
  refine bodyPost_ret (ret_cell3 Tryz.results8 rfl rfl rfl (HR1.out.lay _) Tryz.underlying36 (by kernel_rfl)) rfl ?_
  have hq : w.heap.size < (w.alloc (.cells #[.slice none 0 0, .slice none 0 0] 36)).heap.size := by simp
  exact ⟨_, _, rfl, below_lay HB1.out (Nat.le_refl _) _, (HD1.out.turns keepDe (Turns.laid _ w.heap.size _) hq).mono keepDe (Nat.le_of_lt hq), (HU1.out.turns keepRu (Turns.laid _ w.heap.size _) hq).mono keepRu (Nat.le_of_lt hq)⟩
end Go.Proofs.YtekhcaanjaoioaaGreatDoor
