/-
  The program under way, in memory (PgM). Contract of parse's clause.
-/
import Derived.Test.YtbbmihojfcofdaaGreatDoorGRule
import Derived.RegionTactic
import Derived.Maps.AppendAt
import Derived.Deep.RegionLawGrows
namespace Go.Proofs.YtbbmihojfcofdaaGreatDoor
set_option linter.unusedSimpArgs false
set_option linter.unusedVariables false
set_option linter.unusedSectionVars false
set_option maxRecDepth 100000
open Go.RowKit Go.Maps

/-- A program in block gb, its lists of the call's own behind it. -/
def PgM (w : World) (gb : Nat) (g : Pr) : Prop := ∃ x y, Blk w gb #[x, y] 25 ∧ DesO w (gb + 1) x g.decls ∧ RusO w (gb + 1) y g.rules
theorem PgM.lt {w : World} {gb : Nat} {g : Pr} (h : PgM w gb g) : gb < w.heap.size := by
  obtain ⟨x, y, h, -⟩ := h
  exact h.lt
theorem PgM.turns {w w' : World} {gb pb : Nat} {g : Pr} (h : PgM w gb g) (ht : Turns (fun i => i = pb) w w') (hp : pb < gb) : PgM w' gb g := by
  obtain ⟨x, y, h1, h2, h3⟩ := h
  exact ⟨x, y, h1.turns ht (by omega), h2.turns keepDe ht (by omega), h3.turns keepRu ht (by omega)⟩
theorem PgM.below {w w' : World} {gb : Nat} {g : Pr} (h : PgM w gb g) (hb : Below w.heap.size w w') : PgM w' gb g := by
  obtain ⟨x, y, h1, h2, h3⟩ := h
  exact ⟨x, y, h1.below hb, h2.below keepDe hb, h3.below keepRu hb⟩
theorem pg_decl {W Wa w4 : World} {gb : Nat} {x y v' : Value} {g : Pr} {d : De} {o : Obj} {cs : List (List Value)} {c : List Value} (hP : Blk W gb #[x, y] 25) (hA : AllR (DeR W (gb + 1)) g.decls cs) (hl : ∀ c ∈ cs, c.length = 2) (hrow : W.ownsRow (gb + 1) 63 2 x g.decls.length cs.flatten)
    (hR : RusO W (gb + 1) y g.rules) (hB : gb + 1 ≤ W.heap.size) (hd : DeR W (gb + 1) d c) (hc : c.length = 2) (hbw : Below W.heap.size W Wa) (hown' : w4.ownsRow (gb + 1) 63 2 v' (g.decls.length + 1) (cs.flatten ++ c)) (hg : (Wa.alloc o).grownBy w4 x.ownBlock) :
    (w4.cell? ⟨gb, 0, none⟩ = some x ∧ w4.frozen? ⟨gb, 0, none⟩ = false ∧ gb < w4.heap.size) ∧ PgM (w4.setCell ⟨gb, 0, none⟩ v') gb ⟨g.decls ++ [d], g.rules⟩ ∧ Turns (fun i => gb ≤ i) W (w4.setCell ⟨gb, 0, none⟩ v') := by
  obtain ⟨h1, h2, h3⟩ := own_step (keepNDe _) hB hA hl hrow hd hc hbw hown' hg
  have hb : Blk w4 gb #[x, y] 25 := (h2.block gb (Nat.lt_succ_self _)).trans hP
  have h5 : RusO w4 (gb + 1) y g.rules := hR.keepN (keepNRu (by decide) (by decide)) (by decide) (fun i _ hi hn => h3 i hi (.inr hn))
  have hT : Turns (fun i => i = gb) w4 (w4.setCell ⟨gb, 0, none⟩ v') := (Turns.refl (fun i => i = gb) w4).setCell (p := ⟨gb, 0, none⟩) (fun _ => rfl) _
  have h1' := h1
  refine ⟨⟨hb.cell 0, hb.frozen 0, hb.lt⟩, ⟨v', y, heap_set hb v', h1'.turns keepDe hT (Nat.lt_succ_self _), (h5.turns keepRu hT (Nat.lt_succ_self _))⟩, h2.os, h2.tape, h2.output, ?_, fun i hi hn => ?_⟩
  · simpa [World.setCell] using h2.size
  · exact (Below.heap_setCell w4 ⟨gb, 0, none⟩ v' i (by simp; omega)).trans (h2.block i (by omega))
theorem pg_rule {W Wa w4 : World} {gb : Nat} {x y v' : Value} {g : Pr} {d : Ru} {o : Obj} {cs : List (List Value)} {c : List Value} (hP : Blk W gb #[x, y] 25) (hA : AllR (RuR W (gb + 1)) g.rules cs) (hl : ∀ c ∈ cs, c.length = 3) (hrow : W.ownsRow (gb + 1) 40 3 y g.rules.length cs.flatten)
    (hR : DesO W (gb + 1) x g.decls) (hB : gb + 1 ≤ W.heap.size) (hd : RuR W (gb + 1) d c) (hc : c.length = 3) (hbw : Below W.heap.size W Wa) (hown' : w4.ownsRow (gb + 1) 40 3 v' (g.rules.length + 1) (cs.flatten ++ c)) (hg : (Wa.alloc o).grownBy w4 y.ownBlock) :
    (w4.cell? ⟨gb, 1, none⟩ = some y ∧ w4.frozen? ⟨gb, 1, none⟩ = false ∧ gb < w4.heap.size) ∧ PgM (w4.setCell ⟨gb, 1, none⟩ v') gb ⟨g.decls, g.rules ++ [d]⟩ ∧ Turns (fun i => gb ≤ i) W (w4.setCell ⟨gb, 1, none⟩ v') := by
  obtain ⟨h1, h2, h3⟩ := own_step (keepNRu (by decide) (by decide)) hB hA hl hrow hd hc hbw hown' hg
  have hb : Blk w4 gb #[x, y] 25 := (h2.block gb (Nat.lt_succ_self _)).trans hP
  have h5 : DesO w4 (gb + 1) x g.decls := hR.keepN (keepNDe _) (by decide) (fun i _ hi hn => h3 i hi (.inr hn))
  have hT : Turns (fun i => i = gb) w4 (w4.setCell ⟨gb, 1, none⟩ v') := (Turns.refl (fun i => i = gb) w4).setCell (p := ⟨gb, 1, none⟩) (fun _ => rfl) _
  have h1' := h1
  refine ⟨⟨hb.cell 1, hb.frozen 1, hb.lt⟩, ⟨x, v', heap_set hb v', (h5.turns keepDe hT (Nat.lt_succ_self _)), h1'.turns keepRu hT (Nat.lt_succ_self _)⟩, h2.os, h2.tape, h2.output, ?_, fun i hi hn => ?_⟩
  · simpa [World.setCell] using h2.size
  · exact (Below.heap_setCell w4 ⟨gb, 1, none⟩ v' i (by simp; omega)).trans (h2.block i (by omega))

/-- append onto a list of the call's own, from a block on, as one step of a region that draws its order. -/
theorem step_append_at {P : Program} {ops : Array Oper} {o : Oper} {a : Act} {w : World} {K : Act → World → Prop} {Q : Exit → Act → World → Prop} {E : Prop} (B : Nat)
    (hg : o.guard = none) (s x : Operand) (t : TypeId) (hop : o.op = Op.call { callee := Callee.builtin Builtin.append, args := #[s, x], argTypes := #[t, t] })
    (e : TypeId) (i : TypeInfo) (z : Value) (size bytes : Nat) (h1 : P.underlying t = some (.slice e)) (h2 : P.info? e = some i) (h3 : i.zero = some z) (h4 : i.size = size) (h5 : i.bytes = bytes) (h6 : z.cells.size = size) (h7 : 0 < size)
    (v : Value) (n : Nat) (xs : List Value) (hs : a.eval s = v) (hown : w.ownsRow B e size v n xs)
    (ad : Addr) (m c : Nat) (news : List Value) (hx : a.eval x = .slice (some ad) m c) (hn : news.length = m * size) (hc : ∀ j u, news[j]? = some u → w.cell? (ad.add j) = some u) (h1c : ∀ u ∈ news, u.oneCell' = true)
    (b1 : n + m ≤ maxLen) (b2 : (n + m) * bytes ≤ 140737488355328) (hB : B ≤ w.heap.size)
    (hK : ∀ v' w', w'.ownsRow B e size v' (n + m) (xs ++ news) → w.grownBy w' v.ownBlock → K (a.put o.dst v') w') :
    if Region.wanted o (yielded ops a.tmps) = true then Oper.wp P o a w K Q else E := by
  have hw : Region.wanted o (yielded ops a.tmps) = true := by simp [Region.wanted, hg]
  rw [if_pos hw]
  obtain ⟨v', w', hrun, r1, r2, -, -⟩ := run_append_own_at (P := P) w B t o.type e i z size bytes h1 h2 h3 h4 h5 h6 h7 v n xs hown ad m c news hn hc h1c b1 b2 hB
  unfold Oper.wp
  simp [execOp, hop, resolve, invoke, builtin, hs, hx, hrun, Result.andThen]
  exact hK v' w' r1 r2

theorem infoDecl : (Tryz.prog.info? 63).map (fun i => (i.zero, i.size, i.bytes)) = some (some (.agg #[.string ⟨#[]⟩, .int .i64 0]), 2, 24) := by kernel_rfl
theorem infoRule : (Tryz.prog.info? 40).map (fun i => (i.zero, i.size, i.bytes)) = some (some (.agg #[.string ⟨#[]⟩, .slice none 0 0, .slice none 0 0]), 3, 64) := by kernel_rfl
theorem new_at (w : World) (cs : Array Value) (t : TypeId) : ∀ j u, cs.toList[j]? = some u → (w.alloc (.cells cs t)).cell? ((⟨w.heap.size, 0, none⟩ : Addr).add j) = some u := cells_atL rfl
/-- What clause's call leaves. -/
def ClauseOut (w : World) (pb gb : Nat) (en : Int) (r : Rd Pr) (e : Ending) (w' : World) : Prop :=
  e = .returned (.int .i64 (r.bad : Int)) ∧ Turns (fun i => i = pb ∨ gb ≤ i) w w' ∧ Feed w' pb r.rest en ∧ PgM w' gb r.val
theorem Turns.wide {w w' : World} {pb gb : Nat} (h : Turns (fun i => i = pb) w w') : Turns (fun i => i = pb ∨ gb ≤ i) w w' := h.mono (fun _ h => .inl h)
theorem Turns.wide2 {w w' : World} {pb gb : Nat} (h : Turns (fun i => gb ≤ i) w w') : Turns (fun i => i = pb ∨ gb ≤ i) w w' := h.mono (fun _ h => .inr h)
theorem ClauseOut.last {w w1 w' : World} {pb gb : Nat} {en : Int} {r : Rd Pr} {bd : Nat} {g : Pr} {M : List Tk} (hr : r = ⟨bd, g, M⟩) (hpg : pb < gb) (ht : Took w pb M en w1) (ht' : Turns (fun i => gb ≤ i) w1 w') (hg : PgM w' gb g) {v : Value} (hv : v = .int .i64 (bd : Int)) : ClauseOut w pb gb en r (.returned v) w' := by
  subst hr hv
  exact ⟨rfl, ht.turns.wide.then ht'.wide2, ht.feed.keep (fun k hk => ht'.block k (by have := ht.feed.lt; omega) (by omega)) ht'.size, hg⟩

set_option maxRecDepth 100000 in
set_option maxHeartbeats 8000000 in
theorem clause_any {w : World} {pb gb : Nat} {L : List Tk} {en : Int} {g : Pr} (hF : Feed w pb L en) (hG : PgM w gb g) (hpg : pb < gb) (hO : OpsM w) (h10 : 10 ≤ pb) (hd : g.decls.length ≤ 400) (hr0 : g.rules.length ≤ 400) :
    Calls Tryz.prog 69 #[.pointer (some ⟨pb, 0, none⟩), .pointer (some ⟨gb, 0, none⟩)] w fun e w' => ClauseOut w pb gb en (clauseP en g L) e w' := by
  have HT0 : Hid (Took w pb L en w) := ⟨Turns.refl _ _, hF⟩
  have HG0 := Lib.hid hG
  have HAH := Lib.hid (ahead1_any hF)
  have HMK := Lib.hid (fun W => isMark_any (atT en L 1) ⟨#[47]⟩ W)
  have HDE := Lib.hid (fun (h : isMk [47] (atT en L 1) = true) W (hW : Feed W pb L en) => decl_any hW h)
  have HRU := Lib.hid (fun W (hW : Feed W pb L en) (hT : Turns (fun i => i = pb) w W) => rule_any hW (hO.turns hT (by omega)) h10)
  obtain ⟨r, hr⟩ : ∃ r, r = clauseP en g L := ⟨_, rfl⟩
  rw [← hr]
  unfold clauseP at hr
  obtain ⟨t1, ht1⟩ : ∃ t, t = atT en L 1 := ⟨_, rfl⟩
  simp only [← ht1] at HAH HMK HDE hr
  obtain ⟨b, hb⟩ : ∃ b, b = isMk [47] t1 := ⟨_, rfl⟩
  simp only [← hb] at HMK HDE hr
  obtain ⟨kd, st, nn, qq, pp⟩ := t1
  simp only at HAH HMK
  clear hF hG hO ht1 hb
  have HPG := Lib.hid hpg
  cases b
  · rw [if_neg (by decide)] at hr
    by_cases hf : g.rules.length = 400
    · rw [if_pos hf] at hr
      have HR := Lib.hid hr
      have hfI : (g.rules.length : Int) = 400 := by omega
      have hfB : ((g.rules.length : Int) == 400) = true := by simpa using hfI
      clear hr
      go_enter Tryz.func69, Tryz.ntmps69
      go_wp2_with (first
        | (go_at_call 86; refine (HAH.out).mono ?_; rintro e w1 ⟨rfl, hb1⟩; have HT1 := Lib.hid (HT0.out.below hb1); have HG1 := Lib.hid (HG0.out.below hb1))
        | (go_at_call 87; refine (HMK.out _).mono ?_; rintro e w2 ⟨rfl, hb2⟩; have HT2 := Lib.hid (HT1.out.below hb2); have HG2 := Lib.hid (HG1.out.below hb2); obtain ⟨x, y, hx1, hx2, hx3⟩ := HG2.out; obtain ⟨ao, cap, rfl, -⟩ := hx3.cells; have c0 := hx1.cell 1; simp at c0; clear hx1 hx2 hx3))
      go_ret
      exact ClauseOut.last HR.out HPG.out HT2.out (Turns.refl _ _) HG2.out rfl
    · rw [if_neg hf] at hr
      obtain ⟨i0, hi, hz0, hz1, hz2⟩ := info_parts infoRule
      have hfI : ¬ (g.rules.length : Int) = 400 := by omega
      have hfB : ((g.rules.length : Int) == 400) = false := by simpa using hfI
      obtain ⟨q, hq⟩ : ∃ q, q = ruleP en L := ⟨_, rfl⟩
      simp only [← hq, RuleOut] at HRU hr
      have HR := Lib.hid hr
      clear hq hr
      go_enter Tryz.func69, Tryz.ntmps69
      go_wp2_with (first
        | (go_at_call 86; refine (HAH.out).mono ?_; rintro e w1 ⟨rfl, hb1⟩; have HT1 := Lib.hid (HT0.out.below hb1); have HG1 := Lib.hid (HG0.out.below hb1))
        | (go_at_call 87; refine (HMK.out _).mono ?_; rintro e w2 ⟨rfl, hb2⟩; have HT2 := Lib.hid (HT1.out.below hb2); have HG2 := Lib.hid (HG1.out.below hb2); obtain ⟨x2, y2, hx1, hx2, hx3⟩ := HG2.out; obtain ⟨ao2, cap2, rfl, -⟩ := hx3.cells; have c0 := hx1.cell 1; simp at c0; clear hx1 hx2 hx3)
        | (go_at_call 89; refine (HRU.out _ HT2.out.feed HT2.out.turns).mono ?_; rintro e w3 ⟨xa, xb, rfl, h3, hoa, hob⟩; obtain ⟨ao, cap, hxa, -⟩ := hoa.cells; subst hxa; obtain ⟨bo, bcap, hxb, -⟩ := hob.cells; subst hxb; have HT3 := Lib.hid (HT2.out.then h3); have HG3 := Lib.hid (HG2.out.turns h3.turns HPG.out); have HE3 : Hid (RuR w3 w2.heap.size q.val [.string q.val.head.p, .slice ao q.val.head.args.length cap, .slice bo q.val.body.length bcap]) := ⟨_, _, rfl, hoa, hob⟩; have HL3 : Hid (gb + 1 ≤ w2.heap.size) := HG2.out.lt; clear hoa hob; clear h3 c0))
      obtain ⟨W, hW⟩ : ∃ W, W = w3.alloc (.cells #[.string q.val.head.p, .slice ao q.val.head.args.length cap, .slice bo q.val.body.length bcap] 40) := ⟨_, rfl⟩
      have hbW : Below w3.heap.size w3 W := by rw [hW]; exact al_below w3 _
      have hBL : Blk W w3.heap.size #[.string q.val.head.p, .slice ao q.val.head.args.length cap, .slice bo q.val.body.length bcap] 40 := by rw [hW]; exact Blk.new _ _ _
      have HT4 := Lib.hid (HT3.out.below hbW)
      obtain ⟨x, y, hx1, hx2, hx3⟩ := HG3.out.below hbW
      have hgl : gb + 1 ≤ W.heap.size := hx1.lt
      obtain ⟨ao', cap', hxx, -⟩ := hx3.cells
      subst hxx
      obtain ⟨cs, hA, hl, hrow⟩ := hx3
      have HROW : Hid ((W.drew.alloc (.cells #[.string q.val.head.p, .slice ao q.val.head.args.length cap, .slice bo q.val.body.length bcap] 40)).ownsRow (gb + 1) 40 3 (.slice ao' g.rules.length cap') g.rules.length cs.flatten) := owns_keep hrow (Nat.le_refl _) (fun j _ hj => (((Below.refl W.heap.size W).drew).alloc (Nat.le_refl _) _).block j hj)
      have hdW : Below W.heap.size W W.drew := (Below.refl _ _).drew
      have HPUT : Hid (∀ w4 v', w4.ownsRow (gb + 1) 40 3 v' (g.rules.length + 1) (cs.flatten ++ [.string q.val.head.p, .slice ao q.val.head.args.length cap, .slice bo q.val.body.length bcap]) → (W.drew.alloc (.cells #[.string q.val.head.p, .slice ao q.val.head.args.length cap, .slice bo q.val.body.length bcap] 40)).grownBy w4 (Value.slice ao' g.rules.length cap').ownBlock → _) := fun w4 v' h1 h2 => pg_rule (d := q.val) hx1 hA hl hrow hx2 hgl (keepRu w3 W w2.heap.size (gb + 1) _ _ HL3.out (fun j _ hj => hbW.block j hj) HE3.out) rfl hdW h1 h2
      have q0 := hx1.cell 1
      have q1 := hx1.frozen 1
      have p0 := hBL.cell 0
      have p1 := hBL.cell 1
      have p2 := hBL.cell 2
      simp at q0 p0 p1 p2
      rw [← hW]
      have hglt : gb < W.heap.size := hgl
      clear hW hbW hBL hx1 hx2 hA hl hrow hdW
      go_region_law (refine step_append_at (gb + 1) rfl (.tmp 51) (.tmp 53) 23 rfl 40 i0 _ 3 64 Tryz.underlying23 hi hz0 hz1 hz2 rfl (by decide) (.slice ao' g.rules.length cap') g.rules.length cs.flatten (by simp [Act.eval, Act.put]) HROW.out ⟨W.heap.size, 0, none⟩ 1 1 [.string q.val.head.p, .slice ao q.val.head.args.length cap, .slice bo q.val.body.length bcap] (by simp [Act.eval, Act.put]) rfl (new_at W.drew #[.string q.val.head.p, .slice ao q.val.head.args.length cap, .slice bo q.val.body.length bcap] _) (by simp [Value.oneCell']) (by unfold maxLen; omega) (by omega) (by simp; omega) ?_; intro v' w4 hr4 hg4; obtain ⟨⟨s1, s2, s3⟩, s4, s5⟩ := HPUT.out w4 v' hr4 hg4; obtain ⟨g', cap4, hv'⟩ := Joins.ownsRow_form hr4 (Nat.succ_pos _); subst hv'; have HE := Lib.hid (And.intro s4 s5); clear s4 s5 hr4 hg4)
      all_goals
        go_wp2
        go_ret
        exact ClauseOut.last HR.out HPG.out HT4.out HE.out.2 HE.out.1 rfl
  · rw [if_pos rfl] at hr
    by_cases hf : g.decls.length = 400
    · rw [if_pos hf] at hr
      have HR := Lib.hid hr
      have hfI : (g.decls.length : Int) = 400 := by omega
      have hfB : ((g.decls.length : Int) == 400) = true := by simpa using hfI
      clear hr
      go_enter Tryz.func69, Tryz.ntmps69
      go_wp2_with (first
        | (go_at_call 86; refine (HAH.out).mono ?_; rintro e w1 ⟨rfl, hb1⟩; have HT1 := Lib.hid (HT0.out.below hb1); have HG1 := Lib.hid (HG0.out.below hb1))
        | (go_at_call 87; refine (HMK.out _).mono ?_; rintro e w2 ⟨rfl, hb2⟩; have HT2 := Lib.hid (HT1.out.below hb2); have HG2 := Lib.hid (HG1.out.below hb2); obtain ⟨x, y, hx1, hx2, hx3⟩ := HG2.out; obtain ⟨ao, cap, rfl, -⟩ := hx2.cells; have c0 := hx1.cell 0; simp at c0; clear hx1 hx2 hx3))
      go_ret
      exact ClauseOut.last HR.out HPG.out HT2.out (Turns.refl _ _) HG2.out rfl
    · rw [if_neg hf] at hr
      obtain ⟨i0, hi, hz0, hz1, hz2⟩ := info_parts infoDecl
      have hfI : ¬ (g.decls.length : Int) = 400 := by omega
      have hfB : ((g.decls.length : Int) == 400) = false := by simpa using hfI
      have HDQ := Lib.hid (HDE.out rfl)
      clear HDE
      obtain ⟨q, hq⟩ : ∃ q, q = declP en L := ⟨_, rfl⟩
      simp only [← hq, DeclOut] at HDQ hr
      have HR := Lib.hid hr
      clear hq hr
      go_enter Tryz.func69, Tryz.ntmps69
      go_wp2_with (first
        | (go_at_call 86; refine (HAH.out).mono ?_; rintro e w1 ⟨rfl, hb1⟩; have HT1 := Lib.hid (HT0.out.below hb1); have HG1 := Lib.hid (HG0.out.below hb1))
        | (go_at_call 87; refine (HMK.out _).mono ?_; rintro e w2 ⟨rfl, hb2⟩; have HT2 := Lib.hid (HT1.out.below hb2); have HG2 := Lib.hid (HG1.out.below hb2); obtain ⟨x2, y2, hx1, hx2, hx3⟩ := HG2.out; obtain ⟨ao2, cap2, rfl, -⟩ := hx2.cells; have c0 := hx1.cell 0; simp at c0; clear hx1 hx2 hx3)
        | (go_at_call 88; refine (HDQ.out _ HT2.out.feed).mono ?_; rintro e w3 ⟨rfl, h3⟩; have HT3 := Lib.hid (HT2.out.then h3); have HG3 := Lib.hid (HG2.out.turns h3.turns HPG.out); clear h3 c0))
      obtain ⟨W, hW⟩ : ∃ W, W = w3.alloc (.cells #[.string q.val.p, .int .i64 q.val.ar] 63) := ⟨_, rfl⟩
      have hbW : Below w3.heap.size w3 W := by rw [hW]; exact al_below w3 _
      have hBL : Blk W w3.heap.size #[.string q.val.p, .int .i64 q.val.ar] 63 := by rw [hW]; exact Blk.new _ _ _
      have HT4 := Lib.hid (HT3.out.below hbW)
      obtain ⟨x, y, hx1, hx2, hx3⟩ := HG3.out.below hbW
      have hgl : gb + 1 ≤ W.heap.size := hx1.lt
      obtain ⟨ao', cap', hxx, -⟩ := hx2.cells
      subst hxx
      obtain ⟨cs, hA, hl, hrow⟩ := hx2
      have HROW : Hid ((W.drew.alloc (.cells #[.string q.val.p, .int .i64 q.val.ar] 63)).ownsRow (gb + 1) 63 2 (.slice ao' g.decls.length cap') g.decls.length cs.flatten) := owns_keep hrow (Nat.le_refl _) (fun j _ hj => (((Below.refl W.heap.size W).drew).alloc (Nat.le_refl _) _).block j hj)
      have hdW : Below W.heap.size W W.drew := (Below.refl _ _).drew
      have HPUT : Hid (∀ w4 v', w4.ownsRow (gb + 1) 63 2 v' (g.decls.length + 1) (cs.flatten ++ [.string q.val.p, .int .i64 q.val.ar]) → (W.drew.alloc (.cells #[.string q.val.p, .int .i64 q.val.ar] 63)).grownBy w4 (Value.slice ao' g.decls.length cap').ownBlock → _) := fun w4 v' h1 h2 => pg_decl (d := q.val) hx1 hA hl hrow hx3 hgl (show DeR _ _ _ _ from rfl) rfl hdW h1 h2
      have q0 := hx1.cell 0
      have q1 := hx1.frozen 0
      have p0 := hBL.cell 0
      have p1 := hBL.cell 1
      
      simp at q0 p0 p1
      rw [← hW]
      have hglt : gb < W.heap.size := hgl
      clear hW hbW hBL hx1 hx3 hA hl hrow hdW
      go_region_law (refine step_append_at (gb + 1) rfl (.tmp 29) (.tmp 31) 22 rfl 63 i0 _ 2 24 Tryz.underlying22 hi hz0 hz1 hz2 rfl (by decide) (.slice ao' g.decls.length cap') g.decls.length cs.flatten (by simp [Act.eval, Act.put]) HROW.out ⟨W.heap.size, 0, none⟩ 1 1 [.string q.val.p, .int .i64 q.val.ar] (by simp [Act.eval, Act.put]) rfl (new_at W.drew #[.string q.val.p, .int .i64 q.val.ar] _) (by simp [Value.oneCell']) (by unfold maxLen; omega) (by omega) (by simp; omega) ?_; intro v' w4 hr4 hg4; obtain ⟨⟨s1, s2, s3⟩, s4, s5⟩ := HPUT.out w4 v' hr4 hg4; obtain ⟨g', cap4, hv'⟩ := Joins.ownsRow_form hr4 (Nat.succ_pos _); subst hv'; have HE := Lib.hid (And.intro s4 s5); clear s4 s5 hr4 hg4)
      all_goals
        go_wp2
        go_ret
        exact ClauseOut.last HR.out HPG.out HT4.out HE.out.2 HE.out.1 rfl
end Go.Proofs.YtbbmihojfcofdaaGreatDoor
