/-
  What is parsed: names, terms, literals, rules, of which forms. Plain facts; no walk.
-/
import Derived.Test.YtekhcaanjaoioaaGreatDoorGPrg
namespace Go.Proofs.YtekhcaanjaoioaaGreatDoor
set_option linter.unusedSimpArgs false
set_option linter.unusedVariables false
set_option linter.unusedSectionVars false
set_option maxRecDepth 100000
open Go.RowKit

def TmOk (t : Tm) : Prop :=
  (t.v = true ∧ (∃ h : 0 < t.name.size, greatQ t.name[0] = true) ∧ t.k = false ∧ t.s = ⟨#[]⟩ ∧ t.n = 0) ∨ (t.v = false ∧ t.name = ⟨#[]⟩ ∧ ((t.k = true ∧ t.n = 0) ∨ (t.k = false ∧ t.s = ⟨#[]⟩)))
def NmOk (p : ByteArray) : Prop := (∃ h : 0 < p.size, smallQ p[0] = true) ∧ p.data.toList ≠ [110, 111, 116] ∧ p.size ≤ 32
def AmOk (a : Am) : Prop := NmOk a.p ∧ a.args.length ≤ 6 ∧ ∀ t ∈ a.args, TmOk t
def LtOk (l : Lt) : Prop := (l.kind = 3 ∧ l.op.data.toList ≠ [] ∧ TmOk l.l ∧ TmOk l.r ∧ l.atom = Am.zero) ∨ ((l.kind = 1 ∨ l.kind = 2) ∧ l.op = ⟨#[]⟩ ∧ AmOk l.atom ∧ l.l = Tm.zero ∧ l.r = Tm.zero)
def RuOk (r : Ru) : Prop := AmOk r.head ∧ r.body.length ≤ 8 ∧ ∀ l ∈ r.body, LtOk l
def PrOk (g : Pr) : Prop := g.decls.length ≤ 400 ∧ g.rules.length ≤ 400 ∧ ∀ r ∈ g.rules, RuOk r
/-- Tokens such as are scanned. -/
def Kinds (L : List Tk) : Prop := ∀ t ∈ L, KindOk t
theorem Kinds.tail {L : List Tk} (h : Kinds L) : Kinds L.tail := fun t ht => h t (List.mem_of_mem_tail ht)
theorem Kinds.at {L : List Tk} (h : Kinds L) {e : Int} {k : Nat} (hk : (atT e L k).kind ≠ 0) : KindOk (atT e L k) := by
  have hl := at_ne hk
  have e' : atT e L k = L[k] := by simp [atT, List.getElem?_eq_getElem hl]
  rw [e']
  exact h _ (List.getElem_mem hl)
theorem nm_ok {t : Tk} (h : KindOk t) (hn : isNm t = true) : NmOk t.s := by
  simp only [isNm, Bool.and_eq_true, Bool.not_eq_true', beq_iff_eq] at hn
  obtain ⟨⟨h1, h2⟩, h3⟩ := hn
  rcases h with ⟨-, h, -⟩ | ⟨-, -, -, hz, hs⟩ | ⟨h, -⟩ | ⟨h, -⟩ | ⟨h, -⟩
  · rw [h] at h2; cases h2
  · refine ⟨hs, ?_, hz⟩
    intro e
    rw [e] at h3
    revert h3; decide
  · omega
  · omega
  · omega
theorem nameP_ok (e : Int) {L : List Tk} (h : Kinds L) : Kinds (nameP e L).rest ∧ ((nameP e L).bad = 0 → NmOk (nameP e L).val) := by
  unfold nameP
  split
  · rename_i hn
    exact ⟨h.tail, fun _ => nm_ok (h.at (by rw [nm_kind hn]; decide)) hn⟩
  · exact ⟨h, fun hb => by cases hb⟩
theorem termT_ok {t : Tk} (h : KindOk t) {x : Tm} (hx : termT t = some x) : TmOk x := by
  unfold termT at hx
  split at hx
  · rename_i h2
    cases hx
    rcases h with ⟨h, -⟩ | ⟨h, -⟩ | ⟨-, -, -, -, hg⟩ | ⟨h, -⟩ | ⟨h, -⟩
    · omega
    · omega
    · exact .inl ⟨rfl, hg, rfl, rfl, rfl⟩
    · omega
    · omega
  split at hx
  · cases hx; exact .inr ⟨rfl, rfl, .inr ⟨rfl, rfl⟩⟩
  split at hx
  · cases hx; exact .inr ⟨rfl, rfl, .inl ⟨rfl, rfl⟩⟩
  · cases hx
theorem termP_ok (e : Int) {L : List Tk} (h : Kinds L) : Kinds (termP e L).rest ∧ ((termP e L).bad = 0 → TmOk (termP e L).val) := by
  unfold termP
  cases hx : termT (atT e L 0) with
  | none => exact ⟨h, fun hb => by cases hb⟩
  | some x => exact ⟨h.tail, fun _ => termT_ok (h.at (termT_kind hx)) hx⟩
theorem listP_ok {α : Type} {rd : List Tk → Rd α} {e : Int} {Q : α → Prop} (hr : ∀ L, Kinds L → Kinds (rd L).rest ∧ ((rd L).bad = 0 → Q (rd L).val)) : ∀ (n : Nat) (acc : List α) (L : List Tk), Kinds L → (∀ a ∈ acc, Q a) → Kinds (listP rd e n acc L).rest ∧ ((listP rd e n acc L).bad = 0 → (∀ a ∈ (listP rd e n acc L).val, Q a) ∧ (listP rd e n acc L).val.length ≤ acc.length + n) := by
  intro n
  induction n with
  | zero => intro acc L hL _; exact ⟨hL, fun h => by cases h⟩
  | succ n ih =>
    intro acc L hL hA
    obtain ⟨h1, h2⟩ := hr L hL
    unfold listP
    split
    · rename_i hb
      have hA' : ∀ a ∈ acc ++ [(rd L).val], Q a := fun a ha => by
        rcases List.mem_append.1 ha with ha | ha
        · exact hA a ha
        · simp at ha; rw [ha]; exact h2 hb
      split
      · obtain ⟨i1, i2⟩ := ih (acc ++ [(rd L).val]) (rd L).rest.tail h1.tail hA'
        refine ⟨i1, fun h => ⟨(i2 h).1, ?_⟩⟩
        have := (i2 h).2
        simp at this
        omega
      · exact ⟨h1, fun _ => ⟨hA', by simp⟩⟩
    · rename_i hb
      exact ⟨h1, fun h => absurd h hb⟩
theorem endP_ok {α : Type} {Q : α → Prop} (m : List UInt8) (e : Int) {v z : α} {L : List Tk} (h : Kinds L) (hv : Q v) : Kinds (endP m e v z L).rest ∧ ((endP m e v z L).bad = 0 → Q (endP m e v z L).val) := by
  unfold endP
  split
  · exact ⟨h.tail, fun _ => hv⟩
  · exact ⟨h, fun hb => by cases hb⟩
theorem atomP_ok (e : Int) {L : List Tk} (h : Kinds L) : Kinds (atomP e L).rest ∧ ((atomP e L).bad = 0 → AmOk (atomP e L).val) := by
  obtain ⟨h1, h2⟩ := nameP_ok e h
  unfold atomP
  split
  · rename_i hb
    split
    · obtain ⟨i1, i2⟩ := listP_ok (e := e) (Q := TmOk) (fun L hL => termP_ok e hL) 6 [] (nameP e L).rest.tail h1.tail (by simp)
      unfold argsP
      split
      · rename_i hq
        obtain ⟨j1, j2⟩ := i2 hq
        simp at j2
        exact endP_ok [41] e i1 ⟨h2 hb, j2, j1⟩
      · rename_i hq
        exact ⟨i1, fun h => absurd h hq⟩
    · exact ⟨h1, fun _ => ⟨h2 hb, by simp, by simp⟩⟩
  · rename_i hb
    exact ⟨h1, fun h => absurd h hb⟩
theorem litA_ok {k : Int} (hk : k = 1 ∨ k = 2) {r : Rd Am} (h : Kinds r.rest ∧ (r.bad = 0 → AmOk r.val)) : Kinds (litA k r).rest ∧ ((litA k r).bad = 0 → LtOk (litA k r).val) := by
  unfold litA
  split
  · rename_i hb
    exact ⟨h.1, fun _ => .inr ⟨hk, rfl, h.2 hb, rfl, rfl⟩⟩
  · rename_i hb
    exact ⟨h.1, fun h => absurd h hb⟩
theorem op_ne {t : Tk} (h : isOp t = true) : t.s.data.toList ≠ [] := by
  simp only [isOp, List.any_eq_true] at h
  obtain ⟨m, hm, h⟩ := h
  simp only [isMk, Bool.and_eq_true, beq_iff_eq] at h
  rw [h.2]
  have : ∀ m ∈ opsL, m ≠ [] := by decide
  exact this m hm
theorem cmpP_ok (e : Int) {L : List Tk} (h : Kinds L) : Kinds (cmpP e L).rest ∧ ((cmpP e L).bad = 0 → LtOk (cmpP e L).val) := by
  obtain ⟨h1, h2⟩ := termP_ok e h
  unfold cmpP
  split
  · rename_i hb
    split
    · rename_i ho
      obtain ⟨i1, i2⟩ := termP_ok e h1.tail
      unfold cmpR
      split
      · rename_i hq
        exact ⟨i1, fun _ => .inl ⟨rfl, op_ne ho, h2 hb, i2 hq, rfl⟩⟩
      · rename_i hq
        exact ⟨i1, fun h => absurd h hq⟩
    · exact ⟨h1, fun hb => by cases hb⟩
  · rename_i hb
    exact ⟨h1, fun h => absurd h hb⟩
theorem litP_ok (e : Int) {L : List Tk} (h : Kinds L) : Kinds (litP e L).rest ∧ ((litP e L).bad = 0 → LtOk (litP e L).val) := by
  unfold litP
  split
  · exact litA_ok (.inr rfl) (atomP_ok e h.tail)
  split
  · exact litA_ok (.inl rfl) (atomP_ok e h)
  · exact cmpP_ok e h
theorem ruleP_ok (e : Int) {L : List Tk} (h : Kinds L) : Kinds (ruleP e L).rest ∧ ((ruleP e L).bad = 0 → RuOk (ruleP e L).val) := by
  obtain ⟨h1, h2⟩ := atomP_ok e h
  unfold ruleP
  split
  · rename_i hb
    split
    · obtain ⟨i1, i2⟩ := listP_ok (e := e) (Q := LtOk) (fun L hL => litP_ok e hL) 8 [] (atomP e L).rest.tail h1.tail (by simp)
      unfold bodyP
      split
      · rename_i hq
        obtain ⟨j1, j2⟩ := i2 hq
        simp at j2
        exact endP_ok [46] e i1 ⟨h2 hb, j2, j1⟩
      · rename_i hq
        exact ⟨i1, fun h => absurd h hq⟩
    · exact endP_ok [46] e h1 ⟨h2 hb, by simp, by simp⟩
  · rename_i hb
    exact ⟨h1, fun h => absurd h hb⟩
theorem declP_ok (e : Int) {L : List Tk} (h : Kinds L) : Kinds (declP e L).rest := by
  obtain ⟨h1, -⟩ := nameP_ok e h
  unfold declP
  split
  · unfold declN
    split
    · split
      · exact h1.tail
      · exact (endP_ok (Q := fun _ => True) [46] e h1.tail.tail trivial).1
    · exact h1.tail
  · exact h1
theorem clauseP_ok (e : Int) {g : Pr} {L : List Tk} (h : Kinds L) (hg : PrOk g) : Kinds (clauseP e g L).rest ∧ ((clauseP e g L).bad = 0 → PrOk (clauseP e g L).val) := by
  obtain ⟨g1, g2, g3⟩ := hg
  unfold clauseP
  split
  · split
    · exact ⟨h, fun hb => by cases hb⟩
    · exact ⟨declP_ok e h, fun _ => ⟨by simp; omega, g2, g3⟩⟩
  · split
    · exact ⟨h, fun hb => by cases hb⟩
    · obtain ⟨h1, h2⟩ := ruleP_ok e h
      refine ⟨h1, fun hb => ⟨g1, by simp; omega, fun r hr => ?_⟩⟩
      rcases List.mem_append.1 hr with hr | hr
      · exact g3 r hr
      · simp at hr; rw [hr]; exact h2 hb
theorem progF_ok (e : Int) : ∀ (f : Nat) (g : Pr) (L : List Tk), Kinds L → PrOk g → PrOk (progF e f g L).val := by
  intro f
  induction f with
  | zero => intro g L _ hg; exact hg
  | succ f ih =>
    intro g L hL hg
    unfold progF
    split
    · exact hg
    · obtain ⟨h1, h2⟩ := clauseP_ok e (g := g) hL hg
      split
      · rename_i hb
        exact ih _ _ h1 (h2 hb)
      · exact ⟨by simp [Pr.zero], by simp [Pr.zero], by simp [Pr.zero]⟩
theorem prZero_ok : PrOk Pr.zero := ⟨by simp [Pr.zero], by simp [Pr.zero], by simp [Pr.zero]⟩
theorem parseR_ok (s : ByteArray) : PrOk (parseR s).g := by
  unfold parseR
  split
  · unfold parseL
    split
    · exact progF_ok _ _ _ _ (fun t ht => scan_kind ht) prZero_ok
    · exact prZero_ok
  · exact prZero_ok
theorem parseR_bad {s : ByteArray} (h : (parseR s).bad ≠ 0) : (parseR s).g = Pr.zero := by
  unfold parseR at h ⊢
  split
  · rename_i h1
    rw [if_pos h1] at h
    unfold parseL at h ⊢
    split
    · rename_i h2
      rw [if_pos h2] at h
      exact absurd rfl h
    · rfl
  · rfl
end Go.Proofs.YtekhcaanjaoioaaGreatDoor

/-
  The document's example, which all statements of parse ask first.
-/
namespace Go.Proofs.YtekhcaanjaoioaaGreatDoor
set_option linter.unusedSimpArgs false
set_option linter.unusedVariables false
set_option linter.unusedSectionVars false
set_option maxRecDepth 100000
open Go.RowKit Go.Maps

def xT : Tm := ⟨true, ⟨#[88]⟩, false, ⟨#[]⟩, 0⟩
def shownG : Pr := ⟨[], [⟨⟨⟨#[112]⟩, [xT]⟩, [⟨1, ⟨⟨#[113]⟩, [xT, ⟨false, ⟨#[]⟩, true, ⟨#[97]⟩, 0⟩]⟩, ⟨#[]⟩, Tm.zero, Tm.zero⟩, ⟨2, ⟨⟨#[114]⟩, [xT]⟩, ⟨#[]⟩, Tm.zero, Tm.zero⟩, ⟨3, Am.zero, ⟨#[60]⟩, xT, ⟨false, ⟨#[]⟩, false, ⟨#[]⟩, 3⟩⟩]⟩]⟩
theorem shown_parse : parseR ⟨#[112, 40, 88, 41, 32, 58, 45, 32, 113, 40, 88, 44, 32, 97, 41, 44, 32, 110, 111, 116, 32, 114, 40, 88, 41, 44, 32, 88, 32, 60, 32, 51, 46]⟩ = ⟨0, 0, shownG⟩ := by kernel_rfl
theorem shown_mem {w : World} {B : Nat} {y : Value} (h : RusO w B y shownG.rules) : ∃ g1 c1 g2 c2, y = .slice (some ⟨g1, 0, none⟩) 1 c1 ∧ 1 ≤ c1 ∧ w.cell? ⟨g1, 2, none⟩ = some (.slice (some ⟨g2, 0, none⟩) 3 c2) ∧ 3 ≤ c2 ∧ w.cell? ⟨g2, 0, none⟩ = some (.int .i64 1) ∧ w.cell? ⟨g2, 14, none⟩ = some (.int .i64 2) ∧ w.cell? ⟨g2, 28, none⟩ = some (.int .i64 3) ∧ w.cell? ⟨g2, 31, none⟩ = some (.string ⟨#[60]⟩) ∧ w.cell? ⟨g2, 41, none⟩ = some (.int .i64 3) := by
  obtain ⟨ao, cap, rfl, h1, h2⟩ := h.cells
  obtain ⟨g1, c, rfl, -, -, ⟨x, z, rfl, -, hb⟩, hc⟩ := h2 0 (by decide)
  obtain ⟨ao2, cap2, rfl, k1, k2⟩ := hb.cells
  obtain ⟨g2, c0, rfl, -, -, ⟨x0, rfl, -⟩, d0⟩ := k2 0 (by decide)
  obtain ⟨g2', c1, e, -, -, ⟨x1, rfl, -⟩, d1⟩ := k2 1 (by decide)
  cases e
  obtain ⟨g2', c2, e, -, -, ⟨x2, rfl, -⟩, d2⟩ := k2 2 (by decide)
  cases e
  exact ⟨g1, cap, g2, cap2, rfl, h1, hc 2 _ rfl, k1, d0 0 _ rfl, d1 0 _ rfl, d2 0 _ rfl, d2 3 _ rfl, d2 13 _ rfl⟩

set_option maxHeartbeats 2000000 in
theorem shown_any (w : World) (hE : PEnv w) : Calls Tryz.prog 4 #[] w fun e w' => e = .returned (.bool true) ∧ Below w.heap.size w w' := by
  have HE := Lib.hid hE
  clear hE
  go_enter Tryz.func4, Tryz.ntmps4
  go_wp2_with fail
  refine (parse_any _ _ HE.out (by decide)).mono ?_
  rintro e w1 ⟨x, y, rfl, hb1, hd, hu⟩
  rw [shown_parse] at hd hu ⊢
  obtain ⟨xo, xc, rfl, -⟩ := hd.cells
  obtain ⟨g1, c1, g2, c2, rfl, k1, d0, k2, d1, d2, d3, d4, d5⟩ := shown_mem (hu.below keepRu (al_below w1 (.cells #[.slice xo shownG.decls.length xc, y] 36)))
  have l1 : (1 : Int) ≤ (c1 : Int) := by omega
  have l2 : (3 : Int) ≤ (c2 : Int) := by omega
  have HB := Lib.hid hb1
  clear hd hu hb1 HE
  go_wp2
  go_ret
  exact ⟨rfl, HB.out.alloc HB.out.size _⟩
end Go.Proofs.YtekhcaanjaoioaaGreatDoor

/-
  Contract of parse.Atom.
-/
namespace Go.Proofs.YtekhcaanjaoioaaGreatDoor
set_option linter.unusedSimpArgs false
set_option linter.unusedVariables false
set_option linter.unusedSectionVars false
set_option maxRecDepth 100000
open Go.RowKit Go.Maps

/-- What a text is: an error's number (0: none), its place, the atom. -/
structure Pa where
  bad : Nat
  pl : Int
  a : Am
def atomL (s : ByteArray) (L : List Tk) : Pa :=
  if (atomP (s.size : Int) L).bad = 0 then
    if (atomP (s.size : Int) L).rest = [] then ⟨0, 0, (atomP (s.size : Int) L).val⟩ else ⟨2, (atT (s.size : Int) (atomP (s.size : Int) L).rest 0).pl, Am.zero⟩
  else ⟨(atomP (s.size : Int) L).bad, (atT (s.size : Int) (atomP (s.size : Int) L).rest 0).pl, Am.zero⟩
def atomR (s : ByteArray) : Pa := if (scanR s).bad = 0 then atomL s (scanR s).toks else ⟨(scanR s).bad, ((scanR s).pl : Int), Am.zero⟩
/-- What Atom leaves. -/
def ParseAOut (w : World) (r : Pa) (e : Ending) (w' : World) : Prop :=
  ∃ x, e = .returned (.tuple #[.agg #[.string r.a.p, x], .int .i64 r.pl, .int .i64 (r.bad : Int)]) ∧ Below w.heap.size w w' ∧ TmsO w' w.heap.size x r.a.args
theorem ParseAOut.fail {w w' : World} {r : Pa} {bd : Nat} {pl : Int} (hr : r = ⟨bd, pl, Am.zero⟩) {v : Value} (hv : v = .tuple #[.agg #[.string ⟨#[]⟩, .slice none 0 0], .int .i64 pl, .int .i64 (bd : Int)]) (hb : Below w.heap.size w w') : ParseAOut w r (.returned v) w' := by
  subst hr hv
  exact ⟨.slice none 0 0, rfl, hb, OwnL.nil _ _ _ _ _⟩
/-- Two atoms' blocks, both still empty. -/
theorem two_blocksA (w : World) : ∃ w0, w0 = (w.alloc (.cells #[.string ⟨#[]⟩, .slice none 0 0] 25)).alloc (.cells #[.string ⟨#[]⟩, .slice none 0 0] 25) ∧ Below w.heap.size w w0 ∧ w0.heap.size = w.heap.size + 2 ∧ Blk w0 w.heap.size #[.string ⟨#[]⟩, .slice none 0 0] 25 ∧ Blk w0 (w.heap.size + 1) #[.string ⟨#[]⟩, .slice none 0 0] 25 := by
  refine ⟨_, rfl, ((Below.refl _ _).alloc (Nat.le_refl _) _).alloc (by simp) _, by simp, ?_, ?_⟩
  · exact (Blk.new w #[.string ⟨#[]⟩, .slice none 0 0] 25).below (al_below _ _)
  · have := Blk.new (w.alloc (.cells #[.string ⟨#[]⟩, .slice none 0 0] 25)) #[.string ⟨#[]⟩, .slice none 0 0] 25
    have e : (w.alloc (.cells #[.string ⟨#[]⟩, .slice none 0 0] 25)).heap.size = w.heap.size + 1 := by simp
    rw [e] at this
    exact this

set_option maxHeartbeats 8000000 in
theorem wholeA_any (s : ByteArray) (w : World) (hE : PEnv w) (hsz : s.size ≤ maxLen) :
    Calls Tryz.prog 9 #[.string s, .func (.func 10) #[] #[]] w fun e w' => ParseAOut w (atomR s) e w' := by
  obtain ⟨w0, hw0, hb0, hs0, hR0, hN0⟩ := two_blocksA w
  have HE0 := Lib.hid (hE.below hb0)
  have HSC := Lib.hid (scan_any s w0 HE0.out.env)
  have HW0 := Lib.hid hw0
  have HB0 := Lib.hid hb0
  have HS0 := Lib.hid hs0
  have HR0 := Lib.hid hR0
  have HN0 := Lib.hid hN0
  unfold maxLen at hsz
  obtain ⟨r, hr⟩ : ∃ r, r = atomR s := ⟨_, rfl⟩
  rw [← hr]
  unfold atomR at hr
  have HSH : Hid (∀ t ∈ (scanR s).toks, t.s.size ≤ 65536) := fun t h => scanR_short h
  have HLN : Hid ((scanR s).toks.length ≤ 65536) := scanR_len s
  obtain ⟨q, hq⟩ : ∃ q, q = scanR s := ⟨_, rfl⟩
  unfold ScanOut at HSC
  rw [← hq] at hr HSC HSH HLN
  obtain ⟨bd, pl, T⟩ := q
  simp only at hr HSC HSH HLN
  have h8 := hE.big
  clear hE hw0 hb0 hs0 hR0 hN0 hq
  by_cases hbd : bd = 0
  · subst hbd
    rw [if_pos rfl] at hr
    unfold atomL at hr
    have HPR := Lib.hid (fun W pb (hW : Feed W pb T (s.size : Int)) => atom_any hW)
    obtain ⟨p, hp⟩ : ∃ p, p = atomP (s.size : Int) T := ⟨_, rfl⟩
    simp only [← hp, AtomOut] at hr HPR
    clear hp
    obtain ⟨qb, ⟨nm, A⟩, M⟩ := p
    simp only at hr HPR
    by_cases hqb : qb = 0
    · subst hqb
      rw [if_pos rfl] at hr
      by_cases hM : M = []
      · subst hM
        rw [if_pos rfl] at hr
        have HR := Lib.hid hr
        clear hr
        go_enter Tryz.func9, Tryz.ntmps9
        go_wp2_with fail
        rw [← HW0.out]
        refine (HSC.out).mono ?_
        rintro e w1 ⟨v, rfl, hb1, ho1⟩
        have hF := Feed.new ho1 (by have := HLN.out; unfold maxLen; omega) HSH.out (s.size : Int)
        obtain ⟨ao, cap, hv, -⟩ := (ho1.tks (by have := HLN.out; unfold maxLen; omega)).form
        subst hv
        have hb1' := hb1.trans ((al_below w1 (.cells #[.slice ao T.length cap, .int .i64 (s.size : Int)] 71)).mono hb1.size)
        have HF1 := Lib.hid hF
        have HB1 : Hid (Below w.heap.size w (w1.alloc (.cells #[.slice ao T.length cap, .int .i64 (s.size : Int)] 71))) := HB0.out.trans (hb1'.mono HB0.out.size)
        have HR1 := Lib.hid (HR0.out.below hb1')
        have HL1 : Hid (w.heap.size + 2 ≤ w1.heap.size) := by show _ ≤ _; rw [← HS0.out]; exact hb1.size
        have HC := Lib.hid (HPR.out _ _ HF1.out)
        clear hF hb1 hb1' ho1 HSC HPR HW0
        go_wp2_with (first
          | (go_at_call 10; refine (HC.out).mono ?_; rintro e w2 ⟨x, rfl, h2, hd⟩; obtain ⟨xo, xc, hx, -⟩ := hd.cells; subst hx; have HR2 := Lib.hid ((HR1.out.turns h2.turns (by have := HL1.out; omega)).below (al_below w2 (.cells #[.string nm, .slice xo A.length xc] 25))); have HB2 : Hid (Below w.heap.size w (w2.alloc (.cells #[.string nm, .slice xo A.length xc] 25))) := (HB1.out.trans (h2.turns.below HB1.out.size (fun k e => by have e' : k = w1.heap.size := e; have := HL1.out; omega))).alloc (by have := HB1.out.size; have := h2.turns.size; omega) _; have HD2 := Lib.hid (hd.below keepTm (al_below w2 (.cells #[.string nm, .slice xo A.length xc] 25))); have HQ2 : Hid (w.heap.size < (w1.alloc (.cells #[.slice ao T.length cap, .int .i64 (s.size : Int)] 71)).heap.size) := (show w.heap.size < _ by have := HL1.out; simp; omega); clear hd; have HM2 := Lib.hid (more_any (h2.feed.below (al_below w2 (.cells #[.string nm, .slice xo A.length xc] 25)))); clear HC)
          | (go_at_call 16; refine (HM2.out).mono ?_; rintro e w3 ⟨rfl, rfl⟩; clear HM2)
          | (refine wpList_store_row rfl 25 _ _ rfl w.heap.size #[.string nm, .slice xo A.length xc] rfl rfl 25 _ HR2.out (by kernel_rfl) rfl (by simp [Value.oneCell']) ?_))
        refine bodyPost_ret (ret_cell3 Tryz.results9 rfl rfl rfl (HR2.out.lay _) Tryz.underlying25 (by kernel_rfl)) rfl ?_
        rw [HR.out]
        exact ⟨_, rfl, below_lay HB2.out (Nat.le_refl _) _, (HD2.out.turns keepTm (Turns.laid _ w.heap.size _) HQ2.out).mono keepTm (Nat.le_of_lt HQ2.out)⟩
      · rw [if_neg hM] at hr
        have hM0 : 0 < M.length := List.length_pos_iff.2 hM
        have hdB : decide (0 < M.length) = true := by simpa using hM0
        clear hM hM0
        obtain ⟨t, ht⟩ : ∃ t, t = atT (s.size : Int) M 0 := ⟨_, rfl⟩
        have HNE := Lib.hid (fun W pb (hW : Feed W pb M (s.size : Int)) => next_any hW)
        simp only [← ht, tokV] at hr HNE
        have hfd : ∀ W : World, (Instr.field 62 (.agg #[.int .i64 t.kind, .string t.s, .int .i64 t.n, .bool t.q, .int .i64 t.pl]) 4).run Tryz.prog W = .ok (.int .i64 t.pl) W := fun _ => by kernel_rfl
        have HR := Lib.hid hr
        clear hr ht
        go_enter Tryz.func9, Tryz.ntmps9
        go_wp2_with fail
        rw [← HW0.out]
        refine (HSC.out).mono ?_
        rintro e w1 ⟨v, rfl, hb1, ho1⟩
        have hF := Feed.new ho1 (by have := HLN.out; unfold maxLen; omega) HSH.out (s.size : Int)
        obtain ⟨ao, cap, hv, -⟩ := (ho1.tks (by have := HLN.out; unfold maxLen; omega)).form
        subst hv
        have hb1' := hb1.trans ((al_below w1 (.cells #[.slice ao T.length cap, .int .i64 (s.size : Int)] 71)).mono hb1.size)
        have HF1 := Lib.hid hF
        have HB1 : Hid (Below w.heap.size w (w1.alloc (.cells #[.slice ao T.length cap, .int .i64 (s.size : Int)] 71))) := HB0.out.trans (hb1'.mono HB0.out.size)
        have HR1 := Lib.hid (HR0.out.below hb1')
        have HL1 : Hid (w.heap.size + 2 ≤ w1.heap.size) := by show _ ≤ _; rw [← HS0.out]; exact hb1.size
        have HC := Lib.hid (HPR.out _ _ HF1.out)
        have HN1 := Lib.hid (HN0.out.below hb1')
        clear hF hb1 hb1' ho1 HSC HPR HW0
        go_wp2_with (first
          | (go_at_call 16; refine (HM2.out).mono ?_; rintro e w3 ⟨rfl, rfl⟩; clear HM2)
          | (go_at_call 10; refine (HC.out).mono ?_; rintro e w2 ⟨x, rfl, h2, hd⟩; obtain ⟨xo, xc, hx, -⟩ := hd.cells; subst hx; have HR2 := Lib.hid ((HR1.out.turns h2.turns (by have := HL1.out; omega)).below (al_below w2 (.cells #[.string nm, .slice xo A.length xc] 25))); have HN2 := ((HN1.out.turns h2.turns (by have := HL1.out; omega)).below (al_below w2 (.cells #[.string nm, .slice xo A.length xc] 25))); have HB2 : Hid (Below w.heap.size w (w2.alloc (.cells #[.string nm, .slice xo A.length xc] 25))) := (HB1.out.trans (h2.turns.below HB1.out.size (fun k e => by have e' : k = w1.heap.size := e; have := HL1.out; omega))).alloc (by have := HB1.out.size; have := h2.turns.size; omega) _; have HNX := Lib.hid (h2.feed.below (al_below w2 (.cells #[.string nm, .slice xo A.length xc] 25))); have hm2 := more_any HNX.out; rw [hdB] at hm2; have HM2 := Lib.hid hm2; clear hm2; have n0 := HN2.cell 0; have n1 := HN2.cell 1; simp at n0 n1; have HNN := Lib.hid HN2; clear HN2 HC hd))
        obtain ⟨W2, hW2⟩ : ∃ W2, W2 = (w2.alloc (.cells #[.string nm, .slice xo A.length xc] 25)) := ⟨_, rfl⟩
        rw [← hW2] at HR2 HNN n0 n1 HB2 HNX ⊢
        clear hW2
        have HNC := Lib.hid (fun W (hb : Below W2.heap.size W2 W) => HNE.out W _ (HNX.out.below hb))
        have hl1 := HR2.out.lt
        have hl2 := HNN.out.lt
        go_region_with (go_at_call 17; refine (HNC.out _ (by first | exact Below.refl _ _ | exact (Below.refl _ _).drew | exact below_drewN _ _)).mono ?_; rintro e w3 ⟨rfl, hb3⟩; have HR3 := Lib.hid (HR2.out.below (Below.trans (by first | exact Below.refl _ _ | exact (Below.refl _ _).drew | exact below_drewN _ _) hb3)); have r0 := HR3.out.cell 0; have r1 := HR3.out.cell 1; have k0 := HR3.out.frozen 0; have k1 := HR3.out.frozen 1; have HN3 := HNN.out.below (Below.trans (by first | exact Below.refl _ _ | exact (Below.refl _ _).drew | exact below_drewN _ _) hb3); have m0 := HN3.cell 0; have m1 := HN3.cell 1; simp at r0 r1 m0 m1; clear HN3; have HB3 : Hid (Below w.heap.size w w3) := HB2.out.trans (Below.mono (Below.trans (by first | exact Below.refl _ _ | exact (Below.refl _ _).drew | exact below_drewN _ _) hb3) HB2.out.size); clear hb3)
        all_goals
          go_wp2
          have hz := heap_set (o := 1) (heap_set (o := 0) HR3.out (.string ⟨#[]⟩)) (.slice none 0 0)
          exact bodyPost_ret (ret_cell3 Tryz.results9 rfl rfl rfl (show Blk _ _ _ _ from hz) Tryz.underlying25 (by kernel_rfl)) rfl (ParseAOut.fail HR.out rfl ((HB3.out.setCell (Nat.le_refl _) _).setCell (Nat.le_refl _) _))
    · rw [if_neg hqb] at hr
      have hbdI : ¬ (qb : Int) = 0 := by omega
      have hbdB : ((qb : Int) == 0) = false := by simpa using hbdI
      have hbdN : ((qb : Int) != 0) = true := by simp [bne, hbdB]
      obtain ⟨t, ht⟩ : ∃ t, t = atT (s.size : Int) M 0 := ⟨_, rfl⟩
      have HNE := Lib.hid (fun W pb (hW : Feed W pb M (s.size : Int)) => next_any hW)
      simp only [← ht, tokV] at hr HNE
      have hfd : ∀ W : World, (Instr.field 62 (.agg #[.int .i64 t.kind, .string t.s, .int .i64 t.n, .bool t.q, .int .i64 t.pl]) 4).run Tryz.prog W = .ok (.int .i64 t.pl) W := fun _ => by kernel_rfl
      have HR := Lib.hid hr
      clear hr ht
      go_enter Tryz.func9, Tryz.ntmps9
      go_wp2_with fail
      rw [← HW0.out]
      refine (HSC.out).mono ?_
      rintro e w1 ⟨v, rfl, hb1, ho1⟩
      have hF := Feed.new ho1 (by have := HLN.out; unfold maxLen; omega) HSH.out (s.size : Int)
      obtain ⟨ao, cap, hv, -⟩ := (ho1.tks (by have := HLN.out; unfold maxLen; omega)).form
      subst hv
      have hb1' := hb1.trans ((al_below w1 (.cells #[.slice ao T.length cap, .int .i64 (s.size : Int)] 71)).mono hb1.size)
      have HF1 := Lib.hid hF
      have HB1 : Hid (Below w.heap.size w (w1.alloc (.cells #[.slice ao T.length cap, .int .i64 (s.size : Int)] 71))) := HB0.out.trans (hb1'.mono HB0.out.size)
      have HR1 := Lib.hid (HR0.out.below hb1')
      have HL1 : Hid (w.heap.size + 2 ≤ w1.heap.size) := by show _ ≤ _; rw [← HS0.out]; exact hb1.size
      have HC := Lib.hid (HPR.out _ _ HF1.out)
      have HN1 := Lib.hid (HN0.out.below hb1')
      clear hF hb1 hb1' ho1 HSC HPR HW0
      go_wp2_with (go_at_call 10; refine (HC.out).mono ?_; rintro e w2 ⟨x, rfl, h2, hd⟩; obtain ⟨xo, xc, hx, -⟩ := hd.cells; subst hx; have HR2 := Lib.hid ((HR1.out.turns h2.turns (by have := HL1.out; omega)).below (al_below w2 (.cells #[.string nm, .slice xo A.length xc] 25))); have HN2 := ((HN1.out.turns h2.turns (by have := HL1.out; omega)).below (al_below w2 (.cells #[.string nm, .slice xo A.length xc] 25))); have HB2 : Hid (Below w.heap.size w (w2.alloc (.cells #[.string nm, .slice xo A.length xc] 25))) := (HB1.out.trans (h2.turns.below HB1.out.size (fun k e => by have e' : k = w1.heap.size := e; have := HL1.out; omega))).alloc (by have := HB1.out.size; have := h2.turns.size; omega) _; have HNX := Lib.hid (h2.feed.below (al_below w2 (.cells #[.string nm, .slice xo A.length xc] 25))); have n0 := HN2.cell 0; have n1 := HN2.cell 1; simp at n0 n1; have HNN := Lib.hid HN2; clear HN2 HC hd)
      obtain ⟨W2, hW2⟩ : ∃ W2, W2 = (w2.alloc (.cells #[.string nm, .slice xo A.length xc] 25)) := ⟨_, rfl⟩
      rw [← hW2] at HR2 HNN n0 n1 HB2 HNX ⊢
      clear hW2
      have HNC := Lib.hid (fun W (hb : Below W2.heap.size W2 W) => HNE.out W _ (HNX.out.below hb))
      have hl1 := HR2.out.lt
      have hl2 := HNN.out.lt
      go_region_with (go_at_call 17; refine (HNC.out _ (by first | exact Below.refl _ _ | exact (Below.refl _ _).drew | exact below_drewN _ _)).mono ?_; rintro e w3 ⟨rfl, hb3⟩; have HR3 := Lib.hid (HR2.out.below (Below.trans (by first | exact Below.refl _ _ | exact (Below.refl _ _).drew | exact below_drewN _ _) hb3)); have r0 := HR3.out.cell 0; have r1 := HR3.out.cell 1; have k0 := HR3.out.frozen 0; have k1 := HR3.out.frozen 1; have HN3 := HNN.out.below (Below.trans (by first | exact Below.refl _ _ | exact (Below.refl _ _).drew | exact below_drewN _ _) hb3); have m0 := HN3.cell 0; have m1 := HN3.cell 1; simp at r0 r1 m0 m1; clear HN3; have HB3 : Hid (Below w.heap.size w w3) := HB2.out.trans (Below.mono (Below.trans (by first | exact Below.refl _ _ | exact (Below.refl _ _).drew | exact below_drewN _ _) hb3) HB2.out.size); clear hb3)
      all_goals
        go_wp2
        have hz := heap_set (o := 1) (heap_set (o := 0) HR3.out (.string ⟨#[]⟩)) (.slice none 0 0)
        exact bodyPost_ret (ret_cell3 Tryz.results9 rfl rfl rfl (show Blk _ _ _ _ from hz) Tryz.underlying25 (by kernel_rfl)) rfl (ParseAOut.fail HR.out rfl ((HB3.out.setCell (Nat.le_refl _) _).setCell (Nat.le_refl _) _))
  · rw [if_neg hbd] at hr
    have hbdI : ¬ (bd : Int) = 0 := by omega
    have hbdB : ((bd : Int) == 0) = false := by simpa using hbdI
    have hbdN : ((bd : Int) != 0) = true := by simp [bne, hbdB]
    have HR := Lib.hid hr
    clear hr
    go_enter Tryz.func9, Tryz.ntmps9
    go_wp2_with fail
    rw [← HW0.out]
    refine (HSC.out).mono ?_
    rintro e w1 ⟨v, rfl, hb1, -⟩
    have HR1 := Lib.hid (HR0.out.below hb1)
    have HN1 := HN0.out.below hb1
    have n0 := HN1.cell 0
    have n1 := HN1.cell 1
    simp at n0 n1
    have HB1 : Hid (Below w.heap.size w w1) := HB0.out.trans (hb1.mono HB0.out.size)
    clear HN1 hb1 HSC HW0
    go_wp2_with (refine wpList_store_row rfl 25 _ _ rfl w.heap.size #[.string ⟨#[]⟩, .slice none 0 0] rfl rfl 25 _ HR1.out (by kernel_rfl) rfl (by simp [Value.oneCell']) ?_)
    exact bodyPost_ret (ret_cell3 Tryz.results9 rfl rfl rfl (HR1.out.lay _) Tryz.underlying25 (by kernel_rfl)) rfl (ParseAOut.fail HR.out rfl (below_lay HB1.out (Nat.le_refl _) _))

set_option maxHeartbeats 2000000 in
theorem parseA_any (s : ByteArray) (w : World) (hE : PEnv w) (hsz : s.size ≤ maxLen) :
    Calls Tryz.prog 5 #[.string s] w fun e w' => ParseAOut w (atomR s) e w' := by
  have hb0 := (Below.refl w.heap.size w).alloc (Nat.le_refl _) (.cells #[.string ⟨#[]⟩, .slice none 0 0] 25)
  have HB0 := Lib.hid hb0
  have HR0 := Lib.hid (Blk.new w #[.string ⟨#[]⟩, .slice none 0 0] 25)
  have HW := Lib.hid (wholeA_any s _ (hE.below hb0) hsz)
  obtain ⟨r, hr⟩ : ∃ r, r = atomR s := ⟨_, rfl⟩
  rw [← hr] at HW ⊢
  simp only [ParseAOut] at HW
  clear hE hb0 hr
  go_enter Tryz.func5, Tryz.ntmps5
  go_wp2_with (first
    | (go_at_call 9; refine (HW.out).mono ?_; rintro e w1 ⟨x, rfl, hb1, hd⟩; obtain ⟨xo, xc, hx, -⟩ := hd.cells; subst hx; have HR1 := Lib.hid (HR0.out.below hb1); have HB1 : Hid (Below w.heap.size w w1) := HB0.out.trans (hb1.mono HB0.out.size); have HD1 := Lib.hid hd; clear hb1 hd HW)
    | (refine wpList_store_row rfl 25 _ _ rfl w.heap.size #[.string r.a.p, .slice xo r.a.args.length xc] rfl rfl 25 _ HR1.out (by kernel_rfl) rfl (by simp [Value.oneCell']) ?_))
  refine bodyPost_ret (ret_cell3 Tryz.results5 rfl rfl rfl (HR1.out.lay _) Tryz.underlying25 (by kernel_rfl)) rfl ?_
  have hq : w.heap.size < (w.alloc (.cells #[.string ⟨#[]⟩, .slice none 0 0] 25)).heap.size := by simp
  exact ⟨_, rfl, below_lay HB1.out (Nat.le_refl _) _, (HD1.out.turns keepTm (Turns.laid _ w.heap.size _) hq).mono keepTm (Nat.le_of_lt hq)⟩
end Go.Proofs.YtekhcaanjaoioaaGreatDoor
