/-
  Contracts of arity.hasAtom, arity.atoms, and of what atoms hands back: it tells a rule's atoms in turn.
-/
import Derived.Test.YtadccjcmiajdeaaALoop
import Derived.Test.YtadccjcmiajdeaaAPlain
import Derived.Outline
import Derived.WalkSmall
namespace Go.Proofs.Ytadccjcmiajdeaa
set_option linter.unusedSimpArgs false
set_option linter.unusedVariables false
set_option linter.unusedSectionVars false
set_option maxRecDepth 100000
open Go.RowKit Go.Shelf
attribute [local go_sem] Oper.semAt_some

set_option maxHeartbeats 1000000 in
theorem hasAtom_any (l : Lt) (x : Value) (w : World) :
    Calls Try.prog 21 #[.agg (LtC l x).toArray] w fun e w' => e = .returned (.bool (isAt l)) ∧ Below w.heap.size w w' := by
  obtain ⟨kind, ⟨p, args⟩, op, ⟨lv, ln, lk, ls, lnn⟩, ⟨rv, rn, rk, rs, rnn⟩⟩ := l
  simp only [LtC, isAt]
  by_cases h1 : kind = 1
  · subst h1
    go_enter Try.func21, Try.ntmps21
    go_wp2
    go_ret
    exact ⟨rfl, al_bel _ _⟩
  · have e1 : (kind == 1) = false := beq_eq_false_iff_ne.2 h1
    by_cases h2 : kind = 2
    · subst h2
      go_enter Try.func21, Try.ntmps21
      go_wp2
      go_ret
      exact ⟨rfl, al_bel _ _⟩
    · have e2 : (kind == 2) = false := beq_eq_false_iff_ne.2 h2
      rw [e1, e2]
      go_enter Try.func21, Try.ntmps21
      go_wp2
      go_ret
      exact ⟨rfl, al_bel _ _⟩

/-- An atom, as it is handed on. -/
def encAm (a : Am) (args : Array Value) : Prop := ∃ ao cap, args = #[.agg #[.string a.p, .slice ao a.args.length cap]] ∧ a.args.length ≤ cap
/-- A use, as it is handed on. -/
def encDe (d : De) (args : Array Value) : Prop := args = #[.agg #[.string d.p, .int .i64 d.ar]]

/-- What rounds keep: all below B, and boxes of programs, rules, questions. -/
def Held (ty : TypeId) : Prop := ty = 25 ∨ ty = 46 ∨ ty = 59
structure KpH (B : Nat) (W W' : World) : Prop where
  bel : Below B W W'
  held : ∀ (k : Nat) (cs : Array Value) (ty : TypeId) (fr : Nat × Nat), W.heap[k]? = some (Obj.cells cs ty fr) → Held ty → W'.heap[k]? = some (Obj.cells cs ty fr)
theorem KpH.refl (B : Nat) (W : World) : KpH B W W := ⟨Below.refl _ _, fun _ _ _ _ h _ => h⟩
theorem KpH.trans {B : Nat} {X Y Z : World} (h : KpH B X Y) (k : KpH B Y Z) : KpH B X Z := ⟨h.bel.trans k.bel, fun i cs ty fr hi ht => k.held i cs ty fr (h.held i cs ty fr hi ht) ht⟩
theorem KpH.below {B : Nat} {X Y : World} (h : Below X.heap.size X Y) (hB : B ≤ X.heap.size) : KpH B X Y :=
  ⟨h.mono hB, fun k _ _ _ hk _ => (h.block k (Array.getElem?_eq_some_iff.1 hk).1).trans hk⟩
theorem KpH.alloc {B : Nat} (X : World) (o : Obj) (hB : B ≤ X.heap.size) : KpH B X (X.alloc o) := KpH.below (al_bel X o) hB
/-- One block turns that is of no kept kind. -/
theorem KpH.grown {B : Nat} {X Y : World} {row : Option Nat} (hg : X.grownBy Y row) (hB : B ≤ X.heap.size) (hr : ∀ k, row = some k → B ≤ k) (hT : ∀ (k : Nat) (cs : Array Value) (ty : TypeId) (fr : Nat × Nat), row = some k → X.heap[k]? = some (Obj.cells cs ty fr) → ¬ Held ty) : KpH B X Y :=
  ⟨(Below.refl B X).grown hg hB hr, fun k cs ty fr hk ht => (hg.block k (Array.getElem?_eq_some_iff.1 hk).1 (fun e => hT k cs ty fr e.symm hk ht)).trans hk⟩
theorem KpH.put {B : Nat} (X : World) (l : Nat) (o o' : Obj) (hB : B ≤ l) (h : X.heap[l]? = some o) (hc : o.isCells = false) : KpH B X (X.putObj l o') :=
  KpH.grown (grownBy_putObj' X l o') (by have := (Array.getElem?_eq_some_iff.1 h).1; omega) (fun k e => by cases e; exact hB) (fun k cs ty fr e hk _ => by cases e; rw [h] at hk; cases hk; cases hc)
theorem KpH.store {B b : Nat} {X : World} {ty : TypeId} {v u : Value} (h : Boxed X b ty v) (hB : B ≤ b) (hT : ¬ Held ty) : KpH B X (X.setCell ⟨b, 0, none⟩ u) :=
  KpH.grown (grownBy_setCell' X b u) (by have := h.lt; omega) (fun k e => by cases e; exact hB) (fun k cs ty' fr e hk => by cases e; rw [show X.heap[b]? = _ from h] at hk; cases hk; exact hT)
theorem kpH_own {β : Type} {B C : Nat} {W0 : World} (hW : B ≤ W0.heap.size) (hBC : B ≤ C) : OwnFrom C (fun (_ : β) W => KpH B W0 W) := fun _ X Y row hs hg hr =>
  hs.trans (KpH.grown hg (Nat.le_trans hW hs.bel.size) (fun k e => Nat.le_trans hBC (hr k e).1) (fun k cs ty fr e hk _ => by obtain ⟨o, ho, hc⟩ := (hr k e).2; rw [hk] at ho; cases ho; cases hc))
theorem own_below {β : Type} {B : Nat} {I : β → World → Prop} (h : OwnFrom B I) {s : β} {X Y : World} (hs : I s X) (hb : Below X.heap.size X Y) : I s Y :=
  h s X Y none hs ⟨hb.os, hb.tape, hb.output, hb.size, fun k hk _ => hb.block k hk⟩ (fun r e => by cases e)

set_option maxHeartbeats 1000000 in
theorem atoms_any (p : ByteArray) (x y : Value) (w : World) :
    Calls Try.prog 19 #[.agg #[.string p, x, y]] w fun e w' => e = .returned (.func (.func 20) #[] #[.pointer (some ⟨w.heap.size, 0, none⟩)]) ∧ w' = w.alloc (.cells #[.string p, x, y] 46) := by
  go_enter Try.func19, Try.ntmps19
  go_wp2
  go_ret
  exact ⟨rfl, rfl⟩

set_option maxHeartbeats 4000000 in
/-- What atoms hands back. -/
theorem atoms_iter {W0 : World} (r : Ru) (x y : Value) (hx : Tms W0 x r.head.args) (hy : Lts W0 y r.body) {w : World} (h0 : Below W0.heap.size W0 w) (Bx : Nat)
    (hbox : w.heap[Bx]? = some (Obj.cells #[.string r.head.p, x, y] 46 (0, 0))) :
    Iter Try.prog 20 #[.pointer (some ⟨Bx, 0, none⟩)] encAm (KpH W0.heap.size) (atomsL r) w := by
  intro l J Jx W hW hJ hJx hY hJ0 n
  obtain ⟨⟨p, args⟩, body⟩ := r
  simp only at hx hy hbox
  have hbW : W.heap[Bx]? = some (Obj.cells #[.string p, x, y] 46 (0, 0)) := (hW.block Bx (Array.getElem?_eq_some_iff.1 hbox).1).trans hbox
  have hK0 : KpH W0.heap.size W0 W := KpH.below (h0.trans (hW.mono h0.size)) (Nat.le_refl _)
  obtain ⟨xo, xc, rfl, hxc, -⟩ := hx.form
  obtain ⟨yo, yc, rfl, hyc, hym⟩ := hy.form
  have c0 : W.cell? ⟨Bx, 0, none⟩ = some (.string p) := by rw [cell_of_row W Bx 0 _ _ _ hbW]; rfl
  have c1 : W.cell? ⟨Bx, 1, none⟩ = some (.slice xo args.length xc) := by rw [cell_of_row W Bx 1 _ _ _ hbW]; rfl
  have HY := Lib.hid hY
  have HYL := Lib.hid hy
  have HJ := Lib.hid hJ
  have HK0 := Lib.hid hK0
  have HC := Lib.hid hyc
  have HM := Lib.hid hym
  have HB := Lib.hid hbW
  have HW := Lib.hid h0
  obtain ⟨fn, tmps, assign, body', hy1, hR⟩ := hY [] ⟨p, args⟩ (bodyAts body) _ W (n - 1) rfl ⟨xo, xc, rfl, hxc⟩ hJ0
  clear hY hy hJ hK0 hyc hym h0 hbox hW
  refine callsIn_of_wp Try.func20 rfl trivial ?_ rfl
  simp only [Try.ntmps20, List.size_toArray, List.length_cons, List.length_nil, Nat.reduceAdd, Nat.reduceSub, Array.replicate_succ, Array.replicate_zero, List.push_toArray, List.append_toArray, List.nil_append, List.cons_append]
  gi_wp2
  refine ⟨fun h => (by cases h), hR.mono ?_⟩
  rintro e W3 ⟨-, (⟨rfl, hJ3, hk3⟩ | ⟨rfl, hJx3⟩)⟩
  · have d2 : W3.cell? ⟨Bx, 2, none⟩ = some (.slice yo body.length yc) := by
      rw [cell_of_row W3 Bx 2 _ _ _ (hk3.held Bx _ _ _ HB.out (.inr (.inl rfl)))]; rfl
    have HJ3 := Lib.hid hJ3
    have HK3 := Lib.hid (HK0.out.trans hk3)
    clear hy1 hR hJ3 hk3 c0 c1
    gi_wp2
    gi_loopw [13] (fun i wr => ∃ k : Nat, i = .int .i64 (k : Int) ∧ Hid (k ≤ body.length ∧ KpH W0.heap.size W0 wr ∧ J (⟨p, args⟩ :: bodyAts (body.take k)) wr))
      (fun i _ => body.length - (intOf i).toNat)
    case atStart =>
      exact ⟨0, rfl, Lib.hid ⟨by omega, HK3.out, HJ3.out⟩⟩
    case round =>
      obtain ⟨k, rfl, HH⟩ := hrel
      have hm := HM.out
      have hc := HC.out
      have hkm : k ≤ body.length := HH.out.1
      simp only [maxLen] at hm
      by_cases hk : k < body.length
      · have e1 : (k : Int) < (body.length : Int) := by omega
        have hyr : Lts wr (.slice yo body.length yc) body := HYL.out.below stayLt HH.out.2.1.bel
        obtain ⟨b, off, cs, rfl, hbl, ⟨xa, rfl, hxa⟩, hcell⟩ := hyr.at k hk
        obtain ⟨xao, xac, rfl, hxac, -⟩ := hxa.form
        have q0 := hcell 0 _ rfl
        have q1 := hcell 1 _ rfl
        have q2 := hcell 2 _ rfl
        have q3 := hcell 3 _ rfl
        have q4 := hcell 4 _ rfl
        have q5 := hcell 5 _ rfl
        have q6 := hcell 6 _ rfl
        have q7 := hcell 7 _ rfl
        have q8 := hcell 8 _ rfl
        have q9 := hcell 9 _ rfl
        have q10 := hcell 10 _ rfl
        have q11 := hcell 11 _ rfl
        have q12 := hcell 12 _ rfl
        have q13 := hcell 13 _ rfl
        simp only [Nat.add_zero] at q0
        have HS : Hid (isAt (body[k]'hk) = true → ∃ rest, atomsL ⟨⟨p, args⟩, body⟩ = (⟨p, args⟩ :: bodyAts (body.take k)) ++ (body[k]'hk).atom :: rest) := fun h => by
          obtain ⟨rest, e⟩ := bodyAts_take hk h
          exact ⟨rest, by simp [atomsL, e]⟩
        have HT1 : Hid (bodyAts (body.take (k + 1)) = if isAt (body[k]'hk) then bodyAts (body.take k) ++ [(body[k]'hk).atom] else bodyAts (body.take k)) := by
          show _ = _
          rw [List.take_succ_eq_append_getElem hk]
          split
          · rename_i h; exact bodyAts_snoc_yes _ h
          · rename_i h; exact bodyAts_snoc_no _ (by simpa using h)
        clear hcell hxa
        obtain ⟨t, ht⟩ : ∃ t, t = body[k]'hk := ⟨_, rfl⟩
        rw [← ht] at q0 q1 q2 q3 q4 q5 q6 q7 q8 q9 q10 q11 q12 q13 HS HT1 hxac
        clear ht
        have HA := Lib.hid (hasAtom_any t (.slice xao t.atom.args.length xac) (wr.alloc (.cells (LtC t (.slice xao t.atom.args.length xac)).toArray 54)))
        have HX := Lib.hid hxac
        have HP := Lib.hid (show W0.heap.size ≤ wr.heap.size from HH.out.2.1.bel.size)
        clear hxac
        obtain ⟨tkind, ⟨tp, targs⟩, top, ⟨lv, lname, lk, ls, ln⟩, ⟨rv, rname, rk, rs, rn⟩⟩ := t
        simp only [LtC] at q0 q1 q2 q3 q4 q5 q6 q7 q8 q9 q10 q11 q12 q13 HS HT1 HA HX
        by_cases hat : isAt ⟨tkind, ⟨tp, targs⟩, top, ⟨lv, lname, lk, ls, ln⟩, ⟨rv, rname, rk, rs, rn⟩⟩ = true
        · rw [hat] at HA HT1
          rw [if_pos rfl] at HT1
          obtain ⟨rest, hrest⟩ := HS.out hat
          have HREST := Lib.hid hrest
          clear hat hrest HS
          gi_wp2_with (first
            | (refine ⟨trivial, fun h => (by cases h), ?_⟩; gi_at_call 21; refine (callsIn_wide.2 HA.out).mono ?_; clear HA; rintro e w1 ⟨rfl, hb1⟩
               have HB1 : Hid (Below wr.heap.size wr w1) := (al_bel wr _).trans (hb1.mono (by simp))
               have hbk := (Blk.new wr _ 54).below hb1
               have z1 := hbk.cell 1
               have z2 := hbk.cell 2
               clear hbk hb1
               obtain ⟨fn, tmps, assign, body', hy1, hR⟩ := HY.out _ _ _ _ w1 (n - 1) HREST.out ⟨xao, xac, rfl, HX.out⟩ (own_below HJ.out HH.out.2.2 HB1.out))
            | (refine ⟨fun h => (by cases h), hR.mono ?_⟩; clear hR; rintro e w2 ⟨-, (⟨rfl, hJ2, hk2⟩ | ⟨rfl, hJx2⟩)⟩))
          · have HJ4 := Lib.hid hJ2
            have HK4 := Lib.hid (HH.out.2.1.trans ((KpH.below HB1.out HP.out).trans hk2))
            rw [List.cons_append, ← HT1.out] at HJ4
            clear hJ2 hk2 hy1
            gi_wp2
            go_roundw
            case rel => exact ⟨k + 1, by simp, Lib.hid ⟨by omega, HK4.out, HJ4.out⟩⟩
            case measure => simp [intOf]; omega
          · gi_wp2
            refine bodyPost_ret (results_none rfl _ _ _) rfl ?_
            exact ⟨⟨_, rfl⟩, .inr ⟨_, ⟨rest, by rw [HREST.out]; simp⟩, hJx2⟩⟩
        · rw [Bool.not_eq_true] at hat
          rw [hat] at HA HT1
          rw [if_neg (by simp)] at HT1
          clear hat HS
          gi_wp2_with (first
            | (refine ⟨trivial, fun h => (by cases h), ?_⟩; gi_at_call 21; refine (callsIn_wide.2 HA.out).mono ?_; clear HA; rintro e w1 ⟨rfl, hb1⟩
               have HB1 : Hid (Below wr.heap.size wr w1) := (al_bel wr _).trans (hb1.mono (by simp))))
          have HJ4 := Lib.hid (own_below HJ.out HH.out.2.2 HB1.out)
          have HK4 := Lib.hid (HH.out.2.1.trans (KpH.below HB1.out HP.out))
          rw [← HT1.out] at HJ4
          refine ⟨fun _ h => (by cases h), ?_⟩
          gi_wp2
          go_roundw
          case rel => exact ⟨k + 1, by simp, Lib.hid ⟨by omega, HK4.out, HJ4.out⟩⟩
          case measure => simp [intOf]; omega
      · have e1 : ¬ (k : Int) < (body.length : Int) := by omega
        gi_wp2
        go_end0
        have : k = body.length := by omega
        subst this
        exact ⟨⟨_, rfl⟩, .inl (by have := HH.out.2.2; rw [List.take_length] at this; exact this)⟩
  · gi_wp2
    refine bodyPost_ret (results_none rfl _ _ _) rfl ?_
    exact ⟨⟨_, rfl⟩, .inr ⟨[⟨p, args⟩], ⟨bodyAts body, rfl⟩, hJx3⟩⟩
end Go.Proofs.Ytadccjcmiajdeaa
