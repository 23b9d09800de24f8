/-
  How a text that is put together of tokens' texts is scanned: what stands first is read as it was, whatever it is that follows. Plain facts; no walk.
  What a program's text is, and how it is scanned. Plain facts; no walk.
  What may be is printed, and parsed as it was. Plain facts; no walk.
  What may be is printed, and parsed as it was: literals, rules, declarations, programs. Plain facts; no walk.
  What is scanned: a variable's name is a name of a great letter, a number is one of 64 bits. Plain facts; no walk.
  What was parsed may be. Plain facts; no walk.
  Programs in memory that is read: lists of terms, literals, rules, declarations (RdL); how much they hold. Plain facts; no walk.
  What was parsed is not too much: each text is as long as a text can be that is scanned. Plain facts; no walk.
  What may be, as answers of yes and no; terms held against terms. Plain facts; no walk.
-/
import Derived.Test.YtbbmihojfcofdaaGreatDoorKBackP
import Derived.Test.YtbbmihojfcofdaaGreatDoorGPlain
import Derived.Test.YtbbmihojfcofdaaGreatDoorGWhole
import Derived.Test.YtbbmihojfcofdaaGreatDoorGMem
import Derived.Test.YtbbmihojfcofdaaGreatDoorKDig
import Derived.Maps.OwnSet
import Derived.DeepKeys5
import Derived.DeepKeys3
namespace Go.Proofs.YtbbmihojfcofdaaGreatDoor
set_option linter.unusedSimpArgs false
set_option linter.unusedVariables false
set_option linter.unusedSectionVars false
set_option maxRecDepth 100000
open Go.RowKit

/-- A token without its place. -/
def Tk.bare (t : Tk) : Tk := ⟨t.kind, t.s, t.n, t.q, 0⟩
theorem bare_put (t : Tk) (p : Nat) : (t.put p).bare = t.bare := rfl
/-- In a text that begins with x these are the first tokens, and then come those of the rest. -/
def Scans (x : List UInt8) (T : List Tk) (r : List UInt8) : Prop :=
  ∀ p, ∃ T', scanAt p (x ++ r) = Res.app T' (scanAt (p + x.length) r) ∧ T'.map Tk.bare = T
theorem app_app (A B : List Tk) (r : Res) : Res.app A (Res.app B r) = Res.app (A ++ B) r := by
  unfold Res.app
  by_cases h : r.bad = 0
  · rw [if_pos h, if_pos h, if_pos rfl]; simp
  · rw [if_neg h, if_neg h, if_neg h]
theorem Scans.app {x y r : List UInt8} {T U : List Tk} (h : Scans x T (y ++ r)) (k : Scans y U r) : Scans (x ++ y) (T ++ U) r := by
  intro p
  obtain ⟨A, hA, eA⟩ := h p
  obtain ⟨B, hB, eB⟩ := k (p + x.length)
  refine ⟨A ++ B, ?_, by simp [eA, eB]⟩
  rw [List.append_assoc, hA, hB, app_app, List.length_append, Nat.add_assoc]
theorem app_none (p : Nat) (l : List UInt8) : Res.app [] (scanAt p l) = scanAt p l := Res.app_nil (scanF_pl (l.length + 1) p l)
theorem scans_nil (r : List UInt8) : Scans [] [] r := fun p => ⟨[], (app_none p r).symm, rfl⟩
theorem scans_blank (r : List UInt8) : Scans [32] [] r := fun p => ⟨[], (scan_blank p r).trans (app_none (p + 1) r).symm, rfl⟩
theorem scan_line10 (p : Nat) (l : List UInt8) : scanAt p (10 :: l) = scanAt (p + 1) l := by
  rw [scanAt_skip p, skipS_blank rfl, scanAt_skip (p + 1), Nat.add_comm 1, List.drop_succ_cons]
  congr 1
  omega
theorem scans_line (r : List UInt8) : Scans [10] [] r := fun p => ⟨[], (scan_line10 p r).trans (app_none (p + 1) r).symm, rfl⟩
theorem scans_one {x r : List UInt8} {t : Tk} (h0 : ∃ c u, x = c :: u ∧ blankQ c = false ∧ c ≠ 37) (h : oneL (x ++ r) = ⟨0, t, x.length⟩) : Scans x [t.bare] r := by
  intro p
  obtain ⟨c, u, e, hb, h37⟩ := h0
  have hs : skipS false (x ++ r) = 0 := by rw [e, List.cons_append]; exact skipS_no hb (by simpa using h37) _
  refine ⟨[t.put p], ?_, rfl⟩
  rw [scanAt_eq, hs]
  simp only [List.drop_zero, Nat.add_zero, Nat.zero_add]
  have hn : ¬ (x ++ r).length ≤ 0 := by rw [e]; simp
  rw [h, if_neg hn, if_pos rfl]
  have ed : (x ++ r).drop x.length = r := by simp
  rw [ed]
  simp [Res.cons, Res.app]

/-- What follows goes on with no name and no number. -/
def Stop (r : List UInt8) : Prop := innerQ (r.headD 32) = false
theorem run_stop (f : UInt8 → Bool) (t r : List UInt8) (h : ∀ x ∈ t, f x = true) (hc : f (r.headD 32) = false) : runLen f (t ++ r) = t.length := by
  cases r with
  | nil =>
    rw [List.append_nil]
    clear hc
    induction t with
    | nil => rfl
    | cons a t ih =>
      have ha := h a (by simp)
      have := ih (fun x hx => h x (by simp [hx]))
      simp [runLen, ha] at this ⊢
      exact this
  | cons c r => exact runLen_all f t r c h hc
theorem Stop.fig {r : List UInt8} (h : Stop r) : figureQ (r.headD 32) = false := by
  unfold Stop innerQ at h
  simp only [Bool.or_eq_false_iff] at h
  exact h.1.2
theorem small_head {c : UInt8} (h : smallQ c = true) : blankQ c = false ∧ c ≠ 37 ∧ innerQ c = true := by
  refine ⟨?_, fun e => ?_, by simp [innerQ, h]⟩
  · simp only [blankQ, Bool.or_eq_false_iff, beq_eq_false_iff_ne]
    refine ⟨⟨⟨?_, ?_⟩, ?_⟩, ?_⟩ <;> (rintro rfl; revert h; decide)
  · subst e; revert h; decide
theorem great_head {c : UInt8} (h : greatQ c = true) : blankQ c = false ∧ c ≠ 37 ∧ innerQ c = true ∧ smallQ c = false := by
  refine ⟨?_, fun e => ?_, by simp [innerQ, h], ?_⟩
  · simp only [blankQ, Bool.or_eq_false_iff, beq_eq_false_iff_ne]
    refine ⟨⟨⟨?_, ?_⟩, ?_⟩, ?_⟩ <;> (rintro rfl; revert h; decide)
  · subst e; revert h; decide
  · simp [greatQ] at h
    simp [smallQ]; omega
theorem nameL_all (k : Int) {l r : List UInt8} (h : ∀ x ∈ l, innerQ x = true) (h32 : l.length ≤ 32) (hr : Stop r) : nameL k (l ++ r) = ⟨0, ⟨k, ⟨l.toArray⟩, 0, false, 0⟩, l.length⟩ := by
  unfold nameL
  rw [run_stop innerQ l r h hr, if_neg (by omega)]
  simp
theorem scans_name {c : UInt8} {l r : List UInt8} (hc : smallQ c = true) (h : ∀ x ∈ l, innerQ x = true) (h32 : l.length < 32) (hr : Stop r) : Scans (c :: l) [⟨1, ⟨(c :: l).toArray⟩, 0, false, 0⟩] r := by
  have hk := small_head hc
  refine scans_one (t := ⟨1, ⟨(c :: l).toArray⟩, 0, false, 0⟩) ⟨c, l, rfl, hk.1, hk.2.1⟩ ?_
  rw [List.cons_append, oneL_cons]
  unfold oneC
  rw [if_pos hc]
  exact nameL_all 1 (l := c :: l) (fun x hx => by rcases List.mem_cons.1 hx with rfl | hx; exact hk.2.2; exact h x hx) (by simp; omega) hr
theorem scans_var {c : UInt8} {l r : List UInt8} (hc : greatQ c = true) (h : ∀ x ∈ l, innerQ x = true) (h32 : l.length < 32) (hr : Stop r) : Scans (c :: l) [⟨2, ⟨(c :: l).toArray⟩, 0, false, 0⟩] r := by
  have hk := great_head hc
  refine scans_one (t := ⟨2, ⟨(c :: l).toArray⟩, 0, false, 0⟩) ⟨c, l, rfl, hk.1, hk.2.1⟩ ?_
  rw [List.cons_append, oneL_cons]
  unfold oneC
  rw [if_neg (by simp [hk.2.2.2]), if_pos hc]
  exact nameL_all 2 (l := c :: l) (fun x hx => by rcases List.mem_cons.1 hx with rfl | hx; exact hk.2.2.1; exact h x hx) (by simp; omega) hr
theorem scans_quote (l r : List UInt8) : Scans (quoteL l) [⟨1, ⟨l.toArray⟩, 0, true, 0⟩] r := by
  refine scans_one (t := ⟨1, ⟨l.toArray⟩, 0, true, 0⟩) ⟨39, _, rfl, rfl, by decide⟩ ?_
  have e : quoteL l ++ r = 39 :: (escL l ++ 39 :: r) := by simp [quoteL]
  rw [e, oneL_cons]
  unfold oneC
  rw [if_neg (by decide), if_neg (by decide), if_pos rfl]
  unfold quoL
  rw [List.tail_cons, quoS_quote]
  simp [quoOf, quoteL]
theorem scans_num {n : Int} (hn : InR n) {r : List UInt8} (hr : Stop r) : Scans (Lib.itoa n) [⟨3, ⟨#[]⟩, n, false, 0⟩] r := by
  have hp := parse_itoa hn
  obtain ⟨c, t, e, ht, hc⟩ := itoa_form n
  rw [e] at hp ⊢
  have hk := fig_kind (c := c) (hc.elim .inl (fun h => .inr h.1))
  have hrun : runLen figureQ (t ++ r) = t.length := run_stop _ _ _ ht hr.fig
  refine scans_one (t := ⟨3, ⟨#[]⟩, n, false, 0⟩) ⟨c, t, rfl, hk.2.2.2.1, hk.2.2.2.2⟩ ?_
  rw [List.cons_append, oneL_cons]
  unfold oneC
  rw [if_neg (by simp [hk.1]), if_neg (by simp [hk.2.1]), if_neg hk.2.2.1, if_pos]
  · unfold numL
    rw [List.tail_cons, hrun]
    have e2 : (c :: (t ++ r)).take (1 + t.length) = c :: t := by rw [Nat.add_comm]; simp
    rw [e2, numOf_ok hp]
    simp; omega
  · rcases hc with hc | ⟨rfl, h0⟩
    · simp [hc]
    · have : 0 < t.length := by cases t with
        | nil => exact absurd rfl h0
        | cons a t => simp
      rw [hrun]; simp [this]
/-- A mark of one byte that begins no longer one. -/
theorem scans_mark {c : UInt8} (h : c = 40 ∨ c = 41 ∨ c = 44 ∨ c = 46 ∨ c = 47) (r : List UInt8) : Scans [c] [⟨4, ⟨#[c]⟩, 0, false, 0⟩] r := by
  refine scans_one (t := ⟨4, ⟨#[c]⟩, 0, false, 0⟩) ⟨c, [], rfl, by rcases h with rfl | rfl | rfl | rfl | rfl <;> decide, by rcases h with rfl | rfl | rfl | rfl | rfl <;> decide⟩ ?_
  rcases h with rfl | rfl | rfl | rfl | rfl <;> rfl
/-- Marks with a blank behind. -/
theorem scans_sign {m : List UInt8} (h : m ∈ [[58, 45], [61], [33, 61], [60], [60, 61], [62], [62, 61]]) (r : List UInt8) : Scans (m ++ [32]) [⟨4, ⟨m.toArray⟩, 0, false, 0⟩] r := by
  have h1 : Scans m [⟨4, ⟨m.toArray⟩, 0, false, 0⟩] ([32] ++ r) := by
    simp only [List.mem_cons, List.not_mem_nil, or_false] at h
    refine scans_one (t := ⟨4, ⟨m.toArray⟩, 0, false, 0⟩) ?_ ?_
    · rcases h with rfl | rfl | rfl | rfl | rfl | rfl | rfl <;> exact ⟨_, _, rfl, by decide, by decide⟩
    · rcases h with rfl | rfl | rfl | rfl | rfl | rfl | rfl <;> rfl
  exact h1.app (scans_blank r)
end Go.Proofs.YtbbmihojfcofdaaGreatDoor

namespace Go.Proofs.YtbbmihojfcofdaaGreatDoor
set_option linter.unusedSimpArgs false
set_option linter.unusedVariables false
set_option linter.unusedSectionVars false
set_option maxRecDepth 100000
open Go.RowKit

/-- With a comma and a blank between. -/
def sepTx {α : Type} (f : α → List UInt8) : List α → List UInt8
  | [] => []
  | [a] => f a
  | a :: b :: r => f a ++ ([44] ++ ([32] ++ sepTx f (b :: r)))
def commaT : Tk := ⟨4, ⟨#[44]⟩, 0, false, 0⟩
def sepT {α : Type} (g : α → List Tk) : List α → List Tk
  | [] => []
  | [a] => g a
  | a :: b :: r => g a ++ ([commaT] ++ ([] ++ sepT g (b :: r)))
theorem stop_of {c : UInt8} (h : innerQ c = false) (r : List UInt8) : Stop (c :: r) := h
theorem scans_sep {α : Type} {f : α → List UInt8} {g : α → List Tk} {r : List UInt8} (hr : Stop r) :
    ∀ X : List α, (∀ a ∈ X, ∀ r, Stop r → Scans (f a) (g a) r) → Scans (sepTx f X) (sepT g X) r
  | [], _ => scans_nil r
  | [a], h => h a (by simp) r hr
  | a :: b :: X, h =>
    (h a (by simp) _ (stop_of (by decide) _)).app (Scans.app (scans_mark (by simp) _) (Scans.app (scans_blank _) (scans_sep hr (b :: X) (fun x hx => h x (by simp at hx ⊢; exact .inr hx)))))

/-- A name of a small letter, and one of a great. -/
def SmallNm (l : List UInt8) : Prop := ∃ c u, l = c :: u ∧ smallQ c = true ∧ (∀ x ∈ u, innerQ x = true) ∧ u.length < 32
def GreatNm (l : List UInt8) : Prop := ∃ c u, l = c :: u ∧ greatQ c = true ∧ (∀ x ∈ u, innerQ x = true) ∧ u.length < 32
theorem toArray_id (s : ByteArray) : (⟨s.data.toList.toArray⟩ : ByteArray) = s := by simp
theorem scans_small {s : ByteArray} (h : SmallNm s.data.toList) {r : List UInt8} (hr : Stop r) : Scans s.data.toList [⟨1, s, 0, false, 0⟩] r := by
  obtain ⟨c, u, e, hc, hu, hl⟩ := h
  have := scans_name (l := u) hc hu hl hr
  rw [← e, toArray_id] at this
  exact this
theorem scans_great {s : ByteArray} (h : GreatNm s.data.toList) {r : List UInt8} (hr : Stop r) : Scans s.data.toList [⟨2, s, 0, false, 0⟩] r := by
  obtain ⟨c, u, e, hc, hu, hl⟩ := h
  have := scans_var (l := u) hc hu hl hr
  rw [← e, toArray_id] at this
  exact this
theorem small_same (c : UInt8) : smallB (c.toNat : Int) = smallQ c := by
  unfold smallB smallQ
  congr 1 <;> (apply decide_eq_decide.2; omega)
theorem inner_same (c : UInt8) : nameB (c.toNat : Int) = true → innerQ c = true := by
  unfold nameB innerQ
  rw [small_same]
  simp only [Bool.or_eq_true, Bool.and_eq_true, decide_eq_true_eq, beq_iff_eq, greatQ, figureQ]
  rintro (((h | h) | h) | h)
  · exact .inl (.inl (.inl h))
  · exact .inl (.inl (.inr ⟨by omega, by omega⟩))
  · exact .inl (.inr ⟨by omega, by omega⟩)
  · exact .inr (UInt8.toNat_inj.1 (by simp; omega))
theorem small_plain {l : List UInt8} (h : shortPlain l = true) : SmallNm l ∧ l ≠ [110, 111, 116] := by
  unfold shortPlain at h
  simp only [Bool.and_eq_true, decide_eq_true_eq] at h
  obtain ⟨h32, h⟩ := h
  cases l with
  | nil => simp [plainL] at h
  | cons c u =>
    unfold plainL at h
    simp only [Bool.and_eq_true, Bool.not_eq_true', beq_eq_false_iff_ne] at h
    obtain ⟨⟨h1, h2⟩, h3⟩ := h
    rw [small_same] at h1
    refine ⟨⟨c, u, rfl, h1, fun x hx => inner_same x ?_, by simp at h32; omega⟩, h3⟩
    unfold nameAt at h2
    exact List.all_eq_true.1 h2 x (by simp [hx])

/-- A term that may be. -/
def MayTm (t : Tm) : Prop :=
  InR t.n ∧ ((t.v = true ∧ GreatNm t.name.data.toList ∧ t.k = false ∧ t.s = ⟨#[]⟩ ∧ t.n = 0) ∨ (t.v = false ∧ t.name = ⟨#[]⟩ ∧ ((t.k = true ∧ t.n = 0) ∨ (t.k = false ∧ t.s = ⟨#[]⟩))))
def termTx (t : Tm) : List UInt8 := if t.v then t.name.data.toList else textL t.k t.s.data.toList t.n
def termTk (t : Tm) : Tk := if t.v then ⟨2, t.name, 0, false, 0⟩ else if t.k then ⟨1, t.s, 0, !shortPlain t.s.data.toList, 0⟩ else ⟨3, ⟨#[]⟩, t.n, false, 0⟩
theorem scans_term {t : Tm} (h : MayTm t) {r : List UInt8} (hr : Stop r) : Scans (termTx t) [termTk t] r := by
  obtain ⟨hn, h⟩ := h
  unfold termTx termTk
  rcases h with ⟨hv, hg, -⟩ | ⟨hv, -, ⟨hk, -⟩ | ⟨hk, -⟩⟩
  · rw [hv]
    exact scans_great hg hr
  · rw [hv, hk]
    unfold textL
    by_cases hp : shortPlain t.s.data.toList = true
    · simp only [hp, if_true]
      exact scans_small (small_plain hp).1 hr
    · have hp' : shortPlain t.s.data.toList = false := by simpa using hp
      simp only [hp']
      have := scans_quote t.s.data.toList r
      rw [toArray_id] at this
      exact this
  · rw [hv, hk]
    exact scans_num hn hr

/-- An atom that may be. -/
def MayAm (a : Am) : Prop := shortPlain a.p.data.toList = true ∧ a.args.length ≤ 6 ∧ ∀ t ∈ a.args, MayTm t
def argsTx (X : List Tm) : List UInt8 := if X = [] then [] else [40] ++ (sepTx termTx X ++ [41])
def markOf1 (c : UInt8) : Tk := ⟨4, ⟨#[c]⟩, 0, false, 0⟩
def argsT (X : List Tm) : List Tk := if X = [] then [] else [markOf1 40] ++ (sepT (fun t => [termTk t]) X ++ [markOf1 41])
def atomTx (a : Am) : List UInt8 := a.p.data.toList ++ argsTx a.args
def nameTk (p : ByteArray) : Tk := ⟨1, p, 0, false, 0⟩
def atomTs (a : Am) : List Tk := [nameTk a.p] ++ argsT a.args
theorem scans_atom {a : Am} (h : MayAm a) {r : List UInt8} (hr : Stop r) : Scans (atomTx a) (atomTs a) r := by
  obtain ⟨hp, -, ht⟩ := h
  unfold atomTx atomTs argsTx argsT
  by_cases h0 : a.args = []
  · rw [if_pos h0, if_pos h0]
    exact Scans.app (scans_small (small_plain hp).1 hr) (scans_nil r)
  · rw [if_neg h0, if_neg h0]
    refine Scans.app (scans_small (small_plain hp).1 (stop_of (by decide) _)) (Scans.app (scans_mark (by simp) _) (Scans.app (scans_sep (stop_of (by decide) _) _ (fun t htm r hr => scans_term (ht t htm) hr)) (scans_mark (by simp) _)))

/-- A literal that may be. -/
def MayLt (l : Lt) : Prop :=
  ((l.kind = 1 ∨ l.kind = 2) ∧ l.op = ⟨#[]⟩ ∧ l.l = Tm.zero ∧ l.r = Tm.zero ∧ MayAm l.atom) ∨ (l.kind = 3 ∧ l.op.data.toList ∈ opsL ∧ l.atom = Am.zero ∧ MayTm l.l ∧ MayTm l.r)
def litTx (l : Lt) : List UInt8 :=
  if l.kind = 1 then atomTx l.atom else if l.kind = 2 then [110, 111, 116] ++ ([32] ++ atomTx l.atom)
  else if l.kind = 3 then termTx l.l ++ ([32] ++ ((l.op.data.toList ++ [32]) ++ termTx l.r)) else []
def notTk : Tk := ⟨1, ⟨#[110, 111, 116]⟩, 0, false, 0⟩
def opTk (o : ByteArray) : Tk := ⟨4, o, 0, false, 0⟩
def litTs (l : Lt) : List Tk :=
  if l.kind = 1 then atomTs l.atom else if l.kind = 2 then [notTk] ++ ([] ++ atomTs l.atom)
  else if l.kind = 3 then [termTk l.l] ++ ([] ++ ([opTk l.op] ++ [termTk l.r])) else []
theorem scans_op {o : ByteArray} (h : o.data.toList ∈ opsL) (r : List UInt8) : Scans (o.data.toList ++ [32]) [opTk o] r := by
  have := scans_sign (m := o.data.toList) (List.mem_cons_of_mem _ h) r
  rw [toArray_id] at this
  exact this
theorem scans_lit {l : Lt} (h : MayLt l) {r : List UInt8} (hr : Stop r) : Scans (litTx l) (litTs l) r := by
  unfold litTx litTs
  rcases h with ⟨hk | hk, -, -, -, ha⟩ | ⟨hk, ho, -, h1, h2⟩
  · rw [if_pos hk, if_pos hk]
    exact scans_atom ha hr
  · rw [if_neg (by omega), if_pos hk, if_neg (by omega), if_pos hk]
    exact Scans.app (scans_name (c := 110) (l := [111, 116]) (by decide) (by decide) (by decide) (stop_of (by decide) _)) (Scans.app (scans_blank _) (scans_atom ha hr))
  · rw [if_neg (by omega), if_neg (by omega), if_pos hk, if_neg (by omega), if_neg (by omega), if_pos hk]
    exact Scans.app (scans_term h1 (stop_of (by decide) _)) (Scans.app (scans_blank _) (Scans.app (scans_op ho _) (scans_term h2 hr)))

/-- A rule that may be. -/
def MayRu (r : Ru) : Prop := MayAm r.head ∧ r.body.length ≤ 8 ∧ ∀ l ∈ r.body, MayLt l
def bodyTx (X : List Lt) : List UInt8 := if X = [] then [] else [32] ++ (([58, 45] ++ [32]) ++ sepTx litTx X)
def ifTk : Tk := ⟨4, ⟨#[58, 45]⟩, 0, false, 0⟩
def bodyT (X : List Lt) : List Tk := if X = [] then [] else [] ++ ([ifTk] ++ sepT litTs X)
def ruleTx (r : Ru) : List UInt8 := atomTx r.head ++ (bodyTx r.body ++ [46])
def ruleT (r : Ru) : List Tk := atomTs r.head ++ (bodyT r.body ++ [markOf1 46])
theorem scans_rule {r : Ru} (h : MayRu r) (t : List UInt8) : Scans (ruleTx r) (ruleT r) t := by
  obtain ⟨hh, -, hb⟩ := h
  unfold ruleTx ruleT bodyTx bodyT
  by_cases h0 : r.body = []
  · rw [if_pos h0, if_pos h0]
    exact Scans.app (scans_atom hh (stop_of (by decide) _)) (Scans.app (scans_nil _) (scans_mark (by simp) _))
  · rw [if_neg h0, if_neg h0]
    exact Scans.app (scans_atom hh (stop_of (by decide) _)) (Scans.app (Scans.app (scans_blank _) (Scans.app (scans_sign (by simp) _) (scans_sep (stop_of (by decide) _) _ (fun l hl r hr => scans_lit (hb l hl) hr)))) (scans_mark (by simp) _))

/-- A declaration that may be. -/
def MayDe (d : De) : Prop := shortPlain d.p.data.toList = true ∧ 0 ≤ d.ar ∧ d.ar ≤ 6
def declTx (d : De) : List UInt8 := d.p.data.toList ++ ([47] ++ (Lib.itoa d.ar ++ [46]))
def figTk (n : Int) : Tk := ⟨3, ⟨#[]⟩, n, false, 0⟩
def declT (d : De) : List Tk := [nameTk d.p] ++ ([markOf1 47] ++ ([figTk d.ar] ++ [markOf1 46]))
theorem scans_decl {d : De} (h : MayDe d) (t : List UInt8) : Scans (declTx d) (declT d) t := by
  obtain ⟨hp, h1, h2⟩ := h
  exact Scans.app (scans_small (small_plain hp).1 (stop_of (by decide) _)) (Scans.app (scans_mark (by simp) _) (Scans.app (scans_num (by unfold InR; omega) (stop_of (by decide) _)) (scans_mark (by simp) _)))
theorem scans_flat {α : Type} {f : α → List UInt8} {g : α → List Tk} (r : List UInt8) : ∀ X : List α, (∀ a ∈ X, ∀ r, Scans (f a) (g a) r) → Scans (X.flatMap (fun a => f a ++ [10])) (X.flatMap g) r
  | [], _ => scans_nil r
  | a :: X, h => by
    have h1 : Scans (f a ++ [10]) (g a ++ []) ((X.flatMap (fun a => f a ++ [10])) ++ r) := (h a (by simp) _).app (scans_line _)
    rw [List.append_nil] at h1
    rw [List.flatMap_cons, List.flatMap_cons]
    exact h1.app (scans_flat r X (fun x hx => h x (by simp [hx])))

/-- A program that may be. -/
def MayPr (g : Pr) : Prop := g.decls.length ≤ 400 ∧ g.rules.length ≤ 400 ∧ (∀ d ∈ g.decls, MayDe d) ∧ ∀ r ∈ g.rules, MayRu r
def progTx (g : Pr) : List UInt8 := g.decls.flatMap (fun d => declTx d ++ [10]) ++ g.rules.flatMap (fun r => ruleTx r ++ [10])
def progT (g : Pr) : List Tk := g.decls.flatMap declT ++ g.rules.flatMap ruleT
theorem scans_prog {g : Pr} (h : MayPr g) (t : List UInt8) : Scans (progTx g) (progT g) t :=
  Scans.app (scans_flat _ _ (fun d hd r => scans_decl (h.2.2.1 d hd) r)) (scans_flat _ _ (fun x hx r => scans_rule (h.2.2.2 x hx) r))
theorem scan_prog {g : Pr} (h : MayPr g) : ∃ T, scanAt 0 (progTx g) = ⟨0, 0, T⟩ ∧ T.map Tk.bare = progT g := by
  obtain ⟨T, hT, hb⟩ := scans_prog h [] 0
  rw [List.append_nil] at hT
  have e : scanAt (0 + (progTx g).length) [] = ⟨0, 0, []⟩ := by rw [scanAt_eq]; rfl
  rw [e] at hT
  exact ⟨T, by rw [hT]; simp [Res.app], hb⟩
end Go.Proofs.YtbbmihojfcofdaaGreatDoor

namespace Go.Proofs.YtbbmihojfcofdaaGreatDoor
set_option linter.unusedSimpArgs false
set_option linter.unusedVariables false
set_option linter.unusedSectionVars false
set_option maxRecDepth 100000
open Go.RowKit

theorem at_zero (e : Int) (a : Tk) (L : List Tk) : atT e (a :: L) 0 = a := rfl
theorem at_one (e : Int) (a : Tk) (L : List Tk) : atT e (a :: L) 1 = atT e L 0 := by simp [atT]
theorem bare_one {A : List Tk} {x : Tk} (h : A.map Tk.bare = [x]) : ∃ a, A = [a] ∧ a.bare = x := by
  match A, h with
  | [a], h => exact ⟨a, rfl, by simpa using h⟩
theorem bare_cons {A X : List Tk} {x : Tk} (h : A.map Tk.bare = [x] ++ X) : ∃ a B, A = a :: B ∧ a.bare = x ∧ B.map Tk.bare = X := by
  match A, h with
  | a :: B, h =>
    simp only [List.map_cons, List.singleton_append, List.cons.injEq] at h
    exact ⟨a, B, rfl, h.1, h.2⟩
theorem bare_app {A X Y : List Tk} (h : A.map Tk.bare = X ++ Y) : ∃ B C, A = B ++ C ∧ B.map Tk.bare = X ∧ C.map Tk.bare = Y := by
  obtain ⟨B, C, h1, h2, h3⟩ := List.map_eq_append_iff.1 h
  exact ⟨B, C, h1, h2, h3⟩
theorem mk_bare (m : List UInt8) (t : Tk) : isMk m t = isMk m t.bare := rfl
theorem ng_bare (t : Tk) : isNg t = isNg t.bare := rfl
theorem nm_bare (t : Tk) : isNm t = isNm t.bare := rfl
theorem op_bare (t : Tk) : isOp t = isOp t.bare := rfl
theorem termT_bare (t : Tk) : termT t = termT t.bare := rfl

theorem termT_of {t : Tm} (h : MayTm t) : termT (termTk t) = some t := by
  obtain ⟨v, nm, k, s, n⟩ := t
  obtain ⟨-, ⟨hv, -, hk, hs, hn⟩ | ⟨hv, hnm, ⟨hk, hn⟩ | ⟨hk, hs⟩⟩⟩ := h
  · simp only at hv hk hs hn
    subst hv hk hs hn
    rfl
  · simp only at hv hnm hk hn
    subst hv hnm hk hn
    have hq : isNg ⟨1, s, 0, !shortPlain s.data.toList, 0⟩ = false := by
      unfold isNg
      by_cases e : s.data.toList = [110, 111, 116]
      · have : shortPlain [110, 111, 116] = false := by decide
        simp [e, this]
      · simp [e]
    simp [termTk, termT, hq]
  · simp only at hv hnm hk hs
    subst hv hnm hk hs
    rfl
theorem term_back {t : Tm} (h : MayTm t) (e : Int) {A : List Tk} (hA : A.map Tk.bare = [termTk t]) (L : List Tk) : termP e (A ++ L) = ⟨0, t, L⟩ := by
  obtain ⟨a, rfl, ha⟩ := bare_one hA
  unfold termP
  rw [List.singleton_append, at_zero, termT_bare, ha, termT_of h]
  rfl

/-- What follows goes on with no list and no comparison. -/
def Ends (e : Int) (L : List Tk) : Prop := isMk [40] (atT e L 0) = false ∧ isOp (atT e L 0) = false
theorem ends_of {e : Int} {a : Tk} {L : List Tk} {x : Tk} (h : a.bare = x) (h1 : isMk [40] x = false) (h2 : isOp x = false) : Ends e (a :: L) := by
  unfold Ends
  rw [at_zero, mk_bare, op_bare, h]
  exact ⟨h1, h2⟩
theorem list_back {α : Type} {rd : List Tk → Rd α} {g : α → List Tk} {e : Int} {L : List Tk} (hL : Ends e L) (hc : isMk [44] (atT e L 0) = false) :
    ∀ (X : List α) (n : Nat) (acc : List α) (A : List Tk), X ≠ [] → X.length ≤ n → (∀ a ∈ X, ∀ A L, A.map Tk.bare = g a → Ends e L → rd (A ++ L) = ⟨0, a, L⟩) →
    A.map Tk.bare = sepT g X → listP rd e n acc (A ++ L) = ⟨0, acc ++ X, L⟩
  | [a], n + 1, acc, A, _, _, hr, hA => by
    have := hr a (by simp) A L hA hL
    unfold listP
    rw [this]
    simp [hc]
  | a :: b :: X, n + 1, acc, A, _, hn, hr, hA => by
    obtain ⟨B, C, rfl, hB, hC⟩ := bare_app hA
    obtain ⟨c, D, rfl, hc', hD⟩ := bare_cons hC
    have h1 := hr a (by simp) B (c :: D ++ L) hB (ends_of hc' (by decide) (by decide))
    have h2 := list_back hL hc (b :: X) n (acc ++ [a]) D (by simp) (by simp at hn ⊢; omega) (fun x hx => hr x (by simp at hx ⊢; exact .inr hx)) (by simpa using hD)
    rw [List.append_assoc]
    unfold listP
    rw [h1]
    have hm : isMk [44] (atT e (c :: D ++ L) 0) = true := by rw [List.cons_append, at_zero, mk_bare, hc']; rfl
    simp only [hm, if_true]
    rw [List.cons_append, List.tail_cons, h2, List.append_assoc]
    rfl
  | [a], 0, _, _, _, hn, _, _ => by simp at hn
  | a :: b :: X, 0, _, _, _, hn, _, _ => by simp at hn

theorem nm_of {p : ByteArray} (h : shortPlain p.data.toList = true) : isNm (nameTk p) = true := by
  unfold shortPlain at h
  simp only [Bool.and_eq_true] at h
  simp [isNm, nameTk, h.2]
theorem ng_of {p : ByteArray} (h : shortPlain p.data.toList = true) : isNg (nameTk p) = false := by
  have := (small_plain h).2
  simp [isNg, nameTk, this]
theorem name_back {p : ByteArray} (h : shortPlain p.data.toList = true) (e : Int) {a : Tk} (ha : a.bare = nameTk p) (L : List Tk) : nameP e (a :: L) = ⟨0, p, L⟩ := by
  unfold nameP
  rw [at_zero, nm_bare, ha, nm_of h, if_pos rfl, List.tail_cons]
  have : a.s = p := by have := congrArg Tk.s ha; exact this
  rw [this]
theorem atom_back {a : Am} (h : MayAm a) (e : Int) {A : List Tk} (hA : A.map Tk.bare = atomTs a) {L : List Tk} (hL : Ends e L) : atomP e (A ++ L) = ⟨0, a, L⟩ := by
  obtain ⟨p, X⟩ := a
  obtain ⟨hp, hl, ht⟩ := h
  obtain ⟨x, B, rfl, hx, hB⟩ := bare_cons hA
  simp only at hp hl ht hx hB
  unfold atomP
  rw [List.cons_append, name_back hp e hx]
  simp only [if_true]
  unfold argsT at hB
  by_cases h0 : X = []
  · rw [if_pos h0] at hB
    have : B = [] := by simpa using hB
    subst this h0
    rw [List.nil_append, hL.1]
    rfl
  · rw [if_neg h0] at hB
    obtain ⟨y, C, rfl, hy, hC⟩ := bare_cons hB
    obtain ⟨D, Z, rfl, hD, hZ⟩ := bare_app hC
    obtain ⟨z, rfl, hz⟩ := bare_one hZ
    have hm : isMk [40] y = true := by rw [mk_bare, hy]; rfl
    have hzc : isMk [44] z = false := by rw [mk_bare, hz]; rfl
    have hz41 : isMk [41] z = true := by rw [mk_bare, hz]; rfl
    have h1 := list_back (rd := termP e) (g := fun t => [termTk t]) (e := e) (L := z :: L) (ends_of hz (by decide) (by decide)) (by rw [at_zero]; exact hzc) X 6 [] D h0 hl (fun t htm A L hA _ => term_back (ht t htm) e hA L) hD
    have e1 : y :: (D ++ [z]) ++ L = y :: (D ++ z :: L) := by simp
    rw [e1, at_zero, hm, if_pos rfl, List.tail_cons, h1]
    unfold argsP endP
    simp only [if_true]
    rw [at_zero, hz41, if_pos rfl]
    rfl
end Go.Proofs.YtbbmihojfcofdaaGreatDoor

namespace Go.Proofs.YtbbmihojfcofdaaGreatDoor
set_option linter.unusedSimpArgs false
set_option linter.unusedVariables false
set_option linter.unusedSectionVars false
set_option maxRecDepth 100000
open Go.RowKit

theorem op_is {o : ByteArray} (h : o.data.toList ∈ opsL) : isOp (opTk o) = true := by
  unfold isOp
  exact List.any_eq_true.2 ⟨_, h, by simp [isMk, opTk]⟩
theorem atomTs_head (a : Am) : ∃ X, atomTs a = [nameTk a.p] ++ X ∧ (X = [] ∨ ∃ Y, X = [markOf1 40] ++ Y) := by
  refine ⟨argsT a.args, rfl, ?_⟩
  unfold argsT
  split
  · exact .inl rfl
  · exact .inr ⟨_, rfl⟩
theorem ng_term (t : Tm) : isNg (termTk t) = false := by
  unfold termTk
  split
  · rfl
  split
  · unfold isNg
    by_cases e : t.s.data.toList = [110, 111, 116]
    · have : shortPlain [110, 111, 116] = false := by decide
      simp [e, this]
    · simp [e]
  · rfl
theorem lit_back {l : Lt} (h : MayLt l) (e : Int) {A : List Tk} (hA : A.map Tk.bare = litTs l) {L : List Tk} (hL : Ends e L) : litP e (A ++ L) = ⟨0, l, L⟩ := by
  obtain ⟨k, a, o, x, y⟩ := l
  unfold litTs at hA
  rcases h with ⟨hk | hk, ho, h1, h2, ha⟩ | ⟨hk, ho, ha, h1, h2⟩
  · simp only at hk ho h1 h2 ha
    subst hk ho h1 h2
    simp only [if_true] at hA
    have hat := atom_back ha e hA hL
    obtain ⟨X, hX, hXe⟩ := atomTs_head a
    rw [hX] at hA
    obtain ⟨b, B, rfl, hb, hB⟩ := bare_cons hA
    have hop : isOp (atT e (b :: B ++ L) 1) = false := by
      rw [List.cons_append, at_one]
      rcases hXe with rfl | ⟨Y, rfl⟩
      · have : B = [] := by simpa using hB
        subst this
        exact hL.2
      · obtain ⟨c, C, rfl, hc, -⟩ := bare_cons hB
        rw [List.cons_append, at_zero, op_bare, hc]
        decide
    unfold litP
    have hng : isNg (atT e (b :: B ++ L) 0) = false := by rw [List.cons_append, at_zero, ng_bare, hb]; exact ng_of ha.1
    have hnm : isNm (atT e (b :: B ++ L) 0) = true := by rw [List.cons_append, at_zero, nm_bare, hb]; exact nm_of ha.1
    rw [hng, if_neg (by decide), if_pos ⟨hnm, hop⟩, hat]
    rfl
  · simp only at hk ho h1 h2 ha
    subst hk ho h1 h2
    simp only [if_true] at hA
    rw [if_neg (by decide)] at hA
    obtain ⟨b, B, rfl, hb, hB⟩ := bare_cons hA
    have hat := atom_back ha e (A := B) (by simpa using hB) hL
    unfold litP
    have hng : isNg (atT e (b :: B ++ L) 0) = true := by rw [List.cons_append, at_zero, ng_bare, hb]; decide
    rw [hng, if_pos rfl, List.cons_append, List.tail_cons, hat]
    rfl
  · simp only at hk ho h1 h2 ha
    subst hk ha
    rw [if_neg (show ¬ ((3 : Int) = 1) by decide), if_neg (show ¬ ((3 : Int) = 2) by decide), if_pos rfl] at hA
    obtain ⟨b, B, rfl, hb, hB⟩ := bare_cons hA
    rw [List.nil_append] at hB
    obtain ⟨c, C, rfl, hc, hC⟩ := bare_cons hB
    have e1 : b :: c :: C ++ L = [b] ++ (c :: (C ++ L)) := by simp
    have t1 := term_back h1 e (A := [b]) (by simp [hb]) (c :: (C ++ L))
    have t2 := term_back h2 e hC L
    have hng : isNg (atT e ([b] ++ (c :: (C ++ L))) 0) = false := by rw [List.singleton_append, at_zero, ng_bare, hb]; exact ng_term x
    have hopc : isOp c = true := by rw [op_bare, hc]; exact op_is ho
    have hop1 : isOp (atT e ([b] ++ (c :: (C ++ L))) 1) = true := by rw [List.singleton_append, at_one, at_zero]; exact hopc
    have hcs : c.s = o := congrArg Tk.s hc
    rw [e1]
    unfold litP
    rw [hng, if_neg (by decide), if_neg (by rw [hop1]; simp)]
    unfold cmpP
    rw [t1]
    simp only [if_true]
    rw [at_zero, hopc, if_pos rfl, List.tail_cons, t2, hcs]
    rfl

theorem rule_back {r : Ru} (h : MayRu r) (e : Int) {A : List Tk} (hA : A.map Tk.bare = ruleT r) (L : List Tk) : ruleP e (A ++ L) = ⟨0, r, L⟩ := by
  obtain ⟨hd, X⟩ := r
  obtain ⟨hh, hl, hb⟩ := h
  simp only at hh hl hb
  obtain ⟨B, C, rfl, hB, hC⟩ := bare_app hA
  obtain ⟨D, Z, rfl, hD, hZ⟩ := bare_app hC
  obtain ⟨z, rfl, hz⟩ := bare_one hZ
  simp only at hB hD
  have hz46 : isMk [46] z = true := by rw [mk_bare, hz]; rfl
  have hz44 : isMk [44] z = false := by rw [mk_bare, hz]; rfl
  have hz58 : isMk [58, 45] z = false := by rw [mk_bare, hz]; rfl
  have hze : Ends e (z :: L) := ends_of hz (by decide) (by decide)
  unfold bodyT at hD
  unfold ruleP
  by_cases h0 : X = []
  · rw [if_pos h0] at hD
    have : D = [] := by simpa using hD
    subst this h0
    have e1 : B ++ ([] ++ [z]) ++ L = B ++ (z :: L) := by simp
    rw [e1, atom_back hh e hB hze]
    simp only [if_true]
    rw [at_zero, hz58, if_neg (by decide)]
    unfold endP
    rw [at_zero, hz46, if_pos rfl]
    rfl
  · rw [if_neg h0, List.nil_append] at hD
    obtain ⟨c, F, rfl, hc, hF⟩ := bare_cons hD
    have e1 : B ++ (c :: F ++ [z]) ++ L = B ++ (c :: (F ++ (z :: L))) := by simp
    have hc58 : isMk [58, 45] c = true := by rw [mk_bare, hc]; rfl
    rw [e1, atom_back hh e hB (ends_of hc (by decide) (by decide))]
    simp only [if_true]
    rw [at_zero, hc58, if_pos rfl, List.tail_cons, list_back (rd := litP e) (g := litTs) hze (by rw [at_zero]; exact hz44) X 8 [] F h0 hl (fun l hlm A L hA hL => lit_back (hb l hlm) e hA hL) hF]
    unfold bodyP endP
    simp only [if_true]
    rw [at_zero, hz46, if_pos rfl]
    rfl
/-- A rule's second token is no stroke. -/
theorem rule_second (r : Ru) (e : Int) {A : List Tk} (hA : A.map Tk.bare = ruleT r) (L : List Tk) : isMk [47] (atT e (A ++ L) 1) = false ∧ A ≠ [] := by
  obtain ⟨X, hX, hXe⟩ := atomTs_head r.head
  unfold ruleT at hA
  rw [hX] at hA
  obtain ⟨B, C, rfl, hB, hC⟩ := bare_app hA
  obtain ⟨b, D, rfl, hb, hD⟩ := bare_cons hB
  refine ⟨?_, by simp⟩
  rw [List.cons_append, List.cons_append, at_one]
  rcases hXe with rfl | ⟨Y, rfl⟩
  · have : D = [] := by simpa using hD
    subst this
    rw [List.nil_append]
    unfold bodyT at hC
    split at hC
    · rw [List.nil_append] at hC
      obtain ⟨z, rfl, hz⟩ := bare_one hC
      rw [List.singleton_append, at_zero, mk_bare, hz]; rfl
    · rw [List.nil_append, List.append_assoc] at hC
      obtain ⟨z, Z, rfl, hz, -⟩ := bare_cons hC
      rw [List.cons_append, at_zero, mk_bare, hz]; rfl
  · obtain ⟨c, F, rfl, hc, -⟩ := bare_cons hD
    rw [List.cons_append, List.cons_append, at_zero, mk_bare, hc]; rfl
theorem decl_back {d : De} (h : MayDe d) (e : Int) {A : List Tk} (hA : A.map Tk.bare = declT d) (L : List Tk) : isMk [47] (atT e (A ++ L) 1) = true ∧ declP e (A ++ L) = ⟨0, d, L⟩ ∧ A ≠ [] := by
  obtain ⟨p, n⟩ := d
  obtain ⟨hp, h1, h2⟩ := h
  unfold declT at hA
  simp only at hp h1 h2 hA
  obtain ⟨a, B, rfl, ha, hB⟩ := bare_cons hA
  obtain ⟨b, C, rfl, hb, hC⟩ := bare_cons hB
  obtain ⟨c, D, rfl, hc, hD⟩ := bare_cons hC
  obtain ⟨z, rfl, hz⟩ := bare_one hD
  have hb47 : isMk [47] b = true := by rw [mk_bare, hb]; rfl
  have hz46 : isMk [46] z = true := by rw [mk_bare, hz]; rfl
  have hck : c.kind = 3 := congrArg Tk.kind hc
  have hcn : c.n = n := congrArg Tk.n hc
  refine ⟨by rw [List.cons_append, at_one, List.cons_append, at_zero]; exact hb47, ?_, by simp⟩
  have e1 : a :: b :: [c, z] ++ L = a :: (b :: (c :: z :: L)) := by simp
  unfold declP
  rw [e1, name_back hp e ha]
  simp only [if_true, List.tail_cons]
  unfold declN
  rw [at_zero, if_pos hck, hcn, if_neg (by omega)]
  unfold endP
  rw [List.tail_cons, at_zero, hz46, if_pos rfl]
  rfl

theorem decls_back (e : Int) (L : List Tk) : ∀ (D : List De) (g : Pr) (A : List Tk), (∀ d ∈ D, MayDe d) → g.decls.length + D.length ≤ 400 → A.map Tk.bare = D.flatMap declT → progG e g (A ++ L) = progG e ⟨g.decls ++ D, g.rules⟩ L
  | [], g, A, _, _, hA => by
    have : A = [] := by simpa using hA
    subst this
    simp
  | d :: D, g, A, hm, hn, hA => by
    rw [List.flatMap_cons] at hA
    obtain ⟨B, C, rfl, hB, hC⟩ := bare_app hA
    obtain ⟨h1, h2, h3⟩ := decl_back (hm d (by simp)) e hB (C ++ L)
    have ih := decls_back e L D ⟨g.decls ++ [d], g.rules⟩ C (fun x hx => hm x (by simp [hx])) (by simp at hn ⊢; omega) hC
    have hcl : clauseP e g (B ++ (C ++ L)) = ⟨0, ⟨g.decls ++ [d], g.rules⟩, C ++ L⟩ := by
      unfold clauseP
      rw [h1, if_pos rfl, if_neg (by simp at hn; omega), h2]
    rw [List.append_assoc, progG_step e g (by simp [h3]), hcl, if_pos rfl, ih]
    simp
theorem rules_back (e : Int) (L : List Tk) : ∀ (R : List Ru) (g : Pr) (A : List Tk), (∀ r ∈ R, MayRu r) → g.rules.length + R.length ≤ 400 → A.map Tk.bare = R.flatMap ruleT → progG e g (A ++ L) = progG e ⟨g.decls, g.rules ++ R⟩ L
  | [], g, A, _, _, hA => by
    have : A = [] := by simpa using hA
    subst this
    simp
  | d :: D, g, A, hm, hn, hA => by
    rw [List.flatMap_cons] at hA
    obtain ⟨B, C, rfl, hB, hC⟩ := bare_app hA
    obtain ⟨h1, h3⟩ := rule_second d e hB (C ++ L)
    have h2 := rule_back (hm d (by simp)) e hB (C ++ L)
    have ih := rules_back e L D ⟨g.decls, g.rules ++ [d]⟩ C (fun x hx => hm x (by simp [hx])) (by simp at hn ⊢; omega) hC
    have hcl : clauseP e g (B ++ (C ++ L)) = ⟨0, ⟨g.decls, g.rules ++ [d]⟩, C ++ L⟩ := by
      unfold clauseP
      rw [h1, if_neg (by decide), if_neg (by simp at hn; omega), h2]
    rw [List.append_assoc, progG_step e g (by simp [h3]), hcl, if_pos rfl, ih]
    simp
/-- A text that a program prints is parsed as it was. -/
theorem prog_back {g : Pr} (h : MayPr g) {s : ByteArray} (hs : s.data.toList = progTx g) (hl : s.size ≤ 65536) : parseR s = ⟨0, 0, g⟩ := by
  obtain ⟨T, hT, hb⟩ := scan_prog h
  have hscan : scanR s = ⟨0, 0, T⟩ := by
    unfold scanR
    rw [if_neg (by omega), hs, hT]
  obtain ⟨A, B, rfl, hA, hB⟩ := bare_app hb
  have h1 := decls_back (s.size : Int) B g.decls Pr.zero A h.2.2.1 (by simpa [Pr.zero] using h.1) hA
  have h2 := rules_back (s.size : Int) [] g.rules ⟨[] ++ g.decls, []⟩ B h.2.2.2 (by simpa using h.2.1) hB
  rw [List.append_nil] at h2
  have hp : progP (s.size : Int) (A ++ B) = ⟨0, g, []⟩ := by
    rw [progP_eq, h1]
    show progG _ ⟨[] ++ g.decls, []⟩ B = _
    rw [h2, progG_nil]
    simp
  unfold parseR parseL
  rw [hscan]
  simp [hp]
end Go.Proofs.YtbbmihojfcofdaaGreatDoor

namespace Go.Proofs.YtbbmihojfcofdaaGreatDoor
set_option linter.unusedSimpArgs false
set_option linter.unusedVariables false
set_option linter.unusedSectionVars false
set_option maxRecDepth 100000
open Go.RowKit

theorem take_run (f : UInt8 → Bool) (l : List UInt8) : ∀ x ∈ l.take (runLen f l), f x = true := by
  induction l with
  | nil => simp
  | cons c l ih =>
    intro x hx
    cases hc : f c
    · simp [runLen, hc] at hx
    · have e : runLen f (c :: l) = runLen f l + 1 := by simp [runLen, hc]
      rw [e, List.take_succ_cons] at hx
      rcases List.mem_cons.1 hx with rfl | hx
      · exact hc
      · exact ih x hx
theorem nameL_inner {kind : Int} {c : UInt8} {l : List UInt8} (hi : innerQ c = true) (hb : (nameL kind (c :: l)).bad = 0) : ∃ t : List UInt8, (nameL kind (c :: l)).tok = ⟨kind, ⟨(c :: t).toArray⟩, 0, false, 0⟩ ∧ t.length < 32 ∧ ∀ x ∈ t, innerQ x = true := by
  unfold nameL at hb ⊢
  split at hb
  · simp at hb
  · rename_i hn
    rw [if_neg hn]
    have e : runLen innerQ (c :: l) = runLen innerQ l + 1 := by simp [runLen, hi]
    rw [e] at hn ⊢
    refine ⟨l.take (runLen innerQ l), by simp, ?_, take_run innerQ l⟩
    simp; omega
/-- What a scanned token is, beyond its kind. -/
def TokTx (t : Tk) : Prop := (t.kind = 2 → GreatNm t.s.data.toList) ∧ (t.kind = 1 → t.q = false → SmallNm t.s.data.toList) ∧ InR t.n
theorem inZero : InR 0 := by unfold InR; omega
theorem oneL_tx {l : List UInt8} (h0 : l ≠ []) (h : (oneL l).bad = 0) (p : Nat) : TokTx ((oneL l).tok.put p) := by
  match l, h0 with
  | c :: t, _ =>
    rw [oneL_cons] at h ⊢
    unfold oneC at h ⊢
    by_cases h1 : smallQ c = true
    · rw [if_pos h1] at h ⊢
      obtain ⟨u, hu, hl, hi⟩ := nameL_inner (by simp [innerQ, h1]) h
      rw [hu]
      exact ⟨fun e => by simp [Tk.put] at e, fun _ _ => ⟨c, u, rfl, h1, hi, hl⟩, inZero⟩
    rw [if_neg h1] at h ⊢
    by_cases h2 : greatQ c = true
    · rw [if_pos h2] at h ⊢
      obtain ⟨u, hu, hl, hi⟩ := nameL_inner (by simp [innerQ, h2]) h
      rw [hu]
      exact ⟨fun _ => ⟨c, u, rfl, h2, hi, hl⟩, fun e => by simp [Tk.put] at e, inZero⟩
    rw [if_neg h2] at h ⊢
    by_cases h3 : c = 39
    · rw [if_pos h3] at h ⊢
      unfold quoL at h ⊢
      simp only [List.tail_cons] at h ⊢
      cases hq : quoS t with
      | none => rw [hq] at h; simp [quoOf] at h
      | some r => exact ⟨fun e => by simp [quoOf, Tk.put] at e, fun _ e => by simp [quoOf, Tk.put] at e, inZero⟩
    rw [if_neg h3] at h ⊢
    by_cases h4 : (figureQ c || (c == 45 && decide (0 < runLen figureQ t))) = true
    · rw [if_pos h4] at h ⊢
      unfold numL numOf at h ⊢
      split at h
      · rename_i v hv
        have hb := Lib.parseIntB_bounds hv
        exact ⟨fun e => by simp [Tk.put] at e, fun e => by simp [Tk.put] at e, by show _ ≤ v; have := hb.1; omega, by show v ≤ _; have := hb.2; omega⟩
      · simp at h
    · rw [if_neg h4] at h ⊢
      unfold markL at h ⊢
      cases hm : markT.find? (fun m => m.isPrefixOf (c :: t)) with
      | none => rw [hm] at h; simp [markOf] at h
      | some m => exact ⟨fun e => by simp [markOf, Tk.put] at e, fun e => by simp [markOf, Tk.put] at e, inZero⟩
theorem scan_tx {s : ByteArray} {t : Tk} (h : t ∈ (scanR s).toks) : TokTx t := by
  unfold scanR at h
  split at h
  · simp at h
  · exact scanF_all (Q := TokTx) (fun l p h0 hb => oneL_tx h0 hb p) _ _ _ _ h
end Go.Proofs.YtbbmihojfcofdaaGreatDoor

namespace Go.Proofs.YtbbmihojfcofdaaGreatDoor
set_option linter.unusedSimpArgs false
set_option linter.unusedVariables false
set_option linter.unusedSectionVars false
set_option maxRecDepth 100000
open Go.RowKit

/-- Tokens such as are scanned. -/
def May (L : List Tk) : Prop := ∀ t ∈ L, KindOk t ∧ TokTx t
theorem May.tail {L : List Tk} (h : May L) : May L.tail := fun t ht => h t (List.mem_of_mem_tail ht)
theorem May.at {L : List Tk} (h : May L) {e : Int} {k : Nat} (hk : (atT e L k).kind ≠ 0) : KindOk (atT e L k) ∧ TokTx (atT e L k) := by
  have hl := at_ne hk
  have e' : atT e L k = L[k] := by simp [atT, List.getElem?_eq_getElem hl]
  rw [e']
  exact h _ (List.getElem_mem hl)
theorem nm_may {t : Tk} (h : KindOk t) (hn : isNm t = true) : shortPlain t.s.data.toList = true := by
  simp only [isNm, Bool.and_eq_true, Bool.not_eq_true', beq_iff_eq] at hn
  obtain ⟨⟨h1, h2⟩, h3⟩ := hn
  unfold shortPlain
  rw [h3, Bool.and_true, decide_eq_true_eq]
  rcases h with ⟨-, h, -⟩ | ⟨-, -, -, hz, -⟩ | ⟨h, -⟩ | ⟨h, -⟩ | ⟨h, -⟩
  · rw [h] at h2; cases h2
  · have e : t.s.data.toList.length = t.s.size := by rw [Array.length_toList]; rfl
    rw [e]; exact hz
  · omega
  · omega
  · omega
theorem nameP_may (e : Int) {L : List Tk} (h : May L) : May (nameP e L).rest ∧ ((nameP e L).bad = 0 → shortPlain (nameP e L).val.data.toList = true) := by
  unfold nameP
  split
  · rename_i hn
    exact ⟨h.tail, fun _ => nm_may (h.at (by rw [nm_kind hn]; decide)).1 hn⟩
  · exact ⟨h, fun hb => by cases hb⟩
theorem termT_may {t : Tk} (h : KindOk t ∧ TokTx t) {x : Tm} (hx : termT t = some x) : MayTm x := by
  obtain ⟨-, h2, h1, h3⟩ := h
  unfold termT at hx
  split at hx
  · rename_i hk
    cases hx
    exact ⟨inZero, .inl ⟨rfl, h2 hk, rfl, rfl, rfl⟩⟩
  split at hx
  · cases hx; exact ⟨h3, .inr ⟨rfl, rfl, .inr ⟨rfl, rfl⟩⟩⟩
  split at hx
  · cases hx; exact ⟨inZero, .inr ⟨rfl, rfl, .inl ⟨rfl, rfl⟩⟩⟩
  · cases hx
theorem op_of {t : Tk} (h : isOp t = true) : t.s.data.toList ∈ opsL := by
  simp only [isOp, List.any_eq_true] at h
  obtain ⟨m, hm, h⟩ := h
  simp only [isMk, Bool.and_eq_true, beq_iff_eq] at h
  rw [h.2]
  exact hm
theorem termP_may (e : Int) {L : List Tk} (h : May L) : May (termP e L).rest ∧ ((termP e L).bad = 0 → MayTm (termP e L).val) := by
  unfold termP
  cases hx : termT (atT e L 0) with
  | none => exact ⟨h, fun hb => by cases hb⟩
  | some x => exact ⟨h.tail, fun _ => termT_may (h.at (termT_kind hx)) hx⟩
theorem listP_may {α : Type} {rd : List Tk → Rd α} {e : Int} {Q : α → Prop} (hr : ∀ L, May L → May (rd L).rest ∧ ((rd L).bad = 0 → Q (rd L).val)) : ∀ (n : Nat) (acc : List α) (L : List Tk), May L → (∀ a ∈ acc, Q a) → May (listP rd e n acc L).rest ∧ ((listP rd e n acc L).bad = 0 → (∀ a ∈ (listP rd e n acc L).val, Q a) ∧ (listP rd e n acc L).val.length ≤ acc.length + n) := by
  intro n
  induction n with
  | zero => intro acc L hL _; exact ⟨hL, fun h => by cases h⟩
  | succ n ih =>
    intro acc L hL hA
    obtain ⟨h1, h2⟩ := hr L hL
    unfold listP
    split
    · rename_i hb
      have hA' : ∀ a ∈ acc ++ [(rd L).val], Q a := fun a ha => by
        rcases List.mem_append.1 ha with ha | ha
        · exact hA a ha
        · simp at ha; rw [ha]; exact h2 hb
      split
      · obtain ⟨i1, i2⟩ := ih (acc ++ [(rd L).val]) (rd L).rest.tail h1.tail hA'
        refine ⟨i1, fun h => ⟨(i2 h).1, ?_⟩⟩
        have := (i2 h).2
        simp at this
        omega
      · exact ⟨h1, fun _ => ⟨hA', by simp⟩⟩
    · rename_i hb
      exact ⟨h1, fun h => absurd h hb⟩
theorem endP_may {α : Type} {Q : α → Prop} (m : List UInt8) (e : Int) {v z : α} {L : List Tk} (h : May L) (hv : Q v) : May (endP m e v z L).rest ∧ ((endP m e v z L).bad = 0 → Q (endP m e v z L).val) := by
  unfold endP
  split
  · exact ⟨h.tail, fun _ => hv⟩
  · exact ⟨h, fun hb => by cases hb⟩
theorem atomP_may (e : Int) {L : List Tk} (h : May L) : May (atomP e L).rest ∧ ((atomP e L).bad = 0 → MayAm (atomP e L).val) := by
  obtain ⟨h1, h2⟩ := nameP_may e h
  unfold atomP
  split
  · rename_i hb
    split
    · obtain ⟨i1, i2⟩ := listP_may (e := e) (Q := MayTm) (fun L hL => termP_may e hL) 6 [] (nameP e L).rest.tail h1.tail (by simp)
      unfold argsP
      split
      · rename_i hq
        obtain ⟨j1, j2⟩ := i2 hq
        simp at j2
        exact endP_may [41] e i1 ⟨h2 hb, j2, j1⟩
      · rename_i hq
        exact ⟨i1, fun h => absurd h hq⟩
    · exact ⟨h1, fun _ => ⟨h2 hb, by simp, by simp⟩⟩
  · rename_i hb
    exact ⟨h1, fun h => absurd h hb⟩
theorem litA_may {k : Int} (hk : k = 1 ∨ k = 2) {r : Rd Am} (h : May r.rest ∧ (r.bad = 0 → MayAm r.val)) : May (litA k r).rest ∧ ((litA k r).bad = 0 → MayLt (litA k r).val) := by
  unfold litA
  split
  · rename_i hb
    exact ⟨h.1, fun _ => .inl ⟨hk, rfl, rfl, rfl, h.2 hb⟩⟩
  · rename_i hb
    exact ⟨h.1, fun h => absurd h hb⟩
theorem cmpP_may (e : Int) {L : List Tk} (h : May L) : May (cmpP e L).rest ∧ ((cmpP e L).bad = 0 → MayLt (cmpP e L).val) := by
  obtain ⟨h1, h2⟩ := termP_may e h
  unfold cmpP
  split
  · rename_i hb
    split
    · rename_i ho
      obtain ⟨i1, i2⟩ := termP_may e h1.tail
      unfold cmpR
      split
      · rename_i hq
        exact ⟨i1, fun _ => .inr ⟨rfl, op_of ho, rfl, h2 hb, i2 hq⟩⟩
      · rename_i hq
        exact ⟨i1, fun h => absurd h hq⟩
    · exact ⟨h1, fun hb => by cases hb⟩
  · rename_i hb
    exact ⟨h1, fun h => absurd h hb⟩
theorem litP_may (e : Int) {L : List Tk} (h : May L) : May (litP e L).rest ∧ ((litP e L).bad = 0 → MayLt (litP e L).val) := by
  unfold litP
  split
  · exact litA_may (.inr rfl) (atomP_may e h.tail)
  split
  · exact litA_may (.inl rfl) (atomP_may e h)
  · exact cmpP_may e h
theorem ruleP_may (e : Int) {L : List Tk} (h : May L) : May (ruleP e L).rest ∧ ((ruleP e L).bad = 0 → MayRu (ruleP e L).val) := by
  obtain ⟨h1, h2⟩ := atomP_may e h
  unfold ruleP
  split
  · rename_i hb
    split
    · obtain ⟨i1, i2⟩ := listP_may (e := e) (Q := MayLt) (fun L hL => litP_may e hL) 8 [] (atomP e L).rest.tail h1.tail (by simp)
      unfold bodyP
      split
      · rename_i hq
        obtain ⟨j1, j2⟩ := i2 hq
        simp at j2
        exact endP_may [46] e i1 ⟨h2 hb, j2, j1⟩
      · rename_i hq
        exact ⟨i1, fun h => absurd h hq⟩
    · exact endP_may [46] e h1 ⟨h2 hb, by simp, by simp⟩
  · rename_i hb
    exact ⟨h1, fun h => absurd h hb⟩
theorem declP_may (e : Int) {L : List Tk} (h : May L) : May (declP e L).rest ∧ ((declP e L).bad = 0 → MayDe (declP e L).val) := by
  obtain ⟨h1, h2⟩ := nameP_may e h
  unfold declP
  split
  · rename_i hb
    unfold declN
    split
    · split
      · exact ⟨h1.tail, fun hb => by cases hb⟩
      · rename_i hn
        exact endP_may (Q := MayDe) [46] e h1.tail.tail ⟨h2 hb, by show 0 ≤ (atT _ _ 0).n; omega, by show (atT _ _ 0).n ≤ 6; omega⟩
    · exact ⟨h1.tail, fun hb => by cases hb⟩
  · rename_i hb
    exact ⟨h1, fun h => absurd h hb⟩
theorem clauseP_may (e : Int) {g : Pr} {L : List Tk} (h : May L) (hg : MayPr g) : May (clauseP e g L).rest ∧ ((clauseP e g L).bad = 0 → MayPr (clauseP e g L).val) := by
  obtain ⟨g1, g2, g4, g3⟩ := hg
  unfold clauseP
  split
  · split
    · exact ⟨h, fun hb => by cases hb⟩
    · obtain ⟨h1, h2⟩ := declP_may e h
      refine ⟨h1, fun hb => ⟨by simp; omega, g2, fun d hd => ?_, g3⟩⟩
      rcases List.mem_append.1 hd with hd | hd
      · exact g4 d hd
      · simp at hd; rw [hd]; exact h2 hb
  · split
    · exact ⟨h, fun hb => by cases hb⟩
    · obtain ⟨h1, h2⟩ := ruleP_may e h
      refine ⟨h1, fun hb => ⟨g1, by simp; omega, g4, fun r hr => ?_⟩⟩
      rcases List.mem_append.1 hr with hr | hr
      · exact g3 r hr
      · simp at hr; rw [hr]; exact h2 hb
theorem progF_may (e : Int) : ∀ (f : Nat) (g : Pr) (L : List Tk), May L → MayPr g → MayPr (progF e f g L).val := by
  intro f
  induction f with
  | zero => intro g L _ hg; exact hg
  | succ f ih =>
    intro g L hL hg
    unfold progF
    split
    · exact hg
    · obtain ⟨h1, h2⟩ := clauseP_may e (g := g) hL hg
      split
      · rename_i hb
        exact ih _ _ h1 (h2 hb)
      · exact ⟨by simp [Pr.zero], by simp [Pr.zero], by simp [Pr.zero], by simp [Pr.zero]⟩
theorem prZero_may : MayPr Pr.zero := ⟨by simp [Pr.zero], by simp [Pr.zero], by simp [Pr.zero], by simp [Pr.zero]⟩
theorem parseR_may (s : ByteArray) : MayPr (parseR s).g := by
  unfold parseR
  split
  · unfold parseL
    split
    · exact progF_may _ _ _ _ (fun t ht => ⟨scan_kind ht, scan_tx ht⟩) prZero_may
    · exact prZero_may
  · exact prZero_may
end Go.Proofs.YtbbmihojfcofdaaGreatDoor

namespace Go.Proofs.YtbbmihojfcofdaaGreatDoor
set_option linter.unusedSimpArgs false
set_option linter.unusedVariables false
set_option linter.unusedSectionVars false
set_option maxRecDepth 100000
open Go.RowKit

/-- What an element's cells say may speak of memory. -/
abbrev RelW (α : Type) := World → α → List Value → Prop
/-- It stays where memory is only made. -/
def StayR {α : Type} (R : RelW α) : Prop := ∀ (w w' : World) (a : α) (c : List Value), Below w.heap.size w w' → R w a c → R w' a c
/-- x is a list, in memory that is there: k cells each, elements told by R. -/
def RdL {α : Type} (R : RelW α) (k : Nat) (W : World) (x : Value) (L : List α) : Prop :=
  ∃ (ao : Option Addr) (cap : Nat), x = .slice ao L.length cap ∧ L.length ≤ cap ∧ L.length ≤ maxLen ∧
    ∀ (i : Nat) (hi : i < L.length), ∃ b off c, ao = some ⟨b, off, none⟩ ∧ b < W.heap.size ∧ R W L[i] c ∧ ∀ j u, c[j]? = some u → W.cell? ⟨b, off + i * k + j, none⟩ = some u
theorem RdL.below {α : Type} {R : RelW α} (hR : StayR R) {k : Nat} {W W' : World} {x : Value} {L : List α} (h : RdL R k W x L) (hb : Below W.heap.size W W') : RdL R k W' x L := by
  obtain ⟨ao, cap, e, h1, h2, h3⟩ := h
  refine ⟨ao, cap, e, h1, h2, fun i hi => ?_⟩
  obtain ⟨b, off, c, e1, hl, hr, hc⟩ := h3 i hi
  exact ⟨b, off, c, e1, Nat.lt_of_lt_of_le hl hb.size, hR W W' _ c hb hr, fun j u hj => (hb.cell (p := ⟨b, _, none⟩) hl).trans (hc j u hj)⟩
theorem RdL.form {α : Type} {R : RelW α} {k : Nat} {W : World} {x : Value} {L : List α} (h : RdL R k W x L) : ∃ ao cap, x = .slice ao L.length cap ∧ L.length ≤ cap ∧ L.length ≤ maxLen := by
  obtain ⟨ao, cap, e, h1, h2, -⟩ := h
  exact ⟨ao, cap, e, h1, h2⟩
theorem RdL.nil {α : Type} (R : RelW α) (k : Nat) (W : World) (ao : Option Addr) (cap : Nat) : RdL R k W (.slice ao 0 cap) [] := ⟨ao, cap, rfl, by simp, by simp [maxLen], fun i hi => by simp at hi⟩
theorem RdL.at {α : Type} {R : RelW α} {k : Nat} {W : World} {ao : Option Addr} {n cap : Nat} {L : List α} (h : RdL R k W (.slice ao n cap) L) (i : Nat) (hi : i < L.length) :
    ∃ b off c, ao = some ⟨b, off, none⟩ ∧ b < W.heap.size ∧ R W L[i] c ∧ ∀ j u, c[j]? = some u → W.cell? ⟨b, off + i * k + j, none⟩ = some u := by
  obtain ⟨ao', cap', e, -, -, h2⟩ := h
  cases e
  exact h2 i hi

def TmI : RelW Tm := fun _ t c => c = t.cells
def DeI : RelW De := fun _ d c => c = d.cells
abbrev Tms (W : World) (x : Value) (L : List Tm) : Prop := RdL TmI 5 W x L
def LtI : RelW Lt := fun W l c => ∃ x, c = LtC l x ∧ Tms W x l.atom.args
abbrev Lts (W : World) (x : Value) (L : List Lt) : Prop := RdL LtI 14 W x L
def RuI : RelW Ru := fun W r c => ∃ x y, c = [.string r.head.p, x, y] ∧ Tms W x r.head.args ∧ Lts W y r.body
abbrev Rus (W : World) (x : Value) (L : List Ru) : Prop := RdL RuI 3 W x L
abbrev Des (W : World) (x : Value) (L : List De) : Prop := RdL DeI 2 W x L
theorem stayTm : StayR TmI := fun _ _ _ _ _ h => h
theorem stayDe : StayR DeI := fun _ _ _ _ _ h => h
theorem stayLt : StayR LtI := fun _ _ _ _ hb ⟨x, h1, h2⟩ => ⟨x, h1, h2.below stayTm hb⟩
theorem stayRu : StayR RuI := fun _ _ _ _ hb ⟨x, y, h1, h2, h3⟩ => ⟨x, y, h1, h2.below stayTm hb, h3.below stayLt hb⟩

/-- A list of the call's own can be read. -/
theorem OwnL.rd {α : Type} {R : RelM α} {R' : RelW α} {ty : TypeId} {k : Nat} {w : World} {B : Nat} {x : Value} {L : List α} (h : OwnL R ty k w B x L) (hm : L.length ≤ maxLen) (hR : ∀ a ∈ L, ∀ c, R w B a c → R' w a c) : RdL R' k w x L := by
  obtain ⟨ao, cap, rfl, h1, h2⟩ := h.cells
  refine ⟨ao, cap, rfl, h1, hm, fun i hi => ?_⟩
  obtain ⟨g, c, rfl, -, hl, hr, hc⟩ := h2 i hi
  exact ⟨g, 0, c, rfl, hl, hR _ (List.getElem_mem hi) c hr, fun j u hj => by rw [Nat.zero_add]; exact hc j u hj⟩
theorem TmsO.rd {w : World} {B : Nat} {x : Value} {L : List Tm} (h : TmsO w B x L) (hm : L.length ≤ maxLen) : Tms w x L := OwnL.rd h hm (fun _ _ _ h => h)
theorem DesO.rd {w : World} {B : Nat} {x : Value} {L : List De} (h : DesO w B x L) (hm : L.length ≤ maxLen) : Des w x L := OwnL.rd h hm (fun _ _ _ h => h)
theorem LtsO.rd {w : World} {B : Nat} {x : Value} {L : List Lt} (h : LtsO w B x L) (hm : L.length ≤ maxLen) (ht : ∀ l ∈ L, l.atom.args.length ≤ maxLen) : Lts w x L :=
  OwnL.rd h hm (fun l hl c ⟨x, e, hx⟩ => ⟨x, e, TmsO.rd hx (ht l hl)⟩)
theorem RusO.rd {w : World} {B : Nat} {x : Value} {L : List Ru} (h : RusO w B x L) (hm : L.length ≤ maxLen) (hr : ∀ r ∈ L, r.head.args.length ≤ maxLen ∧ r.body.length ≤ maxLen ∧ ∀ l ∈ r.body, l.atom.args.length ≤ maxLen) : Rus w x L :=
  OwnL.rd h hm (fun r h1 c ⟨x, y, e, hx, hy⟩ => ⟨x, y, e, TmsO.rd hx (hr r h1).1, LtsO.rd hy (hr r h1).2.1 (hr r h1).2.2⟩)

/-- How much a term holds, an atom, a literal, a rule, a declaration, a program. -/
def szTm (t : Tm) : Nat := t.name.size + t.s.size + 6
def szTms (L : List Tm) : Nat := (L.map szTm).sum
def szAm (a : Am) : Nat := a.p.size + szTms a.args + 2
def szLt (l : Lt) : Nat := szAm l.atom + l.op.size + szTm l.l + szTm l.r + 2
def szLts (L : List Lt) : Nat := (L.map szLt).sum
def szRu (r : Ru) : Nat := szAm r.head + szLts r.body + 1
def szRus (L : List Ru) : Nat := (L.map szRu).sum
def szDe (d : De) : Nat := d.p.size + 3
def szDes (L : List De) : Nat := (L.map szDe).sum
def szPr (g : Pr) : Nat := szDes g.decls + szRus g.rules
theorem sum_mem {α : Type} (f : α → Nat) {L : List α} {a : α} (h : a ∈ L) : f a ≤ (L.map f).sum := by
  induction L with
  | nil => simp at h
  | cons b L ih =>
    simp only [List.map_cons, List.sum_cons]
    rcases List.mem_cons.1 h with rfl | h
    · omega
    · have := ih h; omega
theorem sum_len {α : Type} (f : α → Nat) (k : Nat) (hk : ∀ a, k ≤ f a) (L : List α) : k * L.length ≤ (L.map f).sum := by
  induction L with
  | nil => simp
  | cons b L ih =>
    simp only [List.map_cons, List.sum_cons, List.length_cons, Nat.mul_add, Nat.mul_one]
    have := hk b; omega
theorem sum_le {α : Type} (f : α → Nat) (k : Nat) {L : List α} (h : ∀ a ∈ L, f a ≤ k) : (L.map f).sum ≤ k * L.length := by
  induction L with
  | nil => simp
  | cons b L ih =>
    simp only [List.map_cons, List.sum_cons, List.length_cons, Nat.mul_add, Nat.mul_one]
    have := h b (by simp); have := ih (fun a ha => h a (by simp [ha])); omega

/-- What a value of all the program's terms is: each number is one that Go has. -/
def InTm (t : Tm) : Prop := InR t.n
def InAm (a : Am) : Prop := ∀ t ∈ a.args, InTm t
def InLt (l : Lt) : Prop := InAm l.atom ∧ InTm l.l ∧ InTm l.r
def InRu (r : Ru) : Prop := InAm r.head ∧ ∀ l ∈ r.body, InLt l
def InDe (d : De) : Prop := InR d.ar
def InPr (g : Pr) : Prop := (∀ d ∈ g.decls, InDe d) ∧ ∀ r ∈ g.rules, InRu r

/-- Texts are no longer than what they are of. -/
theorem itoa22 {n : Int} (h : InR n) : (Lib.itoa n).length ≤ 21 := Lib.itoa_length_le n (by have := h.1; omega) (by have := h.2; omega)
theorem termTx_le {t : Tm} (h : InTm t) : (termTx t).length + 2 ≤ 4 * szTm t := by
  have h1 := itoa22 h
  have hz : t.s.data.toList.length = t.s.size := by simp
  have hn : t.name.data.toList.length = t.name.size := by simp
  have hq : (quoteL t.s.data.toList).length ≤ 2 * t.s.size + 2 := by
    have h := (escL_len t.s.data.toList).2
    simp only [quoteL, List.length_cons, List.length_append, List.length_nil]
    omega
  unfold termTx textL szTm
  split
  · omega
  · split
    · split <;> omega
    · omega
theorem sepTx_le {α : Type} {f : α → List UInt8} {g : α → Nat} : ∀ {L : List α}, (∀ a ∈ L, (f a).length + 2 ≤ g a) → (sepTx f L).length ≤ (L.map g).sum
  | [], _ => by simp [sepTx]
  | [a], h => by have := h a (by simp); simp [sepTx]; omega
  | a :: b :: r, h => by
    have h1 := h a (by simp)
    have h2 := sepTx_le (L := b :: r) (fun x hx => h x (by simp at hx ⊢; exact .inr hx))
    simp [sepTx] at h2 ⊢
    omega
theorem sum_mul {α : Type} (f : α → Nat) (k : Nat) (L : List α) : (L.map (fun a => k * f a)).sum = k * (L.map f).sum := by
  induction L with
  | nil => simp
  | cons a L ih => simp [ih, Nat.mul_add]
theorem atomTx_le {a : Am} (h : InAm a) : (atomTx a).length + 6 ≤ 4 * szAm a := by
  have h1 : (sepTx termTx a.args).length ≤ 4 * szTms a.args := by
    have := sepTx_le (g := fun t => 4 * szTm t) (fun t ht => termTx_le (h t ht))
    rw [sum_mul] at this
    exact this
  have hn : a.p.data.toList.length = a.p.size := by simp
  unfold atomTx argsTx szAm
  split
  · simp; omega
  · simp; omega
theorem litTx_le {l : Lt} (h : InLt l) : (litTx l).length + 2 ≤ 4 * szLt l := by
  have h1 := atomTx_le h.1
  have h2 := termTx_le h.2.1
  have h3 := termTx_le h.2.2
  have hn : l.op.data.toList.length = l.op.size := by simp
  unfold litTx szLt
  split
  · omega
  · split
    · simp; omega
    · split
      · simp; omega
      · simp; omega
theorem ruleTx_le {r : Ru} (h : InRu r) : (ruleTx r).length + 1 ≤ 4 * szRu r := by
  have h1 := atomTx_le h.1
  have h2 : (sepTx litTx r.body).length ≤ 4 * szLts r.body := by
    have := sepTx_le (g := fun t => 4 * szLt t) (fun t ht => litTx_le (h.2 t ht))
    rw [sum_mul] at this
    exact this
  unfold ruleTx bodyTx szRu
  split
  · simp; omega
  · simp; omega
theorem declTx_le {d : De} (h : InDe d) : (declTx d).length + 1 ≤ 8 * szDe d := by
  have h1 := itoa22 h
  have hn : d.p.data.toList.length = d.p.size := by simp
  unfold declTx szDe
  simp
  omega
theorem flat_le {α : Type} {f : α → List UInt8} {g : α → Nat} : ∀ {L : List α}, (∀ a ∈ L, (f a).length ≤ g a) → (L.flatMap f).length ≤ (L.map g).sum
  | [], _ => by simp
  | a :: r, h => by
    have h1 := h a (by simp)
    have h2 := flat_le (L := r) (fun x hx => h x (by simp [hx]))
    simp at h2 ⊢
    omega
theorem progTx_le {g : Pr} (h : InPr g) : (progTx g).length ≤ 8 * szPr g := by
  have h1 : (g.decls.flatMap (fun d => declTx d ++ [10])).length ≤ 8 * szDes g.decls := by
    have := flat_le (f := fun d => declTx d ++ [10]) (g := fun d => 8 * szDe d) (L := g.decls) (fun d hd => by have := declTx_le (h.1 d hd); simp; omega)
    rw [sum_mul] at this
    exact this
  have h2 : (g.rules.flatMap (fun r => ruleTx r ++ [10])).length ≤ 8 * szRus g.rules := by
    have := flat_le (f := fun r => ruleTx r ++ [10]) (g := fun r => 8 * szRu r) (L := g.rules) (fun r hr => by have := ruleTx_le (h.2 r hr); simp; omega)
    rw [sum_mul] at this
    exact this
  unfold progTx szPr
  simp only [List.length_append]
  omega
end Go.Proofs.YtbbmihojfcofdaaGreatDoor

namespace Go.Proofs.YtbbmihojfcofdaaGreatDoor
set_option linter.unusedSimpArgs false
set_option linter.unusedVariables false
set_option linter.unusedSectionVars false
set_option maxRecDepth 100000
open Go.RowKit

/-- Tokens whose texts are short. -/
def Zs (L : List Tk) : Prop := ∀ t ∈ L, t.s.size ≤ 65536 ∧ InR t.n
theorem Zs.tail {L : List Tk} (h : Zs L) : Zs L.tail := fun t ht => h t (List.mem_of_mem_tail ht)
theorem Zs.at {L : List Tk} (h : Zs L) {e : Int} {k : Nat} (hk : (atT e L k).kind ≠ 0) : (atT e L k).s.size ≤ 65536 ∧ InR (atT e L k).n := by
  have hl := at_ne hk
  have e' : atT e L k = L[k] := by simp [atT, List.getElem?_eq_getElem hl]
  rw [e']
  exact h _ (List.getElem_mem hl)
def ZzTm (t : Tm) : Prop := t.name.size ≤ 65536 ∧ t.s.size ≤ 65536 ∧ InR t.n
def ZzAm (a : Am) : Prop := a.p.size ≤ 65536 ∧ a.args.length ≤ 6 ∧ ∀ t ∈ a.args, ZzTm t
def ZzLt (l : Lt) : Prop := ((l.kind = 1 ∨ l.kind = 2) ∧ l.op = ⟨#[]⟩ ∧ l.l = Tm.zero ∧ l.r = Tm.zero ∧ ZzAm l.atom) ∨ (l.kind = 3 ∧ l.op.data.toList ∈ opsL ∧ l.atom = Am.zero ∧ ZzTm l.l ∧ ZzTm l.r)
def ZzRu (r : Ru) : Prop := ZzAm r.head ∧ r.body.length ≤ 8 ∧ ∀ l ∈ r.body, ZzLt l
def ZzDe (d : De) : Prop := d.p.size ≤ 65536 ∧ 0 ≤ d.ar ∧ d.ar ≤ 6
def ZzPr (g : Pr) : Prop := g.decls.length ≤ 400 ∧ g.rules.length ≤ 400 ∧ (∀ d ∈ g.decls, ZzDe d) ∧ ∀ r ∈ g.rules, ZzRu r
theorem nameP_zs (e : Int) {L : List Tk} (h : Zs L) : Zs (nameP e L).rest ∧ ((nameP e L).bad = 0 → (nameP e L).val.size ≤ 65536) := by
  unfold nameP
  split
  · rename_i hn
    exact ⟨h.tail, fun _ => (h.at (by rw [nm_kind hn]; decide)).1⟩
  · exact ⟨h, fun hb => by cases hb⟩
theorem zz0 : (⟨#[]⟩ : ByteArray).size ≤ 65536 := by decide
theorem termT_zs {t : Tk} (h : t.s.size ≤ 65536 ∧ InR t.n) {x : Tm} (hx : termT t = some x) : ZzTm x := by
  obtain ⟨h1, h3⟩ := h
  unfold termT at hx
  split at hx
  · cases hx; exact ⟨h1, zz0, inZero⟩
  split at hx
  · cases hx; exact ⟨zz0, zz0, h3⟩
  split at hx
  · cases hx; exact ⟨zz0, h1, inZero⟩
  · cases hx
theorem termP_zs (e : Int) {L : List Tk} (h : Zs L) : Zs (termP e L).rest ∧ ((termP e L).bad = 0 → ZzTm (termP e L).val) := by
  unfold termP
  cases hx : termT (atT e L 0) with
  | none => exact ⟨h, fun hb => by cases hb⟩
  | some x => exact ⟨h.tail, fun _ => termT_zs (h.at (termT_kind hx)) hx⟩
theorem listP_zs {α : Type} {rd : List Tk → Rd α} {e : Int} {Q : α → Prop} (hr : ∀ L, Zs L → Zs (rd L).rest ∧ ((rd L).bad = 0 → Q (rd L).val)) : ∀ (n : Nat) (acc : List α) (L : List Tk), Zs L → (∀ a ∈ acc, Q a) → Zs (listP rd e n acc L).rest ∧ ((listP rd e n acc L).bad = 0 → (∀ a ∈ (listP rd e n acc L).val, Q a) ∧ (listP rd e n acc L).val.length ≤ acc.length + n) := by
  intro n
  induction n with
  | zero => intro acc L hL _; exact ⟨hL, fun h => by cases h⟩
  | succ n ih =>
    intro acc L hL hA
    obtain ⟨h1, h2⟩ := hr L hL
    unfold listP
    split
    · rename_i hb
      have hA' : ∀ a ∈ acc ++ [(rd L).val], Q a := fun a ha => by
        rcases List.mem_append.1 ha with ha | ha
        · exact hA a ha
        · simp at ha; rw [ha]; exact h2 hb
      split
      · obtain ⟨i1, i2⟩ := ih (acc ++ [(rd L).val]) (rd L).rest.tail h1.tail hA'
        refine ⟨i1, fun h => ⟨(i2 h).1, ?_⟩⟩
        have := (i2 h).2
        simp at this
        omega
      · exact ⟨h1, fun _ => ⟨hA', by simp⟩⟩
    · rename_i hb
      exact ⟨h1, fun h => absurd h hb⟩
theorem endP_zs {α : Type} {Q : α → Prop} (m : List UInt8) (e : Int) {v z : α} {L : List Tk} (h : Zs L) (hv : Q v) : Zs (endP m e v z L).rest ∧ ((endP m e v z L).bad = 0 → Q (endP m e v z L).val) := by
  unfold endP
  split
  · exact ⟨h.tail, fun _ => hv⟩
  · exact ⟨h, fun hb => by cases hb⟩
theorem atomP_zs (e : Int) {L : List Tk} (h : Zs L) : Zs (atomP e L).rest ∧ ((atomP e L).bad = 0 → ZzAm (atomP e L).val) := by
  obtain ⟨h1, h2⟩ := nameP_zs e h
  unfold atomP
  split
  · rename_i hb
    split
    · obtain ⟨i1, i2⟩ := listP_zs (e := e) (Q := ZzTm) (fun L hL => termP_zs e hL) 6 [] (nameP e L).rest.tail h1.tail (by simp)
      unfold argsP
      split
      · rename_i hq
        obtain ⟨j1, j2⟩ := i2 hq
        simp at j2
        exact endP_zs [41] e i1 ⟨h2 hb, j2, j1⟩
      · rename_i hq
        exact ⟨i1, fun h => absurd h hq⟩
    · exact ⟨h1, fun _ => ⟨h2 hb, by simp, by simp⟩⟩
  · rename_i hb
    exact ⟨h1, fun h => absurd h hb⟩
theorem litA_zs {k : Int} (hk : k = 1 ∨ k = 2) {r : Rd Am} (h : Zs r.rest ∧ (r.bad = 0 → ZzAm r.val)) : Zs (litA k r).rest ∧ ((litA k r).bad = 0 → ZzLt (litA k r).val) := by
  unfold litA
  split
  · rename_i hb
    exact ⟨h.1, fun _ => .inl ⟨hk, rfl, rfl, rfl, h.2 hb⟩⟩
  · rename_i hb
    exact ⟨h.1, fun h => absurd h hb⟩
theorem cmpP_zs (e : Int) {L : List Tk} (h : Zs L) : Zs (cmpP e L).rest ∧ ((cmpP e L).bad = 0 → ZzLt (cmpP e L).val) := by
  obtain ⟨h1, h2⟩ := termP_zs e h
  unfold cmpP
  split
  · rename_i hb
    split
    · rename_i ho
      obtain ⟨i1, i2⟩ := termP_zs e h1.tail
      unfold cmpR
      split
      · rename_i hq
        exact ⟨i1, fun _ => .inr ⟨rfl, op_of ho, rfl, h2 hb, i2 hq⟩⟩
      · rename_i hq
        exact ⟨i1, fun h => absurd h hq⟩
    · exact ⟨h1, fun hb => by cases hb⟩
  · rename_i hb
    exact ⟨h1, fun h => absurd h hb⟩
theorem litP_zs (e : Int) {L : List Tk} (h : Zs L) : Zs (litP e L).rest ∧ ((litP e L).bad = 0 → ZzLt (litP e L).val) := by
  unfold litP
  split
  · exact litA_zs (.inr rfl) (atomP_zs e h.tail)
  split
  · exact litA_zs (.inl rfl) (atomP_zs e h)
  · exact cmpP_zs e h
theorem ruleP_zs (e : Int) {L : List Tk} (h : Zs L) : Zs (ruleP e L).rest ∧ ((ruleP e L).bad = 0 → ZzRu (ruleP e L).val) := by
  obtain ⟨h1, h2⟩ := atomP_zs e h
  unfold ruleP
  split
  · rename_i hb
    split
    · obtain ⟨i1, i2⟩ := listP_zs (e := e) (Q := ZzLt) (fun L hL => litP_zs e hL) 8 [] (atomP e L).rest.tail h1.tail (by simp)
      unfold bodyP
      split
      · rename_i hq
        obtain ⟨j1, j2⟩ := i2 hq
        simp at j2
        exact endP_zs [46] e i1 ⟨h2 hb, j2, j1⟩
      · rename_i hq
        exact ⟨i1, fun h => absurd h hq⟩
    · exact endP_zs [46] e h1 ⟨h2 hb, by simp, by simp⟩
  · rename_i hb
    exact ⟨h1, fun h => absurd h hb⟩
theorem declP_zs (e : Int) {L : List Tk} (h : Zs L) : Zs (declP e L).rest ∧ ((declP e L).bad = 0 → ZzDe (declP e L).val) := by
  obtain ⟨h1, h2⟩ := nameP_zs e h
  unfold declP
  split
  · rename_i hb
    unfold declN
    split
    · split
      · exact ⟨h1.tail, fun hb => by cases hb⟩
      · rename_i hn
        exact endP_zs (Q := ZzDe) [46] e h1.tail.tail ⟨h2 hb, by show 0 ≤ (atT _ _ 0).n; omega, by show (atT _ _ 0).n ≤ 6; omega⟩
    · exact ⟨h1.tail, fun hb => by cases hb⟩
  · rename_i hb
    exact ⟨h1, fun h => absurd h hb⟩
theorem clauseP_zs (e : Int) {g : Pr} {L : List Tk} (h : Zs L) (hg : ZzPr g) : Zs (clauseP e g L).rest ∧ ((clauseP e g L).bad = 0 → ZzPr (clauseP e g L).val) := by
  obtain ⟨g1, g2, g4, g3⟩ := hg
  unfold clauseP
  split
  · split
    · exact ⟨h, fun hb => by cases hb⟩
    · obtain ⟨h1, h2⟩ := declP_zs e h
      refine ⟨h1, fun hb => ⟨by simp; omega, g2, fun d hd => ?_, g3⟩⟩
      rcases List.mem_append.1 hd with hd | hd
      · exact g4 d hd
      · simp at hd; rw [hd]; exact h2 hb
  · split
    · exact ⟨h, fun hb => by cases hb⟩
    · obtain ⟨h1, h2⟩ := ruleP_zs e h
      refine ⟨h1, fun hb => ⟨g1, by simp; omega, g4, fun r hr => ?_⟩⟩
      rcases List.mem_append.1 hr with hr | hr
      · exact g3 r hr
      · simp at hr; rw [hr]; exact h2 hb
theorem progF_zs (e : Int) : ∀ (f : Nat) (g : Pr) (L : List Tk), Zs L → ZzPr g → ZzPr (progF e f g L).val := by
  intro f
  induction f with
  | zero => intro g L _ hg; exact hg
  | succ f ih =>
    intro g L hL hg
    unfold progF
    split
    · exact hg
    · obtain ⟨h1, h2⟩ := clauseP_zs e (g := g) hL hg
      split
      · rename_i hb
        exact ih _ _ h1 (h2 hb)
      · exact ⟨by simp [Pr.zero], by simp [Pr.zero], by simp [Pr.zero], by simp [Pr.zero]⟩
theorem prZero_zs : ZzPr Pr.zero := ⟨by simp [Pr.zero], by simp [Pr.zero], by simp [Pr.zero], by simp [Pr.zero]⟩
theorem parseR_zs (s : ByteArray) : ZzPr (parseR s).g := by
  have hW : Zs (scanR s).toks := fun t h => ⟨scanR_short h, (scan_tx h).2.2⟩
  unfold parseR
  split
  · unfold parseL
    split
    · exact progF_zs _ _ _ _ hW prZero_zs
    · exact prZero_zs
  · exact prZero_zs

theorem zzTm_in {t : Tm} (h : ZzTm t) : InTm t ∧ szTm t ≤ 131078 := ⟨h.2.2, by have h1 := h.1; have h2 := h.2.1; unfold szTm; omega⟩
theorem tmz_in : InTm Tm.zero ∧ szTm Tm.zero ≤ 131078 := zzTm_in ⟨zz0, zz0, inZero⟩
theorem zzAm_in {a : Am} (h : ZzAm a) : InAm a ∧ szAm a ≤ 852006 := by
  obtain ⟨h1, h2, h3⟩ := h
  refine ⟨fun t ht => (zzTm_in (h3 t ht)).1, ?_⟩
  have := sum_le szTm 131078 (L := a.args) (fun t ht => (zzTm_in (h3 t ht)).2)
  have h4 : 131078 * a.args.length ≤ 131078 * 6 := Nat.mul_le_mul_left _ h2
  unfold szAm szTms
  omega
theorem amz_in : InAm Am.zero ∧ szAm Am.zero ≤ 852006 := zzAm_in ⟨zz0, by decide, fun t ht => by simp [Am.zero] at ht⟩
theorem ops_sz {o : ByteArray} (h : o.data.toList ∈ opsL) : o.size ≤ 65536 := by
  have e : o.data.toList.length = o.size := by simp
  unfold opsL at h
  simp only [List.mem_cons, List.not_mem_nil, or_false] at h
  rcases h with h | h | h | h | h | h <;> rw [h] at e <;> simp at e <;> omega
theorem zzLt_in {l : Lt} (h : ZzLt l) : InLt l ∧ szLt l ≤ 1179700 := by
  rcases h with ⟨-, ho, h1, h2, ha⟩ | ⟨-, ho, ha, h1, h2⟩
  · have hz := tmz_in
    rw [← h1] at hz
    have hz' := tmz_in
    rw [← h2] at hz'
    have := zzAm_in ha
    have h0 : l.op.size ≤ 65536 := by rw [ho]; decide
    exact ⟨⟨this.1, hz.1, hz'.1⟩, by unfold szLt; omega⟩
  · have hz := amz_in
    rw [← ha] at hz
    have k1 := zzTm_in h1
    have k2 := zzTm_in h2
    have h0 := ops_sz ho
    exact ⟨⟨hz.1, k1.1, k2.1⟩, by unfold szLt; omega⟩
theorem zzRu_in {r : Ru} (h : ZzRu r) : InRu r ∧ szRu r ≤ 10289607 := by
  obtain ⟨h1, h2, h3⟩ := h
  have ha := zzAm_in h1
  refine ⟨⟨ha.1, fun t ht => (zzLt_in (h3 t ht)).1⟩, ?_⟩
  have := sum_le szLt 1179700 (L := r.body) (fun t ht => (zzLt_in (h3 t ht)).2)
  have h4 : 1179700 * r.body.length ≤ 1179700 * 8 := Nat.mul_le_mul_left _ h2
  unfold szRu szLts
  omega
theorem zzDe_in {d : De} (h : ZzDe d) : InDe d ∧ szDe d ≤ 65539 := by
  obtain ⟨h1, h2, h3⟩ := h
  exact ⟨⟨by omega, by omega⟩, by unfold szDe; omega⟩
theorem zzPr_in {g : Pr} (h : ZzPr g) : InPr g ∧ szPr g ≤ 5000000000 := by
  obtain ⟨h1, h2, h3, h4⟩ := h
  refine ⟨⟨fun t ht => (zzDe_in (h3 t ht)).1, fun t ht => (zzRu_in (h4 t ht)).1⟩, ?_⟩
  have k1 := sum_le szDe 65539 (L := g.decls) (fun t ht => (zzDe_in (h3 t ht)).2)
  have k2 := sum_le szRu 10289607 (L := g.rules) (fun t ht => (zzRu_in (h4 t ht)).2)
  have h5 : 65539 * g.decls.length ≤ 65539 * 400 := Nat.mul_le_mul_left _ h1
  have h6 : 10289607 * g.rules.length ≤ 10289607 * 400 := Nat.mul_le_mul_left _ h2
  unfold szPr szDes szRus
  omega
/-- What was parsed can be read. -/
theorem zz_rus {w : World} {B : Nat} {y : Value} {g : Pr} (hg : ZzPr g) (h : RusO w B y g.rules) : Rus w y g.rules := by
  obtain ⟨-, h2, -, h4⟩ := hg
  refine RusO.rd h (by unfold maxLen; omega) (fun r hr => ?_)
  obtain ⟨h5, h6, h7⟩ := h4 r hr
  refine ⟨by have := h5.2.1; unfold maxLen; omega, by unfold maxLen; omega, fun l hl => ?_⟩
  rcases h7 l hl with ⟨-, -, -, -, ha⟩ | ⟨-, -, ha, -⟩
  · have := ha.2.1; unfold maxLen; omega
  · rw [ha]; decide
theorem zz_des {w : World} {B : Nat} {y : Value} {g : Pr} (hg : ZzPr g) (h : DesO w B y g.decls) : Des w y g.decls := DesO.rd h (by have := hg.1; unfold maxLen; omega)
end Go.Proofs.YtbbmihojfcofdaaGreatDoor

namespace Go.Proofs.YtbbmihojfcofdaaGreatDoor
set_option linter.unusedSimpArgs false
set_option linter.unusedVariables false
set_option linter.unusedSectionVars false
set_option maxRecDepth 100000
open Go.RowKit

def greatB (l : List UInt8) : Bool := !(l == []) && decide (l.length ≤ 32) && (match l with | [] => false | c :: _ => greatQ c) && plainL (118 :: l)
def mayTmB (t : Tm) : Bool :=
  if t.v then greatB t.name.data.toList && !t.k && (t.s.data.toList == []) && (t.n == 0)
  else (t.name.data.toList == []) && (if t.k then (t.n == 0) else (t.s.data.toList == []))
def tmZ (t : Tm) : Bool := !t.v && (t.name.data.toList == []) && !t.k && (t.s.data.toList == []) && (t.n == 0)
def mayAmB (a : Am) : Bool := shortPlain a.p.data.toList && (decide (a.args.length ≤ 6) && a.args.all mayTmB)
def isOpB (l : List UInt8) : Bool := (l == [61]) || (l == [33, 61]) || (l == [60]) || (l == [60, 61]) || (l == [62]) || (l == [62, 61])
def mayLtB (l : Lt) : Bool :=
  if l.kind = 1 ∨ l.kind = 2 then mayAmB l.atom && (l.op.data.toList == []) && tmZ l.l && tmZ l.r
  else if l.kind = 3 then isOpB l.op.data.toList && mayTmB l.l && mayTmB l.r && (l.atom.p.data.toList == []) && decide (l.atom.args.length = 0) else false
def mayRuB (r : Ru) : Bool := mayAmB r.head && (decide (r.body.length ≤ 8) && r.body.all mayLtB)
def mayDeB (d : De) : Bool := shortPlain d.p.data.toList && decide (0 ≤ d.ar) && decide (d.ar ≤ 6)
def mayPrB (g : Pr) : Bool := (decide (g.decls.length ≤ 400) && g.decls.all mayDeB) && (decide (g.rules.length ≤ 400) && g.rules.all mayRuB)

theorem empty_of {s : ByteArray} (h : s.data.toList = []) : s = ⟨#[]⟩ := Go.WideShapes.bytes_inj h
theorem inner_iff (c : UInt8) : nameB (c.toNat : Int) = innerQ c := by
  cases h : nameB (c.toNat : Int) with
  | true => exact (inner_same c h).symm
  | false =>
    cases h2 : innerQ c with
    | false => rfl
    | true =>
      exfalso
      unfold innerQ at h2
      unfold nameB at h
      rw [small_same] at h
      simp only [Bool.or_eq_true, Bool.and_eq_true, decide_eq_true_eq, beq_iff_eq, greatQ, figureQ] at h2
      simp only [Bool.or_eq_false_iff, Bool.and_eq_false_iff, decide_eq_false_iff_not, beq_eq_false_iff_ne] at h
      obtain ⟨⟨⟨h4, h5⟩, h6⟩, h7⟩ := h
      rcases h2 with ((h2 | h2) | h2) | h2
      · rw [h4] at h2; cases h2
      · omega
      · omega
      · subst h2; exact h7 (by decide)
theorem great_iff (l : List UInt8) : greatB l = true ↔ GreatNm l := by
  unfold greatB GreatNm
  cases l with
  | nil => simp
  | cons c u =>
    have hp : plainL (118 :: c :: u) = (nameAt (c :: u)) := by
      unfold plainL
      have h1 : smallB ((118 : UInt8).toNat : Int) = true := by decide
      have h2 : nameAt (118 :: c :: u) = nameAt (c :: u) := by
        unfold nameAt
        rw [List.all_cons]
        have : nameB ((118 : UInt8).toNat : Int) = true := by decide
        rw [this, Bool.true_and]
      have h3 : ((118 :: c :: u : List UInt8) == [110, 111, 116]) = false := by simp
      show (smallB ((118 : UInt8).toNat : Int) && nameAt (118 :: c :: u) && !((118 :: c :: u : List UInt8) == [110, 111, 116])) = _
      rw [h1, h2, h3]; simp
    rw [hp]
    unfold nameAt
    simp only [Bool.and_eq_true, Bool.not_eq_true', decide_eq_true_eq, List.length_cons]
    constructor
    · rintro ⟨⟨⟨-, h1⟩, h2⟩, h3⟩
      refine ⟨c, u, rfl, h2, fun x hx => ?_, by omega⟩
      rw [← inner_iff]
      exact List.all_eq_true.1 h3 x (by simp [hx])
    · rintro ⟨c', u', e, h2, h3, h4⟩
      cases e
      refine ⟨⟨⟨by simp, by omega⟩, h2⟩, List.all_eq_true.2 fun x hx => ?_⟩
      rw [inner_iff]
      rcases List.mem_cons.1 hx with rfl | hx
      · unfold innerQ; rw [h2]; simp
      · exact h3 x hx
theorem mayTm_iff {t : Tm} (h : InTm t) : mayTmB t = true ↔ MayTm t := by
  obtain ⟨v, name, k, s, n⟩ := t
  unfold mayTmB MayTm
  unfold InTm at h
  simp only at h ⊢
  have hn : name.data = #[] ↔ name = ⟨#[]⟩ := ⟨fun e => ByteArray.ext e, fun e => by rw [e]⟩
  have hs : s.data = #[] ↔ s = ⟨#[]⟩ := ⟨fun e => ByteArray.ext e, fun e => by rw [e]⟩
  cases v <;> cases k <;> simp [great_iff, hn, hs, h, and_assoc]
theorem tmZ_iff (t : Tm) : tmZ t = true ↔ t = Tm.zero := by
  obtain ⟨v, name, k, s, n⟩ := t
  unfold tmZ Tm.zero
  have hn : name.data = #[] ↔ name = ⟨#[]⟩ := ⟨fun e => ByteArray.ext e, fun e => by rw [e]⟩
  have hs : s.data = #[] ↔ s = ⟨#[]⟩ := ⟨fun e => ByteArray.ext e, fun e => by rw [e]⟩
  simp [hn, hs, and_assoc]
theorem mayAm_iff {a : Am} (h : InAm a) : mayAmB a = true ↔ MayAm a := by
  unfold mayAmB MayAm
  simp only [Bool.and_eq_true, decide_eq_true_eq, List.all_eq_true]
  constructor
  · rintro ⟨h1, h2, h3⟩; exact ⟨h1, h2, fun t ht => (mayTm_iff (h t ht)).1 (h3 t ht)⟩
  · rintro ⟨h1, h2, h3⟩; exact ⟨h1, h2, fun t ht => (mayTm_iff (h t ht)).2 (h3 t ht)⟩
theorem isOp_iff (l : List UInt8) : isOpB l = true ↔ l ∈ opsL := by
  unfold isOpB opsL
  simp [or_assoc]
theorem mayLt_iff {l : Lt} (h : InLt l) : mayLtB l = true ↔ MayLt l := by
  obtain ⟨k, ⟨p, A⟩, o, x, y⟩ := l
  obtain ⟨h1, h2, h3⟩ := h
  simp only at h1 h2 h3
  have ho : o.data.toList = [] ↔ o = ⟨#[]⟩ := ⟨empty_of, fun e => by rw [e]⟩
  have hp : p.data.toList = [] ↔ p = ⟨#[]⟩ := ⟨empty_of, fun e => by rw [e]⟩
  have hz : (⟨p, A⟩ : Am) = Am.zero ↔ (p = ⟨#[]⟩ ∧ A = []) := by unfold Am.zero; simp
  unfold mayLtB MayLt
  simp only
  by_cases k12 : k = 1 ∨ k = 2
  · rw [if_pos k12]
    have k3 : ¬ k = 3 := by omega
    simp only [Bool.and_eq_true, beq_iff_eq, mayAm_iff h1, tmZ_iff, ho, k12, k3, true_and, false_and, or_false]
    constructor
    · rintro ⟨⟨⟨a, b⟩, c⟩, d⟩; exact ⟨b, c, d, a⟩
    · rintro ⟨b, c, d, a⟩; exact ⟨⟨⟨a, b⟩, c⟩, d⟩
  · rw [if_neg k12]
    by_cases k3 : k = 3
    · rw [if_pos k3]
      simp only [Bool.and_eq_true, beq_iff_eq, isOp_iff, mayTm_iff h2, mayTm_iff h3, hp, hz, k12, k3, true_and, false_and, false_or, decide_eq_true_eq, List.length_eq_zero_iff]
      constructor
      · rintro ⟨⟨⟨⟨a, b⟩, c⟩, d⟩, e⟩; exact .inr ⟨a, ⟨d, e⟩, b, c⟩
      · rintro (⟨h, -⟩ | ⟨a, ⟨d, e⟩, b, c⟩)
        · omega
        · exact ⟨⟨⟨⟨a, b⟩, c⟩, d⟩, e⟩
    · rw [if_neg k3]
      simp [k12, k3]
theorem mayRu_iff {r : Ru} (h : InRu r) : mayRuB r = true ↔ MayRu r := by
  unfold mayRuB MayRu
  simp only [Bool.and_eq_true, decide_eq_true_eq, List.all_eq_true, mayAm_iff h.1]
  constructor
  · rintro ⟨h1, h2, h3⟩; exact ⟨h1, h2, fun t ht => (mayLt_iff (h.2 t ht)).1 (h3 t ht)⟩
  · rintro ⟨h1, h2, h3⟩; exact ⟨h1, h2, fun t ht => (mayLt_iff (h.2 t ht)).2 (h3 t ht)⟩
theorem mayDe_iff (d : De) : mayDeB d = true ↔ MayDe d := by
  unfold mayDeB MayDe
  simp [and_assoc]
theorem mayPr_iff {g : Pr} (h : InPr g) : mayPrB g = true ↔ MayPr g := by
  unfold mayPrB MayPr
  simp only [Bool.and_eq_true, decide_eq_true_eq, List.all_eq_true]
  constructor
  · rintro ⟨⟨h1, h2⟩, h3, h4⟩; exact ⟨h1, h3, fun t ht => (mayDe_iff t).1 (h2 t ht), fun t ht => (mayRu_iff (h.2 t ht)).1 (h4 t ht)⟩
  · rintro ⟨h1, h3, h2, h4⟩; exact ⟨⟨h1, fun t ht => (mayDe_iff t).2 (h2 t ht)⟩, h3, fun t ht => (mayRu_iff (h.2 t ht)).2 (h4 t ht)⟩

/-- Terms held against terms. -/
structure TmV (x : Tm) : Prop where
  name : x.name.size ≤ maxLen
  s : x.s.size ≤ maxLen
  n : InR x.n
theorem wideTermP : (match Tryz.prog.underlying 35 with | some (.array _ _) | some (.struct _) => true | _ => false) = true := by kernel_rfl
theorem keyTypeTermP : Tryz.prog.keyType 35 = true := by kernel_rfl
theorem tiledTerm : Tryz.prog.tiled 4 35 = true := by kernel_rfl
theorem cellsTmQ : Tryz.prog.cellsOf 35 = 5 := by kernel_rfl
theorem cellsVlQ : Tryz.prog.cellsOf 33 = 3 := by kernel_rfl
theorem cellsBR : Tryz.prog.cellsOf 4 = 1 := by kernel_rfl
theorem cellsSR : Tryz.prog.cellsOf 9 = 1 := by kernel_rfl
theorem cellsIR : Tryz.prog.cellsOf 2 = 1 := by kernel_rfl
theorem keyOf_fiveP {P : Program} {t : TypeId} {f0 f1 f2 g0 g1 g2 : Field} (ht : P.underlying t = some (.struct #[f0, f1, f2])) (hk : P.keyType t = true) (ct : P.cellsOf t = 5) (hm : ∃ m, P.types.size = m + 2)
    (o0 : f0.offset = 0) (o1 : f1.offset = 1) (o2 : f2.offset = 2) (c0 : P.cellsOf f0.type = 1) (c1 : P.cellsOf f1.type = 1) (c2 : P.cellsOf f2.type = 3) (n0 : f0.name ≠ "_") (n1 : f1.name ≠ "_") (n2 : f2.name ≠ "_")
    (u0 : P.underlying f0.type = some .bool) (u1 : P.underlying f1.type = some .string) (u2 : P.underlying f2.type = some (.struct #[g0, g1, g2]))
    (p0 : g0.offset = 0) (p1 : g1.offset = 1) (p2 : g2.offset = 2) (d0 : P.cellsOf g0.type = 1) (d1 : P.cellsOf g1.type = 1) (d2 : P.cellsOf g2.type = 1) (m0 : g0.name ≠ "_") (m1 : g1.name ≠ "_") (m2 : g2.name ≠ "_")
    (v0 : P.underlying g0.type = some .bool) (v1 : P.underlying g1.type = some .string) (v2 : P.underlying g2.type = some (.int .i64)) {x : Tm} (h : TmV x) :
    ∃ l, keyOf P t (.agg #[.bool x.v, .string x.name, .bool x.k, .string x.s, .int .i64 x.n]) = some l := by
  obtain ⟨m, hm⟩ := hm
  have hs1 := h.name
  have hs2 := h.s
  have hw : (Lit.int .i64 x.n).wf = true := WalkArith.wf_i64 ⟨h.n.1, h.n.2⟩
  simp [keyOf, ht, hk, Value.formed, ct, hm, Program.keyLits, o0, o1, o2, c0, c1, c2, n0, n1, n2, u0, u1, u2, p0, p1, p2, d0, d1, d2, m0, m1, m2, v0, v1, v2, Value.cells, hs1, hs2, hw]
  have hq : ∀ (i : Nat) (x : i < 3), ¬[g0, g1, g2][i].name = "_" := fun i hi => by
    match i, hi with
    | 0, _ => exact m0
    | 1, _ => exact m1
    | 2, _ => exact m2
  rw [if_pos hq]
  exact ⟨_, rfl⟩
theorem keyTm {x : Tm} (h : TmV x) : ∃ l, keyOf Tryz.prog 35 (.agg #[.bool x.v, .string x.name, .bool x.k, .string x.s, .int .i64 x.n]) = some l :=
  keyOf_fiveP Tryz.underlying35 keyTypeTermP cellsTmQ ⟨_, (show Tryz.prog.types.size = (Tryz.prog.types.size - 2) + 2 by kernel_rfl)⟩ rfl rfl rfl cellsBR cellsSR cellsVlQ (by decide) (by decide) (by decide) Tryz.underlying4 Tryz.underlying9 Tryz.underlying33
    rfl rfl rfl cellsBR cellsSR cellsIR (by decide) (by decide) (by decide) Tryz.underlying4 Tryz.underlying9 Tryz.underlying2 h
theorem keyTypeAtTm : Tryz.prog.keyTypeAt 4 35 = true := by kernel_rfl
theorem eql_tm {x y : Tm} (hx : TmV x) (hy : TmV y) {b : Bool} (hb : b = true ↔ x = y) (w : World) : (binOp .eql 35 (.agg #[.bool x.v, .string x.name, .bool x.k, .string x.s, .int .i64 x.n]) (.agg #[.bool y.v, .string y.name, .bool y.k, .string y.s, .int .i64 y.n])).run Tryz.prog w = .ok (.bool b) w := by
  obtain ⟨l, hl⟩ := keyTm hx
  obtain ⟨m, hm⟩ := keyTm hy
  obtain ⟨r, hr, hiff⟩ := run_equal_deep (P := Tryz.prog) w (m := 4) (by omega) (k := 35) keyTypeAtTm wideTermP hl hm
  have : r = b := by
    have h1 : r = true ↔ b = true := by
      rw [hiff, hb]
      constructor
      · intro e
        subst e
        have a := keyOf_inj_deep tiledTerm wideTermP hl hm
        obtain ⟨xv, xname, xk, xs, xn⟩ := x
        obtain ⟨yv, yname, yk, ys, yn⟩ := y
        simp at a
        obtain ⟨rfl, rfl, rfl, rfl, rfl⟩ := a
        rfl
      · intro e
        subst e
        exact Option.some.inj (hl.symm.trans hm)
    cases r <;> cases b <;> simp_all
  subst this
  simp [binOp, hr, Result.andThen]
end Go.Proofs.YtbbmihojfcofdaaGreatDoor
