/-
  Each token that is scanned is read again as it is; what is joined is no longer than twice the text. Plain facts; no walk.
-/
import Derived.Test.YtngnhoonpgkhdaaDoorKBack2
import Derived.Lib.ParseIntBTie
namespace Go.Proofs.YtngnhoonpgkhdaaDoor
set_option linter.unusedSimpArgs false
set_option linter.unusedVariables false
set_option linter.unusedSectionVars false
set_option maxRecDepth 100000
open Go.RowKit

theorem small_eq (c : UInt8) : smallB (c.toNat : Int) = smallQ c := by
  simp only [smallB, smallQ]
  congr 1 <;> (apply decide_eq_decide.2; omega)
theorem inner_eq (c : UInt8) : nameB (c.toNat : Int) = innerQ c := by
  have e1 : decide ((65 : Int) ≤ (c.toNat : Int)) = decide (65 ≤ c.toNat) := decide_eq_decide.2 (by omega)
  have e2 : decide ((c.toNat : Int) ≤ 90) = decide (c.toNat ≤ 90) := decide_eq_decide.2 (by omega)
  have e3 : decide ((48 : Int) ≤ (c.toNat : Int)) = decide (48 ≤ c.toNat) := decide_eq_decide.2 (by omega)
  have e4 : decide ((c.toNat : Int) ≤ 57) = decide (c.toNat ≤ 57) := decide_eq_decide.2 (by omega)
  have e5 : ((c.toNat : Int) == 95) = (c == 95) := by
    rw [Bool.eq_iff_iff]
    simp only [beq_iff_eq]
    constructor
    · intro h
      apply UInt8.toNat_inj.1
      have : (95 : UInt8).toNat = 95 := rfl
      omega
    · intro h; subst h; rfl
  simp only [nameB, innerQ, small_eq, greatQ, figureQ, e1, e2, e3, e4, e5]
theorem small_inner {c : UInt8} (h : smallQ c = true) : innerQ c = true := by simp [innerQ, h]
theorem great_inner {c : UInt8} (h : greatQ c = true) : innerQ c = true := by simp [innerQ, h]
theorem run_take (f : UInt8 → Bool) (l : List UInt8) : ∀ x ∈ l.take (runLen f l), f x = true := by
  induction l with
  | nil => simp
  | cons c l ih =>
    intro x hx
    cases hc : f c
    · simp [runLen, hc] at hx
    · have e : runLen f (c :: l) = runLen f l + 1 := by simp [runLen, hc]
      rw [e, List.take_succ_cons] at hx
      rcases List.mem_cons.1 hx with rfl | hx
      · exact hc
      · exact ih x hx
theorem small_kind {c : UInt8} (h : smallQ c = true) : blankQ c = false ∧ c ≠ 37 := by
  simp [smallQ] at h
  refine ⟨?_, fun e => by subst e; revert h; decide⟩
  simp only [blankQ, Bool.or_eq_false_iff, beq_eq_false_iff_ne]
  refine ⟨⟨⟨?_, ?_⟩, ?_⟩, ?_⟩ <;> (rintro rfl; revert h; decide)
theorem great_kind {c : UInt8} (h : greatQ c = true) : blankQ c = false ∧ c ≠ 37 ∧ smallQ c = false := by
  simp [greatQ] at h
  refine ⟨?_, fun e => by subst e; revert h; decide, by simp [smallQ]; omega⟩
  simp only [blankQ, Bool.or_eq_false_iff, beq_eq_false_iff_ne]
  refine ⟨⟨⟨?_, ?_⟩, ?_⟩, ?_⟩ <;> (rintro rfl; revert h; decide)
/-- A name, or a variable, read again. -/
theorem name_again {kind : Int} {n : List UInt8} (hn : ∀ x ∈ n, innerQ x = true) (h32 : n.length ≤ 32) (r : List UInt8) : nameL kind (n ++ 32 :: r) = ⟨0, ⟨kind, ⟨n.toArray⟩, 0, false, 0⟩, n.length⟩ := by
  have e : runLen innerQ (n ++ 32 :: r) = n.length := runLen_all _ _ _ _ hn rfl
  unfold nameL
  rw [e, if_neg (by omega)]
  simp
/-- What a token's text is worth: it is read again, and no longer than so much. -/
def GoodLen (t : Tk) (n : Nat) : Prop := Good t ∧ (textT t).length ≤ n
theorem text_same {t : Tk} (hk : t.kind = 1) (h : t.q = false ∧ (plainL t.s.data.toList = true ∨ t.s.data.toList = [110, 111, 116])) : textT t = t.s.data.toList := by unfold textT; rw [if_pos hk, if_pos h]
theorem name_good {kind : Int} {c : UInt8} {t : List UInt8} (hk : (kind = 1 ∧ smallQ c = true) ∨ (kind = 2 ∧ greatQ c = true)) (hb : (nameL kind (c :: t)).bad = 0) (p : Nat) : GoodLen ((nameL kind (c :: t)).tok.put p) (nameL kind (c :: t)).len := by
  have hi : innerQ c = true := by rcases hk with ⟨-, h⟩ | ⟨-, h⟩; exact small_inner h; exact great_inner h
  have h32 : ¬ 32 < runLen innerQ (c :: t) := by
    intro h
    unfold nameL at hb
    rw [if_pos h] at hb
    cases hb
  have hr := run_take innerQ (c :: t)
  have hl := runLen_le innerQ (c :: t)
  have e : runLen innerQ (c :: t) = runLen innerQ t + 1 := by simp [runLen, hi]
  unfold nameL
  rw [if_neg h32]
  rw [e] at hr hl h32 ⊢
  rw [List.take_succ_cons] at hr ⊢
  obtain ⟨m, hm⟩ : ∃ m, m = t.take (runLen innerQ t) := ⟨_, rfl⟩
  have hml : m.length = runLen innerQ t := by rw [hm, List.length_take]; simp at hl; omega
  rw [← hm] at hr ⊢
  rw [← hml] at h32 ⊢
  clear hm hl e hb
  rcases hk with ⟨rfl, hs⟩ | ⟨rfl, hg⟩
  · have htext : textT (Tk.put ⟨1, ⟨(c :: m).toArray⟩, 0, false, 0⟩ p) = c :: m := by
      have hpl : plainL (c :: m) = true ∨ (c :: m) = [110, 111, 116] := by
        by_cases hnot : (c :: m) = [110, 111, 116]
        · exact .inr hnot
        · left
          have h1 : smallB (c.toNat : Int) = true := by rw [small_eq]; exact hs
          have h2 : nameAt (c :: m) = true := by
            unfold nameAt
            rw [List.all_eq_true]
            intro x hx
            rw [inner_eq]
            exact hr x hx
          have h3 : (c :: m == [110, 111, 116]) = false := by simpa using hnot
          simp only [plainL, h1, h2, h3]; rfl
      exact text_same (t := ⟨1, ⟨(c :: m).toArray⟩, 0, false, (p : Int)⟩) rfl ⟨rfl, hpl⟩
    refine ⟨⟨⟨c, m, htext, (small_kind hs).1, (small_kind hs).2⟩, fun r => ⟨⟨1, ⟨(c :: m).toArray⟩, 0, false, 0⟩, ?_, rfl, rfl, rfl, rfl⟩⟩, by rw [htext]; simp⟩
    rw [htext, List.cons_append, oneL_cons]
    unfold oneC
    rw [if_pos hs, ← List.cons_append, name_again hr (by simp; omega)]
  · have htext : textT (Tk.put ⟨2, ⟨(c :: m).toArray⟩, 0, false, 0⟩ p) = c :: m := by
      unfold textT Tk.put
      simp
    refine ⟨⟨⟨c, m, htext, (great_kind hg).1, (great_kind hg).2.1⟩, fun r => ⟨⟨2, ⟨(c :: m).toArray⟩, 0, false, 0⟩, ?_, rfl, rfl, rfl, rfl⟩⟩, by rw [htext]; simp⟩
    rw [htext, List.cons_append, oneL_cons]
    unfold oneC
    rw [if_neg (by rw [(great_kind hg).2.2]; decide), if_pos hg, ← List.cons_append, name_again hr (by simp; omega)]
theorem put_pl (t : Tk) (p : Nat) : Tk.put t p = ⟨t.kind, t.s, t.n, t.q, (p : Int)⟩ := rfl
theorem mark_again (m : List UInt8) (hm : m ∈ markT) (r : List UInt8) : ∃ c u, m = c :: u ∧ blankQ c = false ∧ c ≠ 37 ∧ oneL (m ++ 32 :: r) = ⟨0, ⟨4, ⟨m.toArray⟩, 0, false, 0⟩, m.length⟩ := by
  simp only [markT, List.mem_cons, List.mem_nil_iff, or_false] at hm
  rcases hm with rfl | rfl | rfl | rfl | rfl | rfl | rfl | rfl | rfl | rfl | rfl | rfl
  all_goals exact ⟨_, _, rfl, by decide, by decide, rfl⟩
theorem oneL_good {l : List UInt8} (h0 : l ≠ []) (h : (oneL l).bad = 0) (p : Nat) : GoodLen ((oneL l).tok.put p) (oneL l).len := by
  match l, h0 with
  | c :: t, _ =>
    rw [oneL_cons] at h ⊢
    unfold oneC at h ⊢
    by_cases h1 : smallQ c = true
    · rw [if_pos h1] at h ⊢
      exact name_good (.inl ⟨rfl, h1⟩) h p
    rw [if_neg h1] at h ⊢
    by_cases h2 : greatQ c = true
    · rw [if_pos h2] at h ⊢
      exact name_good (.inr ⟨rfl, h2⟩) h p
    rw [if_neg h2] at h ⊢
    by_cases h3 : c = 39
    · rw [if_pos h3] at h ⊢
      unfold quoL at h ⊢
      simp only [List.tail_cons] at h ⊢
      cases hq : quoS t with
      | none => rw [hq] at h; simp [quoOf] at h
      | some r =>
        have hl := quoS_len2 hq
        refine ⟨good_quote _ _, ?_⟩
        show (textT ⟨1, ⟨r.1.toArray⟩, 0, true, (p : Int)⟩).length ≤ r.2 + 1
        have e : textT ⟨1, ⟨r.1.toArray⟩, 0, true, (p : Int)⟩ = quoteL r.1 := by simp [textT]
        rw [e]
        simp [quoteL]
        omega
    rw [if_neg h3] at h ⊢
    by_cases h4 : (figureQ c || (c == 45 && decide (0 < runLen figureQ t))) = true
    · rw [if_pos h4] at h ⊢
      unfold numL at h ⊢
      simp only [List.tail_cons] at h ⊢
      have hrl := runLen_le figureQ t
      cases hp : Lib.parseIntB 64 ((c :: t).take (1 + runLen figureQ t)) with
      | ok v =>
        rw [numOf_ok hp]
        have hb := Lib.parseIntB_bounds hp
        have hR : InR v := ⟨by have := hb.1; omega, by have := hb.2; omega⟩
        refine ⟨good_num _ false _ hR rfl rfl, ?_⟩
        have hi := itoa_len hp
        show (textT ⟨3, ⟨#[]⟩, v, false, (p : Int)⟩).length ≤ 1 + runLen figureQ t
        have e : textT ⟨3, ⟨#[]⟩, v, false, (p : Int)⟩ = Lib.itoa v := by simp [textT]
        rw [e]
        refine Nat.le_trans hi ?_
        rw [List.length_take]
        exact Nat.min_le_left _ _
      | _ =>
        rw [numOf_bad (by rw [hp]; intro v hv; cases hv)] at h
        cases h
    · rw [if_neg h4] at h ⊢
      unfold markL at h ⊢
      cases hm : markT.find? (fun m => m.isPrefixOf (c :: t)) with
      | none => rw [hm] at h; simp [markOf] at h
      | some m =>
        have hmem := List.mem_of_find?_eq_some hm
        have htext : textT (Tk.put ⟨4, ⟨m.toArray⟩, 0, false, 0⟩ p) = m := by
          unfold textT Tk.put
          simp
        refine ⟨⟨?_, fun r => ?_⟩, ?_⟩
        · obtain ⟨c', u, e, hb, h37, -⟩ := mark_again m hmem []
          exact ⟨c', u, by show textT (Tk.put ⟨4, ⟨m.toArray⟩, 0, false, 0⟩ p) = _; rw [htext, e], hb, h37⟩
        · obtain ⟨c', u, e, hb, h37, ho⟩ := mark_again m hmem r
          refine ⟨⟨4, ⟨m.toArray⟩, 0, false, 0⟩, ?_, rfl, rfl, rfl, rfl⟩
          show oneL (textT (Tk.put ⟨4, ⟨m.toArray⟩, 0, false, 0⟩ p) ++ 32 :: r) = ⟨0, _, (textT (Tk.put ⟨4, ⟨m.toArray⟩, 0, false, 0⟩ p)).length⟩
          rw [htext, ho]
        · show (textT (Tk.put ⟨4, ⟨m.toArray⟩, 0, false, 0⟩ p)).length ≤ m.length
          rw [htext]; exact Nat.le_refl _
/-- All tokens of a text are such, and what is joined is no longer than twice the text. -/
theorem scanF_good (f p : Nat) (l : List UInt8) : (∀ t ∈ (scanF f p l).toks, Good t) ∧ (joinL (scanF f p l).toks).length ≤ 2 * l.length := by
  induction f generalizing p l with
  | zero => exact ⟨by simp [scanF], by simp [scanF, joinL]⟩
  | succ f ih =>
    unfold scanF
    by_cases h1 : l.length ≤ skipS false l
    · rw [if_pos h1]; exact ⟨by simp, by simp [joinL]⟩
    rw [if_neg h1]
    by_cases h2 : (oneL (l.drop (skipS false l))).bad = 0
    · rw [if_pos h2]
      have hne : l.drop (skipS false l) ≠ [] := by intro e; have := congrArg List.length e; simp at this; omega
      have hl := oneL_len hne h2
      have hl2 := hl.2
      simp at hl2
      obtain ⟨g1, g2⟩ := oneL_good hne h2 (p + skipS false l)
      obtain ⟨i1, i2⟩ := ih (p + skipS false l + (oneL (l.drop (skipS false l))).len) (l.drop (skipS false l + (oneL (l.drop (skipS false l))).len))
      unfold Res.cons
      split
      · refine ⟨fun t ht => ?_, ?_⟩
        · rcases List.mem_cons.1 ht with rfl | ht
          · exact g1
          · exact i1 t ht
        · have e : ∀ (t : Tk) (T : List Tk), joinL (t :: T) = textT t ++ 32 :: joinL T := fun t T => by simp [joinL]
          rw [e, List.length_append, List.length_cons]
          simp at i2
          omega
      · refine ⟨i1, ?_⟩
        simp at i2
        omega
    · rw [if_neg h2]
      exact ⟨by simp, by simp [joinL]⟩
/-- P5.3: what was scanned and is joined is scanned as it was, but for places. -/
theorem scan_back {s : ByteArray} (h8 : s.size ≤ 8000) (hok : (scanR s).bad = 0) : (joinL (scanR s).toks).length ≤ 16000 ∧ ∃ T', scanR ⟨(joinL (scanR s).toks).toArray⟩ = ⟨0, 0, T'⟩ ∧ T'.length = (scanR s).toks.length ∧ ∀ (i : Nat) (h1 : i < T'.length) (h2 : i < (scanR s).toks.length), Alike T'[i] (scanR s).toks[i] := by
  have e : scanR s = scanAt 0 s.data.toList := by unfold scanR; rw [if_neg (by omega)]
  obtain ⟨h1, h2⟩ := scanF_good (s.data.toList.length + 1) 0 s.data.toList
  have h1' : ∀ t ∈ (scanR s).toks, Good t := by rw [e]; exact h1
  have h2' : (joinL (scanR s).toks).length ≤ 2 * s.data.toList.length := by rw [e]; exact h2
  have hl : (joinL (scanR s).toks).length ≤ 16000 := by simp at h2'; omega
  refine ⟨hl, ?_⟩
  obtain ⟨T', h3, h4, h5⟩ := scan_join _ h1' 0
  refine ⟨T', ?_, h4, h5⟩
  rw [← h3]
  have e2 : (⟨(joinL (scanR s).toks).toArray⟩ : ByteArray).size = (joinL (scanR s).toks).length := rfl
  generalize joinL (scanR s).toks = J at *
  unfold scanR
  rw [if_neg (by rw [e2]; omega)]
end Go.Proofs.YtngnhoonpgkhdaaDoor
