/-
  What is scanned: kinds, places, and a text behind blanks. Plain facts; no walk.
-/
import Derived.Test.YtbbmihojfcofdaaGreatDoorKScan
namespace Go.Proofs.YtbbmihojfcofdaaGreatDoor
set_option linter.unusedSimpArgs false
set_option linter.unusedVariables false
set_option linter.unusedSectionVars false
set_option maxRecDepth 100000
open Go.RowKit

theorem scanF_all {Q : Tk → Prop} (hQ : ∀ l p, l ≠ [] → (oneL l).bad = 0 → Q ((oneL l).tok.put p)) : ∀ f p l t, t ∈ (scanF f p l).toks → Q t := by
  intro f
  induction f with
  | zero => intro p l t ht; simp [scanF] at ht
  | succ f ih =>
    intro p l t ht
    unfold scanF at ht
    split at ht
    · simp at ht
    · rename_i h1
      split at ht
      · rename_i h2
        unfold Res.cons at ht
        split at ht
        · rcases List.mem_cons.1 ht with rfl | ht
          · exact hQ _ _ (by intro e; have := congrArg List.length e; simp at this; omega) h2
          · exact ih _ _ _ ht
        · exact ih _ _ _ ht
      · simp at ht

/-- What a token that is scanned may be. -/
def KindOk (t : Tk) : Prop :=
  (t.kind = 1 ∧ t.q = true ∧ t.n = 0) ∨ (t.kind = 1 ∧ t.q = false ∧ t.n = 0 ∧ t.s.size ≤ 32 ∧ ∃ h : 0 < t.s.size, smallQ t.s[0] = true) ∨
  (t.kind = 2 ∧ t.q = false ∧ t.n = 0 ∧ t.s.size ≤ 32 ∧ ∃ h : 0 < t.s.size, greatQ t.s[0] = true) ∨ (t.kind = 3 ∧ t.q = false ∧ t.s = ⟨#[]⟩) ∨ (t.kind = 4 ∧ t.q = false ∧ t.n = 0 ∧ (t.s.size = 1 ∨ t.s.size = 2))
theorem nameL_of {kind : Int} {c : UInt8} {l : List UInt8} (hi : innerQ c = true) (hb : (nameL kind (c :: l)).bad = 0) : ∃ t : List UInt8, (nameL kind (c :: l)).tok = ⟨kind, ⟨(c :: t).toArray⟩, 0, false, 0⟩ ∧ t.length + 1 ≤ 32 := by
  unfold nameL at hb ⊢
  split at hb
  · simp at hb
  · rename_i hn
    rw [if_neg hn]
    have e : runLen innerQ (c :: l) = runLen innerQ l + 1 := by simp [runLen, hi]
    rw [e] at hn ⊢
    refine ⟨l.take (runLen innerQ l), by simp, ?_⟩
    simp; omega
theorem oneL_kind {l : List UInt8} (h0 : l ≠ []) (h : (oneL l).bad = 0) (p : Nat) : KindOk ((oneL l).tok.put p) := by
  match l, h0 with
  | c :: t, _ =>
    rw [oneL_cons] at h ⊢
    unfold oneC at h ⊢
    by_cases h1 : smallQ c = true
    · rw [if_pos h1] at h ⊢
      obtain ⟨u, hu, hl⟩ := nameL_of (by simp [innerQ, h1]) h
      rw [hu]
      exact .inr (.inl ⟨rfl, rfl, rfl, by simpa [Tk.put, ByteArray.size] using hl, by simp [Tk.put, ByteArray.size], h1⟩)
    rw [if_neg h1] at h ⊢
    by_cases h2 : greatQ c = true
    · rw [if_pos h2] at h ⊢
      obtain ⟨u, hu, hl⟩ := nameL_of (by simp [innerQ, h2]) h
      rw [hu]
      exact .inr (.inr (.inl ⟨rfl, rfl, rfl, by simpa [Tk.put, ByteArray.size] using hl, by simp [Tk.put, ByteArray.size], h2⟩))
    rw [if_neg h2] at h ⊢
    by_cases h3 : c = 39
    · rw [if_pos h3] at h ⊢
      unfold quoL at h ⊢
      simp only [List.tail_cons] at h ⊢
      cases hq : quoS t with
      | none => rw [hq] at h; simp [quoOf] at h
      | some r => exact .inl ⟨rfl, rfl, rfl⟩
    rw [if_neg h3] at h ⊢
    by_cases h4 : (figureQ c || (c == 45 && decide (0 < runLen figureQ t))) = true
    · rw [if_pos h4] at h ⊢
      unfold numL numOf at h ⊢
      split at h
      · exact .inr (.inr (.inr (.inl ⟨rfl, rfl, rfl⟩)))
      · simp at h
    · rw [if_neg h4] at h ⊢
      unfold markL at h ⊢
      cases hm : markT.find? (fun m => m.isPrefixOf (c :: t)) with
      | none => rw [hm] at h; simp [markOf] at h
      | some m =>
        have hmem := List.mem_of_find?_eq_some hm
        have : ∀ m ∈ markT, m.length = 1 ∨ m.length = 2 := by decide
        refine .inr (.inr (.inr (.inr ⟨rfl, rfl, rfl, ?_⟩)))
        simpa [markOf, Tk.put, ByteArray.size] using this m hmem
theorem scan_kind {s : ByteArray} {t : Tk} (h : t ∈ (scanR s).toks) : KindOk t := by
  unfold scanR at h
  split at h
  · simp at h
  · exact scanF_all (Q := KindOk) (fun l p h0 hb => oneL_kind h0 hb p) _ _ _ _ h

theorem oneL_bad_le (l : List UInt8) : (oneL l).bad ≤ 4 := by
  unfold oneL oneC
  split
  · unfold nameL; split <;> simp
  split
  · unfold nameL; split <;> simp
  split
  · unfold quoL quoOf; split <;> simp
  split
  · unfold numL numOf; split <;> simp
  · unfold markL markOf; split <;> simp
theorem scanF_err (f p : Nat) (l : List UInt8) : (scanF f p l).bad ≠ 0 → (scanF f p l).toks = [] ∧ (scanF f p l).pl ≤ p + l.length := by
  induction f generalizing p l with
  | zero => intro h; exact absurd rfl h
  | succ f ih =>
    intro h
    unfold scanF at h ⊢
    by_cases h1 : l.length ≤ skipS false l
    · rw [if_pos h1] at h; exact absurd rfl h
    rw [if_neg h1] at h ⊢
    by_cases h2 : (oneL (l.drop (skipS false l))).bad = 0
    · rw [if_pos h2] at h ⊢
      have hl := oneL_len (l := l.drop (skipS false l)) (by intro e; have := congrArg List.length e; simp at this; omega) h2
      have hl2 := hl.2
      simp at hl2
      unfold Res.cons at h ⊢
      split at h
      · exact absurd rfl h
      · rename_i h3
        rw [if_neg h3]
        obtain ⟨e1, e2⟩ := ih _ _ h
        refine ⟨e1, ?_⟩
        simp at e2
        omega
    · rw [if_neg h2]
      exact ⟨rfl, by simp; omega⟩
theorem scanF_len (f p : Nat) (l : List UInt8) : (scanF f p l).toks.length ≤ l.length := by
  induction f generalizing p l with
  | zero => simp [scanF]
  | succ f ih =>
    unfold scanF
    by_cases h1 : l.length ≤ skipS false l
    · rw [if_pos h1]; simp
    rw [if_neg h1]
    by_cases h2 : (oneL (l.drop (skipS false l))).bad = 0
    · rw [if_pos h2]
      have hl := oneL_len (l := l.drop (skipS false l)) (by intro e; have := congrArg List.length e; simp at this; omega) h2
      have h3 := ih (p + skipS false l + (oneL (l.drop (skipS false l))).len) (l.drop (skipS false l + (oneL (l.drop (skipS false l))).len))
      unfold Res.cons
      split
      · simp at h3 ⊢; omega
      · simp at h3; omega
    · rw [if_neg h2]; simp
theorem scanR_len (s : ByteArray) : (scanR s).toks.length ≤ 65536 := by
  unfold scanR
  split
  · simp
  · rename_i h
    have := scanF_len (s.data.toList.length + 1) 0 s.data.toList
    simp only [scanAt]
    simp at this h ⊢
    omega
theorem scanR_err {s : ByteArray} (h : (scanR s).bad ≠ 0) : (scanR s).toks = [] := by
  unfold scanR at h ⊢
  split
  · rfl
  · rename_i h1
    rw [if_neg h1] at h
    exact (scanF_err _ _ _ h).1

/-- Moved by so many. -/
def Tk.move (m : Nat) (t : Tk) : Tk := ⟨t.kind, t.s, t.n, t.q, t.pl + (m : Int)⟩
def Res.move (m : Nat) (r : Res) : Res := ⟨r.bad, if r.bad = 0 then 0 else r.pl + m, r.toks.map (Tk.move m)⟩
theorem scanF_move (f p m : Nat) (l : List UInt8) : scanF f (p + m) l = (scanF f p l).move m := by
  induction f generalizing p l with
  | zero => rfl
  | succ f ih =>
    unfold scanF
    by_cases h1 : l.length ≤ skipS false l
    · rw [if_pos h1, if_pos h1]; rfl
    rw [if_neg h1, if_neg h1]
    by_cases h2 : (oneL (l.drop (skipS false l))).bad = 0
    · rw [if_pos h2, if_pos h2]
      have e : p + m + skipS false l + (oneL (l.drop (skipS false l))).len = p + skipS false l + (oneL (l.drop (skipS false l))).len + m := by omega
      rw [e, ih]
      generalize scanF f (p + skipS false l + (oneL (l.drop (skipS false l))).len) (l.drop (skipS false l + (oneL (l.drop (skipS false l))).len)) = r
      by_cases h3 : r.bad = 0
      · simp [Res.cons, Res.move, h3, Tk.move, Tk.put]; omega
      · simp [Res.cons, Res.move, h3]
    · rw [if_neg h2, if_neg h2]
      simp [Res.move, h2]; omega
theorem skip_pad (m : Nat) (l : List UInt8) : skipS false (List.replicate m 32 ++ l) = m + skipS false l := by
  induction m with
  | zero => simp
  | succ m ih =>
    rw [List.replicate_succ, List.cons_append, skipS_blank rfl, ih]; omega
theorem scan_pad (m : Nat) (l : List UInt8) : scanAt 0 (List.replicate m 32 ++ l) = (scanAt 0 l).move m := by
  rw [scanAt_skip, skip_pad, List.drop_append]
  simp only [List.length_replicate, Nat.zero_add]
  rw [List.drop_of_length_le (by simp), List.nil_append, show m + skipS false l - m = skipS false l by omega]
  have e := scanAt_skip m l
  rw [← e]
  have := scanF_move (l.length + 1) 0 m l
  rw [Nat.zero_add] at this
  exact this
/-- Places rise, and are within the text. -/
theorem scanF_rise (f p : Nat) (l : List UInt8) : (∀ t ∈ (scanF f p l).toks, (p : Int) ≤ t.pl ∧ t.pl < (p : Int) + (l.length : Int)) ∧ (scanF f p l).toks.Pairwise (fun a b => a.pl < b.pl) := by
  induction f generalizing p l with
  | zero => simp [scanF]
  | succ f ih =>
    unfold scanF
    by_cases h1 : l.length ≤ skipS false l
    · rw [if_pos h1]; simp
    rw [if_neg h1]
    by_cases h2 : (oneL (l.drop (skipS false l))).bad = 0
    · rw [if_pos h2]
      have hl := oneL_len (l := l.drop (skipS false l)) (by intro e; have := congrArg List.length e; simp at this; omega) h2
      have hl2 := hl.2
      simp at hl2
      obtain ⟨i1, i2⟩ := ih (p + skipS false l + (oneL (l.drop (skipS false l))).len) (l.drop (skipS false l + (oneL (l.drop (skipS false l))).len))
      unfold Res.cons
      split
      · refine ⟨fun t ht => ?_, List.pairwise_cons.2 ⟨fun t ht => ?_, i2⟩⟩
        · rcases List.mem_cons.1 ht with rfl | ht
          · simp [Tk.put]; omega
          · have := i1 t ht
            simp at this
            omega
        · have := i1 t ht
          simp [Tk.put] at this ⊢
          omega
      · refine ⟨fun t ht => ?_, i2⟩
        have := i1 t ht
        simp at this
        omega
    · rw [if_neg h2]; simp
end Go.Proofs.YtbbmihojfcofdaaGreatDoor
