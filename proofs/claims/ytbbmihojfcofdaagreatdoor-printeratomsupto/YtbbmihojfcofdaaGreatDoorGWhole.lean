/-
  Contract of parse.Parse.
-/
import Derived.Test.YtbbmihojfcofdaaGreatDoorGPrg
import Derived.Test.YtbbmihojfcofdaaGreatDoorKFacts
import Derived.BigRegion
namespace Go.Proofs.YtbbmihojfcofdaaGreatDoor
set_option linter.unusedSimpArgs false
set_option linter.unusedVariables false
set_option linter.unusedSectionVars false
set_option maxRecDepth 100000
open Go.RowKit Go.Maps

theorem quoS_short {l : List UInt8} {r : List UInt8 × Nat} (h : quoS l = some r) : r.1.length ≤ l.length := by
  have aux : ∀ (n : Nat) (l : List UInt8), l.length ≤ n → ∀ r, quoS l = some r → r.1.length ≤ l.length := by
    intro n
    induction n with
    | zero =>
      intro l hl r hr
      have : l = [] := List.length_eq_zero_iff.1 (by omega)
      subst this
      simp [quoS] at hr
    | succ n ih =>
      intro l hl r hr
      match l, hl, hr with
      | [], _, hr => simp [quoS] at hr
      | c :: l, hl, hr =>
        by_cases h1 : c = 39
        · subst h1
          rw [quoS_39] at hr
          cases hr
          simp
        by_cases h2 : c = 10
        · subst h2
          rw [quoS_10] at hr
          cases hr
        by_cases h3 : c = 92
        · subst h3
          match l, hl, hr with
          | [], _, hr => simp [quoS] at hr
          | d :: l', hl, hr =>
            rw [quoS_92] at hr
            cases he : escO [d] with
            | none => rw [he] at hr; cases hr
            | some b =>
              rw [he] at hr
              obtain ⟨q, hq, rfl⟩ := Option.map_eq_some_iff.1 hr
              have := ih l' (by simp at hl; omega) q hq
              simp
              omega
        · rw [quoS_else _ h1 h2 h3] at hr
          obtain ⟨q, hq, rfl⟩ := Option.map_eq_some_iff.1 hr
          have := ih l (by simp at hl; omega) q hq
          simp
          omega
  exact aux l.length l (Nat.le_refl _) r h
theorem oneL_short {l : List UInt8} (h0 : l ≠ []) (h : (oneL l).bad = 0) : (oneL l).tok.s.size ≤ 32 ∨ (oneL l).tok.s.size ≤ l.length := by
  rcases oneL_kind h0 h 0 with ⟨h1, h2, -⟩ | ⟨-, -, -, h4, -⟩ | ⟨-, -, -, h4, -⟩ | ⟨-, -, h3⟩ | ⟨-, -, -, h4⟩
  · right
    match l, h0 with
    | c :: t, _ =>
      rw [oneL_cons] at h h1 h2 ⊢
      unfold oneC at h h1 h2 ⊢
      by_cases h1' : smallQ c = true
      · rw [if_pos h1'] at h h2
        unfold nameL at h h2
        split at h
        · simp at h
        · rename_i hn; rw [if_neg hn] at h2; cases h2
      rw [if_neg h1'] at h h2 ⊢
      by_cases h2' : greatQ c = true
      · rw [if_pos h2'] at h h2
        unfold nameL at h h2
        split at h
        · simp at h
        · rename_i hn; rw [if_neg hn] at h2; cases h2
      rw [if_neg h2'] at h h2 ⊢
      by_cases h3 : c = 39
      · rw [if_pos h3] at h h2 ⊢
        unfold quoL at h ⊢
        simp only [List.tail_cons] at h ⊢
        cases hq : quoS t with
        | none => rw [hq] at h; simp [quoOf] at h
        | some r =>
          have := quoS_short hq
          simp [quoOf, ByteArray.size]
          omega
      rw [if_neg h3] at h h2 ⊢
      by_cases h4 : (figureQ c || (c == 45 && decide (0 < runLen figureQ t))) = true
      · rw [if_pos h4] at h2
        unfold numL numOf at h2
        split at h2 <;> cases h2
      · rw [if_neg h4] at h2
        unfold markL markOf at h2
        split at h2 <;> cases h2
  · exact .inl h4
  · exact .inl h4
  · left
    have h3' : (oneL l).tok.s = ⟨#[]⟩ := h3
    rw [h3']; decide
  · left
    have h4' : (oneL l).tok.s.size = 1 ∨ (oneL l).tok.s.size = 2 := h4
    omega
theorem scanF_short (f p : Nat) (l : List UInt8) : ∀ t ∈ (scanF f p l).toks, t.s.size ≤ 32 ∨ t.s.size ≤ l.length := by
  induction f generalizing p l with
  | zero => simp [scanF]
  | succ f ih =>
    intro t ht
    unfold scanF at ht
    split at ht
    · simp at ht
    · rename_i h1
      split at ht
      · rename_i h2
        have hne : l.drop (skipS false l) ≠ [] := by intro e; have := congrArg List.length e; simp at this; omega
        have ht' : t = (oneL (l.drop (skipS false l))).tok.put (p + skipS false l) ∨ t ∈ (scanF f (p + skipS false l + (oneL (l.drop (skipS false l))).len) (l.drop (skipS false l + (oneL (l.drop (skipS false l))).len))).toks := by
          unfold Res.cons at ht
          split at ht
          · exact List.mem_cons.1 ht
          · exact .inr ht
        rcases ht' with rfl | ht'
        · have := oneL_short hne h2
          simp only [Tk.put]
          rcases this with h | h
          · exact .inl h
          · right; simp at h; omega
        · rcases ih _ _ t ht' with h | h
          · exact .inl h
          · right; simp at h; omega
      · simp at ht
theorem scanR_short {s : ByteArray} {t : Tk} (h : t ∈ (scanR s).toks) : t.s.size ≤ 65536 := by
  unfold scanR at h
  split at h
  · simp at h
  · rename_i h1
    rcases scanF_short _ _ _ t h with h2 | h2
    · omega
    · simp at h2; omega

/-- What a text is: an error's number (0: none), its place, the program. -/
structure Pg where
  bad : Nat
  pl : Int
  g : Pr
def parseL (s : ByteArray) (L : List Tk) : Pg := if (progP (s.size : Int) L).bad = 0 then ⟨0, 0, (progP (s.size : Int) L).val⟩ else ⟨(progP (s.size : Int) L).bad, (atT (s.size : Int) (progP (s.size : Int) L).rest 0).pl, Pr.zero⟩
def parseR (s : ByteArray) : Pg := if (scanR s).bad = 0 then parseL s (scanR s).toks else ⟨(scanR s).bad, ((scanR s).pl : Int), Pr.zero⟩
/-- What Parse leaves. -/
def ParseOut (w : World) (r : Pg) (e : Ending) (w' : World) : Prop :=
  ∃ x y, e = .returned (.tuple #[.agg #[x, y], .int .i64 r.pl, .int .i64 (r.bad : Int)]) ∧ Below w.heap.size w w' ∧ DesO w' w.heap.size x r.g.decls ∧ RusO w' w.heap.size y r.g.rules
theorem ParseOut.fail {w w' : World} {r : Pg} {bd : Nat} {pl : Int} (hr : r = ⟨bd, pl, Pr.zero⟩) {v : Value} (hv : v = .tuple #[.agg #[.slice none 0 0, .slice none 0 0], .int .i64 pl, .int .i64 (bd : Int)]) (hb : Below w.heap.size w w') : ParseOut w r (.returned v) w' := by
  subst hr hv
  exact ⟨.slice none 0 0, .slice none 0 0, rfl, hb, OwnL.nil _ _ _ _ _, OwnL.nil _ _ _ _ _⟩
/-- A parser that is new. -/
theorem Feed.new {w : World} {B : Nat} {v : Value} {L : List Tk} (h : TkOwn w B v L) (hl : L.length ≤ maxLen) (hs : ∀ t ∈ L, t.s.size ≤ 65536) (en : Int) : Feed (w.alloc (.cells #[v, .int .i64 en] 107)) w.heap.size L en := by
  have ht := h.tks hl
  obtain ⟨ao, cap, rfl, h1, h2⟩ := ht.form
  refine ⟨ao, cap, (MapKept.heap_alloc w _).1, ht.below (al_below w _), fun a ha => ?_, hs⟩
  subst ha
  exact (World.ownsRow.lt h a.block rfl).2
end Go.Proofs.YtbbmihojfcofdaaGreatDoor
