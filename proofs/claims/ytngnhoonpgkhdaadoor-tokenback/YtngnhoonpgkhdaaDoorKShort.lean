/-
  Tokens that are scanned are such as can be joined: their texts are short, their numbers fit. Plain facts; no walk.
-/
import Derived.Test.YtngnhoonpgkhdaaDoorKBack3
namespace Go.Proofs.YtngnhoonpgkhdaaDoor
set_option linter.unusedSimpArgs false
set_option linter.unusedVariables false
set_option linter.unusedSectionVars false
set_option maxRecDepth 100000
open Go.RowKit

theorem quoS_shortK {l : List UInt8} {r : List UInt8 × Nat} (h : quoS l = some r) : r.1.length ≤ l.length := by
  have aux : ∀ (n : Nat) (l : List UInt8), l.length ≤ n → ∀ r, quoS l = some r → r.1.length ≤ l.length := by
    intro n
    induction n with
    | zero =>
      intro l hl r hr
      have : l = [] := List.length_eq_zero_iff.1 (by omega)
      subst this
      simp [quoS] at hr
    | succ n ih =>
      intro l hl r hr
      match l, hl, hr with
      | [], _, hr => simp [quoS] at hr
      | c :: l, hl, hr =>
        by_cases h1 : c = 39
        · subst h1
          rw [quoS_39] at hr
          cases hr
          simp
        by_cases h2 : c = 10
        · subst h2
          rw [quoS_10] at hr
          cases hr
        by_cases h3 : c = 92
        · subst h3
          match l, hl, hr with
          | [], _, hr => simp [quoS] at hr
          | d :: l', hl, hr =>
            rw [quoS_92] at hr
            cases he : escO [d] with
            | none => rw [he] at hr; cases hr
            | some b =>
              rw [he] at hr
              obtain ⟨q, hq, rfl⟩ := Option.map_eq_some_iff.1 hr
              have := ih l' (by simp at hl; omega) q hq
              simp
              omega
        · rw [quoS_else _ h1 h2 h3] at hr
          obtain ⟨q, hq, rfl⟩ := Option.map_eq_some_iff.1 hr
          have := ih l (by simp at hl; omega) q hq
          simp
          omega
  exact aux l.length l (Nat.le_refl _) r h
theorem oneL_shortK {l : List UInt8} (h0 : l ≠ []) (h : (oneL l).bad = 0) : (oneL l).tok.s.size ≤ 32 ∨ (oneL l).tok.s.size ≤ l.length := by
  rcases oneL_kind h0 h 0 with ⟨h1, h2, -⟩ | ⟨-, -, -, h4, -⟩ | ⟨-, -, -, h4, -⟩ | ⟨-, -, h3⟩ | ⟨-, -, -, h4⟩
  · right
    match l, h0 with
    | c :: t, _ =>
      rw [oneL_cons] at h h1 h2 ⊢
      unfold oneC at h h1 h2 ⊢
      by_cases h1' : smallQ c = true
      · rw [if_pos h1'] at h h2
        unfold nameL at h h2
        split at h
        · simp at h
        · rename_i hn; rw [if_neg hn] at h2; cases h2
      rw [if_neg h1'] at h h2 ⊢
      by_cases h2' : greatQ c = true
      · rw [if_pos h2'] at h h2
        unfold nameL at h h2
        split at h
        · simp at h
        · rename_i hn; rw [if_neg hn] at h2; cases h2
      rw [if_neg h2'] at h h2 ⊢
      by_cases h3 : c = 39
      · rw [if_pos h3] at h h2 ⊢
        unfold quoL at h ⊢
        simp only [List.tail_cons] at h ⊢
        cases hq : quoS t with
        | none => rw [hq] at h; simp [quoOf] at h
        | some r =>
          have := quoS_shortK hq
          simp [quoOf, ByteArray.size]
          omega
      rw [if_neg h3] at h h2 ⊢
      by_cases h4 : (figureQ c || (c == 45 && decide (0 < runLen figureQ t))) = true
      · rw [if_pos h4] at h2
        unfold numL numOf at h2
        split at h2 <;> cases h2
      · rw [if_neg h4] at h2
        unfold markL markOf at h2
        split at h2 <;> cases h2
  · exact .inl h4
  · exact .inl h4
  · left
    have h3' : (oneL l).tok.s = ⟨#[]⟩ := h3
    rw [h3']; decide
  · left
    have h4' : (oneL l).tok.s.size = 1 ∨ (oneL l).tok.s.size = 2 := h4
    omega
theorem scanF_shortK (f p : Nat) (l : List UInt8) : ∀ t ∈ (scanF f p l).toks, t.s.size ≤ 32 ∨ t.s.size ≤ l.length := by
  induction f generalizing p l with
  | zero => simp [scanF]
  | succ f ih =>
    intro t ht
    unfold scanF at ht
    split at ht
    · simp at ht
    · rename_i h1
      split at ht
      · rename_i h2
        have hne : l.drop (skipS false l) ≠ [] := by intro e; have := congrArg List.length e; simp at this; omega
        have ht' : t = (oneL (l.drop (skipS false l))).tok.put (p + skipS false l) ∨ t ∈ (scanF f (p + skipS false l + (oneL (l.drop (skipS false l))).len) (l.drop (skipS false l + (oneL (l.drop (skipS false l))).len))).toks := by
          unfold Res.cons at ht
          split at ht
          · exact List.mem_cons.1 ht
          · exact .inr ht
        rcases ht' with rfl | ht'
        · have := oneL_shortK hne h2
          simp only [Tk.put]
          rcases this with h | h
          · exact .inl h
          · right; simp at h; omega
        · rcases ih _ _ t ht' with h | h
          · exact .inl h
          · right; simp at h; omega
      · simp at ht
theorem scanR_shortK {s : ByteArray} {t : Tk} (h : t ∈ (scanR s).toks) : t.s.size ≤ 65536 := by
  unfold scanR at h
  split at h
  · simp at h
  · rename_i h1
    rcases scanF_shortK _ _ _ t h with h2 | h2
    · omega
    · simp at h2; omega

theorem oneL_inR {l : List UInt8} (h0 : l ≠ []) (h : (oneL l).bad = 0) (p : Nat) : InR ((oneL l).tok.put p).n := by
  have hz : InR 0 := ⟨by decide, by decide⟩
  rcases oneL_kind h0 h p with ⟨-, -, h1⟩ | ⟨-, -, h1, -⟩ | ⟨-, -, h1, -⟩ | ⟨h1, -⟩ | ⟨-, -, h1, -⟩
  · rw [h1]; exact hz
  · rw [h1]; exact hz
  · rw [h1]; exact hz
  · match l, h0 with
    | c :: t, _ =>
      rw [oneL_cons] at h h1 ⊢
      unfold oneC at h h1 ⊢
      by_cases k1 : smallQ c = true
      · rw [if_pos k1] at h h1
        unfold nameL at h h1
        split at h
        · simp at h
        · rename_i hn; rw [if_neg hn] at h1; cases h1
      rw [if_neg k1] at h h1 ⊢
      by_cases k2 : greatQ c = true
      · rw [if_pos k2] at h h1
        unfold nameL at h h1
        split at h
        · simp at h
        · rename_i hn; rw [if_neg hn] at h1; cases h1
      rw [if_neg k2] at h h1 ⊢
      by_cases k3 : c = 39
      · rw [if_pos k3] at h1
        unfold quoL quoOf at h1
        split at h1 <;> cases h1
      rw [if_neg k3] at h h1 ⊢
      by_cases k4 : (figureQ c || (c == 45 && decide (0 < runLen figureQ t))) = true
      · rw [if_pos k4] at h ⊢
        unfold numL at h ⊢
        simp only [List.tail_cons] at h ⊢
        cases hp : Lib.parseIntB 64 ((c :: t).take (1 + runLen figureQ t)) with
        | ok v =>
          rw [numOf_ok hp]
          have hb := Lib.parseIntB_bounds hp
          exact ⟨by show _ ≤ v; have := hb.1; omega, by show v ≤ _; have := hb.2; omega⟩
        | _ =>
          rw [numOf_bad (by rw [hp]; intro v hv; cases hv)] at h
          cases h
      · rw [if_neg k4] at h1
        unfold markL markOf at h1
        split at h1 <;> cases h1
  · rw [h1]; exact hz
theorem scanR_ok {s : ByteArray} {t : Tk} (h : t ∈ (scanR s).toks) : t.Ok := by
  have hs := scanR_shortK h
  have hn : InR t.n := by
    unfold scanR at h
    split at h
    · simp at h
    · exact scanF_all (Q := fun t => InR t.n) (fun l p h0 hb => oneL_inR h0 hb p) _ _ _ _ h
  exact ⟨by omega, hn.1, hn.2⟩
end Go.Proofs.YtngnhoonpgkhdaaDoor
