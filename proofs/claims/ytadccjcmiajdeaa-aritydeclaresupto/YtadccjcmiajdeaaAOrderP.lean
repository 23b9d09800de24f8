/-
  The same uses in another order: what is told. Plain facts; no walk.
-/
import Derived.Test.YtadccjcmiajdeaaAAgreeP
namespace Go.Proofs.Ytadccjcmiajdeaa
set_option linter.unusedSimpArgs false
set_option linter.unusedVariables false
set_option linter.unusedSectionVars false
set_option maxRecDepth 100000
open Go.RowKit

def Agree (L : List De) : Prop := ∀ u ∈ L, ∀ v ∈ L, u.p = v.p → u.ar = v.ar
theorem fine_iff (L : List De) : Fine L ↔ Agree L := by
  constructor
  · intro h u hu v hv e
    have h1 := h.find hu
    have h2 := h.find hv
    rw [e, h2] at h1
    exact (Option.some.inj h1).symm
  · intro h a u b e
    subst e
    unfold clash
    cases hf : findD a u.p with
    | none => rfl
    | some n =>
      have := h ⟨u.p, n⟩ (by simp [findD_some hf]) u (by simp) rfl
      simp at this
      simp [this]
theorem names_le : ∀ (X Y : List ByteArray), X.Nodup → (∀ p ∈ X, p ∈ Y) → X.length ≤ Y.length
  | [], _, _, _ => Nat.zero_le _
  | x :: X, Y, hn, h => by
    obtain ⟨a, b, rfl⟩ := List.append_of_mem (h x (by simp))
    have hx := (List.nodup_cons.1 hn)
    have := names_le X (a ++ b) hx.2 (fun p hp => by
      have h1 := h p (by simp [hp])
      rcases List.mem_append.1 h1 with h2 | h2
      · simp [h2]
      · rcases List.mem_cons.1 h2 with rfl | h2
        · exact absurd hp hx.1
        · simp [h2])
    simp at this ⊢
    omega
theorem findD_none {L : List De} {p : ByteArray} (h : findD L p = none) : ∀ d ∈ L, d.p ≠ p := by
  intro d hd e
  have := findD_mem hd
  rw [e, h] at this
  cases this
theorem uniq_nodup : ∀ {L : List De}, Uniq L → (L.map (·.p)).Nodup := by
  have aux : ∀ n (L : List De), L.length = n → Uniq L → (L.map (·.p)).Nodup := by
    intro n
    induction n with
    | zero => intro L h _; obtain rfl := List.length_eq_zero_iff.1 h; simp
    | succ n ih =>
      intro L h hU
      rcases List.eq_nil_or_concat L with rfl | ⟨M, u, rfl⟩
      · simp
      · rw [List.concat_eq_append] at hU ⊢
        have hM : M.length = n := by simpa using h
        have h1 := ih M hM (fun a v b e => hU a v (b ++ [u]) (by rw [e]; simp))
        have h2 := findD_none (hU M u [] rfl)
        rw [List.map_append, List.nodup_append]
        refine ⟨h1, by simp, ?_⟩
        intro a ha b hb
        simp at hb
        subst hb
        obtain ⟨d, hd, rfl⟩ := List.mem_map.1 ha
        exact h2 d hd
  intro L h
  exact aux _ L rfl h
theorem firsts_names {L : List De} {d : De} (hd : d ∈ L) : d.p ∈ (firsts L).map (·.p) := by
  have h1 := findD_mem hd
  rw [← findD_firsts] at h1
  cases hf : findD (firsts L) d.p with
  | none => rw [hf] at h1; cases h1
  | some n => exact List.mem_map.2 ⟨_, findD_some hf, rfl⟩
theorem firsts_sub (L : List De) : ∀ d ∈ firsts L, d ∈ L := by
  intro d hd
  have : ∀ (M acc : List De) (d : De), d ∈ M.foldl (fun acc u => if (findD acc u.p).isSome then acc else acc ++ [u]) acc → d ∈ acc ∨ d ∈ M := by
    intro M
    induction M with
    | nil => intro acc d h; exact .inl h
    | cons u M ih =>
      intro acc d h
      simp only [List.foldl_cons] at h
      rcases ih _ d h with h | h
      · split at h
        · exact .inl h
        · rcases List.mem_append.1 h with h | h
          · exact .inl h
          · simp at h; exact .inr (by simp [h])
      · exact .inr (by simp [h])
  rcases this L [] d hd with h | h
  · simp at h
  · exact h
theorem firsts_len_le {L M : List De} (h : ∀ u ∈ L, u ∈ M) : (firsts L).length ≤ (firsts M).length := by
  have := names_le ((firsts L).map (·.p)) ((firsts M).map (·.p)) (uniq_nodup (uniq_firsts L)) (fun p hp => by
    obtain ⟨d, hd, rfl⟩ := List.mem_map.1 hp
    exact firsts_names (h d (firsts_sub L d hd)))
  simpa using this
/-- THE SAME USES: the same arities. -/
theorem told_perm {L M : List De} (h : ∀ u, u ∈ L ↔ u ∈ M) :
    (told L).bad = (told M).bad ∧ (told L).l.length = (told M).l.length ∧ ∀ d ∈ (told L).l, findD (told M).l d.p = some d.ar := by
  have hA : Agree L ↔ Agree M := by
    unfold Agree
    constructor
    · intro k u hu v hv; exact k u ((h u).2 hu) v ((h v).2 hv)
    · intro k u hu v hv; exact k u ((h u).1 hu) v ((h v).1 hv)
  rcases told_or L with ⟨hF, hT⟩ | ⟨hF, k, -, hT⟩
  · have hM : Fine M := (fine_iff M).2 (hA.1 ((fine_iff L).1 hF))
    rw [hT, told_fine hM]
    exact ⟨rfl, Nat.le_antisymm (firsts_len_le (fun u hu => (h u).1 hu)) (firsts_len_le (fun u hu => (h u).2 hu)), fun d hd => hM.found ((h d).1 (firsts_sub L d hd))⟩
  · have hM : ¬ Fine M := fun k => hF ((fine_iff L).2 (hA.2 ((fine_iff M).1 k)))
    rcases told_or M with ⟨hF2, -⟩ | ⟨-, j, -, hT2⟩
    · exact absurd hF2 hM
    · rw [hT, hT2]
      exact ⟨rfl, rfl, fun d hd => by simp at hd⟩
theorem rulesU_app (A B : List Ru) : rulesU (A ++ B) = rulesU A ++ rulesU B := by simp [rulesU]
theorem uses_turned (D : List De) (R : List Ru) (k : Nat) : (∀ u, u ∈ usesL ⟨D, R⟩ ↔ u ∈ usesL ⟨D, R.drop k ++ R.take k⟩) ∧ (usesL ⟨D, R.drop k ++ R.take k⟩).length = (usesL ⟨D, R⟩).length := by
  have e : rulesU R = rulesU (R.take k) ++ rulesU (R.drop k) := by rw [← rulesU_app, List.take_append_drop]
  constructor
  · intro u
    simp only [usesL, rulesU_app]
    rw [e]
    simp only [List.mem_append]
    constructor <;> (rintro (h | h | h) <;> simp [h])
  · simp only [usesL, rulesU_app]
    rw [e]
    simp only [List.length_append]
    omega
end Go.Proofs.Ytadccjcmiajdeaa
