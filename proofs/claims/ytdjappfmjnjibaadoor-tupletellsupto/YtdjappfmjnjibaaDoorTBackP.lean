/-
  Plain facts on keys that are read: which text is a number's, what is a key's head, which row a key tells. No Go text.
-/
import Derived.Test.YtdjappfmjnjibaaDoorTOrdP
import Derived.Lib.ParseIntBTie
import Derived.Lib.IndexBytes
import Derived.Lib.IndexLaws
import Derived.Lib.IndexMore
namespace Go.Proofs.YtdjappfmjnjibaaDoor
set_option linter.unusedSimpArgs false
set_option linter.unusedVariables false
set_option linter.unusedSectionVars false
set_option maxRecDepth 100000
variable [DecidableEq V]

def InR (n : Int) : Prop := -9223372036854775808 ≤ n ∧ n ≤ 9223372036854775807
/-- l is how the number n is written. -/
def IsNum (l : List UInt8) (n : Int) : Prop := InR n ∧ Lib.itoa n = l
theorem IsNum.one {l : List UInt8} {n m : Int} (h1 : IsNum l n) (h2 : IsNum l m) : n = m := itoa_inj (h1.2.trans h2.2.symm)

theorem fold_ge (l : List UInt8) (acc : Nat) : acc ≤ l.foldl (fun a c => 10 * a + (c.toNat - 48)) acc := by
  induction l generalizing acc with
  | nil => exact Nat.le_refl _
  | cons c l ih => have := ih (10 * acc + (c.toNat - 48)); simp only [List.foldl_cons]; omega
theorem parseM (l : List UInt8) (M acc : Nat) (hl : ∀ c ∈ l, 48 ≤ c.toNat ∧ c.toNat ≤ 57) (hM : M ≤ 18446744073709551615) (h : l.foldl (fun a c => 10 * a + (c.toNat - 48)) acc ≤ M) :
    Lib.parseUintM M acc l = .ok (l.foldl (fun a c => 10 * a + (c.toNat - 48)) acc) := by
  induction l generalizing acc with
  | nil => rfl
  | cons c l ih =>
    have hc := hl c (by simp)
    have hg := fold_ge l (10 * acc + (c.toNat - 48))
    simp only [List.foldl_cons] at h ⊢
    rw [Lib.parseUintM, if_pos hc, if_neg (by omega), if_neg (by omega), Nat.mul_comm acc 10]
    exact ih _ (fun d hd => hl d (by simp [hd])) h
theorem parse_dec (u : Nat) (h : u ≤ 18446744073709551615) : Lib.parseUintB 64 (Lib.decDigits u) = .ok u := by
  obtain ⟨h1, h2, h3⟩ := digVal_dec u
  rw [Lib.parseUintB, if_neg h2, parseM _ _ _ h3 (by decide) (by show digVal _ ≤ _; rw [h1]; exact h)]
  show Lib.NumEnd.ok (digVal _) = _
  rw [h1]
theorem parse_itoa {n : Int} (h : InR n) : Lib.parseIntB 64 (Lib.itoa n) = .ok n := by
  obtain ⟨h0, h1⟩ := h
  by_cases hn : n < 0
  · have e : Lib.itoa n = 45 :: Lib.decDigits n.natAbs := by rw [Lib.itoa, if_pos hn]
    rw [e, Lib.parseIntB]
    have e1 : (if (45 : UInt8).toNat = 43 ∨ (45 : UInt8).toNat = 45 then Lib.decDigits n.natAbs else 45 :: Lib.decDigits n.natAbs) = Lib.decDigits n.natAbs := if_pos (.inr rfl)
    rw [e1, parse_dec _ (by omega)]
    have : ¬ (2 ^ (64 - 1) < n.natAbs) := by omega
    simp [this]
    omega
  · obtain ⟨-, h2, h3⟩ := digVal_dec n.toNat
    have e : Lib.itoa n = Lib.decDigits n.toNat := by rw [Lib.itoa, if_neg hn]
    rw [e]
    have hp := parse_dec n.toNat (by omega)
    cases hd : Lib.decDigits n.toNat with
    | nil => exact absurd hd h2
    | cons c r =>
      have hc := h3 c (by rw [hd]; simp)
      rw [hd] at hp
      have n1 : ¬ (c.toNat = 43 ∨ c.toNat = 45) := by omega
      have n2 : ¬ c.toNat = 45 := by omega
      have n3 : ¬ (2 ^ (64 - 1) ≤ n.toNat) := by omega
      simp only [Lib.parseIntB, if_neg n1, hp]
      simp [n2, n3]
      omega
theorem parse_no {l : List UInt8} {e : Lib.NumEnd Int} (h : Lib.parseIntB 64 l = e) (he : ∀ n, e ≠ .ok n) : ¬ ∃ n, IsNum l n := by
  rintro ⟨n, hn, rfl⟩
  rw [parse_itoa hn] at h
  exact he n h.symm
theorem parse_other {l : List UInt8} {v : Int} (h : Lib.parseIntB 64 l = .ok v) (hv : Lib.itoa v ≠ l) : ¬ ∃ n, IsNum l n := by
  rintro ⟨n, hn, rfl⟩
  rw [parse_itoa hn] at h
  have : n = v := by simpa using h
  exact hv (by rw [this])
theorem parse_in {l : List UInt8} {v : Int} (h : Lib.parseIntB 64 l = .ok v) : InR v := by
  have := Lib.parseIntB_bounds h
  exact ⟨by have := this.1; simp at this; omega, by have := this.2; simp at this; omega⟩

/-- The first colon. -/
theorem colon_cases (l : List UInt8) : (Lib.cut l [58] = (l, [], false) ∧ ∀ x ∈ l, x ≠ 58) ∨ ∃ a b, Lib.cut l [58] = (a, b, true) ∧ l = a ++ 58 :: b ∧ ∀ x ∈ a, x ≠ 58 := by
  have hg := Lib.indexByte_ge l 58
  have e : Lib.index l [58] = Lib.indexByte l 58 := Lib.index_one l 58
  by_cases h : Lib.indexByte l 58 = -1
  · left
    refine ⟨by rw [Lib.cut, e, h]; rfl, fun x hx hxe => ?_⟩
    subst hxe
    obtain ⟨k, hk⟩ := List.getElem?_of_mem hx
    exact Lib.indexByte_none h k hk
  · right
    obtain ⟨o, ho⟩ : ∃ o : Nat, Lib.indexByte l 58 = (o : Int) := ⟨(Lib.indexByte l 58).toNat, by omega⟩
    obtain ⟨h1, h2⟩ := Lib.indexByte_some ho
    obtain ⟨hlt, h1'⟩ := List.getElem?_eq_some_iff.1 h1
    refine ⟨l.take o, l.drop (o + 1), ?_, ?_, ?_⟩
    · rw [Lib.cut, e, ho, if_pos (by omega)]; simp
    · rw [← h1', ← List.drop_eq_getElem_cons hlt, List.take_append_drop]
    · intro x hx hxe
      subst hxe
      obtain ⟨k, hk⟩ := List.getElem?_of_mem hx
      have hko : k < o := by
        have := (List.getElem?_eq_some_iff.1 hk).1
        simp at this; omega
      rw [List.getElem?_take_of_lt hko] at hk
      exact h2 k hko hk

/-- A count, a colon, that many bytes, and what is behind. -/
def CutOk (s body rest : List UInt8) : Prop := s = Lib.itoa (body.length : Int) ++ 58 :: (body ++ rest)
theorem CutOk.one {s b r b' r' : List UInt8} (h : CutOk s b r) (h' : CutOk s b' r') : b = b' ∧ r = r' := by
  unfold CutOk at h h'
  obtain ⟨e1, e2⟩ := split58 (itoa_ne _) (itoa_ne _) (h.symm.trans h')
  have e3 := itoa_inj e1
  obtain ⟨e4, e5⟩ := List.append_inj e2 (by omega)
  exact ⟨e4, e5⟩
theorem cut_no_colon {s : List UInt8} (h : ∀ x ∈ s, x ≠ 58) : ¬ ∃ b r, CutOk s b r := by
  rintro ⟨b, r, rfl⟩
  exact h 58 (by simp) rfl
theorem cut_head {s a t : List UInt8} (h : s = a ++ 58 :: t) (ha : ∀ x ∈ a, x ≠ 58) {b r : List UInt8} (hc : CutOk s b r) : a = Lib.itoa (b.length : Int) ∧ t = b ++ r := by
  unfold CutOk at hc
  exact split58 ha (itoa_ne _) (h.symm.trans hc)
theorem cut_yes {s a t : List UInt8} {n : Nat} (h : s = a ++ 58 :: t) (ha : Lib.itoa (n : Int) = a) (hn : n ≤ t.length) : CutOk s (t.take n) (t.drop n) := by
  unfold CutOk
  rw [List.length_take, Nat.min_eq_left hn, ha, List.take_append_drop]; exact h

/-- v is what mark and body tell. -/
def IsVal (c : UInt8) (body : ByteArray) (v : V) : Prop := v.Ok ∧ v.bare = v ∧ v.mark = c ∧ v.body = body

/-- s is the key of the row L of bare values. -/
def IsKey (L : List V) (s : List UInt8) : Prop := (∀ v ∈ L, v.Ok ∧ v.bare = v) ∧ keyL L = s
theorem bare_map {L : List V} (h : ∀ v ∈ L, v.Ok ∧ v.bare = v) : L.map V.bare = L := by
  induction L with
  | nil => rfl
  | cons v l ih => simp only [List.map_cons, (h v (by simp)).2, ih (fun u hu => h u (by simp [hu]))]
theorem IsKey.one {L M : List V} {s : List UInt8} (h1 : IsKey L s) (h2 : IsKey M s) : L = M := by
  have := key_one.1 (h1.2.trans h2.2.symm)
  rwa [bare_map h1.1, bare_map h2.1] at this
theorem IsKey.snoc {L : List V} {s : List UInt8} {v : V} (h : IsKey L s) (hv : v.Ok ∧ v.bare = v) : IsKey (L ++ [v]) (s ++ v.part) := by
  refine ⟨fun u hu => ?_, by rw [key_join, h.2]; simp [keyL]⟩
  rcases List.mem_append.1 hu with hu | hu
  · exact h.1 u hu
  · simp at hu; subst hu; exact hv
/-- What is behind a key's beginning. -/
theorem key_rest {L M : List V} {r : List UInt8} (hL : ∀ v ∈ L, v.Ok ∧ v.bare = v) (hM : ∀ v ∈ M, v.Ok ∧ v.bare = v) (h : keyL M = keyL L ++ r) : ∃ M', M = L ++ M' ∧ keyL M' = r := by
  induction L generalizing M with
  | nil => exact ⟨M, rfl, h⟩
  | cons x L ih =>
    cases M with
    | nil => simp [keyL, V.part] at h
    | cons y M =>
      have h' : y.part ++ keyL M = x.part ++ (keyL L ++ r) := by
        have := h; simp only [keyL, List.flatMap_cons, List.append_assoc] at this ⊢; exact this
      obtain ⟨e1, e2⟩ := part_one h'
      rw [(hM y (by simp)).2, (hL x (by simp)).2] at e1
      subst e1
      obtain ⟨M', e3, e4⟩ := ih (fun v hv => hL v (by simp [hv])) (fun v hv => hM v (by simp [hv])) e2
      exact ⟨M', by rw [e3]; rfl, e4⟩
/-- A text that goes wrong behind a key's beginning is none. -/
theorem key_no {L : List V} {s t : List UInt8} {c : UInt8} (hL : IsKey L s) (h : ∀ (v : V) rest, v.Ok → v.bare = v → c :: t ≠ v.part ++ rest) : ¬ ∃ M, IsKey M (s ++ c :: t) := by
  rintro ⟨M, hM, e⟩
  rw [← hL.2] at e
  obtain ⟨M', e1, e2⟩ := key_rest hL.1 hM e
  cases M' with
  | nil => simp [keyL] at e2
  | cons v M'' =>
    have hv := hM v (by rw [e1]; simp)
    exact h v (keyL M'') hv.1 hv.2 (by rw [← e2]; simp [keyL])
theorem no_cut {c : UInt8} {t : List UInt8} (h : ¬ ∃ b r, CutOk t b r) : ∀ (v : V) rest, v.Ok → v.bare = v → c :: t ≠ v.part ++ rest := by
  intro v rest _ _ e
  simp only [V.part, List.cons_append, List.append_assoc, List.cons.injEq] at e
  refine h ⟨v.body.data.toList, rest, ?_⟩
  unfold CutOk
  rw [data_len]
  exact e.2
theorem no_val {c : UInt8} {t rest : List UInt8} {body : ByteArray} (hc : CutOk t body.data.toList rest) (h : ¬ ∃ v, IsVal c body v) : ∀ (v : V) rest, v.Ok → v.bare = v → c :: t ≠ v.part ++ rest := by
  intro v r hv hb e
  simp only [V.part, List.cons_append, List.append_assoc, List.cons.injEq] at e
  have : CutOk t v.body.data.toList r := by unfold CutOk; rw [data_len]; exact e.2
  have := (hc.one this).1
  exact h ⟨v, hv, hb, e.1.symm, (bytes_ext this).symm⟩
theorem val_part {c : UInt8} {t rest : List UInt8} {body : ByteArray} {v : V} (hc : CutOk t body.data.toList rest) (h : IsVal c body v) : c :: t = v.part ++ rest := by
  unfold CutOk at hc
  rw [hc, data_len, V.part, h.2.2.1, h.2.2.2]
  simp
theorem isVal_sym {s : ByteArray} (h : s.size ≤ maxLen) : IsVal 115 s ⟨true, s, 0⟩ := ⟨⟨h, by show (-9223372036854775808 : Int) ≤ 0; decide, by show (0 : Int) ≤ 9223372036854775807; decide⟩, rfl, rfl, rfl⟩
theorem isVal_int {s : ByteArray} {n : Int} (h : IsNum s.data.toList n) : IsVal 110 s ⟨false, ⟨#[]⟩, n⟩ := by
  refine ⟨⟨(by decide : (⟨#[]⟩ : ByteArray).size ≤ maxLen), h.1.1, h.1.2⟩, rfl, rfl, ?_⟩
  apply bytes_ext
  show (Lib.itoa n).toArray.toList = _
  rw [← h.2]
theorem no_int {s : ByteArray} (h : ¬ ∃ n, IsNum s.data.toList n) : ¬ ∃ v, IsVal 110 s v := by
  rintro ⟨⟨k, u, n⟩, hok, hb, hm, hbody⟩
  cases k
  · refine h ⟨n, ⟨hok.lo, hok.hi⟩, ?_⟩
    rw [← hbody]
    show _ = (Lib.itoa n).toArray.toList
    simp
  · exact absurd (show (115 : UInt8) = 110 from hm) (by decide)
theorem no_mark {c : UInt8} {s : ByteArray} (h1 : c ≠ 115) (h2 : c ≠ 110) : ¬ ∃ v, IsVal c s v := by
  rintro ⟨⟨k, u, n⟩, -, -, hm, -⟩
  cases k
  · exact h2 hm.symm
  · exact h1 hm.symm
end Go.Proofs.YtdjappfmjnjibaaDoor
