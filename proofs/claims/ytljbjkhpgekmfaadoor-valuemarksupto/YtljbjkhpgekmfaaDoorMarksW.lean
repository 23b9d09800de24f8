/-
  The walk of ValueMarks: a text in marks begins and ends with one, has no line's end, and is longer by two at least; one without is the symbol.
-/
import Derived.Test.YtljbjkhpgekmfaaDoorShown1
import Derived.Test.YtljbjkhpgekmfaaDoorTextQ
namespace Go.Proofs.YtljbjkhpgekmfaaDoor
set_option linter.unusedSimpArgs false
set_option linter.unusedVariables false
open Go.RowKit

theorem escC_no10 (c : UInt8) : ∀ d ∈ escC c, d.toNat ≠ 10 := by
  intro d hd
  rcases escC_cases c with ⟨hc, ec⟩ | ⟨hc, hc2, ec⟩ | ⟨hc, hc2, hc3, ec⟩ <;> rw [ec] at hd <;> simp at hd
  · rcases hd with rfl | rfl <;> decide
  · rcases hd with rfl | rfl
    · decide
    · intro h; exact hc (UInt8.toNat_inj.1 h)
  · subst hd; intro h; exact hc (UInt8.toNat_inj.1 h)
theorem quoteL_no10 (l : List UInt8) : ∀ d ∈ quoteL l, d.toNat ≠ 10 := by
  intro d hd
  simp only [quoteL, List.mem_cons, List.mem_append, List.not_mem_nil, or_false] at hd
  rcases hd with rfl | hd | rfl
  · decide
  · obtain ⟨c, -, hc⟩ := List.mem_flatMap.1 hd
    exact escC_no10 c d hc
  · decide
/-- What is said of a text in marks. -/
theorem marks_facts (s T : ByteArray) (h : T.data.toList = quoteL s.data.toList) :
    s.size + 2 ≤ T.size ∧ T.size ≤ 2 * s.size + 2 ∧ (∀ i (hi : i < T.size), T[i].toNat ≠ 10) ∧ (∀ hi : 0 < T.size, T[0].toNat = 39) ∧ (∀ hi : T.size - 1 < T.size, T[T.size - 1].toNat = 39) := by
  have hlen : T.data.toList.length = T.size := by simp
  have hs : s.data.toList.length = s.size := by simp
  have he := escL_len s.data.toList
  have hq : T.size = (escL s.data.toList).length + 2 := by rw [← hlen, h]; simp [quoteL]
  have at_ : ∀ i (hi : i < T.size), T[i] = (quoteL s.data.toList)[i]'(by rw [← h, hlen]; exact hi) := fun i hi => by
    have : T[i] = T.data.toList[i]'(by rw [hlen]; exact hi) := rfl
    rw [this]; simp only [h]
  refine ⟨by omega, by omega, fun i hi => ?_, fun hi => ?_, fun hi => ?_⟩
  · rw [at_ i hi]; exact quoteL_no10 _ _ (List.getElem_mem _)
  · rw [at_ 0 hi]; rfl
  · rw [at_ _ hi]
    have e : (quoteL s.data.toList)[T.size - 1]? = some 39 := by
      rw [show T.size - 1 = (39 :: escL s.data.toList).length from by rw [hq]; simp]
      rw [quoteL, ← List.cons_append, List.getElem?_append_right (Nat.le_refl _)]; simp
    rw [List.getElem?_eq_getElem (by rw [← h, hlen]; exact hi)] at e
    rw [Option.some.inj e]; rfl

set_option maxRecDepth 100000 in
set_option maxHeartbeats 8000000 in
theorem marks_walk (s : ByteArray) (hs : 2 * s.size + 2 ≤ 140737488355328) (w : World) (ht : Tab w) :
    Calls Tryd.prog 8 #[.string s] w fun e w' => e = .returned (.bool true) ∧ Below w.heap.size w w' := by
  have hm : s.size ≤ maxLen := by unfold maxLen; omega
  have hlen : s.data.toList.length = s.size := by simp
  obtain ⟨T, hT⟩ : ∃ T : ByteArray, T = ⟨(textL true s.data.toList 0).toArray⟩ := ⟨_, rfl⟩
  have HTX : Hid (∀ w1, Calls Tryd.prog 16 #[.agg #[.bool true, .string s, .int .i64 0]] w1 fun e w' => e = .returned (.string T) ∧ Below w1.heap.size w1 w') := fun w1 => by rw [hT]; exact text_sym s 0 w1 hs
  have HP : Hid (∀ w1, Calls Tryd.prog 18 #[.string s] w1 fun e w' => e = .returned (.bool (plainL s.data.toList)) ∧ Below w1.heap.size w1 w') := fun w1 => plain_any s w1 hm
  have HS : Hid (∀ w1, Below w.heap.size w w1 → Calls Tryd.prog 9 #[] w1 fun e w' => e = .returned (.bool true) ∧ Below w1.heap.size w1 w') := fun w1 hb => shown1_any w1 (ht.on hb)
  clear ht
  have hTd : T.data.toList = textL true s.data.toList 0 := by rw [hT]
  obtain ⟨p, hp⟩ : ∃ p, plainL s.data.toList = p := ⟨_, rfl⟩
  by_cases hsh : p = true ∧ s.size ≤ 32
  · obtain ⟨rfl, h32⟩ := hsh
    have hTs : T = s := by
      apply Go.WideShapes.bytes_inj
      rw [hTd]; simp [textL, shortPlain, hp, h32]
    obtain ⟨c, r, e0, h1, h2⟩ := plain_head hp
    have hpos : 0 < s.size := by rw [← hlen, e0]; simp
    have hc : s[0] = c := by
      have : s[0] = s.data.toList[0]'(by rw [hlen]; exact hpos) := rfl
      rw [this]; simp only [e0]; rfl
    have b1 : (97 : Int) ≤ ((s[0]'hpos).toNat : Int) := by rw [hc]; omega
    have b2 : ((s[0]'hpos).toNat : Int) ≤ 122 := by rw [hc]; omega
    have h32I : (s.size : Int) ≤ 32 := by omega
    have hE : s.toList.isEmpty = false := by rw [toList_data, e0]; rfl
    have hss : (s.toList == s.toList) = true := by simp
    subst hTs
    have HPE := Lib.hid hp
    clear hT hTd hp e0 hc h1 h2 hs hm hlen h32
    go_enter Tryd.func8, Tryd.ntmps8
    go_wp2_with (first | (go_at_call 9; refine (HS.out _ (Below.refl _ _)).mono ?_; rintro e w1 ⟨rfl, hb1⟩) | (go_at_call 20; refine (sym_any _ _).mono ?_; rintro e w2 ⟨rfl, hb2⟩) | (go_at_call 16; refine (HTX.out _).mono ?_; rintro e w3 ⟨rfl, hb3⟩) | (go_at_call 18; refine (HP.out _).mono ?_; rintro e w4 ⟨rfl, hb4⟩; simp only [HPE.out]))
    go_ret
    have k2 := hb1.trans (hb2.mono hb1.size)
    have k3 := k2.trans (hb3.mono k2.size)
    have k4 := k3.trans (hb4.mono k3.size)
    exact ⟨rfl, k4⟩
  · have hTq : T.data.toList = quoteL s.data.toList := by
      rw [hTd]
      have : shortPlain s.data.toList = false := by
        cases p with
        | false => simp [shortPlain, hp]
        | true =>
          have : ¬ s.size ≤ 32 := fun h => hsh ⟨rfl, h⟩
          simp [shortPlain, this]
      simp [textL, this]
    obtain ⟨f1, f2, f3, f4, f5⟩ := marks_facts s T hTq
    have hpos : 0 < T.size := by omega
    have hpl : T.size - 1 < T.size := by omega
    have F3 : Hid (∀ i (hi : i < T.size), T[i].toNat ≠ 10) := f3
    have g4 : (((T[0]'hpos).toNat : Int) == 39) = true := by rw [f4 hpos]; rfl
    have g5 : (((T[T.size - 1]'hpl).toNat : Int) == 39) = true := by rw [f5 hpl]; rfl
    have hTI : (s.size : Int) + 2 ≤ (T.size : Int) := by omega
    have hTU : (T.size : Int) ≤ 140737488355328 := by omega
    have HPE := Lib.hid hp
    have hcond : p = false ∨ (p = true ∧ ¬ (s.size : Int) ≤ 32) := by
      cases p with
      | false => exact .inl rfl
      | true => exact .inr ⟨rfl, fun h => hsh ⟨rfl, by omega⟩⟩
    clear hT hTd hTq hp hs hm hlen hsh f3 f4 f5 f1 f2
    rcases hcond with rfl | ⟨rfl, h32⟩
    all_goals
      go_enter Tryd.func8, Tryd.ntmps8
      go_wp2_with (first | (go_at_call 9; refine (HS.out _ (Below.refl _ _)).mono ?_; rintro e w1 ⟨rfl, hb1⟩) | (go_at_call 20; refine (sym_any _ _).mono ?_; rintro e w2 ⟨rfl, hb2⟩) | (go_at_call 16; refine (HTX.out _).mono ?_; rintro e w3 ⟨rfl, hb3⟩) | (go_at_call 18; refine (HP.out _).mono ?_; rintro e w4 ⟨rfl, hb4⟩; simp only [HPE.out]))
      have k2 := hb1.trans (hb2.mono hb1.size)
      have k3 := k2.trans (hb3.mono k2.size)
      have k4 : Hid (Below w.heap.size w w4) := k3.trans (hb4.mono k3.size)
      clear hb1 hb2 hb3 hb4 k2 k3 HS HTX HP HPE
      go_loop [5] (fun i => ∃ k : Nat, k ≤ T.size ∧ i = .int .i64 k) (fun i => T.size - (intOf i).toNat)
      case atStart => exact ⟨0, Nat.zero_le _, rfl⟩
      case round =>
        obtain ⟨k, hk, rfl⟩ := hrel
        by_cases hlt : k < T.size
        · have hltI : (k : Int) < (T.size : Int) := by omega
          have hne : ((T[k].toNat : Int) == 10) = false := by
            have := F3.out k hlt
            simp; omega
          clear g4 g5
          go_wp2
          go_round
          case rel => exact ⟨k + 1, by omega, by go_num⟩
          case measure => simp [intOf]; omega
        · have hgeI : ¬ (k : Int) < (T.size : Int) := by omega
          clear F3
          go_wp2
          go_ret
          exact ⟨rfl, k4.out⟩
end Go.Proofs.YtljbjkhpgekmfaaDoor
