/-
  Contract of the document's number (lambrequinref03): the number that a text writes, and whether it does.
-/
import Derived.Test.YtdjappfmjnjibaaDoorTRefFig
import Derived.Test.YtdjappfmjnjibaaDoorTBack2
namespace Go.Proofs.YtdjappfmjnjibaaDoor
set_option linter.unusedSimpArgs false
set_option linter.unusedVariables false
set_option linter.unusedSectionVars false
set_option maxRecDepth 100000
open Go.RowKit
variable [DecidableEq V]

theorem dec_len (k : Nat) : ∀ u, u < 10 ^ (k + 1) → (Lib.decDigits u).length ≤ k + 1 := by
  induction k with
  | zero =>
    intro u hu
    rw [Lib.decDigits, dif_pos (by simpa using hu)]
    simp
  | succ k ih =>
    intro u hu
    rw [Lib.decDigits]
    split
    · simp
    · have := ih (u / 10) (by rw [Nat.pow_succ] at hu; omega)
      simp only [List.length_append, List.length_singleton]
      omega
theorem itoa_len20 {m : Int} (h : InR m) : (Lib.itoa m).length ≤ 20 := by
  obtain ⟨h0, h1⟩ := h
  unfold Lib.itoa
  split
  · have := dec_len 18 m.natAbs (by omega)
    simp only [List.length_cons]; omega
  · have := dec_len 18 m.toNat (by omega)
    omega

/-- Where a text's figures begin. -/
def FromOf (l : List UInt8) (f : Nat) : Prop := (f = 1 ∧ l.head? = some 45) ∨ (f = 0 ∧ l.head? ≠ some 45)
theorem num_from {l : List UInt8} {m : Int} {f : Nat} (h : IsNum l m) (hf : FromOf l f) : l.drop f = Lib.decDigits m.natAbs ∧ (f = 1 → m = -(m.natAbs : Int)) ∧ (f = 0 → m = (m.natAbs : Int)) ∧ m.natAbs ≤ 9223372036854775808 ∧ l.length ≤ 20 := by
  have hl := itoa_len20 h.1
  obtain ⟨⟨h0, h1⟩, rfl⟩ := h
  by_cases hm : m < 0
  · have e : Lib.itoa m = 45 :: Lib.decDigits m.natAbs := by rw [Lib.itoa, if_pos hm]
    rcases hf with ⟨rfl, -⟩ | ⟨-, hh⟩
    · exact ⟨by rw [e]; rfl, fun _ => by omega, fun h => absurd h (by decide), by omega, hl⟩
    · exact absurd (by rw [e]; rfl) hh
  · have e : Lib.itoa m = Lib.decDigits m.natAbs := by rw [Lib.itoa, if_neg hm, show m.toNat = m.natAbs by omega]
    rcases hf with ⟨-, hh⟩ | ⟨rfl, -⟩
    · exfalso
      rw [e] at hh
      obtain ⟨-, -, h3⟩ := digVal_dec m.natAbs
      have := h3 45 (List.mem_of_mem_head? hh)
      have e45 : (45 : UInt8).toNat = 45 := rfl
      omega
    · exact ⟨by rw [e]; rfl, fun h => absurd h (by decide), fun _ => by omega, by omega, hl⟩

/-- What is read so far is what the number's figures tell. -/
def ReadTo (l : List UInt8) (f k : Nat) (n : Int) : Prop := (∃ m, IsNum l m) → n = -((digVal ((l.drop f).take (k - f)) : Nat) : Int)
theorem wrap_in (x : Int) : InR (wrap64 x) := by
  unfold InR wrap64; omega
theorem digVal_take (D : List UInt8) (j : Nat) : digVal (D.take j) ≤ digVal D := by
  have : digVal D = (D.drop j).foldl (fun a c => 10 * a + (c.toNat - 48)) (digVal (D.take j)) := by
    unfold digVal
    rw [← List.foldl_append, List.take_append_drop]
  rw [this]
  exact fold_ge _ _
theorem read_step {l : List UInt8} {f k : Nat} {n : Int} (hf : FromOf l f) (hfk : f ≤ k) (hk : k < l.length) (h : ReadTo l f k n) (hb : 48 ≤ l[k].toNat ∧ l[k].toNat ≤ 57) :
    ReadTo l f (k + 1) (wrap64 (wrap64 (10 * n) - ((l[k].toNat : Int) - 48))) := by
  intro hm
  have hn := h hm
  obtain ⟨m, hm⟩ := hm
  obtain ⟨h1, -, -, h4, -⟩ := num_from hm hf
  have hD := (digVal_dec m.natAbs).1
  rw [← h1] at hD
  have hj : k - f < (l.drop f).length := by simp; omega
  have es : (l.drop f).take (k + 1 - f) = (l.drop f).take (k - f) ++ [l[k]] := by
    rw [show k + 1 - f = (k - f) + 1 by omega, List.take_succ_eq_append_getElem hj]
    congr 2
    rw [List.getElem_drop]
    congr 1
    omega
  have ht := digVal_take (l.drop f) (k + 1 - f)
  rw [es, digVal_snoc, hD] at ht
  rw [es, digVal_snoc]
  subst hn
  generalize digVal ((l.drop f).take (k - f)) = D at *
  unfold wrap64
  omega
theorem read_no {l : List UInt8} {f k : Nat} (hf : FromOf l f) (hfk : f ≤ k) (hk : k < l.length) (hb : l[k].toNat < 48 ∨ 57 < l[k].toNat ∨ 20 < l.length) : ¬ ∃ m, IsNum l m := by
  rintro ⟨m, hm⟩
  obtain ⟨h1, -, -, -, h5⟩ := num_from hm hf
  have h3 := (digVal_dec m.natAbs).2.2
  rw [← h1] at h3
  have := h3 l[k] (by
    rw [List.mem_iff_getElem]
    exact ⟨k - f, by simp; omega, by rw [List.getElem_drop]; congr 1; omega⟩)
  omega
theorem read_end1 {l : List UInt8} {n : Int} {k : Nat} (hf : FromOf l 1) (hk : k = l.length) (h : ReadTo l 1 k n) {m : Int} (hm : IsNum l m) : m = n := by
  obtain ⟨h1, h2, -⟩ := num_from hm hf
  have := h ⟨m, hm⟩
  rw [List.take_of_length_le (by simp; omega), h1, (digVal_dec m.natAbs).1] at this
  have := h2 rfl
  omega
theorem read_end0 {l : List UInt8} {n : Int} {k : Nat} (hf : FromOf l 0) (hk : k = l.length) (h : ReadTo l 0 k n) {m : Int} (hm : IsNum l m) : m = wrap64 (-n) := by
  obtain ⟨h1, -, h3, -⟩ := num_from hm hf
  have := h ⟨m, hm⟩
  rw [List.take_of_length_le (by simp; omega), h1, (digVal_dec m.natAbs).1] at this
  have := h3 rfl
  have := hm.1
  unfold InR at this
  unfold wrap64
  omega

/-- How a number's reading ends. -/
def NumOut (l : List UInt8) (w : World) (e : Ending) (w' : World) : Prop := Below w.heap.size w w' ∧
  ((∃ n, IsNum l n ∧ e = .returned (.tuple #[.int .i64 n, .bool true])) ∨ ((¬ ∃ n, IsNum l n) ∧ ∃ n, e = .returned (.tuple #[.int .i64 n, .bool false])))
theorem NumOut.yes {l : List UInt8} {w w' : World} {n : Int} (hb : Below w.heap.size w w') (h : IsNum l n) : NumOut l w (.returned (.tuple #[.int .i64 n, .bool true])) w' := ⟨hb, .inl ⟨n, h, rfl⟩⟩
theorem NumOut.no {l : List UInt8} {w w' : World} {n : Int} (hb : Below w.heap.size w w') (h : ¬ ∃ n, IsNum l n) : NumOut l w (.returned (.tuple #[.int .i64 n, .bool false])) w' := ⟨hb, .inr ⟨h, n, rfl⟩⟩

set_option maxHeartbeats 6400000 in
theorem refNum_loop (s : ByteArray) (hs : s.size < 4294967281) (w : World) (f : Nat) (hf : FromOf s.data.toList f) :
    Calls Tryd.prog 29 #[.string s] w fun e w' => NumOut s.data.toList w e w' := by
  have hsz := ba_size s
  -- WAYS in: a hyphen ahead; nothing; another byte
  -- WAYS in: a hyphen ahead; nothing; another byte
  -- WAYS in: a hyphen ahead; nothing; another byte
  rcases hf with ⟨rfl, hh⟩ | ⟨rfl, hh⟩
  · have h0 : 0 < s.size := by
      rw [← hsz]
      cases hd : s.data.toList with
      | nil => rw [hd] at hh; cases hh
      | cons _ _ => simp
    have e0 : (s[0].toNat : Int) = 45 := by
      have := head_tail s h0
      rw [this] at hh
      have : s[0] = 45 := by simpa using hh
      rw [this]; rfl
    have HF : Hid (FromOf s.data.toList 1) := .inl ⟨rfl, hh⟩
    have h0I : (s.size : Int) > 0 := by omega
    clear hh
    go_enter Tryd.func29, Tryd.ntmps29
    go_wp2_with fail
    go_loopw [4, 6] (fun nv i wr => ∃ (k : Nat) (n : Int), 1 ≤ k ∧ k ≤ s.size ∧ i = .int .i64 k ∧ nv = .int .i64 n ∧ InR n ∧ Hid (ReadTo s.data.toList 1 k n) ∧ Hid (Below w.heap.size w wr)) (fun _ i _ => s.size - (intOf i).toNat)
    case atStart => exact ⟨1, 0, Nat.le_refl _, by omega, rfl, rfl, ⟨by decide, by decide⟩, fun _ => by simp [digVal], Below.refl _ _⟩
    case round =>
      obtain ⟨k, n, hfk, hk, rfl, rfl, hn, HR, HB⟩ := hrel
      by_cases hlt : k < s.size
      · have h1I : (k : Int) < (s.size : Int) := by omega
        have hkl : k < s.data.toList.length := by omega
        have hb : s.data.toList[k].toNat = s[k].toNat := rfl
        have hb255 : s[k].toNat ≤ 255 := by have := s[k].toNat_lt; omega
        by_cases c1 : (s[k].toNat : Int) < 48
        · have HN := Lib.hid (read_no HF.out hfk hkl (.inl (by omega)))
          clear HR
          go_wp2
          go_ret2
          exact NumOut.no HB.out HN.out
        · by_cases c2 : (s[k].toNat : Int) > 57
          · have HN := Lib.hid (read_no HF.out hfk hkl (.inr (.inl (by omega))))
            clear HR
            go_wp2
            go_ret2
            exact NumOut.no HB.out HN.out
          · by_cases c3 : (s.size : Int) > 20
            · have HN := Lib.hid (read_no HF.out hfk hkl (.inr (.inr (by omega))))
              clear HR
              go_wp2
              go_ret2
              exact NumOut.no HB.out HN.out
            · have HR2 := Lib.hid (read_step HF.out hfk hkl HR.out ⟨by omega, by omega⟩)
              rw [hb] at HR2
              have hu : IntKind.u8.wrap ((s[k].toNat : Int) - 48) = (s[k].toNat : Int) - 48 := by rw [IntKind.wrap_u8]; omega
              have hin := wrap_in (wrap64 (10 * n) - ((s[k].toNat : Int) - 48))
              clear HR
              go_wp2
              go_roundw
              case rel => exact ⟨k + 1, _, by omega, by omega, by go_num, rfl, hin, HR2, HB⟩
              case measure => simp [intOf]; omega
      · obtain rfl : k = s.size := by omega
        have HE : Hid (∀ m, IsNum s.data.toList m → m = n) := fun m hm => read_end1 HF.out (by omega) HR.out hm
        have hq := hn
        have HFg := Lib.hid (figures_any n hq.1 hq.2 wr)
        obtain ⟨t, ht⟩ : ∃ t : ByteArray, t = ⟨(Lib.itoa n).toArray⟩ := ⟨_, rfl⟩
        rw [← ht] at HFg
        have htl : t.data.toList = Lib.itoa n := by rw [ht]
        have HT := Lib.hid htl
        have HQ := Lib.hid hq
        clear ht htl hq HR
        by_cases h : t = s
        · subst h
          go_wp2_with fail
          refine (HFg.out).mono ?_
          rintro e w2 ⟨rfl, hb2⟩
          have HB2 : Hid (Below w.heap.size w w2) := HB.out.trans (hb2.mono HB.out.size)
          clear hb2 HB
          go_wp2
          go_ret2
          exact NumOut.yes HB2.out ⟨HQ.out, HT.out.symm⟩
        · have hne := ba_ne h
          have HN : Hid (¬ ∃ n, IsNum s.data.toList n) := fun ⟨m, hm⟩ => h (bytes_ext (by rw [HT.out, ← HE.out m hm]; exact hm.2))
          clear h
          go_wp2_with fail
          refine (HFg.out).mono ?_
          rintro e w2 ⟨rfl, hb2⟩
          have HB2 : Hid (Below w.heap.size w w2) := HB.out.trans (hb2.mono HB.out.size)
          clear hb2 HB
          go_wp2
          go_ret2
          exact NumOut.no HB2.out HN.out
  · have HF : Hid (FromOf s.data.toList 0) := .inr ⟨rfl, hh⟩
    by_cases h0 : 0 < s.size
    · have e0 : ((s[0].toNat : Int) == 45) = false := by
        have := head_tail s h0
        rw [this] at hh
        have : s[0] ≠ 45 := by simpa using hh
        have := u8_ne this
        simpa using this
      have h0I : (s.size : Int) > 0 := by omega
      clear hh
      go_enter Tryd.func29, Tryd.ntmps29
      go_wp2_with fail
      go_loopw [4, 6] (fun nv i wr => ∃ (k : Nat) (n : Int), 0 ≤ k ∧ k ≤ s.size ∧ i = .int .i64 k ∧ nv = .int .i64 n ∧ InR n ∧ Hid (ReadTo s.data.toList 0 k n) ∧ Hid (Below w.heap.size w wr)) (fun _ i _ => s.size - (intOf i).toNat)
      case atStart => exact ⟨0, 0, Nat.le_refl _, by omega, rfl, rfl, ⟨by decide, by decide⟩, fun _ => by simp [digVal], Below.refl _ _⟩
      case round =>
        obtain ⟨k, n, hfk, hk, rfl, rfl, hn, HR, HB⟩ := hrel
        by_cases hlt : k < s.size
        · have h1I : (k : Int) < (s.size : Int) := by omega
          have hkl : k < s.data.toList.length := by omega
          have hb : s.data.toList[k].toNat = s[k].toNat := rfl
          have hb255 : s[k].toNat ≤ 255 := by have := s[k].toNat_lt; omega
          by_cases c1 : (s[k].toNat : Int) < 48
          · have HN := Lib.hid (read_no HF.out hfk hkl (.inl (by omega)))
            clear HR
            go_wp2
            go_ret2
            exact NumOut.no HB.out HN.out
          · by_cases c2 : (s[k].toNat : Int) > 57
            · have HN := Lib.hid (read_no HF.out hfk hkl (.inr (.inl (by omega))))
              clear HR
              go_wp2
              go_ret2
              exact NumOut.no HB.out HN.out
            · by_cases c3 : (s.size : Int) > 20
              · have HN := Lib.hid (read_no HF.out hfk hkl (.inr (.inr (by omega))))
                clear HR
                go_wp2
                go_ret2
                exact NumOut.no HB.out HN.out
              · have HR2 := Lib.hid (read_step HF.out hfk hkl HR.out ⟨by omega, by omega⟩)
                rw [hb] at HR2
                have hu : IntKind.u8.wrap ((s[k].toNat : Int) - 48) = (s[k].toNat : Int) - 48 := by rw [IntKind.wrap_u8]; omega
                have hin := wrap_in (wrap64 (10 * n) - ((s[k].toNat : Int) - 48))
                clear HR
                go_wp2
                go_roundw
                case rel => exact ⟨k + 1, _, by omega, by omega, by go_num, rfl, hin, HR2, HB⟩
                case measure => simp [intOf]; omega
        · obtain rfl : k = s.size := by omega
          have HE : Hid (∀ m, IsNum s.data.toList m → m = wrap64 (-n)) := fun m hm => read_end0 HF.out (by omega) HR.out hm
          have hq := wrap_in (-n)
          have HFg := Lib.hid (figures_any (wrap64 (-n)) hq.1 hq.2 wr)
          obtain ⟨t, ht⟩ : ∃ t : ByteArray, t = ⟨(Lib.itoa (wrap64 (-n))).toArray⟩ := ⟨_, rfl⟩
          rw [← ht] at HFg
          have htl : t.data.toList = Lib.itoa (wrap64 (-n)) := by rw [ht]
          have HT := Lib.hid htl
          have HQ := Lib.hid hq
          clear ht htl hq HR
          by_cases h : t = s
          · subst h
            go_wp2_with fail
            refine (HFg.out).mono ?_
            rintro e w2 ⟨rfl, hb2⟩
            have HB2 : Hid (Below w.heap.size w w2) := HB.out.trans (hb2.mono HB.out.size)
            clear hb2 HB
            go_wp2
            go_ret2
            exact NumOut.yes HB2.out ⟨HQ.out, HT.out.symm⟩
          · have hne := ba_ne h
            have HN : Hid (¬ ∃ n, IsNum s.data.toList n) := fun ⟨m, hm⟩ => h (bytes_ext (by rw [HT.out, ← HE.out m hm]; exact hm.2))
            clear h
            go_wp2_with fail
            refine (HFg.out).mono ?_
            rintro e w2 ⟨rfl, hb2⟩
            have HB2 : Hid (Below w.heap.size w w2) := HB.out.trans (hb2.mono HB.out.size)
            clear hb2 HB
            go_wp2
            go_ret2
            exact NumOut.no HB2.out HN.out
    · have h0I : ¬ (s.size : Int) > 0 := by omega
      clear hh
      go_enter Tryd.func29, Tryd.ntmps29
      go_wp2_with fail
      go_loopw [4, 6] (fun nv i wr => ∃ (k : Nat) (n : Int), 0 ≤ k ∧ k ≤ s.size ∧ i = .int .i64 k ∧ nv = .int .i64 n ∧ InR n ∧ Hid (ReadTo s.data.toList 0 k n) ∧ Hid (Below w.heap.size w wr)) (fun _ i _ => s.size - (intOf i).toNat)
      case atStart => exact ⟨0, 0, Nat.le_refl _, by omega, rfl, rfl, ⟨by decide, by decide⟩, fun _ => by simp [digVal], Below.refl _ _⟩
      case round =>
        obtain ⟨k, n, hfk, hk, rfl, rfl, hn, HR, HB⟩ := hrel
        by_cases hlt : k < s.size
        · omega
        · obtain rfl : k = s.size := by omega
          have HE : Hid (∀ m, IsNum s.data.toList m → m = wrap64 (-n)) := fun m hm => read_end0 HF.out (by omega) HR.out hm
          have hq := wrap_in (-n)
          have HFg := Lib.hid (figures_any (wrap64 (-n)) hq.1 hq.2 wr)
          obtain ⟨t, ht⟩ : ∃ t : ByteArray, t = ⟨(Lib.itoa (wrap64 (-n))).toArray⟩ := ⟨_, rfl⟩
          rw [← ht] at HFg
          have htl : t.data.toList = Lib.itoa (wrap64 (-n)) := by rw [ht]
          have HT := Lib.hid htl
          have HQ := Lib.hid hq
          clear ht htl hq HR
          by_cases h : t = s
          · subst h
            go_wp2_with fail
            refine (HFg.out).mono ?_
            rintro e w2 ⟨rfl, hb2⟩
            have HB2 : Hid (Below w.heap.size w w2) := HB.out.trans (hb2.mono HB.out.size)
            clear hb2 HB
            go_wp2
            go_ret2
            exact NumOut.yes HB2.out ⟨HQ.out, HT.out.symm⟩
          · have hne := ba_ne h
            have HN : Hid (¬ ∃ n, IsNum s.data.toList n) := fun ⟨m, hm⟩ => h (bytes_ext (by rw [HT.out, ← HE.out m hm]; exact hm.2))
            clear h
            go_wp2_with fail
            refine (HFg.out).mono ?_
            rintro e w2 ⟨rfl, hb2⟩
            have HB2 : Hid (Below w.heap.size w w2) := HB.out.trans (hb2.mono HB.out.size)
            clear hb2 HB
            go_wp2
            go_ret2
            exact NumOut.no HB2.out HN.out

theorem from_of (l : List UInt8) : ∃ f, FromOf l f := by
  by_cases h : l.head? = some 45
  · exact ⟨1, .inl ⟨rfl, h⟩⟩
  · exact ⟨0, .inr ⟨rfl, h⟩⟩
theorem refNum_any (s : ByteArray) (hs : s.size < 4294967281) (w : World) :
    Calls Tryd.prog 29 #[.string s] w fun e w' => NumOut s.data.toList w e w' := by
  obtain ⟨f, hf⟩ := from_of s.data.toList
  exact refNum_loop s hs w f hf
end Go.Proofs.YtdjappfmjnjibaaDoor
