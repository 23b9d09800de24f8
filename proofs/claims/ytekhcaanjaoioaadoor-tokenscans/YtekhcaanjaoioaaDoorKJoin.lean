/-
  Contracts of token.inMarks, textOf and Join.
-/
import Derived.Test.YtekhcaanjaoioaaDoorKJoinP
import Derived.Test.YtekhcaanjaoioaaDoorKText
import Derived.Test.YtekhcaanjaoioaaDoorKBld
import Derived.Shelf.Strings.MapGrows
namespace Go.Proofs.YtekhcaanjaoioaaDoor
set_option linter.unusedSimpArgs false
set_option linter.unusedVariables false
set_option linter.unusedSectionVars false
set_option maxRecDepth 100000
open Go.RowKit

theorem ret_baK {a b : ByteArray} (h : a.data.toList = b.data.toList) : Ending.returned (.string a) = .returned (.string b) := by rw [Go.WideShapes.bytes_inj h]
theorem escC_plain {c : UInt8} (h : nameB (c.toNat : Int) = true) : escC c = [c] := by
  unfold escC
  rw [if_neg (by rintro rfl; revert h; decide), if_neg (by rintro rfl; revert h; decide), if_neg (by rintro rfl; revert h; decide)]
theorem escL_plain {l : List UInt8} (h : nameAt l = true) : escL l = l := by
  induction l with
  | nil => rfl
  | cons c l ih =>
    simp only [nameAt, List.all_cons, Bool.and_eq_true] at h
    have e : escL (c :: l) = escC c ++ escL l := by simp [escL]
    rw [e, escC_plain h.1, ih h.2]; rfl
theorem plain_nameAt {l : List UInt8} (h : plainL l = true) : nameAt l = true := by
  cases l with
  | nil => rfl
  | cons c t =>
    simp only [plainL] at h
    simp_all [nameAt]
theorem quoteL_plain {l : List UInt8} (h : plainL l = true) : quoteL l = 39 :: (l ++ [39]) := by unfold quoteL; rw [escL_plain (plain_nameAt h)]
theorem quoteL_ne (l : List UInt8) : quoteL l ≠ l := fun h => by
  have h1 := congrArg List.length h
  have := (escL_len l).1
  simp [quoteL] at h1
  omega

set_option maxHeartbeats 1000000 in
theorem inMarks_any (s : ByteArray) (w : World) (hs : 2 * s.size + 2 ≤ 140737488355328) :
    Calls Tryd.prog 41 #[.string s] w fun e w' => e = .returned (.string ⟨(quoteL s.data.toList).toArray⟩) ∧ Below w.heap.size w w' := by
  have HT := Lib.hid (fun W => text_sym s 0 W hs)
  have hm : (s.size : Int) ≤ 140737488355328 := by omega
  by_cases hp : shortPlain s.data.toList = true
  · have hx : textL true s.data.toList 0 = s.data.toList := by simp [textL, hp]
    rw [hx] at HT
    have HQ : Hid (quoteL s.data.toList = 39 :: (s.data.toList ++ [39])) := quoteL_plain (by simp [shortPlain] at hp; exact hp.2)
    clear hx hp hs
    go_enter Tryd.func41, Tryd.ntmps41
    go_wp2_with (first
      | (go_at_call 55; refine (sym_any _ _).mono ?_; rintro e w1 ⟨rfl, hb1⟩)
      | (go_at_call 42; refine (HT.out _).mono ?_; rintro e w2 ⟨rfl, hb2⟩))
    go_ret
    refine ⟨?_, hb1.trans (hb2.mono hb1.size)⟩
    exact ret_baK (by rw [HQ.out]; simp)
  · have hx : textL true s.data.toList 0 = quoteL s.data.toList := by simp [textL, hp]
    rw [hx] at HT
    obtain ⟨x, hxe⟩ : ∃ x, x = (⟨(quoteL s.data.toList).toArray⟩ : ByteArray) := ⟨_, rfl⟩
    have hneb : (x.toList == s.toList) = false := by
      rw [toList_data, toList_data, beq_eq_false_iff_ne, hxe]
      exact quoteL_ne _
    rw [← hxe] at HT ⊢
    clear hx hp hs hxe
    go_enter Tryd.func41, Tryd.ntmps41
    go_wp2_with (first
      | (go_at_call 55; refine (sym_any _ _).mono ?_; rintro e w1 ⟨rfl, hb1⟩)
      | (go_at_call 42; refine (HT.out _).mono ?_; rintro e w2 ⟨rfl, hb2⟩))
    go_ret
    exact ⟨rfl, hb1.trans (hb2.mono hb1.size)⟩

theorem textT_1q {t : Tk} (hk : t.kind = 1) (h : ¬ (t.q = false ∧ (plainL t.s.data.toList = true ∨ t.s.data.toList = [110, 111, 116]))) : textT t = quoteL t.s.data.toList := by unfold textT; rw [if_pos hk, if_neg h]
theorem textT_1s {t : Tk} (hk : t.kind = 1) (h : t.q = false ∧ (plainL t.s.data.toList = true ∨ t.s.data.toList = [110, 111, 116])) : textT t = t.s.data.toList := by unfold textT; rw [if_pos hk, if_pos h]
theorem ba_eta (s : ByteArray) : (⟨s.data.toList.toArray⟩ : ByteArray) = s := by simp

set_option maxHeartbeats 2000000 in
theorem textOf_any (t : Tk) (w : World) (hT : t.Ok) (ht : Tab w) :
    Calls Tryd.prog 17 #[.agg #[.int .i64 t.kind, .string t.s, .int .i64 t.n, .bool t.q, .int .i64 t.pl]] w fun e w' => e = .returned (.string ⟨(textT t).toArray⟩) ∧ Below w.heap.size w w' := by
  obtain ⟨hs, h0, h1⟩ := hT
  have HM := Lib.hid (fun W => inMarks_any t.s W hs)
  have hm : t.s.size ≤ maxLen := by unfold maxLen; omega
  have HP := Lib.hid (fun W => plain_any t.s W hm)
  have HI := Lib.hid (fun W (hb : Below w.heap.size w W) => text_int ⟨#[]⟩ t.n h0 h1 W (ht.on hb))
  obtain ⟨kd, s, nn, qq, pp⟩ := t
  simp only at hs h0 h1 HM HP HI hm ⊢
  have hb0 : Below w.heap.size w (w.alloc (.cells #[.int .i64 kd, .string s, .int .i64 nn, .bool qq, .int .i64 pp] 34)) := al_below w _
  by_cases k1 : kd = 1
  · subst k1
    cases qq
    · cases hp : plainL s.data.toList
      · rw [hp] at HP
        by_cases hn : s.data.toList = [110, 111, 116]
        · have E : Hid (textT ⟨1, s, nn, false, pp⟩ = s.data.toList) := textT_1s rfl ⟨rfl, .inr hn⟩
          have hN : (s.toList == [110, 111, 116]) = true := by rw [toList_data, hn]; rfl
          clear hp hn hs h0 h1 hm HI
          go_enter Tryd.func17, Tryd.ntmps17
          go_wp2_with (go_at_call 40; refine (HP.out _).mono ?_; rintro e w1 ⟨rfl, hb1⟩; obtain ⟨hc1, hf1⟩ := bcell hb1)
          go_ret
          exact ⟨by rw [E.out, ba_eta]; rfl, hb0.trans (hb1.mono hb0.size)⟩
        · have E : Hid (textT ⟨1, s, nn, false, pp⟩ = quoteL s.data.toList) := textT_1q rfl (by simp [hp, hn])
          have hN : (s.toList == [110, 111, 116]) = false := by rw [toList_data, beq_eq_false_iff_ne]; exact hn
          clear hp hn hs h0 h1 hm HI
          go_enter Tryd.func17, Tryd.ntmps17
          go_wp2_with (first
            | (go_at_call 40; refine (HP.out _).mono ?_; rintro e w1 ⟨rfl, hb1⟩; obtain ⟨hc1, hf1⟩ := bcell hb1)
            | (go_at_call 41; refine (HM.out _).mono ?_; rintro e w2 ⟨rfl, hb2⟩))
          go_ret
          exact ⟨by rw [E.out]; rfl, (hb0.trans (hb1.mono hb0.size)).trans (hb2.mono (by have := hb0.size; have := hb1.size; omega))⟩
      · rw [hp] at HP
        have E : Hid (textT ⟨1, s, nn, false, pp⟩ = s.data.toList) := textT_1s rfl ⟨rfl, .inl hp⟩
        clear hp hs h0 h1 hm HI
        go_enter Tryd.func17, Tryd.ntmps17
        go_wp2_with (go_at_call 40; refine (HP.out _).mono ?_; rintro e w1 ⟨rfl, hb1⟩; obtain ⟨hc1, hf1⟩ := bcell hb1)
        go_ret
        exact ⟨by rw [E.out, ba_eta]; rfl, hb0.trans (hb1.mono hb0.size)⟩
    · have E : Hid (textT ⟨1, s, nn, true, pp⟩ = quoteL s.data.toList) := textT_1q rfl (by simp)
      clear hs h0 h1 hm HI HP
      go_enter Tryd.func17, Tryd.ntmps17
      go_wp2_with (go_at_call 41; refine (HM.out _).mono ?_; rintro e w2 ⟨rfl, hb2⟩)
      go_ret
      exact ⟨by rw [E.out]; rfl, hb0.trans (hb2.mono hb0.size)⟩
  · have b1 : (kd == 1) = false := by simpa using k1
    by_cases k2 : kd = 2 ∨ kd = 4
    · have E : Hid (textT ⟨kd, s, nn, qq, pp⟩ = s.data.toList) := by simp [Hid, textT, k1, k2]
      clear hs h0 h1 hm HI HP HM
      rcases k2 with rfl | rfl
      all_goals
        go_enter Tryd.func17, Tryd.ntmps17
        go_wp2
        go_ret
        exact ⟨by rw [E.out, ba_eta]; rfl, hb0⟩
    · have b2 : (kd == 2) = false := by simp; intro h; exact k2 (.inl h)
      have b4 : (kd == 4) = false := by simp; intro h; exact k2 (.inr h)
      by_cases k3 : kd = 3
      · subst k3
        have E : Hid (textT ⟨3, s, nn, qq, pp⟩ = Lib.itoa nn) := by simp [Hid, textT]
        clear hs h0 h1 hm HP HM k1 k2
        go_enter Tryd.func17, Tryd.ntmps17
        go_wp2_with (first
          | (go_at_call 43; refine (int_any _ _).mono ?_; rintro e w1 ⟨rfl, hb1⟩; have hbb : Below w.heap.size w w1 := hb0.trans (hb1.mono hb0.size))
          | (go_at_call 42; refine (HI.out _ hbb).mono ?_; rintro e w2 ⟨rfl, hb2⟩))
        go_ret
        exact ⟨by rw [E.out]; rfl, hbb.trans (hb2.mono hbb.size)⟩
      · have b3 : (kd == 3) = false := by simpa using k3
        have E : Hid (textT ⟨kd, s, nn, qq, pp⟩ = []) := by simp [Hid, textT, k1, k2, k3]
        clear hs h0 h1 hm HI HP HM k2
        go_enter Tryd.func17, Tryd.ntmps17
        go_wp2
        go_ret
        exact ⟨by rw [E.out]; rfl, hb0⟩

theorem strCells_toArray (l : List UInt8) : Lib.strCells ⟨l.toArray⟩ = Lib.byteCells l := by rw [Lib.strCells_eq]

set_option maxHeartbeats 2000000 in
theorem join_any {x : Value} {T : List Tk} {w : World} (hx : Tks w x T) (hT : ∀ t ∈ T, t.Ok) (hJ : (joinL T).length ≤ 140737488355328) (ht : Tab w) :
    Calls Tryd.prog 9 #[x] w fun e w' => e = .returned (.string ⟨(joinL T).toArray⟩) ∧ Below w.heap.size w w' := by
  obtain ⟨ao, cap, rfl, hcap, hm⟩ := hx.form
  unfold maxLen at hm
  have HX := Lib.hid hx
  have HT := Lib.hid hT
  have HJ := Lib.hid hJ
  have HTB := Lib.hid ht
  have HI0 : Hid (Lib.IsBuilderF 50 5 w.heap.size w.heap.size (Lib.byteCells (joinL (T.take 0))) (w.alloc (.cells #[.pointer none, .slice none 0 0] 50))) := Lib.IsBuilderF.of (Lib.fresh_isBuilder 50 5 w)
  have HB0 : Hid (Below w.heap.size w (w.alloc (.cells #[.pointer none, .slice none 0 0] 50))) := al_below w _
  clear hx hT hJ ht hcap
  go_enter Tryd.func9, Tryd.ntmps9
  go_wp2_with fail
  go_loopw [8] (fun i wr => ∃ k : Nat, k ≤ T.length ∧ i = .int .i64 k ∧ Hid (Lib.IsBuilderF 50 5 w.heap.size w.heap.size (Lib.byteCells (joinL (T.take k))) wr) ∧ Hid (Below w.heap.size w wr)) (fun i _ => T.length - (intOf i).toNat)
  case atStart => exact ⟨0, Nat.zero_le _, rfl, HI0, HB0⟩
  case round =>
    clear HI0 HB0
    obtain ⟨k, hk, rfl, HI, HB⟩ := hrel
    by_cases hlt : k < T.length
    · have hltI : (k : Int) < (T.length : Int) := by omega
      obtain ⟨ao', cap', e', -, -, hcells⟩ := HX.out.below HB.out
      cases e'
      obtain ⟨b, off, rfl, hbl, c0, c1, c2, c3, c4⟩ := hcells k hlt
      have HTX := Lib.hid (fun W (hb : Below wr.heap.size wr W) => textOf_any T[k] W (HT.out _ (List.getElem_mem hlt)) (HTB.out.on (HB.out.trans (hb.mono HB.out.size))))
      have HJ1 := Lib.hid (joinL_take T k hlt)
      have hlen : (joinL (T.take (k + 1))).length ≤ 140737488355328 := Nat.le_trans (joinL_le T (k + 1)) HJ.out
      rw [HJ1.out, List.length_append, List.length_append] at hlen
      have hlen2 : (joinL (T.take k)).length + (textT T[k]).length + 1 ≤ 140737488355328 := by simpa using hlen
      obtain ⟨tk, htk⟩ : ∃ tk, tk = T[k] := ⟨_, rfl⟩
      rw [← htk] at HTX HJ1 c0 c1 c2 c3 c4 hlen2
      obtain ⟨jl, hjl⟩ : ∃ jl, jl = joinL (T.take k) := ⟨_, rfl⟩
      rw [← hjl] at HI HJ1 hlen2
      obtain ⟨tl, htl⟩ : ∃ tl, tl = textT tk := ⟨_, rfl⟩
      rw [← htl] at HTX HJ1 hlen2
      have HLEN := Lib.hid hlen2
      clear htk hjl htl hlen hlen2 hcells
      have hBw := HB.out.size
      go_wp2_with (first
        | (go_at_call 17; refine (HTX.out _ (al_below wr _)).mono ?_; rintro e w1 ⟨rfl, hb1⟩; have hb1' : Below wr.heap.size wr w1 := (al_below wr _).trans (hb1.mono (by simp)); have HI1 := Lib.hid (HI.out.below hb1'); have HB1 : Hid (Below w.heap.size w w1) := HB.out.trans (hb1'.mono hBw); clear hb1 hb1')
        | (go_at_call 16; refine (bld_string w.heap.size w.heap.size (Lib.byteCells jl) ⟨tl.toArray⟩ _ HI1.out (by (have := HLEN.out; simp [Lib.byteCells, ByteArray.size]; omega)) HB1.out.size).mono ?_; rintro e w2 ⟨rfl, hi2, hb2⟩; have HI2 := Lib.hid hi2; have HB2 : Hid (Below w.heap.size w w2) := HB1.out.trans hb2; clear hi2 hb2)
        | (go_at_call 18; refine (bld_byte w.heap.size w.heap.size _ 32 _ HI2.out (by (have := HLEN.out; simp [Lib.byteCells, Lib.strCells]; omega)) HB2.out.size).mono ?_; rintro e w3 ⟨rfl, hi3, hb3⟩; have HI3 := Lib.hid hi3; have HB3 : Hid (Below w.heap.size w w3) := HB2.out.trans hb3; clear hi3 hb3))
      go_roundw
      case rel => exact ⟨k + 1, by omega, by go_num, by have h := HI3.out; rw [strCells_toArray] at h; show Lib.IsBuilderF _ _ _ _ _ _; rw [HJ1.out]; simpa [Lib.byteCells] using h, HB3⟩
      case measure => simp [intOf]; omega
    · have hltI : ¬ (k : Int) < (T.length : Int) := by omega
      have HI' := HI.out
      rw [List.take_of_length_le (by omega)] at HI'
      have HI2 := Lib.hid HI'
      clear HI' HI
      have hBw := HB.out.size
      go_wp2_with (go_at_call 19; refine (Tryd.Builder_String_any_f w.heap.size w.heap.size (joinL T) _ HI2.out hBw).mono ?_; rintro e w5 ⟨rfl, -, hb5⟩)
      go_ret
      exact ⟨rfl, HB.out.trans hb5⟩
end Go.Proofs.YtekhcaanjaoioaaDoor
