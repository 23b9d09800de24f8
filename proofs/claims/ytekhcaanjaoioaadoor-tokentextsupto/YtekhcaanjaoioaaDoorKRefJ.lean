/-
  Contract of the document's Join (lambrequinref05): as the program's.
-/
import Derived.Test.YtekhcaanjaoioaaDoorKRefTxt
import Derived.Test.YtekhcaanjaoioaaDoorKJoin
namespace Go.Proofs.YtekhcaanjaoioaaDoor
set_option linter.unusedSimpArgs false
set_option linter.unusedVariables false
set_option linter.unusedSectionVars false
set_option maxRecDepth 100000
open Go.RowKit

theorem al_belowJ (w : World) (o : Obj) : Below w.heap.size w (w.alloc o) := (Below.refl _ _).alloc (Nat.le_refl _) _
theorem textT_1p {s : ByteArray} {n pl : Int} (h : plainL s.data.toList = true) : textT ⟨1, s, n, true, pl⟩ = 39 :: (s.data.toList ++ [39]) := by
  rw [textT_1q (t := ⟨1, s, n, true, pl⟩) rfl (by simp)]
  exact quoteL_plain h
theorem textT_1t {s : ByteArray} {n pl : Int} {q : Bool} (h : plainL s.data.toList = false) (hn : ¬ (s.data.toList = [110, 111, 116] ∧ q = false)) : textT ⟨1, s, n, q, pl⟩ = textL true s.data.toList 0 := by
  rw [textT_1q (t := ⟨1, s, n, q, pl⟩) rfl]
  · simp [textL, shortPlain, h]
  · rintro ⟨h1, h2 | h2⟩
    · simp only at h2; rw [h] at h2; cases h2
    · exact hn ⟨h2, h1⟩
/-- The text so far. -/
def JAt (T : List Tk) (k : Nat) (o : ByteArray) : Prop := o.data.toList = joinL (T.take k)
theorem JAt.size {T : List Tk} {k : Nat} {o : ByteArray} (h : JAt T k o) (hJ : (joinL T).length ≤ 140737488355328) : o.size ≤ 140737488355328 := by
  have h1 : o.data.toList.length = o.size := by simp
  have h2 := joinL_le T k
  rw [← h1, h]
  omega
theorem JAt.next {T : List Tk} {k : Nat} {o o' : ByteArray} (h : JAt T k o) (hk : k < T.length) (e : o'.data.toList = o.data.toList ++ textT T[k] ++ [32]) : JAt T (k + 1) o' := by
  unfold JAt at *
  rw [e, h, joinL_take T k hk]
theorem JAt.room {T : List Tk} {k : Nat} {o : ByteArray} (h : JAt T k o) (hk : k < T.length) (hJ : (joinL T).length ≤ 140737488355328) : o.size + (textT T[k]).length + 1 ≤ 140737488355328 := by
  have h1 : o.data.toList.length = o.size := by simp
  have h2 := joinL_le T (k + 1)
  rw [joinL_take T k hk, ← h] at h2
  simp only [List.length_append, List.length_singleton, h1] at h2
  omega

set_option maxRecDepth 100000 in
set_option maxHeartbeats 4000000 in
theorem rjoin_any {x : Value} {T : List Tk} {w : World} (hx : Tks w x T) (hT : ∀ t ∈ T, t.Ok) (hJ : (joinL T).length ≤ 140737488355328) :
    Calls Tryd.prog 10 #[x] w fun e w' => e = .returned (.string ⟨(joinL T).toArray⟩) ∧ Below w.heap.size w w' := by
  obtain ⟨ao, cap, rfl, hcap, hm⟩ := hx.form
  unfold maxLen at hm
  have HX := Lib.hid hx
  have HT := Lib.hid hT
  have HJ := Lib.hid hJ
  clear hx hT hJ hcap
  go_enter Tryd.func10, Tryd.ntmps10
  go_wp2_with fail
  go_loopw [3, 4] (fun ov i wr => ∃ (k : Nat) (o : ByteArray), (k : Int) ≤ (T.length : Int) ∧ i = .int .i64 k ∧ ov = .string o ∧ Hid (JAt T k o) ∧ Hid (Below w.heap.size w wr)) (fun _ i _ => T.length - (intOf i).toNat)
  case atStart => exact ⟨0, ⟨#[]⟩, by omega, rfl, rfl, rfl, Below.refl _ _⟩
  case round =>
    obtain ⟨k, o, hk, rfl, rfl, HA, HB⟩ := hrel
    by_cases hlt : k < T.length
    · have hltI : (k : Int) < (T.length : Int) := by omega
      obtain ⟨ao', cap', e', -, -, hcells⟩ := HX.out.below HB.out
      cases e'
      obtain ⟨b, off, rfl, hbl, c0, c1, c2, c3, c4⟩ := hcells k hlt
      have hok := HT.out _ (List.getElem_mem hlt)
      have hroom := HA.out.room hlt HJ.out
      have HNX : Hid (∀ o' : ByteArray, o'.data.toList = o.data.toList ++ textT T[k] ++ [32] → JAt T (k + 1) o') := fun o' e => HA.out.next hlt e
      have HLT : Hid (k + 1 ≤ T.length) := hlt
      obtain ⟨tk, htk⟩ : ∃ tk, tk = T[k]'hlt := ⟨_, rfl⟩
      rw [← htk] at c0 c1 c2 c3 c4 hok hroom HNX
      clear htk hcells hlt
      obtain ⟨hs, h0, h1⟩ := hok
      obtain ⟨kd, s, nn, qq, pp⟩ := tk
      simp only at c0 c1 c2 c3 c4 hs h0 h1
      have HP := Lib.hid (fun W => refPlain_any s W (by unfold maxLen; omega))
      have HTX := Lib.hid (fun W => refText_any true s 0 (by decide) (by decide) W hs)
      have HFG := Lib.hid (fun W => figures_any nn h0 h1 W)
      have hb0 : Below wr.heap.size wr (wr.alloc (.cells #[.int .i64 kd, .string s, .int .i64 nn, .bool qq, .int .i64 pp] 34)) := al_belowJ wr _
      have HB0 := Lib.hid (HB.out.trans (hb0.mono HB.out.size))
      have HSZ0 := Lib.hid hb0.size
      obtain ⟨pl, hpl⟩ : ∃ pl, pl = plainL s.data.toList := ⟨_, rfl⟩
      rw [← hpl] at HP
      have hsz : s.data.toList.length = s.size := by simp
      have hsI : (s.size : Int) ≤ 140737488355328 := by omega
      clear h0 h1 hb0
      by_cases k1 : kd = 1
      · subst k1
        cases pl
        · by_cases hn : s.data.toList = [110, 111, 116] ∧ qq = false
          · obtain ⟨hn, rfl⟩ := hn
            have E : textT ⟨1, s, nn, false, pp⟩ = [110, 111, 116] := by rw [textT_1s (t := ⟨1, s, nn, false, pp⟩) rfl ⟨rfl, .inr hn⟩]; exact hn
            have hN : (s.toList == [110, 111, 116]) = true := by rw [toList_data, hn]; rfl
            rw [E] at hroom HNX
            have hroomI : (o.size : Int) + 4 ≤ 140737488355328 := by simp at hroom; omega
            clear hn E hpl hsz hroom HTX HFG hs
            go_wp2_with (go_at_call 20; refine (HP.out _).mono ?_; rintro e w1 ⟨rfl, rfl⟩)
            go_roundw
            case rel => exact ⟨k + 1, _, by have := HLT.out; omega, by go_num, rfl, HNX.out _ (by simp [Go.Joins.data_append]), HB0.out⟩
            case measure => simp [intOf]; have := HLT.out; omega
          · have E := textT_1t (s := s) (n := nn) (pl := pp) (q := qq) hpl.symm hn
            rw [E] at hroom HNX
            obtain ⟨y, hy⟩ : ∃ y : ByteArray, y = ⟨(textL true s.data.toList 0).toArray⟩ := ⟨_, rfl⟩
            have hyl : (textL true s.data.toList 0).length = y.size := by rw [hy]; rfl
            have hyd : textL true s.data.toList 0 = y.data.toList := by rw [hy]
            have hroomI : (o.size : Int) + (y.size : Int) + 1 ≤ 140737488355328 := by omega
            rw [← hy] at HTX
            rw [hyd] at HNX
            have hN : ((s.toList == [110, 111, 116]) = false) ∨ ((s.toList == [110, 111, 116]) = true ∧ qq = true) := by
              by_cases h : s.data.toList = [110, 111, 116]
              · right
                refine ⟨by rw [toList_data, h]; rfl, ?_⟩
                cases qq
                · exact absurd ⟨h, rfl⟩ hn
                · rfl
              · left
                rw [toList_data, beq_eq_false_iff_ne]
                exact h
            clear hn E hpl hsz hroom HFG hs hy hyl hyd
            rcases hN with hN | ⟨hN, rfl⟩
            all_goals
              go_wp2_with (first
                | (go_at_call 20; refine (HP.out _).mono ?_; rintro e w1 ⟨rfl, rfl⟩)
                | (go_at_call 21; refine (HTX.out _).mono ?_; rintro e w2 ⟨rfl, hb2⟩; have HB2 := Lib.hid (HB0.out.trans (hb2.mono (by have := HB0.out.size; omega))); clear hb2 HTX))
              go_roundw
              case rel => exact ⟨k + 1, _, by have := HLT.out; omega, by go_num, rfl, HNX.out _ (by simp [Go.Joins.data_append]), HB2.out⟩
              case measure => simp [intOf]; have := HLT.out; omega
        · cases qq
          · have E : textT ⟨1, s, nn, false, pp⟩ = s.data.toList := textT_1s (t := ⟨1, s, nn, false, pp⟩) rfl ⟨rfl, .inl hpl.symm⟩
            rw [E] at hroom HNX
            have hroomI : (o.size : Int) + (s.size : Int) + 1 ≤ 140737488355328 := by omega
            clear E hpl hsz hroom HTX HFG hs
            go_wp2_with (go_at_call 20; refine (HP.out _).mono ?_; rintro e w1 ⟨rfl, rfl⟩)
            go_roundw
            case rel => exact ⟨k + 1, _, by have := HLT.out; omega, by go_num, rfl, HNX.out _ (by simp [Go.Joins.data_append]), HB0.out⟩
            case measure => simp [intOf]; have := HLT.out; omega
          · have E := textT_1p (s := s) (n := nn) (pl := pp) hpl.symm
            rw [E] at hroom HNX
            have hroomI : (o.size : Int) + (s.size : Int) + 3 ≤ 140737488355328 := by simp at hroom; omega
            clear E hpl hsz hroom HTX HFG hs
            go_wp2_with (go_at_call 20; refine (HP.out _).mono ?_; rintro e w1 ⟨rfl, rfl⟩)
            go_roundw
            case rel => exact ⟨k + 1, _, by have := HLT.out; omega, by go_num, rfl, HNX.out _ (by simp [Go.Joins.data_append]), HB0.out⟩
            case measure => simp [intOf]; have := HLT.out; omega
      · have b1 : (kd == 1) = false := by simpa using k1
        by_cases k2 : kd = 2 ∨ kd = 4
        · have E : textT ⟨kd, s, nn, qq, pp⟩ = s.data.toList := by simp [textT, k1, k2]
          rw [E] at hroom HNX
          have hroomI : (o.size : Int) + (s.size : Int) + 1 ≤ 140737488355328 := by omega
          have b2 : ((kd == 2) = true) ∨ ((kd == 2) = false ∧ (kd == 4) = true) := by
            rcases k2 with rfl | rfl
            · exact .inl rfl
            · exact .inr ⟨rfl, rfl⟩
          clear E hpl hsz hroom HTX HFG hs k2 k1
          rcases b2 with b2 | ⟨b2, b4⟩
          all_goals
            go_wp2_with (go_at_call 20; refine (HP.out _).mono ?_; rintro e w1 ⟨rfl, rfl⟩)
            go_roundw
            case rel => exact ⟨k + 1, _, by have := HLT.out; omega, by go_num, rfl, HNX.out _ (by simp [Go.Joins.data_append]), HB0.out⟩
            case measure => simp [intOf]; have := HLT.out; omega
        · have b2 : (kd == 2) = false := by simp; intro h; exact k2 (.inl h)
          have b4 : (kd == 4) = false := by simp; intro h; exact k2 (.inr h)
          by_cases k3 : kd = 3
          · subst k3
            have E : textT ⟨3, s, nn, qq, pp⟩ = Lib.itoa nn := by simp [textT]
            rw [E] at hroom HNX
            obtain ⟨y, hy⟩ : ∃ y : ByteArray, y = ⟨(Lib.itoa nn).toArray⟩ := ⟨_, rfl⟩
            have hyl : (Lib.itoa nn).length = y.size := by rw [hy]; rfl
            have hyd : Lib.itoa nn = y.data.toList := by rw [hy]
            have hroomI : (o.size : Int) + (y.size : Int) + 1 ≤ 140737488355328 := by omega
            rw [← hy] at HFG
            rw [hyd] at HNX
            clear E hpl hsz hroom HTX hs hy hyl hyd k1 k2
            go_wp2_with (first
              | (go_at_call 20; refine (HP.out _).mono ?_; rintro e w1 ⟨rfl, rfl⟩)
              | (go_at_call 22; refine (HFG.out _).mono ?_; rintro e w2 ⟨rfl, hb2⟩; have HB2 := Lib.hid (HB0.out.trans (hb2.mono (by have := HB0.out.size; omega))); clear hb2 HFG))
            go_roundw
            case rel => exact ⟨k + 1, _, by have := HLT.out; omega, by go_num, rfl, HNX.out _ (by simp [Go.Joins.data_append]), HB2.out⟩
            case measure => simp [intOf]; have := HLT.out; omega
          · have b3 : (kd == 3) = false := by simpa using k3
            have E : textT ⟨kd, s, nn, qq, pp⟩ = [] := by simp [textT, k1, k2, k3]
            rw [E] at hroom HNX
            have hroomI : (o.size : Int) + 1 ≤ 140737488355328 := by simp at hroom; omega
            clear E hpl hsz hroom HTX HFG hs k1 k2 k3
            go_wp2_with (go_at_call 20; refine (HP.out _).mono ?_; rintro e w1 ⟨rfl, rfl⟩)
            go_roundw
            case rel => exact ⟨k + 1, _, by have := HLT.out; omega, by go_num, rfl, HNX.out _ (by simp [Go.Joins.data_append]), HB0.out⟩
            case measure => simp [intOf]; have := HLT.out; omega
    · have hltI : ¬ (k : Int) < (T.length : Int) := by omega
      have HE : Hid (o = ⟨(joinL T).toArray⟩) := by
        show o = _
        have h := HA.out
        unfold JAt at h
        rw [List.take_of_length_le (by omega)] at h
        exact Go.WideShapes.bytes_inj (by rw [h])
      go_wp2
      go_ret
      exact ⟨by rw [HE.out]; rfl, HB.out⟩
end Go.Proofs.YtekhcaanjaoioaaDoor
