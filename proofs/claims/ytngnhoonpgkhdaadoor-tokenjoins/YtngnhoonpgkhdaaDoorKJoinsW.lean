/-
  TokenJoins' walk.
-/
import Derived.Test.YtngnhoonpgkhdaaDoorKJoins2
import Derived.Test.YtngnhoonpgkhdaaDoorKSame
import Derived.Test.YtngnhoonpgkhdaaDoorKShown
namespace Go.Proofs.YtngnhoonpgkhdaaDoor
set_option linter.unusedSimpArgs false
set_option linter.unusedVariables false
set_option linter.unusedSectionVars false
set_option maxRecDepth 100000
open Go.RowKit

/-- What both scans tell, one behind the other, but for places. -/
theorem alike_app (A B : List Tk) (m : Nat) : ∀ (i : Nat) (h : i < (A ++ B.map (Tk.move m)).length) (h' : i < (A ++ B).length), Alike (A ++ B.map (Tk.move m))[i] (A ++ B)[i] := by
  intro i h h'
  by_cases hi : i < A.length
  · rw [List.getElem_append_left hi, List.getElem_append_left hi]
    exact ⟨rfl, rfl, rfl, rfl⟩
  · rw [List.getElem_append_right (by omega), List.getElem_append_right (by omega)]
    simp only [List.getElem_map]
    exact ⟨rfl, rfl, rfl, rfl⟩

theorem scanR_len2 (s : ByteArray) : (scanR s).toks.length ≤ s.size := by
  unfold scanR
  split
  · simp
  · have := scanF_len (s.data.toList.length + 1) 0 s.data.toList
    simp only [scanAt]
    simpa using this

set_option maxHeartbeats 8000000 in
theorem joins_walk (s t : ByteArray) (w : World) (hs : s.size ≤ maxLen) (ht : t.size ≤ maxLen) (hE : Env w) (hT : Tab w) :
    Calls Tryd.prog 6 #[.string s, .string t] w fun e w' => e = .returned (.bool true) ∧ Below w.heap.size w w' := by
  unfold maxLen at hs ht
  have HE := Lib.hid hE
  have HT := Lib.hid hT
  clear hE hT
  by_cases h8 : 8000 < s.size
  · have h8I : (8000 : Int) < (s.size : Int) := by omega
    go_enter Tryd.func6, Tryd.ntmps6
    go_wp2_with (go_at_call 10; refine (shown_any _ HE.out HT.out).mono ?_; rintro e w1 ⟨rfl, hb1⟩)
    go_ret
    exact ⟨rfl, hb1⟩
  have h8I : ¬ (8000 : Int) < (s.size : Int) := by omega
  by_cases k8 : 8000 < t.size
  · have k8I : (8000 : Int) < (t.size : Int) := by omega
    go_enter Tryd.func6, Tryd.ntmps6
    go_wp2_with (go_at_call 10; refine (shown_any _ HE.out HT.out).mono ?_; rintro e w1 ⟨rfl, hb1⟩)
    go_ret
    exact ⟨rfl, hb1⟩
  have k8I : ¬ (8000 : Int) < (t.size : Int) := by omega
  have h8J : (s.size : Int) ≤ 8000 := by omega
  have k8J : (t.size : Int) ≤ 8000 := by omega
  obtain ⟨q1, q2, q3, q4, q5⟩ := joins_scan (s := s) (t := t) (by omega) (by omega)
  have HA := Lib.hid (fun W (hW : Env W) => scan_any (s ++ ⟨#[10]⟩) W hW)
  have HB := Lib.hid (fun W (hW : Env W) => scan_any t W hW)
  have HC := Lib.hid (fun W (hW : Env W) => scan_any (s ++ ⟨#[10]⟩ ++ t) W hW)
  have hz : (s ++ ⟨#[10]⟩ : ByteArray).size = s.size + 1 := app_sizeK s [10]
  unfold ScanOut at HA HB HC
  obtain ⟨ra, hra⟩ : ∃ r, r = scanR (s ++ ⟨#[10]⟩) := ⟨_, rfl⟩
  obtain ⟨rb, hrb⟩ : ∃ r, r = scanR t := ⟨_, rfl⟩
  obtain ⟨rc, hrc⟩ : ∃ r, r = scanR (s ++ ⟨#[10]⟩ ++ t) := ⟨_, rfl⟩
  have hlen2' := And.intro (scanR_len2 (s ++ ⟨#[10]⟩)) (scanR_len2 t)
  simp only [← hra, ← hrb, ← hrc] at hlen2' q1 q2 q3 q4 q5 HA HB HC
  clear hra hrb hrc
  obtain ⟨x, hx⟩ : ∃ x, x = (s ++ ⟨#[10]⟩ : ByteArray) := ⟨_, rfl⟩
  have hzI : (x.size : Int) = (s.size : Int) + 1 := by rw [hx]; omega
  obtain ⟨ba, pa, A⟩ := ra
  obtain ⟨bb, pb, B⟩ := rb
  simp only at hlen2' q1 q2 q3 q4 q5 HA HB
  have HLA : Hid (A.length ≤ 65536) := q1
  have HLB : Hid (B.length ≤ 65536) := q2
  have hlen2 : ∀ (_ : (0:Nat) = 0) (_ : (0:Nat) = 0), A.length ≤ 8001 ∧ B.length ≤ 8000 := fun _ _ => ⟨by have := hlen2'.1; omega, by have := hlen2'.2; omega⟩
  clear q1 q2 hz hx h8 k8 hlen2'
  by_cases hA : ba = 0
  · subst hA
    by_cases hB : bb = 0
    · subst hB
      obtain rfl := q5 rfl rfl
      obtain ⟨C, hC⟩ : ∃ C, C = A ++ B.map (Tk.move (s.size + 1)) := ⟨_, rfl⟩
      have hCl : C.length = A.length + B.length := by rw [hC]; simp
      have HAL : Hid (∀ (i : Nat) (h : i < C.length) (h' : i < (A ++ B).length), Alike C[i] (A ++ B)[i]) := by
        show ∀ (i : Nat) (h : i < C.length) (h' : i < (A ++ B).length), Alike C[i] (A ++ B)[i]
        subst hC
        exact alike_app A B (s.size + 1)
      rw [← hC] at HC
      have HCL : Hid (C.length = A.length + B.length) := hCl
      have HL2 : Hid (A.length ≤ 8001 ∧ B.length ≤ 8000) := hlen2 rfl rfl
      have HSM := Lib.hid (fun x y W (hx : Tks W x C) (hy : Tks W y (A ++ B)) => same_any hx hy (by rw [HCL.out]; simp) (by have := HL2.out; have := HCL.out; omega) false (fun i h1 h2 => ⟨HAL.out i h1 h2, fun h => by cases h⟩))
      clear q3 q4 q5 hC hCl HLA HLB
      go_enter Tryd.func6, Tryd.ntmps6
      go_wp2_with (first
        | (go_at_call 10; refine (shown_any _ HE.out HT.out).mono ?_; rintro e w1 ⟨rfl, hb1⟩; have HB1 := Lib.hid hb1; clear hb1)
        | (go_at_call 11; refine (HA.out _ (HE.out.below HB1.out)).mono ?_; rintro e w2 ⟨vw2, rfl, hb, ho⟩; have HB2 : Hid (Below w.heap.size w w2) := HB1.out.trans (hb.mono HB1.out.size); have HO2 := Lib.hid ho; clear hb ho HA)
        | (go_at_call 11; refine (HB.out _ (HE.out.below HB2.out)).mono ?_; rintro e w3 ⟨vw3, rfl, hb, ho⟩; have HB3 : Hid (Below w.heap.size w w3) := HB2.out.trans (hb.mono HB2.out.size); have HO3 := Lib.hid (HO2.out.below hb); have HP3 := Lib.hid ho; clear hb ho HB)
        | (go_at_call 11; refine (HC.out _ (HE.out.below HB3.out)).mono ?_; rintro e w4 ⟨vw4, rfl, hb, ho⟩; have HB4 : Hid (Below w.heap.size w w4) := HB3.out.trans (hb.mono HB3.out.size); have HO4 := Lib.hid (HO3.out.below hb); have HP4 := Lib.hid (HP3.out.below hb); have HQ4 := Lib.hid ho; obtain ⟨qo, qc, hq, -⟩ := (ho.tks (by have := HL2.out; have := HCL.out; unfold maxLen; omega)).form; subst hq; clear hb ho HC)
        | (at_builtin; refine wpList_append_toks rfl (.tmp 82) (.tmp 83) rfl w4.heap.size _ [] rfl (TkOwn.empty (Nat.le_refl _)) _ A rfl (HO4.out.below (al_below w4 _)) (by have := HL2.out; simp; omega) (by simp) ?_; intro y5 w5 ho5 hb5; have hb5' : Below w4.heap.size w4 w5 := (al_below w4 _).trans hb5; have HB5 : Hid (Below w.heap.size w w5) := HB4.out.trans (hb5'.mono HB4.out.size); have HO5 := Lib.hid ho5; have HP5 := Lib.hid (HP4.out.below hb5'); have HQ5 := Lib.hid (HQ4.out.below hb5'); have HD5 := Lib.hid hb5'; have HZ5 : Hid (w4.heap.size ≤ w5.heap.size) := hb5'.size; clear ho5 hb5 hb5')
        | (at_builtin; refine wpList_append_toks rfl (.tmp 84) (.tmp 85) rfl w4.heap.size _ A rfl HO5.out _ B rfl HP5.out (by have := HL2.out; omega) HZ5.out ?_; intro y6 w6 ho6 hb6; have HB6 : Hid (Below w.heap.size w w6) := HB5.out.trans (hb6.mono (Nat.le_trans HB4.out.size (Nat.le_refl _))); have HO6 := Lib.hid (ho6.tks (by have := HL2.out; unfold maxLen; simp; omega)); have HQ6 := Lib.hid (HQ4.out.tks (by have := HL2.out; have := HCL.out; unfold maxLen; omega)); have HD6 : Hid (Below w4.heap.size w4 w6) := HD5.out.trans hb6; clear ho6 hb6)
        | (go_at_call 13; refine (HSM.out _ _ _ (HQ6.out.below HD6.out) HO6.out).mono ?_; rintro e w7 ⟨rfl, hb7⟩; have HB7 : Hid (Below w.heap.size w w7) := HB6.out.trans (hb7.mono HB6.out.size); clear hb7))
      go_ret
      exact ⟨rfl, HB7.out⟩
    · obtain ⟨r1, r2⟩ := q4 rfl hB
      obtain ⟨bc, pc, C⟩ := rc
      simp only at r1 r2 HC
      subst r1
      have r2I : (s.size : Int) < (pc : Int) := by omega
      have hbI : ¬ (bc : Int) = 0 := by omega
      have hbB : ((bc : Int) == 0) = false := by simpa using hbI
      have hbN : ((bc : Int) != 0) = true := by simp [bne, hbB]
      clear q3 q4 q5 r2
      go_enter Tryd.func6, Tryd.ntmps6
      go_wp2_with (first
        | (go_at_call 10; refine (shown_any _ HE.out HT.out).mono ?_; rintro e w1 ⟨rfl, hb1⟩; have HB1 := Lib.hid hb1; clear hb1)
        | (go_at_call 11; refine (HA.out _ (HE.out.below HB1.out)).mono ?_; rintro e w2 ⟨vw2, rfl, hb, ho⟩; have HB2 : Hid (Below w.heap.size w w2) := HB1.out.trans (hb.mono HB1.out.size); have HO2 := Lib.hid ho; clear hb ho HA)
        | (go_at_call 11; refine (HB.out _ (HE.out.below HB2.out)).mono ?_; rintro e w3 ⟨vw3, rfl, hb, ho⟩; have HB3 : Hid (Below w.heap.size w w3) := HB2.out.trans (hb.mono HB2.out.size); have HO3 := Lib.hid (HO2.out.below hb); have HP3 := Lib.hid ho; clear hb ho HB)
        | (go_at_call 11; refine (HC.out _ (HE.out.below HB3.out)).mono ?_; rintro e w4 ⟨vw4, rfl, hb, ho⟩; have HB4 : Hid (Below w.heap.size w w4) := HB3.out.trans (hb.mono HB3.out.size); have HO4 := Lib.hid (HO3.out.below hb); have HP4 := Lib.hid (HP3.out.below hb); have HQ4 := Lib.hid ho; clear hb ho HC))
      go_ret
      exact ⟨by first | rfl | simp, HB4.out⟩
  · obtain ⟨r1, r2⟩ := q3 hA
    subst r1
    simp only at HC r2
    have r2I : (pa : Int) ≤ (s.size : Int) := by omega
    have hbI : ¬ (ba : Int) = 0 := by omega
    have hbB : ((ba : Int) == 0) = false := by simpa using hbI
    have hbN : ((ba : Int) != 0) = true := by simp [bne, hbB]
    clear q3 q4 q5 r2
    go_enter Tryd.func6, Tryd.ntmps6
    go_wp2_with (first
      | (go_at_call 10; refine (shown_any _ HE.out HT.out).mono ?_; rintro e w1 ⟨rfl, hb1⟩; have HB1 := Lib.hid hb1; clear hb1)
      | (go_at_call 11; refine (HA.out _ (HE.out.below HB1.out)).mono ?_; rintro e w2 ⟨vw2, rfl, hb, ho⟩; have HB2 : Hid (Below w.heap.size w w2) := HB1.out.trans (hb.mono HB1.out.size); have HO2 := Lib.hid ho; clear hb ho HA)
      | (go_at_call 11; refine (HB.out _ (HE.out.below HB2.out)).mono ?_; rintro e w3 ⟨vw3, rfl, hb, ho⟩; have HB3 : Hid (Below w.heap.size w w3) := HB2.out.trans (hb.mono HB2.out.size); have HO3 := Lib.hid (HO2.out.below hb); have HP3 := Lib.hid ho; clear hb ho HB)
      | (go_at_call 11; refine (HC.out _ (HE.out.below HB3.out)).mono ?_; rintro e w4 ⟨vw4, rfl, hb, ho⟩; have HB4 : Hid (Below w.heap.size w w4) := HB3.out.trans (hb.mono HB3.out.size); have HO4 := Lib.hid (HO3.out.below hb); have HP4 := Lib.hid (HP3.out.below hb); have HQ4 := Lib.hid ho; clear hb ho HC))
    go_ret
    exact ⟨by first | rfl | simp, HB4.out⟩
end Go.Proofs.YtngnhoonpgkhdaaDoor
