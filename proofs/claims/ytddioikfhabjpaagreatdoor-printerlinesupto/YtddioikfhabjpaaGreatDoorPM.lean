/-
  The document's mayTerm, mayAtom (lambrequinref07): as the program's.
  The document's mayAtom, mayLiteral (lambrequinref07): as the program's.
  The document's mayLiteral (lambrequinref07): as the program's.
-/
import Derived.Test.YtddioikfhabjpaaGreatDoorPC
import Derived.Test.YtddioikfhabjpaaGreatDoorKRefX
import Derived.Test.YtddioikfhabjpaaGreatDoorPD
namespace Go.Proofs.YtddioikfhabjpaaGreatDoor
set_option linter.unusedSimpArgs false
set_option linter.unusedVariables false
set_option linter.unusedSectionVars false
set_option maxRecDepth 100000
open Go.RowKit

theorem in_fig (c : UInt8) (h : 48 ≤ c.toNat ∧ c.toNat ≤ 57) : innerQ c = true := by
  have : figureQ c = true := by simp [figureQ]; omega
  unfold innerQ; rw [this]; simp
theorem in_gre (c : UInt8) (h : 65 ≤ c.toNat ∧ c.toNat ≤ 90) : innerQ c = true := by
  have : greatQ c = true := by simp [greatQ]; omega
  unfold innerQ; rw [this]; simp
theorem in_sml (c : UInt8) (h : 97 ≤ c.toNat ∧ c.toNat ≤ 122) : innerQ c = true := by
  have : smallQ c = true := by simp [smallQ]; omega
  unfold innerQ; rw [this]; simp
theorem in_low (c : UInt8) (h : 95 ≤ c.toNat ∧ c.toNat ≤ 95) : innerQ c = true := by
  have : c = 95 := UInt8.toNat_inj.1 (by simp; omega)
  subst this; rfl
theorem in_non (c : UInt8) (h : c.toNat < 48 ∨ (58 ≤ c.toNat ∧ c.toNat ≤ 64) ∨ (91 ≤ c.toNat ∧ c.toNat ≤ 94) ∨ c.toNat = 96 ∨ 123 ≤ c.toNat) : innerQ c = false := by
  unfold innerQ smallQ greatQ figureQ
  have h5 : (c == 95) = false := by
    simp only [beq_eq_false_iff_ne]
    intro e
    subst e
    simp at h
  rw [h5]
  simp
  omega
/-- The first k bytes are such as a variable's are. -/
def OkTo (s : ByteArray) (k : Nat) : Prop := ∀ j (h : j < s.size), j < k → (greatQ (s[j]'h) = true ∨ (j ≠ 0 ∧ innerQ (s[j]'h) = true))
theorem OkTo.start (s : ByteArray) : OkTo s 0 := fun j _ h => by omega
theorem OkTo.next {s : ByteArray} {k : Nat} (h : OkTo s k) (hk : k < s.size) (hc : greatQ (s[k]'hk) = true ∨ (k ≠ 0 ∧ innerQ (s[k]'hk) = true)) : OkTo s (k + 1) := fun j hj hlt => by
  by_cases e : j = k
  · subst e; exact hc
  · exact h j hj (by omega)
theorem byteA (s : ByteArray) (j : Nat) (h : j < s.size) (h' : j < s.data.toList.length) : s.data.toList[j] = s[j]'h := by simp [ByteArray.getElem_eq_getElem_data]
theorem ok_great {s : ByteArray} (h : OkTo s s.size) : greatB s.data.toList = (decide (1 ≤ s.size) && decide (s.size ≤ 32)) := by
  have hl : s.data.toList.length = s.size := by simp
  by_cases h0 : s.size = 0
  · have : s.data.toList = [] := List.length_eq_zero_iff.1 (by omega)
    rw [this, h0]; rfl
  · have h1 : decide (1 ≤ s.size) = true := by simp; omega
    rw [h1, Bool.true_and, great_at (by omega)]
    have hg : greatQ (s[0]'(by omega)) = true := by
      rcases h 0 (by omega) (by omega) with h | ⟨h, -⟩
      · exact h
      · exact absurd rfl h
    have hp : plainL (118 :: s.data.toList) = true := by
      show (smallB ((118 : UInt8).toNat : Int) && nameAt (118 :: s.data.toList) && !((118 :: s.data.toList : List UInt8) == [110, 111, 116])) = true
      have e1 : smallB ((118 : UInt8).toNat : Int) = true := by decide
      have e3 : ((118 :: s.data.toList : List UInt8) == [110, 111, 116]) = false := by simp
      have e2 : nameAt (118 :: s.data.toList) = true := by
        unfold nameAt
        rw [List.all_eq_true]
        intro c hc
        rw [inner_iff]
        rcases List.mem_cons.1 hc with rfl | hc
        · decide
        · obtain ⟨j, hj, rfl⟩ := List.getElem_of_mem hc
          rw [byteA s j (by omega) hj]
          rcases h j (by omega) (by omega) with h | ⟨-, h⟩
          · unfold innerQ; rw [h]; simp
          · exact h
      rw [e1, e2, e3]; rfl
    rw [hg, hp]; simp
theorem ok_bad {name : ByteArray} {k0 : Bool} {s : ByteArray} {n : Int} {k : Nat} (hk : k < name.size) (h : ¬ (greatQ (name[k]'hk) = true ∨ (k ≠ 0 ∧ innerQ (name[k]'hk) = true))) : mayTmB ⟨true, name, k0, s, n⟩ = false := by
  have : greatB name.data.toList = false := by
    cases hg : greatB name.data.toList with
    | false => rfl
    | true =>
      exfalso
      apply h
      obtain ⟨c, u, e, h1, h2, -⟩ := (great_iff _).1 hg
      have hl : name.data.toList.length = name.size := by simp
      by_cases h0 : k = 0
      · subst h0
        left
        rw [← byteA name 0 hk (by omega)]
        simp only [e, List.getElem_cons_zero]
        exact h1
      · right
        refine ⟨h0, ?_⟩
        rw [← byteA name k hk (by omega)]
        obtain ⟨m, rfl⟩ : ∃ m, k = m + 1 := ⟨k - 1, by omega⟩
        simp only [e, List.getElem_cons_succ]
        exact h2 _ (List.getElem_mem _)
  unfold mayTmB
  simp only [if_true]
  rw [this]; rfl

set_option maxHeartbeats 16000000 in
theorem rmayTm_any (t : Tm) (w : World) (hs : szTm t ≤ 1000000000000) :
    Calls Tryz.prog 59 #[.agg #[.bool t.v, .string t.name, .bool t.k, .string t.s, .int .i64 t.n]] w fun e w' => e = .returned (.bool (mayTmB t)) ∧ Below w.heap.size w w' := by
  obtain ⟨v, name, k0, s, n⟩ := t
  unfold szTm at hs
  simp only at hs
  have hszI : (name.size : Int) ≤ 1000000000000 := by omega
  obtain ⟨W0, hW0⟩ : ∃ W0, W0 = (w.alloc (.cells #[.bool v, .string name, .bool k0, .string s, .int .i64 n] 35)).alloc (.cells #[.bool k0, .string s, .int .i64 n] 33) := ⟨_, rfl⟩
  have hb0 : Below w.heap.size w W0 := by rw [hW0]; exact (al_below w _).alloc (by simp) _
  have HB0 := Lib.hid hb0
  have HK1 : Hid (Blk W0 w.heap.size #[.bool v, .string name, .bool k0, .string s, .int .i64 n] 35) := by show Blk _ _ _ _; rw [hW0]; exact (Blk.new w _ _).below (al_below _ _)
  have HK2 : Hid (Blk W0 (w.heap.size + 1) #[.bool k0, .string s, .int .i64 n] 33) := by show Blk _ _ _ _; rw [hW0]; exact blk2 _ _ _ _ _
  have HW0 := Lib.hid hW0
  have HSZ := Lib.hid hs
  clear hs hb0 hW0
  obtain ⟨es, hes⟩ : ∃ b, b = (s.data.toList == []) := ⟨_, rfl⟩
  have hst : s.toList = s.data.toList := toList_data _
  have hes2 : s.toList.isEmpty = es := by rw [hst, hes]; cases s.data.toList <;> rfl
  have hes3 : (s.toList == []) = es := by rw [hst, hes]
  obtain ⟨bn, hbn⟩ : ∃ b, b = (n == 0) := ⟨_, rfl⟩
  have hn2 : (n == 0) = bn := hbn.symm
  cases v
  · obtain ⟨en, hen⟩ : ∃ b, b = (name.data.toList == []) := ⟨_, rfl⟩
    have hnt : name.toList = name.data.toList := toList_data _
    have hen2 : name.toList.isEmpty = en := by rw [hnt, hen]; cases name.data.toList <;> rfl
    have hen3 : (name.toList == []) = en := by rw [hnt, hen]
    have HR : Hid (mayTmB ⟨false, name, k0, s, n⟩ = (en && (if k0 then bn else es))) := by
      show _ = _
      unfold mayTmB
      simp only [Bool.false_eq_true, if_false]
      rw [← hen, ← hes, ← hbn]
    clear hen hes hbn hnt hst HK1 HK2 HSZ
    cases k0
    · cases en <;> cases es
      all_goals
        go_enter Tryz.func59, Tryz.ntmps59
        go_wp2
        go_ret
        exact ⟨ret_bool (by rw [HR.out]; rfl), by have := HB0.out; rw [HW0.out] at this; exact this⟩
    · cases en <;> cases bn
      all_goals
        go_enter Tryz.func59, Tryz.ntmps59
        go_wp2
        go_ret
        exact ⟨ret_bool (by rw [HR.out]; rfl), by have := HB0.out; rw [HW0.out] at this; exact this⟩
  · have HR : Hid (OkTo name name.size → mayTmB ⟨true, name, k0, s, n⟩ = (decide (1 ≤ name.size) && decide (name.size ≤ 32) && !k0 && es && bn)) := fun h => by
      unfold mayTmB
      simp only [if_true]
      rw [ok_great h, ← hes, ← hbn]
    clear hes hbn hst
    go_enter Tryz.func59, Tryz.ntmps59
    go_wp2_with fail
    rw [← HW0.out]
    clear HW0
    go_loopw [4] (fun i wr => ∃ k : Nat, (k : Int) ≤ (name.size : Int) ∧ i = .int .i64 k ∧ Hid (OkTo name k) ∧ Hid (Below W0.heap.size W0 wr)) (fun i _ => name.size - (intOf i).toNat)
    case atStart => exact ⟨0, by omega, rfl, OkTo.start _, Below.refl _ _⟩
    case round =>
      obtain ⟨k, hk, rfl, HA, HB⟩ := hrel
      have hq1 := (HK1.out.below HB.out).cell 1
      simp at hq1
      by_cases hlt : k < name.size
      · have hltI : (k : Int) < (name.size : Int) := by omega
        have hk0 : (0 : Int) ≤ (k : Int) := by omega
        have HLT : Hid (k + 1 ≤ name.size) := hlt
        obtain ⟨c, hc⟩ : ∃ c, c = name[k]'hlt := ⟨_, rfl⟩
        have hcc : (name[k]'hlt) = c := hc.symm
        clear hc
        by_cases r0 : c.toNat < 48
        · have hgr : greatQ c = false := by simp [greatQ]; omega
          have hin : innerQ c = false := in_non c (by omega)
          have a1 : ¬ (65 : Int) ≤ (c.toNat : Int) := by omega
          have a2 : (c.toNat : Int) ≤ 90 := by omega
          have a3 : ¬ (97 : Int) ≤ (c.toNat : Int) := by omega
          have a4 : (c.toNat : Int) ≤ 122 := by omega
          have a5 : ¬ (48 : Int) ≤ (c.toNat : Int) := by omega
          have a6 : (c.toNat : Int) ≤ 57 := by omega
          have a7 : ((c.toNat : Int) == 95) = false := by simp; omega
          clear r0
          by_cases h0 : k = 0
          · have h0B : ((k : Int) == 0) = true := by simpa using h0
            have HBAD : Hid (mayTmB ⟨true, name, k0, s, n⟩ = false) := ok_bad hlt (not_or.2 ⟨by rw [hcc, hgr]; decide, fun h => absurd h.2 (by rw [hcc, hin]; decide)⟩)
            clear HA h0
            go_wp2
            go_ret
            exact ⟨ret_bool HBAD.out.symm, HB0.out.trans (HB.out.mono HB0.out.size)⟩
          · have h0B : ((k : Int) == 0) = false := by simpa using h0
            have HBAD : Hid (mayTmB ⟨true, name, k0, s, n⟩ = false) := ok_bad hlt (not_or.2 ⟨by rw [hcc, hgr]; decide, fun h => absurd h.2 (by rw [hcc, hin]; decide)⟩)
            clear HA h0
            go_wp2
            go_ret
            exact ⟨ret_bool HBAD.out.symm, HB0.out.trans (HB.out.mono HB0.out.size)⟩
        by_cases r1 : c.toNat ≤ 57
        · have hgr : greatQ c = false := by simp [greatQ]; omega
          have hin : innerQ c = true := in_fig c (by omega)
          have a1 : ¬ (65 : Int) ≤ (c.toNat : Int) := by omega
          have a2 : (c.toNat : Int) ≤ 90 := by omega
          have a3 : ¬ (97 : Int) ≤ (c.toNat : Int) := by omega
          have a4 : (c.toNat : Int) ≤ 122 := by omega
          have a5 : (48 : Int) ≤ (c.toNat : Int) := by omega
          have a6 : (c.toNat : Int) ≤ 57 := by omega
          have a7 : ((c.toNat : Int) == 95) = false := by simp; omega
          clear r0 r1
          by_cases h0 : k = 0
          · have h0B : ((k : Int) == 0) = true := by simpa using h0
            have HBAD : Hid (mayTmB ⟨true, name, k0, s, n⟩ = false) := ok_bad hlt (not_or.2 ⟨by rw [hcc, hgr]; decide, fun h => h.1 h0⟩)
            clear HA h0
            go_wp2
            go_ret
            exact ⟨ret_bool HBAD.out.symm, HB0.out.trans (HB.out.mono HB0.out.size)⟩
          · have h0B : ((k : Int) == 0) = false := by simpa using h0
            have HNX : Hid (OkTo name (k + 1)) := HA.out.next hlt (.inr ⟨h0, by rw [hcc]; exact hin⟩)
            clear HA h0
            go_wp2
            go_roundw
            case rel => exact ⟨k + 1, by have := HLT.out; omega, by go_num, HNX.out, HB.out⟩
            case measure => simp [intOf]; have := HLT.out; omega
        by_cases r2 : c.toNat ≤ 64
        · have hgr : greatQ c = false := by simp [greatQ]; omega
          have hin : innerQ c = false := in_non c (by omega)
          have a1 : ¬ (65 : Int) ≤ (c.toNat : Int) := by omega
          have a2 : (c.toNat : Int) ≤ 90 := by omega
          have a3 : ¬ (97 : Int) ≤ (c.toNat : Int) := by omega
          have a4 : (c.toNat : Int) ≤ 122 := by omega
          have a5 : (48 : Int) ≤ (c.toNat : Int) := by omega
          have a6 : ¬ (c.toNat : Int) ≤ 57 := by omega
          have a7 : ((c.toNat : Int) == 95) = false := by simp; omega
          clear r0 r1 r2
          by_cases h0 : k = 0
          · have h0B : ((k : Int) == 0) = true := by simpa using h0
            have HBAD : Hid (mayTmB ⟨true, name, k0, s, n⟩ = false) := ok_bad hlt (not_or.2 ⟨by rw [hcc, hgr]; decide, fun h => absurd h.2 (by rw [hcc, hin]; decide)⟩)
            clear HA h0
            go_wp2
            go_ret
            exact ⟨ret_bool HBAD.out.symm, HB0.out.trans (HB.out.mono HB0.out.size)⟩
          · have h0B : ((k : Int) == 0) = false := by simpa using h0
            have HBAD : Hid (mayTmB ⟨true, name, k0, s, n⟩ = false) := ok_bad hlt (not_or.2 ⟨by rw [hcc, hgr]; decide, fun h => absurd h.2 (by rw [hcc, hin]; decide)⟩)
            clear HA h0
            go_wp2
            go_ret
            exact ⟨ret_bool HBAD.out.symm, HB0.out.trans (HB.out.mono HB0.out.size)⟩
        by_cases r3 : c.toNat ≤ 90
        · have hgr : greatQ c = true := by simp [greatQ]; omega
          have hin : innerQ c = true := in_gre c (by omega)
          have a1 : (65 : Int) ≤ (c.toNat : Int) := by omega
          have a2 : (c.toNat : Int) ≤ 90 := by omega
          have a3 : ¬ (97 : Int) ≤ (c.toNat : Int) := by omega
          have a4 : (c.toNat : Int) ≤ 122 := by omega
          have a5 : (48 : Int) ≤ (c.toNat : Int) := by omega
          have a6 : ¬ (c.toNat : Int) ≤ 57 := by omega
          have a7 : ((c.toNat : Int) == 95) = false := by simp; omega
          clear r0 r1 r2 r3
          by_cases h0 : k = 0
          · have h0B : ((k : Int) == 0) = true := by simpa using h0
            have HNX : Hid (OkTo name (k + 1)) := HA.out.next hlt (.inl (by rw [hcc]; exact hgr))
            clear HA h0
            go_wp2
            go_roundw
            case rel => exact ⟨k + 1, by have := HLT.out; omega, by go_num, HNX.out, HB.out⟩
            case measure => simp [intOf]; have := HLT.out; omega
          · have h0B : ((k : Int) == 0) = false := by simpa using h0
            have HNX : Hid (OkTo name (k + 1)) := HA.out.next hlt (.inl (by rw [hcc]; exact hgr))
            clear HA h0
            go_wp2
            go_roundw
            case rel => exact ⟨k + 1, by have := HLT.out; omega, by go_num, HNX.out, HB.out⟩
            case measure => simp [intOf]; have := HLT.out; omega
        by_cases r4 : c.toNat ≤ 94
        · have hgr : greatQ c = false := by simp [greatQ]; omega
          have hin : innerQ c = false := in_non c (by omega)
          have a1 : (65 : Int) ≤ (c.toNat : Int) := by omega
          have a2 : ¬ (c.toNat : Int) ≤ 90 := by omega
          have a3 : ¬ (97 : Int) ≤ (c.toNat : Int) := by omega
          have a4 : (c.toNat : Int) ≤ 122 := by omega
          have a5 : (48 : Int) ≤ (c.toNat : Int) := by omega
          have a6 : ¬ (c.toNat : Int) ≤ 57 := by omega
          have a7 : ((c.toNat : Int) == 95) = false := by simp; omega
          clear r0 r1 r2 r3 r4
          by_cases h0 : k = 0
          · have h0B : ((k : Int) == 0) = true := by simpa using h0
            have HBAD : Hid (mayTmB ⟨true, name, k0, s, n⟩ = false) := ok_bad hlt (not_or.2 ⟨by rw [hcc, hgr]; decide, fun h => absurd h.2 (by rw [hcc, hin]; decide)⟩)
            clear HA h0
            go_wp2
            go_ret
            exact ⟨ret_bool HBAD.out.symm, HB0.out.trans (HB.out.mono HB0.out.size)⟩
          · have h0B : ((k : Int) == 0) = false := by simpa using h0
            have HBAD : Hid (mayTmB ⟨true, name, k0, s, n⟩ = false) := ok_bad hlt (not_or.2 ⟨by rw [hcc, hgr]; decide, fun h => absurd h.2 (by rw [hcc, hin]; decide)⟩)
            clear HA h0
            go_wp2
            go_ret
            exact ⟨ret_bool HBAD.out.symm, HB0.out.trans (HB.out.mono HB0.out.size)⟩
        by_cases r5 : c.toNat ≤ 95
        · have hgr : greatQ c = false := by simp [greatQ]; omega
          have hin : innerQ c = true := in_low c (by omega)
          have a1 : (65 : Int) ≤ (c.toNat : Int) := by omega
          have a2 : ¬ (c.toNat : Int) ≤ 90 := by omega
          have a3 : ¬ (97 : Int) ≤ (c.toNat : Int) := by omega
          have a4 : (c.toNat : Int) ≤ 122 := by omega
          have a5 : (48 : Int) ≤ (c.toNat : Int) := by omega
          have a6 : ¬ (c.toNat : Int) ≤ 57 := by omega
          have a7 : ((c.toNat : Int) == 95) = true := by simp; omega
          clear r0 r1 r2 r3 r4 r5
          by_cases h0 : k = 0
          · have h0B : ((k : Int) == 0) = true := by simpa using h0
            have HBAD : Hid (mayTmB ⟨true, name, k0, s, n⟩ = false) := ok_bad hlt (not_or.2 ⟨by rw [hcc, hgr]; decide, fun h => h.1 h0⟩)
            clear HA h0
            go_wp2
            go_ret
            exact ⟨ret_bool HBAD.out.symm, HB0.out.trans (HB.out.mono HB0.out.size)⟩
          · have h0B : ((k : Int) == 0) = false := by simpa using h0
            have HNX : Hid (OkTo name (k + 1)) := HA.out.next hlt (.inr ⟨h0, by rw [hcc]; exact hin⟩)
            clear HA h0
            go_wp2
            go_roundw
            case rel => exact ⟨k + 1, by have := HLT.out; omega, by go_num, HNX.out, HB.out⟩
            case measure => simp [intOf]; have := HLT.out; omega
        by_cases r6 : c.toNat ≤ 96
        · have hgr : greatQ c = false := by simp [greatQ]; omega
          have hin : innerQ c = false := in_non c (by omega)
          have a1 : (65 : Int) ≤ (c.toNat : Int) := by omega
          have a2 : ¬ (c.toNat : Int) ≤ 90 := by omega
          have a3 : ¬ (97 : Int) ≤ (c.toNat : Int) := by omega
          have a4 : (c.toNat : Int) ≤ 122 := by omega
          have a5 : (48 : Int) ≤ (c.toNat : Int) := by omega
          have a6 : ¬ (c.toNat : Int) ≤ 57 := by omega
          have a7 : ((c.toNat : Int) == 95) = false := by simp; omega
          clear r0 r1 r2 r3 r4 r5 r6
          by_cases h0 : k = 0
          · have h0B : ((k : Int) == 0) = true := by simpa using h0
            have HBAD : Hid (mayTmB ⟨true, name, k0, s, n⟩ = false) := ok_bad hlt (not_or.2 ⟨by rw [hcc, hgr]; decide, fun h => absurd h.2 (by rw [hcc, hin]; decide)⟩)
            clear HA h0
            go_wp2
            go_ret
            exact ⟨ret_bool HBAD.out.symm, HB0.out.trans (HB.out.mono HB0.out.size)⟩
          · have h0B : ((k : Int) == 0) = false := by simpa using h0
            have HBAD : Hid (mayTmB ⟨true, name, k0, s, n⟩ = false) := ok_bad hlt (not_or.2 ⟨by rw [hcc, hgr]; decide, fun h => absurd h.2 (by rw [hcc, hin]; decide)⟩)
            clear HA h0
            go_wp2
            go_ret
            exact ⟨ret_bool HBAD.out.symm, HB0.out.trans (HB.out.mono HB0.out.size)⟩
        by_cases r7 : c.toNat ≤ 122
        · have hgr : greatQ c = false := by simp [greatQ]; omega
          have hin : innerQ c = true := in_sml c (by omega)
          have a1 : (65 : Int) ≤ (c.toNat : Int) := by omega
          have a2 : ¬ (c.toNat : Int) ≤ 90 := by omega
          have a3 : (97 : Int) ≤ (c.toNat : Int) := by omega
          have a4 : (c.toNat : Int) ≤ 122 := by omega
          have a5 : (48 : Int) ≤ (c.toNat : Int) := by omega
          have a6 : ¬ (c.toNat : Int) ≤ 57 := by omega
          have a7 : ((c.toNat : Int) == 95) = false := by simp; omega
          clear r0 r1 r2 r3 r4 r5 r6 r7
          by_cases h0 : k = 0
          · have h0B : ((k : Int) == 0) = true := by simpa using h0
            have HBAD : Hid (mayTmB ⟨true, name, k0, s, n⟩ = false) := ok_bad hlt (not_or.2 ⟨by rw [hcc, hgr]; decide, fun h => h.1 h0⟩)
            clear HA h0
            go_wp2
            go_ret
            exact ⟨ret_bool HBAD.out.symm, HB0.out.trans (HB.out.mono HB0.out.size)⟩
          · have h0B : ((k : Int) == 0) = false := by simpa using h0
            have HNX : Hid (OkTo name (k + 1)) := HA.out.next hlt (.inr ⟨h0, by rw [hcc]; exact hin⟩)
            clear HA h0
            go_wp2
            go_roundw
            case rel => exact ⟨k + 1, by have := HLT.out; omega, by go_num, HNX.out, HB.out⟩
            case measure => simp [intOf]; have := HLT.out; omega
        have hgr : greatQ c = false := by simp [greatQ]; omega
        have hin : innerQ c = false := in_non c (by omega)
        have a1 : (65 : Int) ≤ (c.toNat : Int) := by omega
        have a2 : ¬ (c.toNat : Int) ≤ 90 := by omega
        have a3 : (97 : Int) ≤ (c.toNat : Int) := by omega
        have a4 : ¬ (c.toNat : Int) ≤ 122 := by omega
        have a5 : (48 : Int) ≤ (c.toNat : Int) := by omega
        have a6 : ¬ (c.toNat : Int) ≤ 57 := by omega
        have a7 : ((c.toNat : Int) == 95) = false := by simp; omega
        clear r0 r1 r2 r3 r4 r5 r6 r7
        by_cases h0 : k = 0
        · have h0B : ((k : Int) == 0) = true := by simpa using h0
          have HBAD : Hid (mayTmB ⟨true, name, k0, s, n⟩ = false) := ok_bad hlt (not_or.2 ⟨by rw [hcc, hgr]; decide, fun h => absurd h.2 (by rw [hcc, hin]; decide)⟩)
          clear HA h0
          go_wp2
          go_ret
          exact ⟨ret_bool HBAD.out.symm, HB0.out.trans (HB.out.mono HB0.out.size)⟩
        · have h0B : ((k : Int) == 0) = false := by simpa using h0
          have HBAD : Hid (mayTmB ⟨true, name, k0, s, n⟩ = false) := ok_bad hlt (not_or.2 ⟨by rw [hcc, hgr]; decide, fun h => absurd h.2 (by rw [hcc, hin]; decide)⟩)
          clear HA h0
          go_wp2
          go_ret
          exact ⟨ret_bool HBAD.out.symm, HB0.out.trans (HB.out.mono HB0.out.size)⟩
      · have hltI : ¬ (k : Int) < (name.size : Int) := by omega
        have HE : Hid (OkTo name name.size) := fun j h1 h2 => HA.out j h1 (by omega)
        have HRR := Lib.hid (HR.out HE.out)
        have q0 := (HK2.out.below HB.out).cell 0
        have q1 := (HK2.out.below HB.out).cell 1
        have q2 := (HK2.out.below HB.out).cell 2
        simp at q0 q1 q2
        clear HE HR HA
        by_cases hz : 1 ≤ name.size
        · have hzI : (1 : Int) ≤ (name.size : Int) := by omega
          have hzd : decide (1 ≤ name.size) = true := decide_eq_true hz
          by_cases h32 : name.size ≤ 32
          · have h32I : (name.size : Int) ≤ 32 := by omega
            have h32d : decide (name.size ≤ 32) = true := decide_eq_true h32
            rw [hzd, h32d] at HRR
            clear hz h32 hzd h32d
            cases k0 <;> cases es <;> cases bn
            all_goals
              go_wp2
              go_ret
              exact ⟨ret_bool (by rw [HRR.out]; rfl), HB0.out.trans (HB.out.mono HB0.out.size)⟩
          · have h32I : ¬ (name.size : Int) ≤ 32 := by omega
            have h32d : decide (name.size ≤ 32) = false := decide_eq_false h32
            rw [hzd, h32d] at HRR
            clear hz h32 hzd h32d
            go_wp2
            go_ret
            exact ⟨ret_bool (by rw [HRR.out]; rfl), HB0.out.trans (HB.out.mono HB0.out.size)⟩
        · have hzI : ¬ (1 : Int) ≤ (name.size : Int) := by omega
          have hzd : decide (1 ≤ name.size) = false := decide_eq_false hz
          rw [hzd] at HRR
          clear hz hzd
          go_wp2
          go_ret
          exact ⟨ret_bool (by rw [HRR.out]; rfl), HB0.out.trans (HB.out.mono HB0.out.size)⟩
end Go.Proofs.YtddioikfhabjpaaGreatDoor

namespace Go.Proofs.YtddioikfhabjpaaGreatDoor
set_option linter.unusedSimpArgs false
set_option linter.unusedVariables false
set_option linter.unusedSectionVars false
set_option maxRecDepth 100000
open Go.RowKit

set_option maxHeartbeats 4000000 in
theorem rmayAm_any (a : Am) (x : Value) (w : World) (hx : Tms w x a.args) (hs : szAm a ≤ 1000000000000) :
    Calls Tryz.prog 40 #[.agg #[.string a.p, x]] w fun e w' => e = .returned (.bool (mayAmB a)) ∧ Below w.heap.size w w' := by
  obtain ⟨ao, cap, rfl, hcap, hm⟩ := hx.form
  have hl6 : 6 * a.args.length ≤ szTms a.args := sum_len szTm 6 (fun t => by unfold szTm; omega) _
  have hmI : (a.args.length : Int) ≤ 1000000000000 := by unfold szAm at hs; omega
  have HTC : Hid (∀ t ∈ a.args, ∀ W, Calls Tryz.prog 59 #[.agg #[.bool t.v, .string t.name, .bool t.k, .string t.s, .int .i64 t.n]] W fun e w' => e = .returned (.bool (mayTmB t)) ∧ Below W.heap.size W w') := fun t ht W => rmayTm_any t W (by have := sum_mem szTm ht; unfold szAm szTms at hs; omega)
  have HPL := Lib.hid (fun W => refPlain_any a.p W (by unfold szAm at hs; unfold maxLen; omega))
  obtain ⟨W0, hW0⟩ : ∃ W0, W0 = w.alloc (.cells #[.string a.p, .slice ao a.args.length cap] 31) := ⟨_, rfl⟩
  have hb0 : Below w.heap.size w W0 := by rw [hW0]; exact al_below _ _
  have HB0 := Lib.hid hb0
  have HX := Lib.hid (hx.below stayTm hb0)
  have HK : Hid (Blk W0 w.heap.size #[.string a.p, .slice ao a.args.length cap] 31) := by show Blk _ _ _ _; rw [hW0]; exact Blk.new _ _ _
  have HW0 := Lib.hid hW0
  have hpl : a.p.data.toList.length = a.p.size := by simp
  have HR : Hid (mayAmB a = (shortPlain a.p.data.toList && (decide (a.args.length ≤ 6) && a.args.all mayTmB))) := rfl
  obtain ⟨p, A⟩ := a
  simp only at HTC HPL HW0 HX HK hpl HR hmI
  unfold shortPlain at HR
  rw [hpl] at HR
  have hpI : (p.size : Int) ≤ 1000000000000 := by unfold szAm at hs; simp only at hs; omega
  obtain ⟨bp, hbp⟩ : ∃ b, b = plainL p.data.toList := ⟨_, rfl⟩
  rw [← hbp] at HPL HR
  obtain ⟨Z, hZ⟩ : ∃ Z, Z = mayAmB ⟨p, A⟩ := ⟨_, rfl⟩
  rw [← hZ] at HR ⊢
  obtain ⟨F, hF⟩ : ∃ F : Tm → Bool, F = mayTmB := ⟨_, rfl⟩
  rw [← hF] at HTC HR
  clear hx hs hcap hm hl6 hb0 hW0 hpl hbp hZ hF
  go_enter Tryz.func40, Tryz.ntmps40
  go_wp2_with fail
  rw [← HW0.out]
  clear HW0
  go_loopw [3] (fun i wr => ∃ k : Nat, (k : Int) ≤ (A.length : Int) ∧ i = .int .i64 k ∧ Hid ((A.take k).all F = true) ∧ Hid (Below W0.heap.size W0 wr)) (fun i _ => A.length - (intOf i).toNat)
  case atStart => exact ⟨0, by omega, rfl, by simp [Hid], Below.refl _ _⟩
  case round =>
    obtain ⟨k, hk, rfl, HA, HB⟩ := hrel
    have hq1 := (HK.out.below HB.out).cell 1
    have hq0 := (HK.out.below HB.out).cell 0
    simp at hq1 hq0
    by_cases hlt : k < A.length
    · have hltI : (k : Int) < (A.length : Int) := by omega
      have HLT : Hid (k + 1 ≤ A.length) := hlt
      obtain ⟨b, off, cs, rfl, hbl, hR, hc⟩ := (HX.out.below stayTm HB.out).at k hlt
      obtain rfl : cs = _ := hR
      have x0 := hc 0 _ rfl
      have x1 := hc 1 _ rfl
      have x2 := hc 2 _ rfl
      have x3 := hc 3 _ rfl
      have x4 := hc 4 _ rfl
      simp only [Nat.add_zero] at x0
      have HCK := Lib.hid (HTC.out _ (List.getElem_mem hlt) wr)
      have HT : Hid (F (A[k]'hlt) = true → (A.take (k + 1)).all F = true) := fun h => by rw [List.take_succ_eq_append_getElem hlt, List.all_append, HA.out]; simp [h]
      have HF : Hid (F (A[k]'hlt) = false → Z = false) := fun h => by
        have : A.all F = false := by rw [List.all_eq_false]; exact ⟨A[k]'hlt, List.getElem_mem hlt, by simp [h]⟩
        rw [HR.out, this]; simp
      obtain ⟨y, hy⟩ : ∃ y, y = F (A[k]'hlt) := ⟨_, rfl⟩
      rw [← hy] at HCK HT HF
      obtain ⟨t, ht⟩ : ∃ t, t = (A[k]'hlt) := ⟨_, rfl⟩
      rw [← ht] at x0 x1 x2 x3 x4 HCK
      clear ht hy hc hlt
      obtain ⟨tv, tname, tk, ts, tn⟩ := t
      simp only at x0 x1 x2 x3 x4 HCK
      cases y
      · have HE := Lib.hid (HF.out rfl)
        go_wp2_with (go_at_call 59; refine (HCK.out).mono ?_; rintro e w1 ⟨rfl, hb1⟩; have HB1 := Lib.hid hb1; clear hb1)
        go_ret
        exact ⟨ret_bool HE.out.symm, HB0.out.trans ((HB.out.trans (HB1.out.mono HB.out.size)).mono HB0.out.size)⟩
      · have HE := Lib.hid (HT.out rfl)
        go_wp2_with (go_at_call 59; refine (HCK.out).mono ?_; rintro e w1 ⟨rfl, hb1⟩; have HB1 := Lib.hid hb1; clear hb1)
        go_roundw
        case rel => exact ⟨k + 1, by have := HLT.out; omega, by go_num, HE.out, HB.out.trans (HB1.out.mono HB.out.size)⟩
        case measure => simp [intOf]; have := HLT.out; omega
    · have hltI : ¬ (k : Int) < (A.length : Int) := by omega
      have HALL : Hid (A.all F = true) := by
        have := HA.out
        rw [List.take_of_length_le (by omega)] at this
        exact this
      have HR2 : Hid (Z = (decide (p.size ≤ 32) && bp && decide (A.length ≤ 6))) := by show _ = _; rw [HR.out, HALL.out]; simp
      obtain ⟨nA, hnA⟩ : ∃ nA, nA = A.length := ⟨_, rfl⟩
      rw [← hnA] at hq1 HR2 hltI
      clear HA HALL HR HTC HX hlt hnA
      cases bp
      · go_wp2_with (go_at_call 39; refine (HPL.out _).mono ?_; rintro e w1 ⟨rfl, rfl⟩)
        go_ret
        exact ⟨ret_bool (by rw [HR2.out]; simp), HB0.out.trans (HB.out.mono HB0.out.size)⟩
      · by_cases h32 : p.size ≤ 32
        · have h32I : (p.size : Int) ≤ 32 := by omega
          by_cases h6 : nA ≤ 6
          · have h6I : (nA : Int) ≤ 6 := by omega
            have HR3 : Hid (Z = true) := by show _ = _; rw [HR2.out, decide_eq_true h32, decide_eq_true h6]; rfl
            clear h32 h6
            go_wp2_with (go_at_call 39; refine (HPL.out _).mono ?_; rintro e w1 ⟨rfl, rfl⟩)
            go_ret
            exact ⟨ret_bool (by first | exact HR3.out.symm | (rw [HR3.out]; simp; omega)), HB0.out.trans (HB.out.mono HB0.out.size)⟩
          · have h6I : ¬ (nA : Int) ≤ 6 := by omega
            have HR3 : Hid (Z = false) := by show _ = _; rw [HR2.out, decide_eq_false h6]; simp
            clear h32 h6
            go_wp2_with (go_at_call 39; refine (HPL.out _).mono ?_; rintro e w1 ⟨rfl, rfl⟩)
            go_ret
            exact ⟨ret_bool (by first | exact HR3.out.symm | (rw [HR3.out]; simp; omega)), HB0.out.trans (HB.out.mono HB0.out.size)⟩
        · have h32I : ¬ (p.size : Int) ≤ 32 := by omega
          have HR3 : Hid (Z = false) := by show _ = _; rw [HR2.out, decide_eq_false h32]; simp
          clear h32
          go_wp2_with (go_at_call 39; refine (HPL.out _).mono ?_; rintro e w1 ⟨rfl, rfl⟩)
          go_ret
          exact ⟨ret_bool (by first | exact HR3.out.symm | (rw [HR3.out]; simp; omega)), HB0.out.trans (HB.out.mono HB0.out.size)⟩
end Go.Proofs.YtddioikfhabjpaaGreatDoor

namespace Go.Proofs.YtddioikfhabjpaaGreatDoor
set_option linter.unusedSimpArgs false
set_option linter.unusedVariables false
set_option linter.unusedSectionVars false
set_option maxRecDepth 100000
open Go.RowKit

theorem op_casesP (op : ByteArray) : (isOpB op.data.toList = true ∧ (op = ⟨#[61]⟩ ∨ op = ⟨#[33, 61]⟩ ∨ op = ⟨#[60]⟩ ∨ op = ⟨#[60, 61]⟩ ∨ op = ⟨#[62]⟩ ∨ op = ⟨#[62, 61]⟩)) ∨
    (isOpB op.data.toList = false ∧ (op.toList == [61]) = false ∧ (op.toList == [33, 61]) = false ∧ (op.toList == [60]) = false ∧ (op.toList == [60, 61]) = false ∧ (op.toList == [62]) = false ∧ (op.toList == [62, 61]) = false) := by
  rw [toList_data]
  cases h : isOpB op.data.toList with
  | true =>
    left
    refine ⟨rfl, ?_⟩
    have := (isOp_iff _).1 h
    unfold opsL at this
    simp only [List.mem_cons, List.not_mem_nil, or_false] at this
    rcases this with h | h | h | h | h | h
    · exact .inl (Go.WideShapes.bytes_inj h)
    · exact .inr (.inl (Go.WideShapes.bytes_inj h))
    · exact .inr (.inr (.inl (Go.WideShapes.bytes_inj h)))
    · exact .inr (.inr (.inr (.inl (Go.WideShapes.bytes_inj h))))
    · exact .inr (.inr (.inr (.inr (.inl (Go.WideShapes.bytes_inj h)))))
    · exact .inr (.inr (.inr (.inr (.inr (Go.WideShapes.bytes_inj h)))))
  | false =>
    right
    unfold isOpB at h
    simp only [Bool.or_eq_false_iff] at h
    obtain ⟨⟨⟨⟨⟨h1, h2⟩, h3⟩, h4⟩, h5⟩, h6⟩ := h
    exact ⟨rfl, h1, h2, h3, h4, h5, h6⟩

set_option maxHeartbeats 32000000 in
theorem rmayLt_any (l : Lt) (x : Value) (w : World) (hx : Tms w x l.atom.args) (hI : InLt l) (hs : szLt l ≤ 1000000000000) :
    Calls Tryz.prog 41 #[.agg #[.int .i64 l.kind, .string l.atom.p, x, .string l.op, .bool l.l.v, .string l.l.name, .bool l.l.k, .string l.l.s, .int .i64 l.l.n, .bool l.r.v, .string l.r.name, .bool l.r.k, .string l.r.s, .int .i64 l.r.n]] w
      fun e w' => e = .returned (.bool (mayLtB l)) ∧ Below w.heap.size w w' := by
  obtain ⟨ao, cap, rfl, hcap, hm⟩ := hx.form
  obtain ⟨W0, hW0⟩ : ∃ W0, W0 = (w.alloc (.cells #[.int .i64 l.kind, .string l.atom.p, .slice ao l.atom.args.length cap, .string l.op, .bool l.l.v, .string l.l.name, .bool l.l.k, .string l.l.s, .int .i64 l.l.n, .bool l.r.v, .string l.r.name, .bool l.r.k, .string l.r.s, .int .i64 l.r.n] 37)).alloc (.cells #[.bool false, .string ⟨#[]⟩, .bool false, .string ⟨#[]⟩, .int .i64 0] 35) := ⟨_, rfl⟩
  have hb0 : Below w.heap.size w W0 := by rw [hW0]; exact (al_below w _).alloc (by simp) _
  have HAL := Lib.hid hb0
  have HA := Lib.hid (rmayAm_any l.atom _ _ (hx.below stayTm hb0) (by unfold szLt at hs; omega))
  have HL := Lib.hid (fun W => rmayTm_any l.l W (by unfold szLt at hs; omega))
  have HR := Lib.hid (fun W => rmayTm_any l.r W (by unfold szLt at hs; omega))
  have HBK : Hid (Blk W0 w.heap.size #[.int .i64 l.kind, .string l.atom.p, .slice ao l.atom.args.length cap, .string l.op, .bool l.l.v, .string l.l.name, .bool l.l.k, .string l.l.s, .int .i64 l.l.n, .bool l.r.v, .string l.r.name, .bool l.r.k, .string l.r.s, .int .i64 l.r.n] 37) := by show Blk _ _ _ _; rw [hW0]; exact (Blk.new w _ _).below (al_below _ _)
  have HBZ : Hid (Blk W0 (w.heap.size + 1) #[.bool false, .string ⟨#[]⟩, .bool false, .string ⟨#[]⟩, .int .i64 0] 35) := by show Blk _ _ _ _; rw [hW0]; exact blk2 _ _ _ _ _
  have HW0 := Lib.hid hW0
  have z0 : (⟨#[]⟩ : ByteArray).size ≤ maxLen := by decide
  have i0 : InR 0 := ⟨by decide, by decide⟩
  have vL : TmV l.l := TmV.of hI.2.1 (by unfold szLt at hs; omega)
  have vR : TmV l.r := TmV.of hI.2.2 (by unfold szLt at hs; omega)
  have qL : ∀ W : World, (binOp .eql 35 (.agg #[.bool l.l.v, .string l.l.name, .bool l.l.k, .string l.l.s, .int .i64 l.l.n]) (.agg #[.bool false, .string ⟨#[]⟩, .bool false, .string ⟨#[]⟩, .int .i64 0])).run Tryz.prog W = .ok (.bool (tmZ l.l)) W := fun W => eql_tm (x := l.l) (y := Tm.zero) vL ⟨z0, z0, i0⟩ (tmZ_iff _) W
  have qR : ∀ W : World, (binOp .eql 35 (.agg #[.bool l.r.v, .string l.r.name, .bool l.r.k, .string l.r.s, .int .i64 l.r.n]) (.agg #[.bool false, .string ⟨#[]⟩, .bool false, .string ⟨#[]⟩, .int .i64 0])).run Tryz.prog W = .ok (.bool (tmZ l.r)) W := fun W => eql_tm (x := l.r) (y := Tm.zero) vR ⟨z0, z0, i0⟩ (tmZ_iff _) W
  have h12 : (l.kind = 1 ∨ l.kind = 2) → mayLtB l = (mayAmB l.atom && (l.op.data.toList == []) && tmZ l.l && tmZ l.r) := fun h => by unfold mayLtB; rw [if_pos h]
  have h3 : l.kind = 3 → mayLtB l = (isOpB l.op.data.toList && mayTmB l.l && mayTmB l.r && (l.atom.p.data.toList == []) && decide (l.atom.args.length = 0)) := fun h => by unfold mayLtB; rw [if_neg (by omega), if_pos h]
  have h0 : l.kind ≠ 1 → l.kind ≠ 2 → l.kind ≠ 3 → mayLtB l = false := fun a b c => by unfold mayLtB; rw [if_neg (by omega), if_neg c]
  obtain ⟨Z, hZ⟩ : ∃ Z, Z = mayLtB l := ⟨_, rfl⟩
  rw [← hZ] at h12 h3 h0 ⊢
  obtain ⟨bA, hbA⟩ : ∃ b, b = mayAmB l.atom := ⟨_, rfl⟩
  obtain ⟨bL, hbL⟩ : ∃ b, b = mayTmB l.l := ⟨_, rfl⟩
  obtain ⟨bR, hbR⟩ : ∃ b, b = mayTmB l.r := ⟨_, rfl⟩
  obtain ⟨zL, hzL⟩ : ∃ b, b = tmZ l.l := ⟨_, rfl⟩
  obtain ⟨zR, hzR⟩ : ∃ b, b = tmZ l.r := ⟨_, rfl⟩
  rw [← hbA] at HA h12
  simp only [← hbL] at HL h3
  simp only [← hbR] at HR h3
  simp only [← hzL] at qL h12
  simp only [← hzR] at qR h12
  have hto : l.op.toList = l.op.data.toList := toList_data _
  have htp : l.atom.p.toList = l.atom.p.data.toList := toList_data _
  obtain ⟨kd, ⟨p, A⟩, op, ⟨lv, ln, lk, ls, li⟩, ⟨rv, rn, rk, rs, ri⟩⟩ := l
  simp only at HA HL HR HAL HBK HW0 qL qR h12 h3 h0 hto htp
  rw [← hto] at h12
  rw [← htp] at h3
  obtain ⟨nA, hnA⟩ : ∃ nA, nA = A.length := ⟨_, rfl⟩
  rw [← hnA] at HA HBK HW0 h3
  simp only [← hnA]
  clear hx hI hs hb0 hcap hm hZ hbA hbL hbR hzL hzR hto htp z0 i0 vL vR hnA hW0
  have HCELL : Hid (∀ W, Below W0.heap.size W0 W →
      W.cell? ⟨w.heap.size, 1, none⟩ = some (.string p) ∧ W.cell? ⟨w.heap.size, 2, none⟩ = some (.slice ao nA cap) ∧ W.cell? ⟨w.heap.size, 3, none⟩ = some (.string op) ∧ W.cell? ⟨w.heap.size, 4, none⟩ = some (.bool lv) ∧ W.cell? ⟨w.heap.size, 5, none⟩ = some (.string ln) ∧ W.cell? ⟨w.heap.size, 6, none⟩ = some (.bool lk) ∧ W.cell? ⟨w.heap.size, 7, none⟩ = some (.string ls) ∧ W.cell? ⟨w.heap.size, 8, none⟩ = some (.int .i64 li) ∧
      W.cell? ⟨w.heap.size, 9, none⟩ = some (.bool rv) ∧ W.cell? ⟨w.heap.size, 10, none⟩ = some (.string rn) ∧ W.cell? ⟨w.heap.size, 11, none⟩ = some (.bool rk) ∧ W.cell? ⟨w.heap.size, 12, none⟩ = some (.string rs) ∧ W.cell? ⟨w.heap.size, 13, none⟩ = some (.int .i64 ri) ∧
      W.cell? ⟨w.heap.size + 1, 0, none⟩ = some (.bool false) ∧ W.cell? ⟨w.heap.size + 1, 1, none⟩ = some (.string ⟨#[]⟩) ∧ W.cell? ⟨w.heap.size + 1, 2, none⟩ = some (.bool false) ∧ W.cell? ⟨w.heap.size + 1, 3, none⟩ = some (.string ⟨#[]⟩) ∧ W.cell? ⟨w.heap.size + 1, 4, none⟩ = some (.int .i64 0)) := fun W hb => by
    have c := (HBK.out.below hb).cell
    have d := (HBZ.out.below hb).cell
    exact ⟨c 1, c 2, c 3, c 4, c 5, c 6, c 7, c 8, c 9, c 10, c 11, c 12, c 13, d 0, d 1, d 2, d 3, d 4⟩
  clear HBK HBZ
  obtain ⟨ep, hep⟩ : ∃ b, b = (p.toList == []) := ⟨_, rfl⟩
  rw [← hep] at h3
  have hep2 : p.toList.isEmpty = ep := by rw [hep]; cases p.toList <;> rfl
  have hep3 : (p.toList == []) = ep := hep.symm
  by_cases k12 : kd = 1 ∨ kd = 2
  · obtain ⟨eo, heo⟩ : ∃ b, b = (op.toList == []) := ⟨_, rfl⟩
    rw [← heo] at h12
    have heo2 : op.toList.isEmpty = eo := by rw [heo]; cases op.toList <;> rfl
    have heo3 : (op.toList == []) = eo := heo.symm
    have HZ := Lib.hid (h12 k12)
    clear HL HR h12 h3 h0 hep2 hep3 hep heo
    rcases k12 with rfl | rfl
    all_goals
      cases bA
      · clear qL qR
        go_enter Tryz.func41, Tryz.ntmps41
        go_wp2_with (go_at_call 40; rw [← HW0.out]; refine (HA.out).mono ?_; rintro e w1 ⟨rfl, hb1⟩; obtain ⟨q1, q2, q3, q4, q5, q6, q7, q8, q9, q10, q11, q12, q13, z0, z1, z2, z3, z4⟩ := HCELL.out _ hb1)
        go_ret
        exact ⟨by rw [HZ.out]; rfl, HAL.out.trans (hb1.mono HAL.out.size)⟩
      cases eo
      · clear qL qR
        go_enter Tryz.func41, Tryz.ntmps41
        go_wp2_with (go_at_call 40; rw [← HW0.out]; refine (HA.out).mono ?_; rintro e w1 ⟨rfl, hb1⟩; obtain ⟨q1, q2, q3, q4, q5, q6, q7, q8, q9, q10, q11, q12, q13, z0, z1, z2, z3, z4⟩ := HCELL.out _ hb1)
        go_ret
        exact ⟨by rw [HZ.out]; rfl, HAL.out.trans (hb1.mono HAL.out.size)⟩
      cases zL
      · clear qR
        go_enter Tryz.func41, Tryz.ntmps41
        go_wp2_with (go_at_call 40; rw [← HW0.out]; refine (HA.out).mono ?_; rintro e w1 ⟨rfl, hb1⟩; obtain ⟨q1, q2, q3, q4, q5, q6, q7, q8, q9, q10, q11, q12, q13, z0, z1, z2, z3, z4⟩ := HCELL.out _ hb1)
        go_ret
        exact ⟨by rw [HZ.out]; rfl, HAL.out.trans (hb1.mono HAL.out.size)⟩
      go_enter Tryz.func41, Tryz.ntmps41
      go_wp2_with (go_at_call 40; rw [← HW0.out]; refine (HA.out).mono ?_; rintro e w1 ⟨rfl, hb1⟩; obtain ⟨q1, q2, q3, q4, q5, q6, q7, q8, q9, q10, q11, q12, q13, z0, z1, z2, z3, z4⟩ := HCELL.out _ hb1)
      go_ret
      exact ⟨by rw [HZ.out]; rfl, HAL.out.trans (hb1.mono HAL.out.size)⟩
  have hk1 : kd ≠ 1 := fun h => k12 (.inl h)
  have hk2 : kd ≠ 2 := fun h => k12 (.inr h)
  have hk1B : (kd == 1) = false := by simpa using hk1
  have hk2B : (kd == 2) = false := by simpa using hk2
  clear h12 k12 hep
  by_cases k3 : kd = 3
  · have HZ3 := Lib.hid (h3 k3)
    subst k3
    clear HA h3 h0 qL qR hk1 hk2
    rcases op_casesP op with ⟨hop, ho⟩ | ⟨hop, o1, o2, o3, o4, o5, o6⟩
    · rw [hop] at HZ3
      by_cases hn0 : nA = 0
      · have hnB : ((nA : Int) == 0) = true := by rw [hn0]; rfl
        have HZ : Hid (Z = (bL && bR && ep)) := by show _ = _; rw [HZ3.out, decide_eq_true hn0]; simp
        clear HZ3 hop hn0
        rcases ho with rfl | rfl | rfl | rfl | rfl | rfl
        all_goals
          cases bL
          · go_enter Tryz.func41, Tryz.ntmps41
            go_wp2_with (go_at_call 59; rw [← HW0.out]; refine (HL.out W0).mono ?_; rintro e w2 ⟨rfl, hb2⟩; have HB2 := Lib.hid hb2; clear hb2 HL; obtain ⟨r1, r2, r3, r4, r5, r6, r7, r8, r9, r10, r11, r12, r13, -⟩ := HCELL.out _ HB2.out)
            go_ret
            exact ⟨by rw [HZ.out]; simp, HAL.out.trans (HB2.out.mono HAL.out.size)⟩
          cases bR
          · go_enter Tryz.func41, Tryz.ntmps41
            go_wp2_with (first
              | (go_at_call 59; rw [← HW0.out]; refine (HL.out W0).mono ?_; rintro e w2 ⟨rfl, hb2⟩; have HB2 := Lib.hid hb2; clear hb2 HL; obtain ⟨r1, r2, r3, r4, r5, r6, r7, r8, r9, r10, r11, r12, r13, -⟩ := HCELL.out _ HB2.out)
              | (go_at_call 59; refine (HR.out _).mono ?_; rintro e w3 ⟨rfl, hb3⟩; have HB3 := Lib.hid (HB2.out.trans (hb3.mono HB2.out.size)); clear hb3; obtain ⟨s1, s2, s3, s4, s5, s6, s7, s8, s9, s10, s11, s12, s13, -⟩ := HCELL.out _ HB3.out))
            go_ret
            exact ⟨by rw [HZ.out]; first | rfl | simp, HAL.out.trans (HB3.out.mono HAL.out.size)⟩
          cases ep
          · go_enter Tryz.func41, Tryz.ntmps41
            go_wp2_with (first
              | (go_at_call 59; rw [← HW0.out]; refine (HL.out W0).mono ?_; rintro e w2 ⟨rfl, hb2⟩; have HB2 := Lib.hid hb2; clear hb2 HL; obtain ⟨r1, r2, r3, r4, r5, r6, r7, r8, r9, r10, r11, r12, r13, -⟩ := HCELL.out _ HB2.out)
              | (go_at_call 59; refine (HR.out _).mono ?_; rintro e w3 ⟨rfl, hb3⟩; have HB3 := Lib.hid (HB2.out.trans (hb3.mono HB2.out.size)); clear hb3; obtain ⟨s1, s2, s3, s4, s5, s6, s7, s8, s9, s10, s11, s12, s13, -⟩ := HCELL.out _ HB3.out))
            go_ret
            exact ⟨by rw [HZ.out]; first | rfl | simp, HAL.out.trans (HB3.out.mono HAL.out.size)⟩
          go_enter Tryz.func41, Tryz.ntmps41
          go_wp2_with (first
            | (go_at_call 59; rw [← HW0.out]; refine (HL.out W0).mono ?_; rintro e w2 ⟨rfl, hb2⟩; have HB2 := Lib.hid hb2; clear hb2 HL; obtain ⟨r1, r2, r3, r4, r5, r6, r7, r8, r9, r10, r11, r12, r13, -⟩ := HCELL.out _ HB2.out)
            | (go_at_call 59; refine (HR.out _).mono ?_; rintro e w3 ⟨rfl, hb3⟩; have HB3 := Lib.hid (HB2.out.trans (hb3.mono HB2.out.size)); clear hb3; obtain ⟨s1, s2, s3, s4, s5, s6, s7, s8, s9, s10, s11, s12, s13, -⟩ := HCELL.out _ HB3.out))
          go_ret
          exact ⟨by rw [HZ.out]; first | rfl | simp, HAL.out.trans (HB3.out.mono HAL.out.size)⟩
      · have hnB : ((nA : Int) == 0) = false := by simpa using hn0
        have HZ : Hid (Z = false) := by show _ = _; rw [HZ3.out, decide_eq_false hn0]; simp
        clear HZ3 hop hn0
        rcases ho with rfl | rfl | rfl | rfl | rfl | rfl
        all_goals
          cases bL
          · go_enter Tryz.func41, Tryz.ntmps41
            go_wp2_with (go_at_call 59; rw [← HW0.out]; refine (HL.out W0).mono ?_; rintro e w2 ⟨rfl, hb2⟩; have HB2 := Lib.hid hb2; clear hb2 HL; obtain ⟨r1, r2, r3, r4, r5, r6, r7, r8, r9, r10, r11, r12, r13, -⟩ := HCELL.out _ HB2.out)
            go_ret
            exact ⟨by rw [HZ.out]; simp, HAL.out.trans (HB2.out.mono HAL.out.size)⟩
          cases bR
          · go_enter Tryz.func41, Tryz.ntmps41
            go_wp2_with (first
              | (go_at_call 59; rw [← HW0.out]; refine (HL.out W0).mono ?_; rintro e w2 ⟨rfl, hb2⟩; have HB2 := Lib.hid hb2; clear hb2 HL; obtain ⟨r1, r2, r3, r4, r5, r6, r7, r8, r9, r10, r11, r12, r13, -⟩ := HCELL.out _ HB2.out)
              | (go_at_call 59; refine (HR.out _).mono ?_; rintro e w3 ⟨rfl, hb3⟩; have HB3 := Lib.hid (HB2.out.trans (hb3.mono HB2.out.size)); clear hb3; obtain ⟨s1, s2, s3, s4, s5, s6, s7, s8, s9, s10, s11, s12, s13, -⟩ := HCELL.out _ HB3.out))
            go_ret
            exact ⟨by rw [HZ.out]; first | rfl | simp, HAL.out.trans (HB3.out.mono HAL.out.size)⟩
          cases ep
          · go_enter Tryz.func41, Tryz.ntmps41
            go_wp2_with (first
              | (go_at_call 59; rw [← HW0.out]; refine (HL.out W0).mono ?_; rintro e w2 ⟨rfl, hb2⟩; have HB2 := Lib.hid hb2; clear hb2 HL; obtain ⟨r1, r2, r3, r4, r5, r6, r7, r8, r9, r10, r11, r12, r13, -⟩ := HCELL.out _ HB2.out)
              | (go_at_call 59; refine (HR.out _).mono ?_; rintro e w3 ⟨rfl, hb3⟩; have HB3 := Lib.hid (HB2.out.trans (hb3.mono HB2.out.size)); clear hb3; obtain ⟨s1, s2, s3, s4, s5, s6, s7, s8, s9, s10, s11, s12, s13, -⟩ := HCELL.out _ HB3.out))
            go_ret
            exact ⟨by rw [HZ.out]; first | rfl | simp, HAL.out.trans (HB3.out.mono HAL.out.size)⟩
          go_enter Tryz.func41, Tryz.ntmps41
          go_wp2_with (first
            | (go_at_call 59; rw [← HW0.out]; refine (HL.out W0).mono ?_; rintro e w2 ⟨rfl, hb2⟩; have HB2 := Lib.hid hb2; clear hb2 HL; obtain ⟨r1, r2, r3, r4, r5, r6, r7, r8, r9, r10, r11, r12, r13, -⟩ := HCELL.out _ HB2.out)
            | (go_at_call 59; refine (HR.out _).mono ?_; rintro e w3 ⟨rfl, hb3⟩; have HB3 := Lib.hid (HB2.out.trans (hb3.mono HB2.out.size)); clear hb3; obtain ⟨s1, s2, s3, s4, s5, s6, s7, s8, s9, s10, s11, s12, s13, -⟩ := HCELL.out _ HB3.out))
          go_ret
          exact ⟨by rw [HZ.out]; first | rfl | simp, HAL.out.trans (HB3.out.mono HAL.out.size)⟩
    · rw [hop] at HZ3
      have HZ : Hid (Z = false) := by show _ = _; rw [HZ3.out]; simp
      clear HZ3 hop HL HR hep2 hep3
      go_enter Tryz.func41, Tryz.ntmps41
      go_wp2
      go_ret
      exact ⟨ret_bool HZ.out.symm, by have := HAL.out; rw [HW0.out] at this; exact this⟩
  · have HZ := Lib.hid (h0 hk1 hk2 k3)
    have hk3B : (kd == 3) = false := by simpa using k3
    clear HA HL HR h3 h0 qL qR hep2 hep3
    rcases op_casesP op with ⟨-, ho⟩ | ⟨-, o1, o2, o3, o4, o5, o6⟩
    · rcases ho with rfl | rfl | rfl | rfl | rfl | rfl
      all_goals
        go_enter Tryz.func41, Tryz.ntmps41
        go_wp2
        go_ret
        exact ⟨ret_bool HZ.out.symm, by have := HAL.out; rw [HW0.out] at this; exact this⟩
    · go_enter Tryz.func41, Tryz.ntmps41
      go_wp2
      go_ret
      exact ⟨ret_bool HZ.out.symm, by have := HAL.out; rw [HW0.out] at this; exact this⟩
end Go.Proofs.YtddioikfhabjpaaGreatDoor
