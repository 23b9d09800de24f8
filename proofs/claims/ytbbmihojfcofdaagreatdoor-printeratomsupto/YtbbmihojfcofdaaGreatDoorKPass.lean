/-
  Blanks and remarks: how many bytes they are, and contract of reader's passOver.
-/
import Derived.Test.YtbbmihojfcofdaaGreatDoorKRdr
namespace Go.Proofs.YtbbmihojfcofdaaGreatDoor
set_option linter.unusedSimpArgs false
set_option linter.unusedVariables false
set_option linter.unusedSectionVars false
set_option maxRecDepth 100000
open Go.RowKit

/-- How many bytes blanks and remarks are, in a remark or not. -/
def skipS : Bool → List UInt8 → Nat
  | _, [] => 0
  | r, c :: t => if (r || c == 37) = false ∧ blankQ c = false then 0 else 1 + skipS (if c == 10 then false else r || c == 37) t
theorem skipS_nil (r : Bool) : skipS r [] = 0 := rfl
theorem skipS_le (r : Bool) (l : List UInt8) : skipS r l ≤ l.length := by
  induction l generalizing r with
  | nil => exact Nat.le_refl _
  | cons c t ih =>
    unfold skipS
    split
    · exact Nat.zero_le _
    · have h := ih (if c == 10 then false else r || c == 37)
      rw [List.length_cons, Nat.add_comm]; exact Nat.add_le_add_right h 1
theorem blank_not37 {c : UInt8} (h : blankQ c = true) : (c == 37) = false := by
  simp only [blankQ, Bool.or_eq_true, beq_iff_eq] at h
  rcases h with ((rfl | rfl) | rfl) | rfl <;> rfl
theorem skipS_blank {c : UInt8} (h : blankQ c = true) (t : List UInt8) : skipS false (c :: t) = 1 + skipS false t := by
  rw [skipS, if_neg (by simp [h]), blank_not37 h]; simp
theorem skipS_run (l : List UInt8) : skipS false l = runLen blankQ l + skipS false (l.drop (runLen blankQ l)) := by
  induction l with
  | nil => rfl
  | cons c t ih =>
    cases h : blankQ c
    · simp [runLen, h]
    · rw [skipS_blank h, ih]; simp [runLen, h]; omega
theorem skipS_remark (l : List UInt8) : skipS true l = runLen remarkQ l + skipS false (l.drop (runLen remarkQ l)) := by
  induction l with
  | nil => rfl
  | cons c t ih =>
    by_cases h : c = 10
    · subst h
      have e : skipS true (10 :: t) = 1 + skipS false t := by rw [skipS, if_neg (by simp)]; rfl
      rw [e]
      have e2 : runLen remarkQ (10 :: t) = 0 := rfl
      rw [e2, List.drop_zero, skipS_blank rfl]; omega
    · have hc : (c == 10) = false := by simpa using h
      have e : skipS true (c :: t) = 1 + skipS true t := by rw [skipS, if_neg (by simp), hc]; rfl
      have hr : remarkQ c = true := by simp [remarkQ, hc]
      rw [e, ih]; simp [runLen, hr]; omega
theorem skipS_37 (t : List UInt8) : skipS false (37 :: t) = skipS true (37 :: t) := rfl
theorem skipS_no {c : UInt8} (h : blankQ c = false) (h' : (c == 37) = false) (t : List UInt8) : skipS false (c :: t) = 0 := by
  rw [skipS, if_pos (by simp [h, h'])]
theorem run_after (f : UInt8 → Bool) (s : ByteArray) (k : Nat) (h : k + runLen f (s.data.toList.drop k) < s.size) : f (s[k + runLen f (s.data.toList.drop k)]'h) = false := by
  have aux : ∀ (l : List UInt8) (h : runLen f l < l.length), f (l[runLen f l]'h) = false := by
    intro l
    induction l with
    | nil => intro h; simp at h
    | cons c t ih =>
      intro h
      cases hc : f c
      · simp [runLen, hc]
      · have e : runLen f (c :: t) = runLen f t + 1 := by simp [runLen, hc]
        have := ih (by rw [e] at h; simpa using h)
        simp only [e, List.getElem_cons_succ]; exact this
  have hl : runLen f (s.data.toList.drop k) < (s.data.toList.drop k).length := by simp; omega
  have := aux _ hl
  rw [List.getElem_drop] at this
  exact this
theorem runLen_pos {f : UInt8 → Bool} {s : ByteArray} {i : Nat} (h : i < s.size) (hf : f s[i] = true) : 1 ≤ runLen f (s.data.toList.drop i) := by
  rw [runLen_yes h hf]; omega
theorem run_bound (f : UInt8 → Bool) (s : ByteArray) (k : Nat) (h : k ≤ s.size) : k + runLen f (s.data.toList.drop k) ≤ s.size := by
  have := runLen_le f (s.data.toList.drop k)
  simp at this; omega

/-- At a place: what is passed over from here on ends at E; the byte here is no blank. -/
def PassAt (s : ByteArray) (k E : Nat) : Prop := E = k + skipS false (s.data.toList.drop k) ∧ ∀ h : k < s.size, blankQ s[k] = false
theorem pass_start (s : ByteArray) (p : Nat) : PassAt s (p + runLen blankQ (s.data.toList.drop p)) (p + skipS false (s.data.toList.drop p)) :=
  ⟨by rw [skipS_run, List.drop_drop]; omega, fun h => run_after _ _ _ h⟩
theorem pass_round {s : ByteArray} {k E : Nat} (h : PassAt s k E) (hk : k < s.size) (h37 : s[k] = 37) :
    PassAt s (k + runLen remarkQ (s.data.toList.drop k) + runLen blankQ (s.data.toList.drop (k + runLen remarkQ (s.data.toList.drop k)))) E := by
  obtain ⟨h1, -⟩ := h
  have e : E = k + runLen remarkQ (s.data.toList.drop k) + skipS false (s.data.toList.drop (k + runLen remarkQ (s.data.toList.drop k))) := by
    have e0 : skipS false (s.data.toList.drop k) = skipS true (s.data.toList.drop k) := by rw [drop_at hk, h37]; rfl
    rw [h1, e0, skipS_remark, List.drop_drop]; omega
  rw [e]
  exact pass_start s _
theorem pass_end {s : ByteArray} {k E : Nat} (h : PassAt s k E) (hn : ∀ hk : k < s.size, s[k] ≠ 37) : E = k := by
  obtain ⟨h1, h2⟩ := h
  rw [h1]
  by_cases hk : k < s.size
  · rw [drop_at hk, skipS_no (h2 hk) (by simpa using hn hk)]; rfl
  · rw [List.drop_of_length_le (by simp; omega)]; rfl

theorem end_rdr {w : World} {n rb : Nat} {s : ByteArray} {p : Nat} (hR : Rdr n w rb s p) (hs : s.size ≤ 65536) {q : Value} {f : UInt8 → Bool} (hq : Asks (RF n rb) w q f) (i0 E : Nat) (h0 : i0 ≤ 65537) (hE : E = i0 + runLen f (s.data.toList.drop i0)) :
    ∀ W, Below w.heap.size w W → Calls Tryz.prog 107 #[.pointer (some ⟨rb, 0, none⟩), .int .i64 (i0 : Int), q] W fun e w' => e = .returned (.int .i64 (E : Int)) ∧ Below w.heap.size w w' ∧ w'.cell? ⟨rb, 1, none⟩ = some (.int .i64 (p : Int)) ∧ w'.frozen? ⟨rb, 1, none⟩ = false ∧ rb < w'.heap.size ∧ Hid (Rdr n w' rb s p) := by
  intro W hb
  have hR1 := hR.below hb
  obtain ⟨q2, q3, q4, q5, q6, q7, c0, -⟩ := hR1.cells
  refine (end_any s i0 W hs h0 c0 (hq.on (Turns.of_below hb))).mono ?_
  rintro e w' ⟨rfl, hb'⟩
  have hR2 := hR1.below hb'
  obtain ⟨r2, r3, r4, r5, r6, r7, d0, d1, d2, d3, d4, d5, d6, d7, df, -⟩ := hR2.cells
  exact ⟨by rw [hE], hb.trans (hb'.mono hb.size), d1, df, hR2.lt, hR2⟩
theorem put_turn {w w' : World} {n rb : Nat} {s : ByteArray} {p : Nat} (hb : Below w.heap.size w w') (hR : Rdr n w' rb s p) (k : Nat) :
    Rdr n (w'.setCell ⟨rb, 1, none⟩ (.int .i64 (k : Int))) rb s k ∧ Turns (fun i => i = rb) w (w'.setCell ⟨rb, 1, none⟩ (.int .i64 (k : Int))) :=
  ⟨hR.put k, (Turns.of_below hb).then ((Turns.refl (fun i => i = rb) w').setCell (p := ⟨rb, 1, none⟩) (fun _ => rfl) _)⟩

theorem below_drewN (w : World) (n : Nat) : Below w.heap.size w (w.drewN n) := ⟨rfl, rfl, rfl, Nat.le_refl _, fun _ _ => rfl⟩
theorem atOf {w : World} {n rb : Nat} {s : ByteArray} {p : Nat} (h : Rdr n w rb s p) : (intOf ((w.cell? ⟨rb, 1, none⟩).getD .nilFunc)).toNat = p := by
  obtain ⟨q2, q3, q4, q5, q6, q7, c0, c1, -⟩ := h.cells
  rw [c1]; simp [intOf]

set_option maxHeartbeats 2000000 in
theorem passOver_any {w : World} {n rb : Nat} {s : ByteArray} {p : Nat} (hR : Rdr n w rb s p) (hs : s.size ≤ 65536) (hp : p ≤ s.size) :
    Calls Tryz.prog 84 #[.pointer (some ⟨rb, 0, none⟩)] w fun e w' => e = .returned (.tuple #[]) ∧ Rdr n w' rb s (p + skipS false (s.data.toList.drop p)) ∧ Turns (fun i => i = rb) w w' := by
  obtain ⟨q2, q3, q4, q5, q6, q7, c0, c1, c2, c3, c4, c5, c6, c7, f1, a2, a3, -⟩ := hR.cells
  have hrb := hR.lt
  obtain ⟨k0, hk0⟩ : ∃ k0, k0 = p + runLen blankQ (s.data.toList.drop p) := ⟨_, rfl⟩
  have HE := Lib.hid (end_rdr hR hs a2 p k0 (by omega) hk0)
  have hk0s : k0 ≤ s.size := by rw [hk0]; exact run_bound _ _ _ hp
  obtain ⟨E, hE⟩ : ∃ E, E = p + skipS false (s.data.toList.drop p) := ⟨_, rfl⟩
  have HP : Hid (PassAt s k0 E) := by rw [hk0, hE]; exact pass_start s p
  rw [← hE]
  clear hE hk0 a2 a3 hR
  go_enter Tryz.func84, Tryz.ntmps84
  go_wp2_with fail
  go_region_with (go_at_call 107; refine (HE.out _ (by first | exact Below.refl _ _ | exact (Below.refl _ _).drew)).mono ?_; rintro e w' ⟨rfl, hbN, d1, df, hl, HR⟩; have HB := Lib.hid hbN; clear hbN)
  all_goals
    have HT := Lib.hid (put_turn HB.out HR.out k0)
    clear HE HB HR d1 df hl c0 c1 c2 c3 c4 c5 c6 c7 f1
    go_wp2_with fail
    go_loopw [15] (fun _ wr => ∃ k : Nat, k ≤ s.size ∧ Hid (Rdr n wr rb s k) ∧ Hid (Turns (fun i => i = rb) w wr) ∧ Hid (PassAt s k E)) (fun _ wr => s.size - (intOf ((wr.cell? ⟨rb, 1, none⟩).getD .nilFunc)).toNat)
    case atStart => exact ⟨k0, hk0s, HT.out.1, HT.out.2, HP⟩
    case round =>
      clear HT HP hk0s
      obtain ⟨k, hk, HR1, HT1, HP1⟩ := hrel
      obtain ⟨q2, q3, q4, q5, q6, q7, c0, c1, c2, c3, c4, c5, c6, c7, f1, a2, a3, -⟩ := HR1.out.cells
      have hrb := HR1.out.lt
      have i3 : (s.size : Int) ≤ 65536 := by omega
      by_cases hlt : k < s.size
      · have hltI : (k : Int) < (s.size : Int) := by omega
        by_cases h37 : s[k] = 37
        · have b1 : ((s[k].toNat : Int) == 37) = true := by rw [h37]; rfl
          obtain ⟨k1, hk1⟩ : ∃ k1, k1 = k + runLen remarkQ (s.data.toList.drop k) := ⟨_, rfl⟩
          obtain ⟨k2, hk2⟩ : ∃ k2, k2 = k1 + runLen blankQ (s.data.toList.drop k1) := ⟨_, rfl⟩
          have HP2 : Hid (PassAt s k2 E) := by rw [hk2, hk1]; exact pass_round HP1.out hlt h37
          have hk1s : k1 ≤ s.size := by rw [hk1]; exact run_bound _ _ _ hk
          have hk2s : k2 ≤ s.size := by rw [hk2]; exact run_bound _ _ _ hk1s
          have HM : Hid (k < k2) := by
            have : 1 ≤ runLen remarkQ (s.data.toList.drop k) := runLen_pos hlt (by rw [h37]; rfl)
            show k < k2
            omega
          have HE1 := Lib.hid (fun W (hb : Below wr.heap.size wr W) => end_rdr HR1.out hs a3 k k1 (by omega) hk1 W hb)
          have HK2 := Lib.hid hk2
          have HA := Lib.hid (atOf HR1.out)
          clear hk1 hk2 h37 HP1 a2 a3
          go_wp2_with fail
          go_quiet (fail)
          go_wp2_with fail
          go_region_with (go_at_call 107; refine (HE1.out _ (by first | exact below_drewN _ _ | exact (below_drewN _ _).drew)).mono ?_; rintro e w' ⟨rfl, hbN, d1, df, hl, HR⟩; have HB := Lib.hid hbN; clear hbN)
          all_goals
            obtain ⟨w2, hw2, HT2⟩ : ∃ w2, w2 = w'.setCell ⟨rb, 1, none⟩ (.int .i64 (k1 : Int)) ∧ Hid (Rdr n w2 rb s k1 ∧ Turns (fun i => i = rb) wr w2) := ⟨_, rfl, put_turn HB.out HR.out k1⟩
            clear HE1 HB HR d1 df hl c0 c1 c2 c3 c4 c5 c6 c7 f1
            rw [← hw2]
            clear hw2
            obtain ⟨q2, q3, q4, q5, q6, q7, c0, c1, c2, c3, c4, c5, c6, c7, f1, a2, a3, -⟩ := HT2.out.1.cells
            have HE2 := Lib.hid (fun W (hb : Below w2.heap.size w2 W) => end_rdr HT2.out.1 hs a2 k1 k2 (by omega) HK2.out W hb)
            clear a2 a3
            have hrb2 := HT2.out.1.lt
            go_wp2_with fail
            go_region_with (go_at_call 107; refine (HE2.out _ (by first | exact Below.refl _ _ | exact (Below.refl _ _).drew | exact below_drewN _ _ | exact (below_drewN _ _).drew)).mono ?_; rintro e w3 ⟨rfl, hbN, d1, df, hl, HR⟩; have HB := Lib.hid hbN; clear hbN)
            all_goals
              have HT3 := Lib.hid (put_turn HB.out HR.out k2)
              go_wp2
              go_roundw
              case rel => exact ⟨k2, hk2s, HT3.out.1, (HT1.out.then HT2.out.2).then HT3.out.2, HP2⟩
              case measure => rw [atOf HT3.out.1, HA.out]; have := HM.out; omega
        · have b1 : ((s[k].toNat : Int) == 37) = false := by
            rw [beq_eq_false_iff_ne]
            intro h
            exact h37 (UInt8.toNat_inj.1 (by simpa using (by omega : s[k].toNat = 37)))
          have HX : Hid (E = k) := pass_end HP1.out (fun _ => h37)
          clear h37 HP1 a2 a3 c2 c3 c4 c5 c6 c7 f1
          go_wp2_with fail
          go_quiet (fail)
          go_wp2
          exact bodyPost_end (results_none rfl _ _ _) rfl ⟨rfl, by rw [HX.out]; exact HR1.out.below (below_drewN _ _), HT1.out.then (Turns.of_below (below_drewN _ _))⟩
      · have hltI : ¬ (k : Int) < (s.size : Int) := by omega
        have HX : Hid (E = k) := pass_end HP1.out (fun h => absurd h hlt)
        clear HP1 a2 a3 c2 c3 c4 c5 c6 c7 f1
        go_wp2_with fail
        go_quiet (fail)
        go_wp2
        exact bodyPost_end (results_none rfl _ _ _) rfl ⟨rfl, by rw [HX.out]; exact HR1.out.below (below_drewN _ _), HT1.out.then (Turns.of_below (below_drewN _ _))⟩
end Go.Proofs.YtbbmihojfcofdaaGreatDoor
