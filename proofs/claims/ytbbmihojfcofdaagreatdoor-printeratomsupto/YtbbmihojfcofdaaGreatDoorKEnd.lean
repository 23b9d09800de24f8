/-
  Contracts of what token.not and token.either hand back, and of reader's end.
-/
import Derived.Test.YtbbmihojfcofdaaGreatDoorKAsk
namespace Go.Proofs.YtbbmihojfcofdaaGreatDoor
set_option linter.unusedSimpArgs false
set_option linter.unusedVariables false
set_option linter.unusedSectionVars false
set_option maxRecDepth 100000
open Go.RowKit

set_option maxHeartbeats 400000 in
theorem not1_any {F : Nat → Prop} {q : Value} {f : UInt8 → Bool} (c : UInt8) (a : Nat) (w : World) (ha : w.cell? ⟨a, 0, none⟩ = some q) (hq : Asks F w q f) :
    Calls Tryz.prog 125 #[.int .u8 (c.toNat : Int), .pointer (some ⟨a, 0, none⟩)] w fun e w' => e = .returned (.bool (!f c)) ∧ Below w.heap.size w w' := by
  obtain ⟨k, first, cap, rfl, hent, hq⟩ := hq
  have HQ := Lib.hid (hq w (Turns.refl _ _) c)
  clear hq
  go_enter Tryz.func125, Tryz.ntmps125
  go_wp2_with (go_at_fn k; refine (HQ.out).mono ?_; rintro e w' ⟨rfl, hb⟩)
  go_ret
  exact ⟨rfl, hb⟩
theorem not_asks {F : Nat → Prop} {W : World} {a : Nat} {q : Value} {f : UInt8 → Bool} (ha : W.cell? ⟨a, 0, none⟩ = some q) (na : ¬ F a) (hq : Asks F W q f) :
    Asks F W (.func (.func 125) #[] #[.pointer (some ⟨a, 0, none⟩)]) (fun c => !f c) :=
  ⟨_, _, _, rfl, enters_of Tryz.func125 (by kernel_rfl) rfl, fun w ht c => not1_any c a w ((ht.cell (p := ⟨a, 0, none⟩) (lt_of_cell ha) na).trans ha) (hq.on ht)⟩

set_option maxHeartbeats 1000000 in
theorem either1_any {F : Nat → Prop} (qs : List Value) (fs : List (UInt8 → Bool)) (c : UInt8) (a g : Nat) (w : World) (hl : fs.length = qs.length) (hn : qs.length ≤ 4) (ha : w.cell? ⟨a, 0, none⟩ = some (.slice (some ⟨g, 0, none⟩) qs.length qs.length))
    (hg : ∀ (i : Nat) q, qs[i]? = some q → w.cell? ⟨g, i, none⟩ = some q) (hq : ∀ (i : Nat) q f, qs[i]? = some q → fs[i]? = some f → Asks F w q f) :
    Calls Tryz.prog 123 #[.int .u8 (c.toNat : Int), .pointer (some ⟨a, 0, none⟩)] w fun e w' => e = .returned (.bool (fs.any (fun f => f c))) ∧ Below w.heap.size w w' := by
  have HL := Lib.hid hl
  have HG := Lib.hid hg
  have HQ := Lib.hid hq
  clear hl hg hq
  obtain ⟨n, hn'⟩ : ∃ n, n = qs.length := ⟨_, rfl⟩
  rw [← hn'] at ha hn
  have HN := Lib.hid hn'
  clear hn'
  go_enter Tryz.func123, Tryz.ntmps123
  go_wp2
  go_loopw [8] (fun i wr => ∃ k : Nat, k ≤ n ∧ i = .int .i64 k ∧ Below w.heap.size w wr ∧ Hid ((fs.take k).any (fun f => f c) = false)) (fun i _ => n - (intOf i).toNat)
  case atStart => exact ⟨0, Nat.zero_le _, rfl, Below.refl _ _, by simp [Hid]⟩
  case round =>
    obtain ⟨k, hk, rfl, hbw, HA⟩ := hrel
    by_cases hlt : k < n
    · have hltI : (k : Int) < (n : Int) := by omega
      have hkq : k < qs.length := by rw [← HN.out]; exact hlt
      have hkf : k < fs.length := by rw [HL.out]; exact hkq
      have hc0 : w.cell? ⟨g, k, none⟩ = some qs[k] := HG.out k _ (by simp [hkq])
      have hc1 : wr.cell? ⟨g, k, none⟩ = some qs[k] := (hbw.cell (p := ⟨g, k, none⟩) (lt_of_cell hc0)).trans hc0
      have hA := HQ.out k _ _ (List.getElem?_eq_getElem hkq) (List.getElem?_eq_getElem hkf)
      obtain ⟨kf, first, cap, hqe, hent, hcall⟩ := hA
      have HC := Lib.hid (hcall wr (Turns.of_below hbw) c)
      rw [hqe] at hc1
      have HT : Hid ((fs.take (k + 1)).any (fun f => f c) = (fs[k] c)) := by
        show _ = _
        rw [List.take_succ_eq_append_getElem hkf, List.any_append, HA.out]; simp
      have HF : Hid (fs[k] c = true → fs.any (fun f => f c) = true) := by
        intro h
        exact List.any_eq_true.2 ⟨fs[k], List.getElem_mem hkf, h⟩
      obtain ⟨y, hy⟩ : ∃ y, y = fs[k] c := ⟨_, rfl⟩
      rw [← hy] at HC HT HF
      clear hy hqe hcall hc0 hkq hkf HA
      cases y
      · go_wp2_with (go_at_fn kf; refine (HC.out).mono ?_; rintro e w' ⟨rfl, hb⟩)
        go_roundw
        case rel => exact ⟨k + 1, by omega, by go_num, hbw.trans (hb.mono hbw.size), HT⟩
        case measure => simp [intOf]; omega
      · go_wp2_with (go_at_fn kf; refine (HC.out).mono ?_; rintro e w' ⟨rfl, hb⟩)
        go_ret
        rw [HF.out (by simp)]
        exact ⟨rfl, hbw.trans (hb.mono hbw.size)⟩
    · have hltI : ¬ (k : Int) < (n : Int) := by omega
      have HE : Hid (fs.any (fun f => f c) = false) := by
        have h := HA.out
        rw [List.take_of_length_le (by rw [HL.out, ← HN.out]; omega)] at h
        exact h
      clear HA
      go_wp2
      go_ret
      rw [HE.out]
      exact ⟨rfl, hbw⟩
theorem either_asks {F : Nat → Prop} {W : World} {a g : Nat} (qs : List Value) (fs : List (UInt8 → Bool)) (hl : fs.length = qs.length) (hn : qs.length ≤ 4) (ha : W.cell? ⟨a, 0, none⟩ = some (.slice (some ⟨g, 0, none⟩) qs.length qs.length)) (na : ¬ F a) (ng : ¬ F g)
    (hg : ∀ (i : Nat) q, qs[i]? = some q → W.cell? ⟨g, i, none⟩ = some q) (hq : ∀ (i : Nat) q f, qs[i]? = some q → fs[i]? = some f → Asks F W q f) :
    Asks F W (.func (.func 123) #[] #[.pointer (some ⟨a, 0, none⟩)]) (fun c => fs.any (fun f => f c)) :=
  ⟨_, _, _, rfl, enters_of Tryz.func123 (by kernel_rfl) rfl, fun w ht c => either1_any (F := F) qs fs c a g w hl hn ((ht.cell (p := ⟨a, 0, none⟩) (lt_of_cell ha) na).trans ha)
    (fun i q h => (ht.cell (p := ⟨g, i, none⟩) (lt_of_cell (hg i q h)) ng).trans (hg i q h)) (fun i q f h1 h2 => (hq i q f h1 h2).on ht)⟩

/-- How many bytes from the first one on the question holds of. -/
def runLen (f : UInt8 → Bool) (l : List UInt8) : Nat := (l.takeWhile f).length
theorem runLen_le (f : UInt8 → Bool) (l : List UInt8) : runLen f l ≤ l.length := by
  unfold runLen
  exact (List.takeWhile_prefix f).length_le
theorem drop_at {s : ByteArray} {i : Nat} (h : i < s.size) : s.data.toList.drop i = s[i] :: s.data.toList.drop (i + 1) := by
  rw [List.drop_eq_getElem_cons (by simpa using h)]; rfl
theorem runLen_yes {f : UInt8 → Bool} {s : ByteArray} {i : Nat} (h : i < s.size) (hf : f s[i] = true) : runLen f (s.data.toList.drop i) = runLen f (s.data.toList.drop (i + 1)) + 1 := by
  rw [drop_at h]; simp [runLen, hf]
theorem runLen_no {f : UInt8 → Bool} {s : ByteArray} {i : Nat} (h : i < s.size) (hf : f s[i] = false) : runLen f (s.data.toList.drop i) = 0 := by
  rw [drop_at h]; simp [runLen, hf]
theorem runLen_end {f : UInt8 → Bool} {s : ByteArray} {i : Nat} (h : s.size ≤ i) : runLen f (s.data.toList.drop i) = 0 := by
  rw [List.drop_of_length_le (by simpa using h)]; rfl

set_option maxHeartbeats 1000000 in
theorem end_any {F : Nat → Prop} {rb : Nat} {q : Value} {f : UInt8 → Bool} (s : ByteArray) (i0 : Nat) (w : World) (hs : s.size ≤ 65536) (h0 : i0 ≤ 65537) (hc : w.cell? ⟨rb, 0, none⟩ = some (.string s)) (hq : Asks F w q f) :
    Calls Tryz.prog 107 #[.pointer (some ⟨rb, 0, none⟩), .int .i64 (i0 : Int), q] w fun e w' => e = .returned (.int .i64 ((i0 + runLen f (s.data.toList.drop i0) : Nat) : Int)) ∧ Below w.heap.size w w' := by
  obtain ⟨kf, first, cap, rfl, hent, hq⟩ := hq
  obtain ⟨E, hE⟩ : ∃ E, E = i0 + runLen f (s.data.toList.drop i0) := ⟨_, rfl⟩
  rw [← hE]
  have HQ := Lib.hid hq
  have HE := Lib.hid hE
  clear hq hE
  go_enter Tryz.func107, Tryz.ntmps107
  go_wp2
  go_loopw [1] (fun i wr => ∃ k : Nat, k ≤ 65537 ∧ i = .int .i64 k ∧ Below w.heap.size w wr ∧ Hid (E = k + runLen f (s.data.toList.drop k))) (fun i _ => s.size - (intOf i).toNat)
  case atStart => exact ⟨i0, h0, rfl, Below.refl _ _, HE⟩
  case round =>
    obtain ⟨k, hk, rfl, hbw, HA⟩ := hrel
    have hc1 := (hbw.cell (p := ⟨rb, 0, none⟩) (lt_of_cell hc)).trans hc
    by_cases hlt : k < s.size
    · have hltI : (k : Int) < (s.size : Int) := by omega
      have HC := Lib.hid (HQ.out wr (Turns.of_below hbw) s[k])
      have HY : Hid (f s[k] = true → E = (k + 1) + runLen f (s.data.toList.drop (k + 1))) := fun h => by rw [HA.out, runLen_yes hlt h]; omega
      have HNo : Hid (f s[k] = false → E = k) := fun h => by rw [HA.out, runLen_no hlt h]; rfl
      obtain ⟨y, hy⟩ : ∃ y, y = f s[k] := ⟨_, rfl⟩
      rw [← hy] at HC HY HNo
      clear hy HA
      cases y
      · go_wp2_with (go_at_fn kf; refine (HC.out).mono ?_; rintro e w' ⟨rfl, hb⟩)
        go_ret
        rw [HNo.out (by simp)]
        exact ⟨rfl, hbw.trans (hb.mono hbw.size)⟩
      · go_wp2_with (go_at_fn kf; refine (HC.out).mono ?_; rintro e w' ⟨rfl, hb⟩)
        go_roundw
        case rel => exact ⟨k + 1, by omega, by go_num, hbw.trans (hb.mono hbw.size), HY.out (by simp)⟩
        case measure => simp [intOf]; omega
    · have hltI : ¬ (k : Int) < (s.size : Int) := by omega
      have HX : Hid (E = k) := by
        show _ = _
        rw [HA.out, runLen_end (by omega)]; rfl
      clear HA
      go_wp2
      go_ret
      rw [HX.out]
      exact ⟨rfl, hbw⟩
end Go.Proofs.YtbbmihojfcofdaaGreatDoor
