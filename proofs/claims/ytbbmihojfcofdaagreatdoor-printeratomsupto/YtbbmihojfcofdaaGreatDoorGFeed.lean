/-
  Contracts of the feed: more, ahead, next, take, takeMark; and of termOf.
-/
import Derived.Test.YtbbmihojfcofdaaGreatDoorGMem
import Derived.Test.YtbbmihojfcofdaaGreatDoorGAsk
import Derived.Deep.WholeRow
namespace Go.Proofs.YtbbmihojfcofdaaGreatDoor
set_option linter.unusedSimpArgs false
set_option linter.unusedVariables false
set_option linter.unusedSectionVars false
set_option maxRecDepth 100000
open Go.RowKit

set_option maxHeartbeats 400000 in
theorem more_any {w : World} {pb : Nat} {L : List Tk} {en : Int} (hF : Feed w pb L en) :
    Calls Tryz.prog 67 #[.pointer (some ⟨pb, 0, none⟩)] w fun e w' => e = .returned (.bool (decide (0 < L.length))) ∧ w' = w := by
  obtain ⟨ao, cap, c0, -, -, -, h1, h2⟩ := hF.cells
  unfold maxLen at h2
  go_enter Tryz.func67, Tryz.ntmps67
  go_wp2
  go_ret
  exact ⟨by first | rfl | simp, rfl⟩

/-- A token as a value. -/
abbrev tokV (t : Tk) : Value := .agg #[.int .i64 t.kind, .string t.s, .int .i64 t.n, .bool t.q, .int .i64 t.pl]
abbrev tokA (t : Tk) : Array Value := #[.int .i64 t.kind, .string t.s, .int .i64 t.n, .bool t.q, .int .i64 t.pl]

set_option maxHeartbeats 1000000 in
theorem ahead_any {w : World} {pb : Nat} {L : List Tk} {en : Int} (hF : Feed w pb L en) (k : Nat) (hk : k ≤ 1) :
    Calls Tryz.prog 86 #[.pointer (some ⟨pb, 0, none⟩), .int .i64 (k : Int)] w fun e w' => e = .returned (tokV (atT en L k)) ∧ Below w.heap.size w w' := by
  have hb0 := (Below.refl w.heap.size w).alloc (Nat.le_refl _) (.cells #[.int .i64 0, .string ⟨#[]⟩, .int .i64 0, .bool false, .int .i64 0] 110)
  obtain ⟨ao, cap, c0, c1, -, ht, h1, h2⟩ := (hF.below hb0).cells
  have hB := Blk.new w #[.int .i64 0, .string ⟨#[]⟩, .int .i64 0, .bool false, .int .i64 0] 110
  have hkI : (k : Int) ≤ 1 := by omega
  have HHB : Hid (∀ cs, Below w.heap.size w (w.alloc (.cells cs 110))) := fun cs => (Below.refl w.heap.size w).alloc (Nat.le_refl _) _
  unfold maxLen at h2
  clear hF hb0 hB
  by_cases hlt : k < L.length
  · have hltI : (k : Int) < (L.length : Int) := by omega
    obtain ⟨b, off, rfl, hbl, d0, d1, d2, d3, d4⟩ := ht.token en hlt
    obtain ⟨t, htk⟩ : ∃ t, t = atT en L k := ⟨_, rfl⟩
    rw [← htk] at d0 d1 d2 d3 d4 ⊢
    obtain ⟨kd, st, nn, qq, pp⟩ := t
    simp only at d0 d1 d2 d3 d4 ⊢
    clear ht htk hlt
    go_enter Tryz.func86, Tryz.ntmps86
    go_wp2
    exact bodyPost_ret (ret_cell1 Tryz.results86 rfl (Blk.new _ _ _) Tryz.underlying110 (by kernel_rfl)) rfl ⟨rfl, HHB.out _⟩
  · have hltI : ¬ (k : Int) < (L.length : Int) := by omega
    rw [atT_beyond hlt]
    clear ht hlt
    go_enter Tryz.func86, Tryz.ntmps86
    go_wp2
    exact bodyPost_ret (ret_cell1 Tryz.results86 rfl (Blk.new _ _ _) Tryz.underlying110 (by kernel_rfl)) rfl ⟨rfl, HHB.out _⟩
theorem ahead0_any {w : World} {pb : Nat} {L : List Tk} {en : Int} (hF : Feed w pb L en) : Calls Tryz.prog 86 #[.pointer (some ⟨pb, 0, none⟩), .int .i64 0] w fun e w' => e = .returned (tokV (atT en L 0)) ∧ Below w.heap.size w w' := ahead_any hF 0 (by decide)
theorem ahead1_any {w : World} {pb : Nat} {L : List Tk} {en : Int} (hF : Feed w pb L en) : Calls Tryz.prog 86 #[.pointer (some ⟨pb, 0, none⟩), .int .i64 1] w fun e w' => e = .returned (tokV (atT en L 1)) ∧ Below w.heap.size w w' := ahead_any hF 1 (by decide)

set_option maxHeartbeats 1000000 in
theorem next_any {w : World} {pb : Nat} {L : List Tk} {en : Int} (hF : Feed w pb L en) :
    Calls Tryz.prog 68 #[.pointer (some ⟨pb, 0, none⟩)] w fun e w' => e = .returned (tokV (atT en L 0)) ∧ Below w.heap.size w w' := by
  have hb0 := (Below.refl w.heap.size w).alloc (Nat.le_refl _) (.cells #[.int .i64 0, .string ⟨#[]⟩, .int .i64 0, .bool false, .int .i64 0] 110)
  have HF := Lib.hid (hF.below hb0)
  have HB := Lib.hid (Blk.new w #[.int .i64 0, .string ⟨#[]⟩, .int .i64 0, .bool false, .int .i64 0] 110)
  have HB0 := Lib.hid hb0
  obtain ⟨t, htk⟩ : ∃ t, t = atT en L 0 := ⟨_, rfl⟩
  have HA := Lib.hid (ahead0_any HF.out)
  rw [← htk] at HA ⊢
  obtain ⟨kd, st, nn, qq, pp⟩ := t
  simp only [tokV] at HA ⊢
  clear hF hb0 HF htk
  go_enter Tryz.func68, Tryz.ntmps68
  go_wp2_with (first
    | (go_at_call 86; refine (HA.out).mono ?_; rintro e w1 ⟨rfl, hb1⟩; have HB1 := Lib.hid (HB.out.below hb1); have HW1 : Hid (Below w.heap.size w w1) := HB0.out.trans (hb1.mono HB0.out.size))
    | (refine wpList_store_row rfl 110 _ _ rfl w.heap.size #[.int .i64 kd, .string st, .int .i64 nn, .bool qq, .int .i64 pp] rfl rfl 110 _ HB1.out (by kernel_rfl) rfl (by simp [Value.oneCell']) ?_))

  exact bodyPost_ret (ret_cell1 Tryz.results68 rfl (HB1.out.lay _) Tryz.underlying110 (by kernel_rfl)) rfl ⟨rfl, below_lay HW1.out (Nat.le_refl _) _⟩

set_option maxHeartbeats 1000000 in
theorem take_one {w : World} {pb : Nat} {L : List Tk} {en : Int} (hF : Feed w pb L en) (hL : 0 < L.length) :
    Calls Tryz.prog 91 #[.pointer (some ⟨pb, 0, none⟩)] w fun e w' => e = .returned (.tuple #[]) ∧ Took w pb L.tail en w' := by
  match L, hL with
  | t :: T, _ =>
    obtain ⟨a, cap, a', c0, f0, h1, h2, hcut, hF'⟩ := hF.take
    have HT : Hid (Took w pb T en (w.setCell ⟨pb, 0, none⟩ (.slice (some a') T.length (cap - 1)))) := ⟨(Turns.refl (fun i => i = pb) w).setCell (p := ⟨pb, 0, none⟩) (fun _ => rfl) _, hF'⟩
    clear hF'
    unfold maxLen at h2
    go_enter Tryz.func91, Tryz.ntmps91
    go_wp2
    exact bodyPost_end (results_none rfl _ _ _) rfl ⟨rfl, HT.out⟩

set_option maxHeartbeats 1000000 in
theorem takeMark_any {w : World} {pb : Nat} {L : List Tk} {en : Int} (hF : Feed w pb L en) (m : ByteArray) :
    Calls Tryz.prog 71 #[.pointer (some ⟨pb, 0, none⟩), .string m] w fun e w' => e = .returned (.bool (isMk m.data.toList (atT en L 0))) ∧ Took w pb (if isMk m.data.toList (atT en L 0) = true then L.tail else L) en w' := by
  have HN := Lib.hid (next_any hF)
  have HM := Lib.hid (fun W => isMark_any (atT en L 0) m W)
  obtain ⟨b, hb⟩ : ∃ b, b = isMk m.data.toList (atT en L 0) := ⟨_, rfl⟩
  have hl : b = true → 0 < L.length := fun h => at_ne (by rw [mk_kind (hb.symm.trans h)]; decide)
  rw [← hb] at HM ⊢
  clear hb
  obtain ⟨t, ht⟩ : ∃ t, t = atT en L 0 := ⟨_, rfl⟩
  rw [← ht] at HN HM
  clear ht
  have HF := Lib.hid hF
  clear hF
  cases b
  · go_enter Tryz.func71, Tryz.ntmps71
    go_wp2_with (first
      | (go_at_call 68; refine (HN.out).mono ?_; rintro e w1 ⟨rfl, hb1⟩)
      | (go_at_call 87; refine (HM.out _).mono ?_; rintro e w2 ⟨rfl, hb2⟩))
    go_ret
    exact ⟨rfl, Took.start HF.out (hb1.trans (hb2.mono hb1.size))⟩
  · have HK := Lib.hid (fun W (hW : Below w.heap.size w W) => take_one (HF.out.below hW) (hl rfl))
    clear hl
    go_enter Tryz.func71, Tryz.ntmps71
    go_wp2_with (first
      | (go_at_call 68; refine (HN.out).mono ?_; rintro e w1 ⟨rfl, hb1⟩)
      | (go_at_call 87; refine (HM.out _).mono ?_; rintro e w2 ⟨rfl, hb2⟩; have HB2 : Hid (Below w.heap.size w w2) := hb1.trans (hb2.mono hb1.size))
      | (go_at_call 91; refine (HK.out _ HB2.out).mono ?_; rintro e w3 ⟨rfl, ht3⟩; have HT3 : Hid (Took w pb L.tail en w3) := (Took.start HF.out HB2.out).then ht3; clear ht3))
    go_ret
    exact ⟨rfl, HT3.out⟩
end Go.Proofs.YtbbmihojfcofdaaGreatDoor
