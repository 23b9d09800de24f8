/-
  Contracts of parse's name and term.
-/
import Derived.Test.YtbbmihojfcofdaaGreatDoorGTerm
namespace Go.Proofs.YtbbmihojfcofdaaGreatDoor
set_option linter.unusedSimpArgs false
set_option linter.unusedVariables false
set_option linter.unusedSectionVars false
set_option maxRecDepth 100000
open Go.RowKit

set_option maxHeartbeats 2000000 in
theorem name_any' {w : World} {pb : Nat} {L : List Tk} {en : Int} (hF : Feed w pb L en) :
    Calls Tryz.prog 70 #[.pointer (some ⟨pb, 0, none⟩)] w fun e w' => e = .returned (.tuple #[.string (nameP en L).val, .int .i64 ((nameP en L).bad : Int)]) ∧ Took w pb (nameP en L).rest en w' := by
  have HN := Lib.hid (next_any hF)
  have HI := Lib.hid (fun W => isName_any (atT en L 0) W (hF.size 0))
  have hpb := hF.lt
  obtain ⟨b, hb⟩ : ∃ b, b = isNm (atT en L 0) := ⟨_, rfl⟩
  have hl : b = true → 0 < L.length := fun h => at_ne (by rw [nm_kind (hb.symm.trans h)]; decide)
  have hy : b = true → nameP en L = ⟨0, (atT en L 0).s, L.tail⟩ := fun h => by unfold nameP; rw [if_pos (hb.symm.trans h)]
  have hno : b = false → nameP en L = ⟨2, ⟨#[]⟩, L⟩ := fun h => by unfold nameP; rw [if_neg (by rw [← hb, h]; decide)]
  rw [← hb] at HI
  clear hb
  obtain ⟨t, ht⟩ : ∃ t, t = atT en L 0 := ⟨_, rfl⟩
  rw [← ht] at HN HI hy
  clear ht
  obtain ⟨kd, st, nn, qq, pp⟩ := t
  simp only [tokV] at HN HI hy
  have HF := Lib.hid hF
  clear hF
  cases b
  · rw [hno rfl]
    clear hl hy hno
    go_enter Tryz.func70, Tryz.ntmps70
    go_wp2_with (first
      | (go_at_call 68; refine (HN.out).mono ?_; rintro e w1 ⟨rfl, hb1⟩; have HW1 := Lib.hid hb1)
      | (go_at_call 90; refine (HI.out _).mono ?_; rintro e w2 ⟨rfl, hb2⟩; have HB2 : Hid (Below w.heap.size w w2) := (HW1.out.alloc HW1.out.size _).trans (hb2.mono (by have := HW1.out.size; simp; omega))))
    go_ret2
    exact ⟨rfl, Took.start HF.out HB2.out⟩
  · rw [hy rfl]
    have HK := Lib.hid (fun W (hW : Below w.heap.size w W) => take_one (HF.out.below hW) (hl rfl))
    clear hl hy hno
    go_enter Tryz.func70, Tryz.ntmps70
    go_wp2_with (first
      | (go_at_call 68; refine (HN.out).mono ?_; rintro e w1 ⟨rfl, hb1⟩; have HW1 := Lib.hid hb1)
      | (go_at_call 90; refine (HI.out _).mono ?_; rintro e w2 ⟨rfl, hb2⟩; have HB2 : Hid (Below w.heap.size w w2) := (HW1.out.alloc HW1.out.size _).trans (hb2.mono (by have := HW1.out.size; simp; omega)); have HT2 := Lib.hid ((Blk.new w1 #[.int .i64 kd, .string st, .int .i64 nn, .bool qq, .int .i64 pp] 110).below hb2))
      | (go_at_call 91; refine (HK.out _ HB2.out).mono ?_; rintro e w3 ⟨rfl, ht3⟩; have HT3 : Hid (Took w pb L.tail en w3) := (Took.start HF.out HB2.out).then ht3; have d1 := (HT2.out.took ht3 (by have := HW1.out.size; omega)).cell 1; simp at d1; clear ht3))
    go_ret2
    exact ⟨rfl, HT3.out⟩

set_option maxHeartbeats 2000000 in
theorem term_any {w : World} {pb : Nat} {L : List Tk} {en : Int} (hF : Feed w pb L en) :
    Calls Tryz.prog 73 #[.pointer (some ⟨pb, 0, none⟩)] w fun e w' => e = .returned (.tuple #[.agg #[.bool (termP en L).val.v, .string (termP en L).val.name, .bool (termP en L).val.k, .string (termP en L).val.s, .int .i64 (termP en L).val.n], .int .i64 ((termP en L).bad : Int)]) ∧ Took w pb (termP en L).rest en w' := by
  have hb0 := (Below.refl w.heap.size w).alloc (Nat.le_refl _) (.cells #[.bool false, .string ⟨#[]⟩, .bool false, .string ⟨#[]⟩, .int .i64 0] 35)
  have HR0 := Lib.hid (Blk.new w #[.bool false, .string ⟨#[]⟩, .bool false, .string ⟨#[]⟩, .int .i64 0] 35)
  have HN := Lib.hid (next_any (hF.below hb0))
  have HO := Lib.hid (fun W => termOf_any (atT en L 0) W)
  have hpb := hF.lt
  have hl : termT (atT en L 0) ≠ none → 0 < L.length := fun h => by
    cases ho : termT (atT en L 0) with
    | none => exact absurd ho h
    | some x => exact at_ne (termT_kind ho)
  have hP : termP en L = termO (termT (atT en L 0)) L := rfl
  rw [hP]
  unfold tmOf at HO
  obtain ⟨o, ho⟩ : ∃ o, o = termT (atT en L 0) := ⟨_, rfl⟩
  rw [← ho] at hl HO ⊢
  clear ho hP
  obtain ⟨t, ht⟩ : ∃ t, t = atT en L 0 := ⟨_, rfl⟩
  rw [← ht] at HN HO
  clear ht
  obtain ⟨kd, st, nn, qq, pp⟩ := t
  simp only [tokV] at HN HO
  have HF := Lib.hid hF
  have HB0 := Lib.hid hb0
  clear hF hb0
  cases o with
  | none =>
    simp only [termO, Option.isSome, Option.getD, Tm.zero] at HO ⊢
    clear hl
    go_enter Tryz.func73, Tryz.ntmps73
    go_wp2_with (first
      | (go_at_call 68; refine (HN.out).mono ?_; rintro e w1 ⟨rfl, hb1⟩; have HR1 := Lib.hid (HR0.out.below hb1); have HW1 := Lib.hid (HB0.out.trans (hb1.mono HB0.out.size)))
      | (go_at_call 92; refine (HO.out _).mono ?_; rintro e w2 ⟨rfl, hb2⟩; have HR2 := Lib.hid ((HR1.out.below hb2).below (al_below w2 (.cells #[.bool false, .string ⟨#[]⟩, .bool false, .string ⟨#[]⟩, .int .i64 0] 35))); have HW2 := Lib.hid (HW1.out.trans (hb2.mono HW1.out.size)))
      | (refine wpList_store_row rfl 35 _ _ rfl w.heap.size #[.bool false, .string ⟨#[]⟩, .bool false, .string ⟨#[]⟩, .int .i64 0] rfl rfl 35 _ HR2.out (by kernel_rfl) rfl (by simp [Value.oneCell']) ?_))
    exact bodyPost_ret (ret_cell2 Tryz.results73 rfl rfl (HR2.out.lay _) Tryz.underlying35 (by kernel_rfl)) rfl ⟨rfl, (Took.start HF.out (HW2.out.alloc HW2.out.size _)).lay (Nat.le_refl _) hpb _⟩
  | some x =>
    have HK := Lib.hid (fun W (hW : Below w.heap.size w W) => take_one (HF.out.below hW) (hl (by simp)))
    obtain ⟨xv, xname, xk, xs, xn⟩ := x
    simp only [termO, Option.isSome, Option.getD] at HO ⊢
    clear hl
    go_enter Tryz.func73, Tryz.ntmps73
    go_wp2_with (first
      | (go_at_call 68; refine (HN.out).mono ?_; rintro e w1 ⟨rfl, hb1⟩; have HR1 := Lib.hid (HR0.out.below hb1); have HW1 := Lib.hid (HB0.out.trans (hb1.mono HB0.out.size)))
      | (go_at_call 92; refine (HO.out _).mono ?_; rintro e w2 ⟨rfl, hb2⟩; have HR2 := Lib.hid ((HR1.out.below hb2).below (al_below w2 (.cells #[.bool xv, .string xname, .bool xk, .string xs, .int .i64 xn] 35))); have HW2 := Lib.hid (HW1.out.trans (hb2.mono HW1.out.size)); have HX2 := Lib.hid (Blk.new w2 #[.bool xv, .string xname, .bool xk, .string xs, .int .i64 xn] 35))
      | (go_at_call 91; refine (HK.out _ (HW2.out.alloc HW2.out.size _)).mono ?_; rintro e w3 ⟨rfl, ht3⟩; have HT3 : Hid (Took w pb L.tail en w3) := (Took.start HF.out (HW2.out.alloc HW2.out.size _)).then ht3; have HR3 := Lib.hid (HR2.out.took ht3 hpb); have hx3 := (HX2.out.took ht3 (by have := HW2.out.size; omega)).cell; have d0 := hx3 0; have d1 := hx3 1; have d2 := hx3 2; have d3 := hx3 3; have d4 := hx3 4; simp at d0 d1 d2 d3 d4; clear ht3 hx3)
      | (refine wpList_store_row rfl 35 _ _ rfl w.heap.size #[.bool xv, .string xname, .bool xk, .string xs, .int .i64 xn] rfl rfl 35 _ HR3.out (by kernel_rfl) rfl (by simp [Value.oneCell']) ?_))
    exact bodyPost_ret (ret_cell2 Tryz.results73 rfl rfl (HR3.out.lay _) Tryz.underlying35 (by kernel_rfl)) rfl ⟨rfl, HT3.out.lay (Nat.le_refl _) hpb _⟩
end Go.Proofs.YtbbmihojfcofdaaGreatDoor
