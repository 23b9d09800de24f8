/-
  Contracts of parse's termOf, name, term, and of a list of terms.
-/
import Derived.Test.YtbbmihojfcofdaaGreatDoorGFeed
namespace Go.Proofs.YtbbmihojfcofdaaGreatDoor
set_option linter.unusedSimpArgs false
set_option linter.unusedVariables false
set_option linter.unusedSectionVars false
set_option maxRecDepth 100000
open Go.RowKit

abbrev tmA (t : Tm) : Array Value := #[.bool t.v, .string t.name, .bool t.k, .string t.s, .int .i64 t.n]
abbrev tmV (t : Tm) : Value := .agg #[.bool t.v, .string t.name, .bool t.k, .string t.s, .int .i64 t.n]
theorem Took.lt {w w' : World} {pb : Nat} {L : List Tk} {en : Int} (h : Took w pb L en w') : w.heap.size ≤ w'.heap.size := h.turns.size
theorem Blk.took {w w' : World} {b pb : Nat} {cs : Array Value} {ty : TypeId} {L : List Tk} {en : Int} (h : Blk w b cs ty) (ht : Took w pb L en w') (hn : pb < b) : Blk w' b cs ty := h.turns ht.turns (by omega)

/-- A token as a term, and whether it is one. -/
def tmOf (t : Tk) : Tm := (termT t).getD Tm.zero
set_option maxHeartbeats 2000000 in
theorem termOf_any (t : Tk) (w : World) :
    Calls Tryz.prog 92 #[.agg #[.int .i64 t.kind, .string t.s, .int .i64 t.n, .bool t.q, .int .i64 t.pl]] w fun e w' => e = .returned (.tuple #[.agg #[.bool (tmOf t).v, .string (tmOf t).name, .bool (tmOf t).k, .string (tmOf t).s, .int .i64 (tmOf t).n], .bool (termT t).isSome]) ∧ Below w.heap.size w w' := by
  have HG := Lib.hid (fun W => isNeg_any t W)
  obtain ⟨b, hb⟩ : ∃ b, b = isNg t := ⟨_, rfl⟩
  rw [← hb] at HG
  have h2 : t.kind = 2 → termT t = some ⟨true, t.s, false, ⟨#[]⟩, 0⟩ := fun h => by unfold termT; rw [if_pos h]
  have h3 : t.kind = 3 → termT t = some ⟨false, ⟨#[]⟩, false, ⟨#[]⟩, t.n⟩ := fun h => by unfold termT; rw [if_neg (by omega), if_pos h]
  have h1 : t.kind = 1 → b = false → termT t = some ⟨false, ⟨#[]⟩, true, t.s, 0⟩ := fun h h' => by unfold termT; rw [if_neg (by omega), if_neg (by omega), if_pos ⟨h, by rw [← hb, h']⟩]
  have h0 : t.kind ≠ 2 → t.kind ≠ 3 → ¬ (t.kind = 1 ∧ b = false) → termT t = none := fun a c d => by unfold termT; rw [if_neg a, if_neg c, if_neg (by rw [← hb]; exact d)]
  clear hb
  obtain ⟨o, ho⟩ : ∃ o, o = termT t := ⟨_, rfl⟩
  unfold tmOf
  rw [← ho] at h0 h1 h2 h3 ⊢
  clear ho
  obtain ⟨kd, st, nn, qq, pp⟩ := t
  simp only at h0 h1 h2 h3 HG
  have hb0 := (Below.refl w.heap.size w).alloc (Nat.le_refl _) (.cells #[.int .i64 kd, .string st, .int .i64 nn, .bool qq, .int .i64 pp] 110)
  have hz1 := (Below.refl (w.alloc (.cells #[.int .i64 kd, .string st, .int .i64 nn, .bool qq, .int .i64 pp] 110)).heap.size (w.alloc (.cells #[.int .i64 kd, .string st, .int .i64 nn, .bool qq, .int .i64 pp] 110))).alloc (Nat.le_refl _) (.cells #[.bool false, .string ⟨#[]⟩, .bool false, .string ⟨#[]⟩, .int .i64 0] 35)
  have HK1 := Lib.hid ((Blk.new w #[.int .i64 kd, .string st, .int .i64 nn, .bool qq, .int .i64 pp] 110).below hz1)
  have HR1 : Hid (Blk ((w.alloc (.cells #[.int .i64 kd, .string st, .int .i64 nn, .bool qq, .int .i64 pp] 110)).alloc (.cells #[.bool false, .string ⟨#[]⟩, .bool false, .string ⟨#[]⟩, .int .i64 0] 35)) (w.heap.size + 1) #[.bool false, .string ⟨#[]⟩, .bool false, .string ⟨#[]⟩, .int .i64 0] 35) := by
    have := Blk.new (w.alloc (.cells #[.int .i64 kd, .string st, .int .i64 nn, .bool qq, .int .i64 pp] 110)) #[.bool false, .string ⟨#[]⟩, .bool false, .string ⟨#[]⟩, .int .i64 0] 35
    have e : (w.alloc (.cells #[.int .i64 kd, .string st, .int .i64 nn, .bool qq, .int .i64 pp] 110)).heap.size = w.heap.size + 1 := by simp
    rw [e] at this
    exact this
  have HB1 := Lib.hid (hb0.trans (hz1.mono hb0.size))
  clear hb0 hz1
  by_cases k2 : kd = 2
  · obtain rfl := h2 k2
    subst k2
    clear HG h0 h1 h2 h3
    go_enter Tryz.func92, Tryz.ntmps92
    go_wp2_with (refine wpList_store_row rfl 35 _ _ rfl (w.heap.size + 1) #[.bool true, .string st, .bool false, .string ⟨#[]⟩, .int .i64 0] rfl rfl 35 _ HR1.out (by kernel_rfl) rfl (by simp [Value.oneCell']) ?_)
    exact bodyPost_ret (ret_cell2 Tryz.results92 rfl rfl (HR1.out.lay _) Tryz.underlying35 (by kernel_rfl)) rfl ⟨rfl, below_lay HB1.out (Nat.le_succ _) _⟩
  by_cases k3 : kd = 3
  · obtain rfl := h3 k3
    subst k3
    clear HG h0 h1 h2 h3
    go_enter Tryz.func92, Tryz.ntmps92
    go_wp2_with (first
      | (go_at_call 95; refine (int_any _ _).mono ?_; rintro e w1 ⟨rfl, hb1⟩; have HR2 := Lib.hid (HR1.out.below hb1); have HB2 := Lib.hid (HB1.out.trans (hb1.mono HB1.out.size)))
      | (refine wpList_store_row rfl 35 _ _ rfl (w.heap.size + 1) #[.bool false, .string ⟨#[]⟩, .bool false, .string ⟨#[]⟩, .int .i64 nn] rfl rfl 35 _ HR2.out (by kernel_rfl) rfl (by simp [Value.oneCell']) ?_))
    exact bodyPost_ret (ret_cell2 Tryz.results92 rfl rfl (HR2.out.lay _) Tryz.underlying35 (by kernel_rfl)) rfl ⟨rfl, below_lay HB2.out (Nat.le_succ _) _⟩
  by_cases k1 : kd = 1
  · subst k1
    cases b
    · obtain rfl := h1 rfl rfl
      clear h0 h1 h2 h3
      go_enter Tryz.func92, Tryz.ntmps92
      go_wp2_with (first
        | (go_at_call 114; refine (HG.out _).mono ?_; rintro e w1 ⟨rfl, hb1⟩; have HR2 := Lib.hid (HR1.out.below hb1); have HB2 := Lib.hid (HB1.out.trans (hb1.mono HB1.out.size)); have HK2 := HK1.out.below hb1; have d1 := HK2.cell 1; simp at d1)
        | (go_at_call 94; refine (sym_any _ _).mono ?_; rintro e w2 ⟨rfl, hb2⟩; have HR3 := Lib.hid (HR2.out.below hb2); have HB3 := Lib.hid (HB2.out.trans (hb2.mono HB2.out.size)))
        | (refine wpList_store_row rfl 35 _ _ rfl (w.heap.size + 1) #[.bool false, .string ⟨#[]⟩, .bool true, .string st, .int .i64 0] rfl rfl 35 _ HR3.out (by kernel_rfl) rfl (by simp [Value.oneCell']) ?_))
      exact bodyPost_ret (ret_cell2 Tryz.results92 rfl rfl (HR3.out.lay _) Tryz.underlying35 (by kernel_rfl)) rfl ⟨rfl, below_lay HB3.out (Nat.le_succ _) _⟩
    · obtain rfl := h0 (by decide) (by decide) (by simp)
      clear h0 h1 h2 h3
      go_enter Tryz.func92, Tryz.ntmps92
      go_wp2_with (first
        | (go_at_call 114; refine (HG.out _).mono ?_; rintro e w1 ⟨rfl, hb1⟩; have HR2 := Lib.hid (HR1.out.below hb1); have HB2 := Lib.hid (HB1.out.trans (hb1.mono HB1.out.size)))
        | (refine wpList_store_row rfl 35 _ _ rfl (w.heap.size + 1) #[.bool false, .string ⟨#[]⟩, .bool false, .string ⟨#[]⟩, .int .i64 0] rfl rfl 35 _ HR2.out (by kernel_rfl) rfl (by simp [Value.oneCell']) ?_))
      exact bodyPost_ret (ret_cell2 Tryz.results92 rfl rfl (HR2.out.lay _) Tryz.underlying35 (by kernel_rfl)) rfl ⟨rfl, below_lay HB2.out (Nat.le_succ _) _⟩
  · obtain rfl := h0 k2 k3 (fun h => k1 h.1)
    clear HG h0 h1 h2 h3
    go_enter Tryz.func92, Tryz.ntmps92
    go_wp2_with (refine wpList_store_row rfl 35 _ _ rfl (w.heap.size + 1) #[.bool false, .string ⟨#[]⟩, .bool false, .string ⟨#[]⟩, .int .i64 0] rfl rfl 35 _ HR1.out (by kernel_rfl) rfl (by simp [Value.oneCell']) ?_)
    exact bodyPost_ret (ret_cell2 Tryz.results92 rfl rfl (HR1.out.lay _) Tryz.underlying35 (by kernel_rfl)) rfl ⟨rfl, below_lay HB1.out (Nat.le_succ _) _⟩
end Go.Proofs.YtbbmihojfcofdaaGreatDoor
