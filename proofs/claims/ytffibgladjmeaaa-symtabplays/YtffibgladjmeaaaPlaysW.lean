/-
  The walk of SymtabPlays: whatever values are put, their numbers, and any number's value, are the document's: the law returns true; of old memory nothing turns.
-/
import Derived.Test.YtffibgladjmeaaaSRefPut
namespace Go.Proofs.Ytffibgladjmeaaa
set_option linter.unusedSimpArgs false
set_option linter.unusedVariables false
set_option linter.unusedSectionVars false
open Go.RowKit Go.Maps
variable [DecidableEq V]

set_option maxHeartbeats 3200000 in
set_option maxRecDepth 100000 in
theorem refPut_in {x : Value} {L : List V} {v : V} {w : World} (hx : Vals w x L) (hv : v.Ok) (hbare : ∀ u ∈ L, u.bare = u) (hn : v.bare ∈ L) :
    Calls Try.prog 11 #[x, .agg #[.bool v.k, .string v.s, .int .i64 v.n]] w fun e w' => e = .returned (.tuple #[x, .int .i64 (L.idxOf v.bare : Nat)]) ∧ Below w.heap.size w w' := by
  have hF : Hid (∀ W, Below w.heap.size w W → Calls Try.prog 14 #[x, .agg #[.bool v.k, .string v.s, .int .i64 v.n]] W fun e w' => e = .returned (.tuple #[.int .i64 (L.idxOf v.bare : Nat), .bool true]) ∧ Below W.heap.size W w') := fun W hb => by
    have h1 := refFind_any (hx.below hb) hv hbare
    rwa [at0_in hn, decide_eq_true hn] at h1
  clear hx hv hbare hn
  generalize List.idxOf v.bare L = ix at *
  go_enter Try.func11, Try.ntmps11
  go_wp2_with fail
  refine (hF.out _ ((Below.refl _ _).alloc (Nat.le_refl _) _)).mono ?_
  rintro e w1 ⟨rfl, hb1⟩
  have HB1 : Hid (Below w.heap.size w w1) := ((Below.refl _ _).alloc (Nat.le_refl _) _).trans (hb1.mono (by simp))
  clear hb1
  go_wp2
  go_ret2
  exact ⟨rfl, HB1.out⟩

/-- A list of the call's own that the table doesn't list. -/
def Row (w : World) (F : Nat → Prop) (x : Value) (L : List V) : Prop :=
  w.ownsRow 0 24 3 x L.length (L.flatMap V.cells) ∧ (∀ g, x.ownBlock = some g → ¬ F g) ∧ (∀ v ∈ L, v.Ok) ∧ ∀ u ∈ L, u.bare = u
theorem row_nil (w : World) (F : Nat → Prop) : Row w F (.slice none 0 0) [] := ⟨World.ownsRow_nil _ _ _ _, fun g h => by simp [Value.ownBlock] at h, fun _ h => by simp at h, fun _ h => by simp at h⟩
theorem Row.put {w w' : World} {F F' : Nat → Prop} {x : Value} {L : List V} (h : Row w F x L) (ht : Turns F w w') (hF : ∀ k, F' k → F k ∨ w.heap.size ≤ k) : Row w' F' x L :=
  ⟨ownsRow_block h.1 (fun k hk => ht.block k (h.1.lt k hk).2 (h.2.1 k hk)), fun g hg hF' => (hF g hF').elim (h.2.1 g hg) (fun h' => by have := (h.1.lt g hg).2; omega), h.2.2⟩
theorem Row.below {w w' : World} {F : Nat → Prop} {x : Value} {L : List V} (h : Row w F x L) (hb : Below w.heap.size w w') : Row w' F x L :=
  ⟨ownsRow_block h.1 (fun k hk => hb.block k (h.1.lt k hk).2), h.2⟩
theorem Row.form {w : World} {F : Nat → Prop} {x : Value} {L : List V} (h : Row w F x L) : ∃ ao cap, x = .slice ao L.length cap := by
  rcases h.1.2 with ⟨rfl, hn⟩ | ⟨g, cap, cur, rfl, _⟩
  · exact ⟨none, 0, by rw [hn]⟩
  · exact ⟨_, _, rfl⟩
theorem Row.vals {w : World} {F : Nat → Prop} {x : Value} {L : List V} (h : Row w F x L) : Vals w x L := vals_row h.1 h.2.2.1

theorem refPut_any {x : Value} {L : List V} {v : V} {w : World} {B : Nat} {F : Nat → Prop} {tb : Nat} {M : List V} (hx : Row w F x L) (hT : Tbl w B F tb M) (hv : v.Ok) (hL : L.length < 1000000) :
    Calls Try.prog 11 #[x, .agg #[.bool v.k, .string v.s, .int .i64 v.n]] w
      fun e w' => ∃ x', e = .returned (.tuple #[x', .int .i64 (L.idxOf v.bare : Nat)]) ∧ Below w.heap.size w w' ∧ Row w' F x' (addV L v.bare) := by
  by_cases hm : v.bare ∈ L
  · refine (refPut_in hx.vals hv hx.2.2.2 hm).mono ?_
    rintro e w' ⟨rfl, hb⟩
    exact ⟨x, rfl, hb, by rw [(addV_in hm).1]; exact hx.below hb⟩
  · have hF : ∀ k, F k → k < w.heap.size := by obtain ⟨_, _, _, _, _, _, _, _, _, h7, _⟩ := hT; exact fun k hk => (h7 k hk).2
    have fin : ∀ (e : Ending) (w' : World), (∃ x', e = .returned (.tuple #[x', .int .i64 (L.length : Nat)]) ∧ Below w.heap.size w w' ∧ w'.ownsRow 0 24 3 x' (L.length + 1) (L.flatMap V.cells ++ v.bare.cells) ∧ ∀ g, x'.ownBlock = some g → w.heap.size ≤ g) →
        ∃ x', e = .returned (.tuple #[x', .int .i64 (L.idxOf v.bare : Nat)]) ∧ Below w.heap.size w w' ∧ Row w' F x' (addV L v.bare) := by
      rintro e w' ⟨x', rfl, h1, h2, h3⟩
      refine ⟨x', by rw [(addV_out hm).2], h1, ?_⟩
      rw [(addV_out hm).1]
      refine ⟨by simpa using h2, fun g hg hFg => by have := h3 g hg; have := hF g hFg; omega, fun u hu => ?_, fun u hu => ?_⟩
      · rcases List.mem_append.1 hu with hu | hu
        · exact hx.2.2.1 u hu
        · simp at hu; subst hu; exact hv.bare
      · rcases List.mem_append.1 hu with hu | hu
        · exact hx.2.2.2 u hu
        · simp at hu; subst hu; exact V.bare_bare v
    obtain ⟨k, s, n⟩ := v
    cases k
    · exact (refPut_out_false hx.1 hx.2.2.1 hv hx.2.2.2 hm hL).mono fin
    · exact (refPut_out_true hx.1 hx.2.2.1 hv hx.2.2.2 hm hL).mono fin

/-- A value held against itself. -/
theorem neq_self {v : V} (hv : v.Ok) (w : World) : (binOp .neq 24 (.agg #[.bool v.k, .string v.s, .int .i64 v.n]) (.agg #[.bool v.k, .string v.s, .int .i64 v.n])).run Try.prog w = .ok (.bool false) w := by
  obtain ⟨r, hr, hiff⟩ := run_equal_deep (P := Try.prog) w (m := 3) (by omega) (k := 24) (by kernel_rfl) wideVal (keyVal hv) (keyVal hv)
  have : r = true := hiff.2 rfl
  subst this
  simp [binOp, hr, Result.andThen]

set_option maxHeartbeats 6400000 in
set_option maxRecDepth 100000 in
theorem plays_walk {x : Value} {vs : List V} {v : V} (n : Int) {w : World} (hx : Vals w x vs) (hv : v.Ok) :
    Calls Try.prog 3 #[x, .agg #[.bool v.k, .string v.s, .int .i64 v.n], .int .i64 n] w fun e w' => e = .returned (.bool true) ∧ Below w.heap.size w w' := by
  obtain ⟨ao, cap, rfl, hm⟩ := hx.len
  unfold maxLen at hm
  have HX := Lib.hid hx
  have HV := Lib.hid hv
  have X0 := Lib.hid (Box.new w v)
  clear hx hv
  go_enter Try.func3, Try.ntmps3
  go_wp2_with fail
  refine (shown2_any _).mono ?_
  rintro e w1 ⟨rfl, hb1⟩
  have X1 := Lib.hid (X0.out.below hb1)
  have HB1 : Hid (Below w.heap.size w w1) := ((Below.refl _ _).alloc (Nat.le_refl _) _).trans (hb1.mono (by simp))
  clear hb1 X0
  go_wp2_with fail
  refine (new_at _).mono ?_
  rintro e w2 ⟨tb, F, rfl, hb2, hT2⟩
  have X2 := Lib.hid (X1.out.below hb2)
  have HB2 : Hid (Below w.heap.size w w2) := HB1.out.trans (hb2.mono HB1.out.size)
  have HT2 := Lib.hid hT2
  have hB : Hid (w.heap.size < w1.heap.size) := X1.out.2.2.2
  clear hb2 hT2 HB1 X1
  go_wp2_with fail
  go_loopw [9, 10] (fun xv i wr => ∃ (k : Nat) (L : List V) (F : Nat → Prop) (ao2 : Option Addr) (cap2 : Nat), k ≤ vs.length ∧ k ≤ 200 ∧ L.length ≤ k ∧ i = .int .i64 k ∧ xv = .slice ao2 L.length cap2 ∧ Hid (Row wr F (.slice ao2 L.length cap2) L) ∧ Hid (Tbl wr w1.heap.size F tb L) ∧ Hid (Box wr w.heap.size v) ∧ Hid (Below w.heap.size w wr)) (fun _ i _ => vs.length - (intOf i).toNat)
  case atStart => exact ⟨0, [], F, none, 0, Nat.zero_le _, by omega, by simp, rfl, rfl, row_nil _ _, HT2, X2, HB2⟩
  case round =>
    obtain ⟨k, L, F1, ao2, cap2, hk, hk2, hLk, rfl, rfl, HR, HT, HX1, HB⟩ := hrel
    by_cases hlt : k < vs.length ∧ k < 200
    · obtain ⟨h1, h2⟩ := hlt
      obtain ⟨b, off, rfl, c0, c1, c2, hok, hbl⟩ := HX.out.at HB.out k h1
      have h1I : (k : Int) < (vs.length : Int) := by omega
      have h2I : (k : Int) < 200 := by omega
      generalize hvk : vs[k] = u at *
      go_wp2_with fail
      refine (put_at HT.out hok (by omega)).mono ?_
      rintro e w4 ⟨rfl, ht4, F4, hT4, hF4⟩
      have HB4 : Hid (Below w.heap.size w w4) := HB.out.trans ((HT.out.stay ht4).mono (Nat.le_of_lt hB.out))
      have HX4 := Lib.hid (HX1.out.turns ht4 (fun h => by have := HT.out.base _ h; have := hB.out; omega))
      have HR4 := Lib.hid (HR.out.put ht4 hF4)
      have HT4 := Lib.hid hT4
      obtain ⟨b', off', hao, d0, d1, d2, -, -⟩ := HX.out.at HB4.out k h1
      obtain ⟨rfl, rfl⟩ : b = b' ∧ off = off' := by simpa using hao
      rw [hvk] at d0 d1 d2
      clear ht4 hT4 c0 c1 c2 hF4 hao
      clear hvk
      go_wp2_with fail
      refine (refPut_any HR4.out HT4.out hok (by omega)).mono ?_
      rintro e w5 ⟨x', rfl, hb5, hR5⟩
      have HT5 := Lib.hid (HT4.out.below hb5)
      have HX5 := Lib.hid (HX4.out.below hb5)
      have HB5 : Hid (Below w.heap.size w w5) := HB4.out.trans (hb5.mono HB4.out.size)
      obtain ⟨ao3, cap3, rfl⟩ := hR5.form
      have HR5 := Lib.hid hR5
      have hla := addV_len L u.bare
      clear hb5 hR5 d0 d1 d2
      generalize L.idxOf u.bare = ix
      go_wp2_with (go_at_call 12; refine (len_any HT5.out).mono ?_; rintro e w9 ⟨rfl, rfl⟩)
      go_roundw
      case rel => exact ⟨k + 1, addV L u.bare, F4, ao3, cap3, by omega, by omega, by omega, by go_num, rfl, HR5, HT5, HX5, HB5⟩
      case measure => simp [intOf]; omega
    · have hL2 : L.length ≤ 200 := by omega
      have hout : ¬ (k : Int) < (vs.length : Int) ∨ ((k : Int) < (vs.length : Int) ∧ ¬ (k : Int) < 200) := by omega
      clear hlt hLk hk hk2
      rcases hout with ho | ⟨ho, ho2⟩
      all_goals
        obtain ⟨x0, x1, x2, x3⟩ := HX1.out
        go_wp2_with fail
        refine (find_any HT.out HV.out).mono ?_
        rintro e w5 ⟨rfl, hb5⟩
        have HT5 := Lib.hid (HT.out.below hb5)
        have HX5 := Lib.hid (HX1.out.below hb5)
        have HR5 := Lib.hid (HR.out.below hb5)
        have HB5 : Hid (Below w.heap.size w w5) := HB.out.trans (hb5.mono HB.out.size)
        clear hb5 x0 x1 x2 x3
        obtain ⟨x0, x1, x2, x3⟩ := HX5.out
        go_wp2_with fail
        refine (refFind_any HR5.out.vals HV.out HR5.out.2.2.2).mono ?_
        rintro e w6 ⟨rfl, hb6⟩
        have HT6 := Lib.hid (HT5.out.below hb6)
        have HR6 := Lib.hid (HR5.out.below hb6)
        have HB6 : Hid (Below w.heap.size w w6) := HB5.out.trans (hb6.mono HB5.out.size)
        clear hb6 x0 x1 x2 x3
        generalize at0 L v.bare = q1
        generalize decide (v.bare ∈ L) = q2
        by_cases hin : 0 ≤ n ∧ n < (L.length : Int)
        · obtain ⟨i1, i2⟩ := hin
          obtain ⟨i, rfl⟩ := Int.eq_ofNat_of_zero_le i1
          have i3 : i < L.length := by omega
          obtain ⟨ao', cap', e, -, -, h4⟩ := HR6.out.vals
          injection e with e1 e2 e3
          subst e1
          obtain ⟨b, off, rfl, hbl, c0, c1, c2⟩ := h4 i i3
          have hok := HR6.out.2.2.1 _ (List.getElem_mem i3)
          have hne := neq_self hok
          go_wp2_with fail
          refine (at_yes HT6.out i i3).mono ?_
          rintro e w7 ⟨rfl, hb7⟩
          have HB7 : Hid (Below w.heap.size w w7) := HB6.out.trans (hb7.mono HB6.out.size)
          have hsz := hb7.size
          obtain ⟨hc7, -⟩ := bcell hb7
          have d0 : w7.cell? ⟨b, off + i * 3, none⟩ = some (.bool L[i].k) := (hc7 b _ hbl).trans c0
          have d1 : w7.cell? ⟨b, off + i * 3 + 1, none⟩ = some (.string L[i].s) := (hc7 b _ hbl).trans c1
          have d2 : w7.cell? ⟨b, off + i * 3 + 2, none⟩ = some (.int .i64 L[i].n) := (hc7 b _ hbl).trans c2
          have hbl7 : b < w7.heap.size := by omega
          clear hb7 hc7 c0 c1 c2 h4 e2 e3
          generalize L[i] = y at *
          go_wp2_with fail
          have g0 : decide ((0 : Int) ≤ (i : Int)) = true := by simp
          have g1 : decide ((i : Int) < (L.length : Int)) = true := by simp; omega
          go_quiet (fail)
          go_wp2
          go_ret
          exact ⟨rfl, below_drewN' (HB7.out.alloc (by have := HB7.out.size; omega) _) _⟩
        · have hno : n < 0 ∨ (L.length : Int) ≤ n := by omega
          have HN := Lib.hid hno
          have hne := neq_self (v := ⟨false, ⟨#[]⟩, 0⟩) ⟨by decide, by decide, by decide⟩
          clear hin hno
          by_cases hn0 : 0 ≤ n
          · have g1 : decide (n < (L.length : Int)) = false := by have := HN.out; simp; omega
            have g0 : decide ((0 : Int) ≤ n) = true := by simp [hn0]
            go_wp2_with fail
            refine (at_no HT6.out n HN.out).mono ?_
            rintro e w7 ⟨rfl, hb7⟩
            have HB7 : Hid (Below w.heap.size w w7) := HB6.out.trans (hb7.mono HB6.out.size)
            clear hb7
            go_wp2_with fail
            go_quiet (fail)
            go_wp2
            go_ret
            exact ⟨rfl, below_drewN' (HB7.out.alloc (by have := HB7.out.size; omega) _) _⟩
          · have g0 : decide ((0 : Int) ≤ n) = false := by simp; omega
            go_wp2_with fail
            refine (at_no HT6.out n HN.out).mono ?_
            rintro e w7 ⟨rfl, hb7⟩
            have HB7 : Hid (Below w.heap.size w w7) := HB6.out.trans (hb7.mono HB6.out.size)
            clear hb7
            go_wp2_with fail
            go_quiet (fail)
            go_wp2
            go_ret
            exact ⟨rfl, below_drewN' (HB7.out.alloc (by have := HB7.out.size; omega) _) _⟩
end Go.Proofs.Ytffibgladjmeaaa
