/-
  Contract of reader's token.
-/
import Derived.Test.YtbbmihojfcofdaaGreatDoorKQuo2
import Derived.Test.YtbbmihojfcofdaaGreatDoorKScanP
namespace Go.Proofs.YtbbmihojfcofdaaGreatDoor
set_option linter.unusedSimpArgs false
set_option linter.unusedVariables false
set_option linter.unusedSectionVars false
set_option maxRecDepth 100000
open Go.RowKit

theorem oneL_at {s : ByteArray} {p : Nat} (hp : p < s.size) : oneL (s.data.toList.drop p) =
    if smallQ s[p] then nameL 1 (s.data.toList.drop p) else if greatQ s[p] then nameL 2 (s.data.toList.drop p) else if s[p] = 39 then quoL (s.data.toList.drop p)
    else if (figureQ s[p] || (s[p] == 45 && decide (0 < runLen figureQ (s.data.toList.drop (p + 1))))) = true then numL (s.data.toList.drop p) else markL (s.data.toList.drop p) := by
  unfold oneL oneC
  have e1 : (s.data.toList.drop p).headD 0 = s[p] := by rw [drop_at hp]; rfl
  rw [e1, List.tail_drop]
theorem ask_at {F : Nat → Prop} {w0 : World} {k : FuncId} {fi ca : Array Value} {f : UInt8 → Bool} (hq : ∀ w, Turns F w0 w → ∀ c : UInt8, Calls Tryz.prog k (fi.push (.int .u8 (c.toNat : Int)) ++ ca) w fun e w' => e = .returned (.bool (f c)) ∧ Below w.heap.size w w')
    (c : UInt8) {b : Bool} (hb : f c = b) (W : World) (hW : Below w0.heap.size w0 W) : Calls Tryz.prog k (fi.push (.int .u8 (c.toNat : Int)) ++ ca) W fun e w' => e = .returned (.bool b) ∧ Below w0.heap.size w0 w' := by
  refine (hq W (Turns.of_below hW) c).mono ?_
  rintro e w' ⟨rfl, h⟩
  exact ⟨by rw [hb], hW.trans (h.mono hW.size)⟩
theorem two_keepT {w W w' : World} {g i j : Nat} {u v : Value} (h : W.cell? ⟨g, i, none⟩ = some u ∧ W.cell? ⟨g, j, none⟩ = some v ∧ g < W.heap.size ∧ Below w.heap.size w W) (hb : Below W.heap.size W w') :
    w'.cell? ⟨g, i, none⟩ = some u ∧ w'.cell? ⟨g, j, none⟩ = some v ∧ g < w'.heap.size ∧ Below w.heap.size w w' := by
  obtain ⟨h1, h2, h3, h4⟩ := h
  exact ⟨(hb.cell (p := ⟨g, i, none⟩) h3).trans h1, (hb.cell (p := ⟨g, j, none⟩) h3).trans h2, Nat.lt_of_lt_of_le h3 hb.size, h4.trans (hb.mono h4.size)⟩
/-- What the last call of token leaves. -/
theorem left_then {n rb : Nat} {s : ByteArray} {p : Nat} {g : Got} {w w0 W : World} {e : Ending} {w' : World} (h0 : Left n rb w w0) (hb : Below w0.heap.size w0 W) (hne : rb < w.heap.size) (h : TokOut n rb s p g W e w') :
    e = .returned (.tuple #[g.tok.val, .int .i64 (g.bad : Int)]) ∧ Left n rb w w' ∧ (g.bad = 0 → Rdr n w' rb s (p + g.len)) := by
  obtain ⟨h1, h2, h3⟩ := h
  have l1 := h0.below hb
  exact ⟨h1, ⟨l1.turns.then h2, l1.fresh.turns h2 (by omega)⟩, h3⟩

set_option maxHeartbeats 8000000 in
theorem token_any {w : World} {n rb : Nat} {s : ByteArray} {p : Nat} (hR : Rdr n w rb s p) (hs : s.size ≤ 65536) (hp : p < s.size) (hENV : Env w) (h7 : 8 ≤ rb) :
    Calls Tryz.prog 85 #[.pointer (some ⟨rb, 0, none⟩)] w fun e w' => TokOut n rb s p (oneL (s.data.toList.drop p)) w e w' := by
  have HL0 : Hid (Left n rb w (w.alloc (.cells #[.int .i64 0, .string ⟨#[]⟩, .int .i64 0, .bool false, .int .i64 0] 110))) := Left.new w
  have hb0 : Below w.heap.size w (w.alloc (.cells #[.int .i64 0, .string ⟨#[]⟩, .int .i64 0, .bool false, .int .i64 0] 110)) := (Below.refl _ _).alloc (Nat.le_refl _) _
  have hR0 := hR.below hb0
  have HN : Hid (n ≤ w.heap.size) := hR.2.1
  have HRB : Hid (rb < w.heap.size) := hR.lt
  obtain ⟨w0, hw0⟩ : ∃ w0, w0 = w.alloc (.cells #[.int .i64 0, .string ⟨#[]⟩, .int .i64 0, .bool false, .int .i64 0] 110) := ⟨_, rfl⟩
  rw [← hw0] at hR0 HL0
  have HW0 := Lib.hid hw0
  clear hw0 hb0 hR
  obtain ⟨q2, q3, q4, q5, q6, q7, c0, c1, -, -, c4, c5, c6, -, f1, -, -, a4, a5, a6, -⟩ := hR0.cells
  have hrb0 := hR0.lt
  have HR0 := Lib.hid hR0
  have i3 : (s.size : Int) ≤ 65536 := by omega
  have hltI : (p : Int) < (s.size : Int) := by omega
  obtain ⟨p1, hp1⟩ : ∃ p1, p1 = p + 1 := ⟨_, rfl⟩
  obtain ⟨E, hE⟩ : ∃ E, E = p1 + runLen figureQ (s.data.toList.drop p1) := ⟨_, rfl⟩
  have HEND : Hid (∀ W, Below w0.heap.size w0 W → Calls Tryz.prog 107 #[.pointer (some ⟨rb, 0, none⟩), .int .i64 (p1 : Int), q6] W fun e w' => e = .returned (.int .i64 (E : Int)) ∧ Below W.heap.size W w') := fun W hb => by
    obtain ⟨y2, y3, y4, y5, y6, y7, x0, -⟩ := (hR0.below hb).cells
    rw [hE]
    exact end_any s p1 W hs (by omega) x0 (a6.on (Turns.of_below hb))
  obtain ⟨k4, fi4, ca4, rfl, he4, hq4⟩ := a4
  obtain ⟨k5, fi5, ca5, rfl, he5, hq5⟩ := a5
  obtain ⟨k6, fi6, ca6, rfl, he6, hq6⟩ := a6
  have hone := oneL_at hp
  have HNM := Lib.hid (fun kind W (hb : Below w0.heap.size w0 W) => name_any (HR0.out.below hb) hs (Nat.le_of_lt hp) kind)
  have HQU := Lib.hid (fun W (hb : Below w0.heap.size w0 W) => quotedR_any (HR0.out.below hb) hs hp)
  have HNU := Lib.hid (fun W (hb : Below w0.heap.size w0 W) => number_any (HR0.out.below hb) hs hp ((HL0.out.below hb).env hENV h7) h7)
  have HMK := Lib.hid (fun W (hb : Below w0.heap.size w0 W) => mark_any (HR0.out.below hb) hs (Nat.le_of_lt hp) ((HL0.out.below hb).env hENV h7))
  have hpp : (p : Int) + 1 = (p1 : Int) := by omega
  have hw1 : IntKind.i64.wrap ((p : Int) + 1) = (p1 : Int) := by rw [IntKind.wrap_i64]; omega
  have hp1b : (p1 : Int) ≤ 65536 := by omega
  have hw3 : IntKind.i64.wrap (p1 : Int) = (p1 : Int) := by rw [IntKind.wrap_i64]; omega
  obtain ⟨l, hl⟩ : ∃ l, l = s.data.toList.drop p := ⟨_, rfl⟩
  rw [← hp1] at hone
  rw [← hl] at hone HNM HQU HNU HMK
  rw [← hl]
  have HE := Lib.hid hE
  clear hl hp1 hE hR0 hs
  by_cases h1 : smallQ s[p] = true
  · rw [if_pos h1] at hone
    have HA4 := Lib.hid (fun W hW => ask_at hq4 s[p] h1 W hW)
    clear h1 hq4 hq5 hq6 he5 he6 HEND
    obtain ⟨g, hg⟩ : ∃ g, g = nameL 1 l := ⟨_, rfl⟩
    have HGL := Lib.hid (fun W hb => HNM.out 1 W hb)
    rw [← hg] at HGL hone
    rw [hone]
    clear hg hone HNM HQU HNU HMK
    go_enter Tryz.func85, Tryz.ntmps85
    go_wp2_with fail
    rw [← HW0.out]
    clear HW0
    go_quiet (fail)
    go_wp2_with (first | (go_at_fn k4; refine (HA4.out _ (below_drewN _ _)).mono ?_; rintro e w1 ⟨rfl, hb1⟩; have HB1 := Lib.hid hb1; clear hb1) | (go_at_call 108; refine ((HGL.out) _ HB1.out).mono ?_; intro e wz hz; obtain ⟨rfl, HLZ, HRZ⟩ : e = _ ∧ Hid (Left n rb w wz) ∧ Hid (g.bad = 0 → Rdr n wz rb s (p + g.len)) := left_then HL0.out HB1.out HRB.out hz; clear hz; obtain ⟨bd, ⟨kd, st, nn, qq, pp⟩, ln⟩ := g; simp only [Tk.val]; obtain ⟨g0, g1, g2, g3, g4, k0', k1', k2', k3', k4'⟩ := HLZ.out.fresh.cells))
    obtain ⟨r0, r1, r2, r3, r4⟩ := lay5_cells HLZ.out.fresh ⟨kd, st, nn, qq, pp⟩
    refine bodyPost_ret (w := lay5 wz w.heap.size ⟨kd, st, nn, qq, pp⟩) (v := .tuple #[(⟨kd, st, nn, qq, pp⟩ : Tk).val, .int .i64 (bd : Int)]) ?_ rfl ?_
    · simp [results, Tryz.results85, go_sem, r0, r1, r2, r3, r4, Tk.val]
    · exact HLZ.out.out HN.out HRZ.out rfl
  rw [if_neg h1] at hone
  have h1' : smallQ s[p] = false := by simpa using h1
  have HA4 := Lib.hid (fun W hW => ask_at hq4 s[p] h1' W hW)
  clear h1 h1' hq4
  by_cases h2 : greatQ s[p] = true
  · rw [if_pos h2] at hone
    have HA5 := Lib.hid (fun W hW => ask_at hq5 s[p] h2 W hW)
    clear h2 hq5 hq6 he6 HEND
    obtain ⟨g, hg⟩ : ∃ g, g = nameL 2 l := ⟨_, rfl⟩
    have HGL := Lib.hid (fun W hb => HNM.out 2 W hb)
    rw [← hg] at HGL hone
    rw [hone]
    clear hg hone HNM HQU HNU HMK
    go_enter Tryz.func85, Tryz.ntmps85
    go_wp2_with fail
    rw [← HW0.out]
    clear HW0
    go_quiet (fail)
    go_wp2_with (first | (go_at_fn k4; refine (HA4.out _ (below_drewN _ _)).mono ?_; rintro e w1 ⟨rfl, hb1⟩; have HB1 := Lib.hid hb1; clear hb1; have d51 := (HB1.out.cell (p := ⟨rb, 5, none⟩) hrb0).trans c5) | (go_at_fn k5; refine (HA5.out _ HB1.out).mono ?_; rintro e w2 ⟨rfl, hb2⟩; have HB2 := Lib.hid hb2; clear hb2) | (go_at_call 108; refine ((HGL.out) _ HB2.out).mono ?_; intro e wz hz; obtain ⟨rfl, HLZ, HRZ⟩ : e = _ ∧ Hid (Left n rb w wz) ∧ Hid (g.bad = 0 → Rdr n wz rb s (p + g.len)) := left_then HL0.out HB2.out HRB.out hz; clear hz; obtain ⟨bd, ⟨kd, st, nn, qq, pp⟩, ln⟩ := g; simp only [Tk.val]; obtain ⟨g0, g1, g2, g3, g4, k0', k1', k2', k3', k4'⟩ := HLZ.out.fresh.cells))
    obtain ⟨r0, r1, r2, r3, r4⟩ := lay5_cells HLZ.out.fresh ⟨kd, st, nn, qq, pp⟩
    refine bodyPost_ret (w := lay5 wz w.heap.size ⟨kd, st, nn, qq, pp⟩) (v := .tuple #[(⟨kd, st, nn, qq, pp⟩ : Tk).val, .int .i64 (bd : Int)]) ?_ rfl ?_
    · simp [results, Tryz.results85, go_sem, r0, r1, r2, r3, r4, Tk.val]
    · exact HLZ.out.out HN.out HRZ.out rfl
  rw [if_neg h2] at hone
  have h2' : greatQ s[p] = false := by simpa using h2
  have HA5 := Lib.hid (fun W hW => ask_at hq5 s[p] h2' W hW)
  clear h2 h2' hq5
  by_cases h3 : s[p] = 39
  · rw [if_pos h3] at hone
    have b1 : ((s[p].toNat : Int) == 39) = true := beqI (m := 39) (by decide) h3
    clear h3 hq6 he6 HEND
    obtain ⟨g, hg⟩ : ∃ g, g = quoL l := ⟨_, rfl⟩
    have HGL := Lib.hid (fun W hb => HQU.out W hb)
    rw [← hg] at HGL hone
    rw [hone]
    clear hg hone HNM HQU HNU HMK
    go_enter Tryz.func85, Tryz.ntmps85
    go_wp2_with fail
    rw [← HW0.out]
    clear HW0
    go_quiet (fail)
    go_wp2_with (first | (go_at_fn k4; refine (HA4.out _ (below_drewN _ _)).mono ?_; rintro e w1 ⟨rfl, hb1⟩; have HB1 := Lib.hid hb1; clear hb1; have d51 := (HB1.out.cell (p := ⟨rb, 5, none⟩) hrb0).trans c5) | (go_at_fn k5; refine (HA5.out _ HB1.out).mono ?_; rintro e w2 ⟨rfl, hb2⟩; have HB2 := Lib.hid hb2; clear hb2) | (go_at_call 109; refine ((HGL.out) _ HB2.out).mono ?_; intro e wz hz; obtain ⟨rfl, HLZ, HRZ⟩ : e = _ ∧ Hid (Left n rb w wz) ∧ Hid (g.bad = 0 → Rdr n wz rb s (p + g.len)) := left_then HL0.out HB2.out HRB.out hz; clear hz; obtain ⟨bd, ⟨kd, st, nn, qq, pp⟩, ln⟩ := g; simp only [Tk.val]; obtain ⟨g0, g1, g2, g3, g4, k0', k1', k2', k3', k4'⟩ := HLZ.out.fresh.cells))
    obtain ⟨r0, r1, r2, r3, r4⟩ := lay5_cells HLZ.out.fresh ⟨kd, st, nn, qq, pp⟩
    refine bodyPost_ret (w := lay5 wz w.heap.size ⟨kd, st, nn, qq, pp⟩) (v := .tuple #[(⟨kd, st, nn, qq, pp⟩ : Tk).val, .int .i64 (bd : Int)]) ?_ rfl ?_
    · simp [results, Tryz.results85, go_sem, r0, r1, r2, r3, r4, Tk.val]
    · exact HLZ.out.out HN.out HRZ.out rfl
  rw [if_neg h3] at hone
  have b1 : ((s[p].toNat : Int) == 39) = false := neqI (m := 39) h3
  clear h3
  by_cases h4 : figureQ s[p] = true
  · rw [h4, Bool.true_or, if_pos rfl] at hone
    have HA6 := Lib.hid (fun W hW => ask_at hq6 s[p] h4 W hW)
    clear h4 hq6 HEND
    obtain ⟨g, hg⟩ : ∃ g, g = numL l := ⟨_, rfl⟩
    have HGL := Lib.hid (fun W hb => HNU.out W hb)
    rw [← hg] at HGL hone
    rw [hone]
    clear hg hone HNM HQU HNU HMK
    go_enter Tryz.func85, Tryz.ntmps85
    go_wp2_with fail
    rw [← HW0.out]
    clear HW0
    go_quiet (fail)
    go_wp2_with (first | (go_at_fn k4; refine (HA4.out _ (below_drewN _ _)).mono ?_; rintro e w1 ⟨rfl, hb1⟩; have HB1 := Lib.hid hb1; clear hb1; have d51 := (HB1.out.cell (p := ⟨rb, 5, none⟩) hrb0).trans c5) | (go_at_fn k5; refine (HA5.out _ HB1.out).mono ?_; rintro e w2 ⟨rfl, hb2⟩; have HB2 := Lib.hid hb2; clear hb2; have d62 := (HB2.out.cell (p := ⟨rb, 6, none⟩) hrb0).trans c6) | (go_at_fn k6; refine (HA6.out _ HB2.out).mono ?_; rintro e w3 ⟨rfl, hb3⟩; have HB3 := Lib.hid hb3; clear hb3; have d13 := (HB3.out.cell (p := ⟨rb, 1, none⟩) hrb0).trans c1; have d63 := (HB3.out.cell (p := ⟨rb, 6, none⟩) hrb0).trans c6) | (go_at_call 110; refine ((HGL.out) _ HB3.out).mono ?_; intro e wz hz; obtain ⟨rfl, HLZ, HRZ⟩ : e = _ ∧ Hid (Left n rb w wz) ∧ Hid (g.bad = 0 → Rdr n wz rb s (p + g.len)) := left_then HL0.out HB3.out HRB.out hz; clear hz; obtain ⟨bd, ⟨kd, st, nn, qq, pp⟩, ln⟩ := g; simp only [Tk.val]; obtain ⟨g0, g1, g2, g3, g4, k0', k1', k2', k3', k4'⟩ := HLZ.out.fresh.cells))
    obtain ⟨r0, r1, r2, r3, r4⟩ := lay5_cells HLZ.out.fresh ⟨kd, st, nn, qq, pp⟩
    refine bodyPost_ret (w := lay5 wz w.heap.size ⟨kd, st, nn, qq, pp⟩) (v := .tuple #[(⟨kd, st, nn, qq, pp⟩ : Tk).val, .int .i64 (bd : Int)]) ?_ rfl ?_
    · simp [results, Tryz.results85, go_sem, r0, r1, r2, r3, r4, Tk.val]
    · exact HLZ.out.out HN.out HRZ.out rfl
  have h4' : figureQ s[p] = false := by simpa using h4
  have HA6 := Lib.hid (fun W hW => ask_at hq6 s[p] h4' W hW)
  rw [h4', Bool.false_or] at hone
  clear h4 h4' hq6
  by_cases h5 : s[p] = 45
  · have b2 : ((s[p].toNat : Int) == 45) = true := beqI (m := 45) (by decide) h5
    have e5 : (s[p] == 45) = true := by simpa using h5
    rw [e5, Bool.true_and] at hone
    clear e5 h5
    by_cases h6 : 0 < runLen figureQ (s.data.toList.drop p1)
    · rw [decide_eq_true h6, if_pos rfl] at hone
      have hgt : (p1 : Int) < (E : Int) := by have := HE.out; omega
      have hdg : decide ((p1 : Int) < (E : Int)) = true := decide_eq_true hgt
      clear h6
      obtain ⟨g, hg⟩ : ∃ g, g = numL l := ⟨_, rfl⟩
      have HGL := Lib.hid (fun W hb => HNU.out W hb)
      rw [← hg] at HGL hone
      rw [hone]
      clear hg hone HNM HQU HNU HMK
      go_enter Tryz.func85, Tryz.ntmps85
      go_wp2_with fail
      rw [← HW0.out]
      clear HW0
      go_quiet (fail)
      go_wp2_with (first | (go_at_fn k4; refine (HA4.out _ (below_drewN _ _)).mono ?_; rintro e w1 ⟨rfl, hb1⟩; have HB1 := Lib.hid hb1; clear hb1; have d51 := (HB1.out.cell (p := ⟨rb, 5, none⟩) hrb0).trans c5) | (go_at_fn k5; refine (HA5.out _ HB1.out).mono ?_; rintro e w2 ⟨rfl, hb2⟩; have HB2 := Lib.hid hb2; clear hb2; have d62 := (HB2.out.cell (p := ⟨rb, 6, none⟩) hrb0).trans c6) | (go_at_fn k6; refine (HA6.out _ HB2.out).mono ?_; rintro e w3 ⟨rfl, hb3⟩; have HB3 := Lib.hid hb3; clear hb3; have d13 := (HB3.out.cell (p := ⟨rb, 1, none⟩) hrb0).trans c1; have d63 := (HB3.out.cell (p := ⟨rb, 6, none⟩) hrb0).trans c6))
      go_region_held3 (fun w' => w'.cell? ⟨rb, 1, none⟩ = some (.int .i64 (p : Int)) ∧ w'.cell? ⟨rb, 6, none⟩ = some (.func (.func k6) fi6 ca6) ∧ rb < w'.heap.size ∧ Below w0.heap.size w0 w') (first | assumption | exact two_keepT (by assumption) hbN | exact ⟨d13, d63, Nat.lt_of_lt_of_le hrb0 HB3.out.size, HB3.out.drew⟩) (first | (go_at_call 107; refine (HEND.out _ (by go_split_ands; assumption)).mono ?_; rintro e w' ⟨rfl, hbN⟩))
      go_split_ands
      rename_i y0 y1 y2 y3
      have HB4 := Lib.hid y3
      clear y0 y1 y2 y3
      go_wp2_with ((go_at_call 110; refine ((HGL.out) _ HB4.out).mono ?_; intro e wz hz; obtain ⟨rfl, HLZ, HRZ⟩ : e = _ ∧ Hid (Left n rb w wz) ∧ Hid (g.bad = 0 → Rdr n wz rb s (p + g.len)) := left_then HL0.out HB4.out HRB.out hz; clear hz; obtain ⟨bd, ⟨kd, st, nn, qq, pp⟩, ln⟩ := g; simp only [Tk.val]; obtain ⟨g0, g1, g2, g3, g4, k0', k1', k2', k3', k4'⟩ := HLZ.out.fresh.cells))
      obtain ⟨r0, r1, r2, r3, r4⟩ := lay5_cells HLZ.out.fresh ⟨kd, st, nn, qq, pp⟩
      refine bodyPost_ret (w := lay5 wz w.heap.size ⟨kd, st, nn, qq, pp⟩) (v := .tuple #[(⟨kd, st, nn, qq, pp⟩ : Tk).val, .int .i64 (bd : Int)]) ?_ rfl ?_
      · simp [results, Tryz.results85, go_sem, r0, r1, r2, r3, r4, Tk.val]
      · exact HLZ.out.out HN.out HRZ.out rfl
    · rw [decide_eq_false h6, if_neg (by decide)] at hone
      have hgt : ¬ (p1 : Int) < (E : Int) := by have := HE.out; omega
      have hdg : decide ((p1 : Int) < (E : Int)) = false := decide_eq_false hgt
      clear h6
      obtain ⟨g, hg⟩ : ∃ g, g = markL l := ⟨_, rfl⟩
      have HGL := Lib.hid (fun W hb => HMK.out W hb)
      rw [← hg] at HGL hone
      rw [hone]
      clear hg hone HNM HQU HNU HMK
      go_enter Tryz.func85, Tryz.ntmps85
      go_wp2_with fail
      rw [← HW0.out]
      clear HW0
      go_quiet (fail)
      go_wp2_with (first | (go_at_fn k4; refine (HA4.out _ (below_drewN _ _)).mono ?_; rintro e w1 ⟨rfl, hb1⟩; have HB1 := Lib.hid hb1; clear hb1; have d51 := (HB1.out.cell (p := ⟨rb, 5, none⟩) hrb0).trans c5) | (go_at_fn k5; refine (HA5.out _ HB1.out).mono ?_; rintro e w2 ⟨rfl, hb2⟩; have HB2 := Lib.hid hb2; clear hb2; have d62 := (HB2.out.cell (p := ⟨rb, 6, none⟩) hrb0).trans c6) | (go_at_fn k6; refine (HA6.out _ HB2.out).mono ?_; rintro e w3 ⟨rfl, hb3⟩; have HB3 := Lib.hid hb3; clear hb3; have d13 := (HB3.out.cell (p := ⟨rb, 1, none⟩) hrb0).trans c1; have d63 := (HB3.out.cell (p := ⟨rb, 6, none⟩) hrb0).trans c6))
      go_region_held3 (fun w' => w'.cell? ⟨rb, 1, none⟩ = some (.int .i64 (p : Int)) ∧ w'.cell? ⟨rb, 6, none⟩ = some (.func (.func k6) fi6 ca6) ∧ rb < w'.heap.size ∧ Below w0.heap.size w0 w') (first | assumption | exact two_keepT (by assumption) hbN | exact ⟨d13, d63, Nat.lt_of_lt_of_le hrb0 HB3.out.size, HB3.out.drew⟩) (first | (go_at_call 107; refine (HEND.out _ (by go_split_ands; assumption)).mono ?_; rintro e w' ⟨rfl, hbN⟩))
      go_split_ands
      rename_i y0 y1 y2 y3
      have HB4 := Lib.hid y3
      clear y0 y1 y2 y3
      go_wp2_with ((go_at_call 111; refine ((HGL.out) _ HB4.out).mono ?_; intro e wz hz; obtain ⟨rfl, HLZ, HRZ⟩ : e = _ ∧ Hid (Left n rb w wz) ∧ Hid (g.bad = 0 → Rdr n wz rb s (p + g.len)) := left_then HL0.out HB4.out HRB.out hz; clear hz; obtain ⟨bd, ⟨kd, st, nn, qq, pp⟩, ln⟩ := g; simp only [Tk.val]; obtain ⟨g0, g1, g2, g3, g4, k0', k1', k2', k3', k4'⟩ := HLZ.out.fresh.cells))
      obtain ⟨r0, r1, r2, r3, r4⟩ := lay5_cells HLZ.out.fresh ⟨kd, st, nn, qq, pp⟩
      refine bodyPost_ret (w := lay5 wz w.heap.size ⟨kd, st, nn, qq, pp⟩) (v := .tuple #[(⟨kd, st, nn, qq, pp⟩ : Tk).val, .int .i64 (bd : Int)]) ?_ rfl ?_
      · simp [results, Tryz.results85, go_sem, r0, r1, r2, r3, r4, Tk.val]
      · exact HLZ.out.out HN.out HRZ.out rfl
  · have b2 : ((s[p].toNat : Int) == 45) = false := neqI (m := 45) h5
    have e5 : (s[p] == 45) = false := by simpa using h5
    rw [e5, Bool.false_and, if_neg (by decide)] at hone
    clear e5 h5 HEND
    obtain ⟨g, hg⟩ : ∃ g, g = markL l := ⟨_, rfl⟩
    have HGL := Lib.hid (fun W hb => HMK.out W hb)
    rw [← hg] at HGL hone
    rw [hone]
    clear hg hone HNM HQU HNU HMK
    go_enter Tryz.func85, Tryz.ntmps85
    go_wp2_with fail
    rw [← HW0.out]
    clear HW0
    go_quiet (fail)
    go_wp2_with (first | (go_at_fn k4; refine (HA4.out _ (below_drewN _ _)).mono ?_; rintro e w1 ⟨rfl, hb1⟩; have HB1 := Lib.hid hb1; clear hb1; have d51 := (HB1.out.cell (p := ⟨rb, 5, none⟩) hrb0).trans c5) | (go_at_fn k5; refine (HA5.out _ HB1.out).mono ?_; rintro e w2 ⟨rfl, hb2⟩; have HB2 := Lib.hid hb2; clear hb2; have d62 := (HB2.out.cell (p := ⟨rb, 6, none⟩) hrb0).trans c6) | (go_at_fn k6; refine (HA6.out _ HB2.out).mono ?_; rintro e w3 ⟨rfl, hb3⟩; have HB3 := Lib.hid hb3; clear hb3; have d13 := (HB3.out.cell (p := ⟨rb, 1, none⟩) hrb0).trans c1; have d63 := (HB3.out.cell (p := ⟨rb, 6, none⟩) hrb0).trans c6))
    go_quiet (fail)
    have HB4 := Lib.hid (HB3.out.trans ((below_drewN w3 nq).mono HB3.out.size))
    go_wp2_with ((go_at_call 111; refine ((HGL.out) _ HB4.out).mono ?_; intro e wz hz; obtain ⟨rfl, HLZ, HRZ⟩ : e = _ ∧ Hid (Left n rb w wz) ∧ Hid (g.bad = 0 → Rdr n wz rb s (p + g.len)) := left_then HL0.out HB4.out HRB.out hz; clear hz; obtain ⟨bd, ⟨kd, st, nn, qq, pp⟩, ln⟩ := g; simp only [Tk.val]; obtain ⟨g0, g1, g2, g3, g4, k0', k1', k2', k3', k4'⟩ := HLZ.out.fresh.cells))
    obtain ⟨r0, r1, r2, r3, r4⟩ := lay5_cells HLZ.out.fresh ⟨kd, st, nn, qq, pp⟩
    refine bodyPost_ret (w := lay5 wz w.heap.size ⟨kd, st, nn, qq, pp⟩) (v := .tuple #[(⟨kd, st, nn, qq, pp⟩ : Tk).val, .int .i64 (bd : Int)]) ?_ rfl ?_
    · simp [results, Tryz.results85, go_sem, r0, r1, r2, r3, r4, Tk.val]
    · exact HLZ.out.out HN.out HRZ.out rfl
end Go.Proofs.YtbbmihojfcofdaaGreatDoor
