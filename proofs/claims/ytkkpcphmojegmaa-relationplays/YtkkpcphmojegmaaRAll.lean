/-
  Contracts of a relation's turned, All, Delta, told by its rows; of no relation: Turn, Len, All, Delta, Match.
-/
import Derived.Test.YtkkpcphmojegmaaRTell2
import Derived.Test.YtkkpcphmojegmaaRSmall
import Derived.Laws.Slices
namespace Go.Proofs.Ytkkpcphmojegmaa
set_option linter.unusedSimpArgs false
set_option linter.unusedVariables false
set_option linter.unusedSectionVars false
set_option maxRecDepth 100000
open Go.RowKit Go.Maps
variable [DecidableEq V]

theorem sizeNum (w : World) : (sizeOf (Try.prog.elem 67)).run Try.prog w = .ok 6 w := by kernel_rfl
theorem elemNum : Try.prog.underlying 67 = some (.slice (Try.prog.elem 67)) := by kernel_rfl
theorem Mtx.form {w : World} {ao : Option Addr} {n c : Nat} {QS : List (List Nat)} (h : Mtx w (.slice ao n c) QS) : n = QS.length ∧ (0 < QS.length → ∃ b off, ao = some ⟨b, off, none⟩) := by
  obtain ⟨ao', cap', e, h2, h4⟩ := h
  injection e with e1 e2 e3
  subst e1
  exact ⟨e2, fun h0 => let ⟨b, off, e, _⟩ := h4 0 h0; ⟨b, off, e⟩⟩
theorem Mtx.none (w : World) (ao : Option Addr) (c : Nat) : Mtx w (.slice ao 0 c) [] := ⟨ao, c, rfl, Nat.zero_le _, fun i hi => absurd hi (by simp)⟩
/-- A cut of a list of rows. -/
theorem cut_num {w : World} {ro : Option Addr} {rc a b : Nat} {QS : List (List Nat)} (h : Mtx w (.slice ro QS.length rc) QS) (hcap : QS.length ≤ rc) (hab : a ≤ b) (hb : b ≤ QS.length) :
    ∃ y, Mtx w y ((QS.drop a).take (b - a)) ∧ (∃ yo yc, y = .slice yo (b - a) yc) ∧ ∀ W, (Instr.slice 67 (.slice ro QS.length rc) (some (.int .i64 (a : Int))) (some (.int .i64 (b : Int))) none).run Try.prog W = .ok y W := by
  have hrun : ∀ W, (Instr.slice 67 (.slice ro QS.length rc) (some (.int .i64 (a : Int))) (some (.int .i64 (b : Int))) none).run Try.prog W = .ok (sliced ro a b rc 6) W := fun W => by
    rw [run_slice_lh (P := Try.prog) W _ _ _ _ elemNum .i64 .i64 (a : Int) (b : Int) (by omega) (by omega) (by omega), sizeNum]
    simp [Result.andThen]
  refine ⟨_, ?_, ⟨_, _, rfl⟩, hrun⟩
  by_cases h0 : b - a = 0
  · rw [h0]; simp only [List.take_zero]; exact Mtx.none _ _ _
  · obtain ⟨g, off, rfl⟩ := h.form.2 (by omega)
    rw [if_neg (by omega)]
    have := h.piece (i := a) (m := b - a) (c' := rc - a) (by omega)
    have e : (some (⟨g, off, none⟩ : Addr)).map (·.add (a * 6)) = some ⟨g, off + a * 6, none⟩ := by rw [Option.map_some, add_none]
    rw [e]; exact this
theorem Rl.cap {w : World} {B : Nat} {FT FR : Nat → Prop} {rb ar : Nat} {L : List V} {RS : List (List Nat)} {to : Option Nat} {ro : Option Addr} {n rc : Nat} {s1 s2 : Nat} (h : Rl w B FT FR rb ar L RS to (.slice ro n rc) s1 s2) : RS.length ≤ rc := by
  rcases h.row.2 with ⟨h1, h2⟩ | ⟨g, cap, cur, h1, h2, h3, h4, h5, h6, h7⟩
  · omega
  · injection h1 with e1 e2 e3
    omega

set_option maxHeartbeats 800000 in
theorem turned_rel {w : World} {B : Nat} {FT FR : Nat → Prop} {rb ar : Nat} {L : List V} {RS : List (List Nat)} {to : Option Nat} {rv : Value} {s1 s2 : Nat} (hR : Rl w B FT FR rb ar L RS to rv s1 s2) (hm : RS.length ≤ 1000000) (o : Bool) :
    Calls Try.prog 28 #[.pointer (some ⟨rb, 0, none⟩), .int .i64 (if o then 1 else 0)] w fun e w' => ∃ y yo yc, e = .returned y ∧ y = .slice yo (s2 - (if o then s1 else 0)) yc ∧ Below w.heap.size w w' ∧ Mtx w' y ((RS.drop (if o then s1 else 0)).take (s2 - (if o then s1 else 0))) := by
  obtain ⟨ro, rc, rfl⟩ := hR.form
  obtain ⟨c2, c3, c4, c5, c6, c7, hrb, -⟩ := hR.cells
  have hc := hR.cap
  obtain ⟨y, hy, ⟨yo, yc, e⟩, hrun⟩ := cut_num (a := if o then s1 else 0) (b := s2) hR.mtx hc (by split <;> have := hR.h1 <;> omega) hR.h2
  have HY := Lib.hid hy
  have HEND : Hid (∀ W, Below w.heap.size w W → ∃ y' yo yc, Ending.returned y = .returned y' ∧ y' = .slice yo (s2 - (if o then s1 else 0)) yc ∧ Below w.heap.size w W ∧ Mtx W y' ((RS.drop (if o then s1 else 0)).take (s2 - (if o then s1 else 0)))) := fun W hb => ⟨y, yo, yc, rfl, e, hb, by
    obtain ⟨ao, cap, h1, h2, h4⟩ := HY.out
    exact ⟨ao, cap, h1, h2, fun i hi => let ⟨b, off, e, hlt, hc⟩ := h4 i hi; ⟨b, off, e, Nat.lt_of_lt_of_le hlt hb.size, fun j u hj => (hb.cell (p := ⟨b, off + i * 6 + j, none⟩) hlt).trans (hc j u hj)⟩⟩⟩
  clear hy hR hc e HY hm
  cases o with
  | true =>
    simp only [if_true] at *
    go_enter Try.func28, Try.ntmps28
    go_wp2_with fail
    go_quiet (fail)
    go_wp2
    go_ret
    exact HEND.out _ (below_drewN' (Below.refl _ _) _)
  | false =>
    simp only [Bool.false_eq_true, if_false, Int.natCast_zero] at *
    go_enter Try.func28, Try.ntmps28
    go_wp2_with fail
    go_quiet (fail)
    go_wp2
    go_ret
    exact HEND.out _ (below_drewN' (Below.refl _ _) _)

set_option maxHeartbeats 800000 in
theorem all_rln {w : World} {B : Nat} {F : Nat → Prop} {rb ar c : Nat} {M : List (List V)} {s1 s2 : Nat} (hR : Rln w B F rb ar c M s1 s2) (hc : c < 10000) :
    Calls Try.prog 19 #[.pointer (some ⟨rb, 0, none⟩)] w fun e w' => SortOut w M e w' := by
  obtain ⟨FT, FR, L, RS, to, rv, h1, h2, h3, h4, h5⟩ := hR
  obtain ⟨c2, c3, c4, c5, c6, c7, hrb, -⟩ := h1.cells
  have hT := Lib.hid (tell_rel h1 h1.mtx (fun _ h => h) (by omega) (by omega))
  obtain ⟨ro, rc, rfl⟩ := h1.form
  rw [h3]
  clear h1 h2 h3 h4 h5
  go_enter Try.func19, Try.ntmps19
  go_wp2_with fail
  refine (hT.out).mono ?_
  rintro e w2 ⟨x2, D2, rfl, hb2, hO2, hE2⟩
  have HZ : Hid (Below w.heap.size w w2 ∧ OwnG w2 w.heap.size x2 D2 ∧ D2.map R.vs = srt (RS.map (rowOf L))) := ⟨hb2, hO2, hE2⟩
  clear hb2 hO2 hE2
  go_wp2
  go_ret
  exact ⟨x2, D2, rfl, HZ.out.1, HZ.out.2.1, HZ.out.2.2⟩

theorem SortOut.past {w w1 w' : World} {L : List (List V)} {e : Ending} (hb : Below w.heap.size w w1) (h : SortOut w1 L e w') : SortOut w L e w' := by
  obtain ⟨x2, D2, rfl, hb2, hO2, hE2⟩ := h
  exact ⟨x2, D2, rfl, hb.trans (hb2.mono hb.size), hO2.mono hb.size, hE2⟩

set_option maxHeartbeats 800000 in
theorem delta_rln {w : World} {B : Nat} {F : Nat → Prop} {rb ar c : Nat} {M : List (List V)} {s1 s2 : Nat} (hR : Rln w B F rb ar c M s1 s2) (hc : c < 10000) :
    Calls Try.prog 21 #[.pointer (some ⟨rb, 0, none⟩)] w fun e w' => SortOut w ((M.drop s1).take (s2 - s1)) e w' := by
  obtain ⟨FT, FR, L, RS, to, rv, h1, h2, h3, h4, h5⟩ := hR
  obtain ⟨c2, c3, c4, c5, c6, c7, hrb, -⟩ := h1.cells
  have hU := Lib.hid (turned_rel h1 (by omega) true)
  have hT : Hid (∀ W y, Below w.heap.size w W → Mtx W y ((RS.drop s1).take (s2 - s1)) → Calls Try.prog 30 #[.pointer (some ⟨rb, 0, none⟩), y] W fun e w' => SortOut w ((M.drop s1).take (s2 - s1)) e w') := fun W y hb hy => by
    refine (tell_rel (h1.below hb) hy (fun q hq => List.mem_of_mem_drop (List.mem_of_mem_take hq)) (by omega) (by simp; omega)).mono ?_
    intro e w' h
    have := h.past hb
    rw [h3, ← List.map_drop, ← List.map_take]
    exact this
  clear h1 h2 h3 h4 h5
  go_enter Try.func21, Try.ntmps21
  go_wp2_with fail
  refine (hU.out).mono ?_
  rintro e w1 ⟨y, yo, yc, rfl, rfl, hb1, hy⟩
  have hT1 := Lib.hid (hT.out w1 _ hb1 hy)
  clear hb1 hy hU hT
  go_wp2_with fail
  refine (hT1.out).mono ?_
  rintro e w2 ⟨x2, D2, rfl, hb2, hO2, hE2⟩
  have HZ : Hid (SortOut w ((M.drop s1).take (s2 - s1)) (.returned x2) w2) := ⟨x2, D2, rfl, hb2, hO2, hE2⟩
  clear hb2 hO2 hE2
  go_wp2
  go_ret
  exact HZ.out

set_option maxHeartbeats 800000 in
theorem turn_nil {w : World} : Calls Try.prog 10 #[.pointer none] w fun e w' => e = .returned (.bool false) ∧ w' = w := by
  go_enter Try.func10, Try.ntmps10
  go_wp2
  go_ret
  exact ⟨rfl, rfl⟩
set_option maxHeartbeats 800000 in
theorem len_nil {w : World} : Calls Try.prog 17 #[.pointer none] w fun e w' => e = .returned (.int .i64 0) ∧ w' = w := by
  go_enter Try.func17, Try.ntmps17
  go_wp2
  go_ret
  exact ⟨rfl, rfl⟩
set_option maxHeartbeats 800000 in
theorem all_nil {w : World} : Calls Try.prog 19 #[.pointer none] w fun e w' => e = .returned (.slice none 0 0) ∧ w' = w := by
  go_enter Try.func19, Try.ntmps19
  go_wp2
  go_ret
  exact ⟨rfl, rfl⟩
set_option maxHeartbeats 800000 in
theorem delta_nil {w : World} : Calls Try.prog 21 #[.pointer none] w fun e w' => e = .returned (.slice none 0 0) ∧ w' = w := by
  go_enter Try.func21, Try.ntmps21
  go_wp2
  go_ret
  exact ⟨rfl, rfl⟩
set_option maxHeartbeats 800000 in
theorem match_nil {w : World} {x y : Value} {o : Bool} : Calls Try.prog 12 #[.pointer none, x, y, .bool o] w fun e w' => e = .returned (.tuple #[.slice none 0 0, .int .i64 1]) ∧ w' = w := by
  go_enter Try.func12, Try.ntmps12
  go_wp2
  go_ret2
  exact ⟨rfl, rfl⟩
end Go.Proofs.Ytkkpcphmojegmaa
