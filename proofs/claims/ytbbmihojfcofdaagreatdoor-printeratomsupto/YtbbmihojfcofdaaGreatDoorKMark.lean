/-
  Contract of reader's mark.
-/
import Derived.Test.YtbbmihojfcofdaaGreatDoorKNum
namespace Go.Proofs.YtbbmihojfcofdaaGreatDoor
set_option linter.unusedSimpArgs false
set_option linter.unusedVariables false
set_option linter.unusedSectionVars false
set_option maxRecDepth 100000
open Go.RowKit

def markT : List (List UInt8) := [[58, 45], [60, 61], [62, 61], [33, 61], [40], [41], [44], [46], [47], [60], [62], [61]]
def markB (k : Nat) : ByteArray := ⟨(markT.getD k []).toArray⟩
def markOf (o : Option (List UInt8)) : Got :=
  match o with
  | some m => ⟨0, ⟨4, ⟨m.toArray⟩, 0, false, 0⟩, m.length⟩
  | none => ⟨2, Tk.zero, 0⟩
/-- A mark: the first of the table that the text begins with. -/
def markL (l : List UInt8) : Got := markOf (markT.find? (fun m => m.isPrefixOf l))
theorem markA_at (k : Nat) (h : k < 12) : marksA[k]? = some (.string (markB k)) := by
  match k, h with
  | 0, _ => rfl
  | 1, _ => rfl
  | 2, _ => rfl
  | 3, _ => rfl
  | 4, _ => rfl
  | 5, _ => rfl
  | 6, _ => rfl
  | 7, _ => rfl
  | 8, _ => rfl
  | 9, _ => rfl
  | 10, _ => rfl
  | 11, _ => rfl
theorem run_index_mark (W : World) (k : Nat) (h : k < 12) : (Instr.index 185 (.agg marksA) (.int .i64 (k : Int))).run Tryz.prog W = .ok (.string (markB k)) W := by
  have hn : (0 : Int) ≤ (k : Int) ∧ (k : Int) < ((12 : Nat) : Int) := by omega
  have hi := markA_at k h
  simp [Instr.index, run_underlying Tryz.underlying185, asIntOf, hn, hi, go_sem, h]
theorem markB_len (k : Nat) (h : k < 12) : (markB k).size = (markT.getD k []).length ∧ 1 ≤ (markB k).size ∧ (markB k).size ≤ 2 ∧ (markB k).data.toList = markT.getD k [] := by
  refine ⟨by simp [markB, ByteArray.size], ?_, ?_, by simp [markB]⟩
  all_goals
    match k, h with
    | 0, _ => decide
    | 1, _ => decide
    | 2, _ => decide
    | 3, _ => decide
    | 4, _ => decide
    | 5, _ => decide
    | 6, _ => decide
    | 7, _ => decide
    | 8, _ => decide
    | 9, _ => decide
    | 10, _ => decide
    | 11, _ => decide
/-- None of the first k begins the text. -/
def NoMark (l : List UInt8) (k : Nat) : Prop := (markT.take k).find? (fun m => m.isPrefixOf l) = none
theorem markT_take (k : Nat) (h : k < 12) : markT.take (k + 1) = markT.take k ++ [markT.getD k []] := by
  have hk : k < markT.length := h
  rw [List.take_succ_eq_append_getElem hk, List.getD_eq_getElem?_getD, List.getElem?_eq_getElem hk]; rfl
theorem NoMark.next {l : List UInt8} {k : Nat} (h : NoMark l k) (hk : k < 12) (hn : (markT.getD k []).isPrefixOf l = false) : NoMark l (k + 1) := by
  unfold NoMark at *
  rw [markT_take k hk, List.find?_append, h]
  simp only [Option.none_or, List.find?_cons, hn, List.find?_nil]
theorem NoMark.hit {l : List UInt8} {k : Nat} (h : NoMark l k) (hk : k < 12) (hn : (markT.getD k []).isPrefixOf l = true) : markT.find? (fun m => m.isPrefixOf l) = some (markT.getD k []) := by
  unfold NoMark at h
  have e : markT = markT.take (k + 1) ++ markT.drop (k + 1) := (List.take_append_drop _ _).symm
  rw [e, markT_take k hk, List.find?_append, List.find?_append, h]
  simp only [Option.none_or, List.find?_cons, hn, Option.some_or]
  rw [← markT_take k hk, ← e]
theorem NoMark.none {l : List UInt8} (h : NoMark l 12) : markT.find? (fun m => m.isPrefixOf l) = none := h

theorem take_left2 {w W : World} {n rb : Nat} {s : ByteArray} {p : Nat} (hR : Rdr n W rb s p) (hL : Left n rb w W) (hn : n ≤ w.heap.size) (hs : s.size ≤ 65536) (E : Nat) (h1 : p ≤ E) (h2 : E ≤ s.size) :
    Calls Tryz.prog 126 #[.pointer (some ⟨rb, 0, none⟩), .int .i64 (E : Int)] W fun e w' => e = .returned (.string (s.extract p E)) ∧ Hid (Rdr n w' rb s E) ∧ Hid (Left n rb w w') := by
  refine (take_any hR E h1 h2 hs).mono ?_
  rintro e w' ⟨rfl, hR', ht'⟩
  exact ⟨rfl, hR', ⟨hL.turns.then ht', hL.fresh.turns ht' (by have := hR.1; omega)⟩⟩
theorem Left.new {n rb : Nat} (w : World) : Left n rb w (w.alloc (.cells #[.int .i64 0, .string ⟨#[]⟩, .int .i64 0, .bool false, .int .i64 0] 110)) :=
  ⟨(Turns.refl (fun i => i = rb) w).alloc _, Fresh.new w⟩
theorem Left.lt {n rb : Nat} {w w' : World} (h : Left n rb w w') : w.heap.size < w'.heap.size := (Array.getElem?_eq_some_iff.1 h.fresh).1

set_option maxHeartbeats 4000000 in
theorem mark_any {w : World} {n rb : Nat} {s : ByteArray} {p : Nat} (hR : Rdr n w rb s p) (hs : s.size ≤ 65536) (hp : p ≤ s.size) (hENV : Env w) :
    Calls Tryz.prog 111 #[.pointer (some ⟨rb, 0, none⟩)] w fun e w' => TokOut n rb s p (markL (s.data.toList.drop p)) w e w' := by
  have hb0 : Below w.heap.size w (w.alloc (.cells #[.int .i64 0, .string ⟨#[]⟩, .int .i64 0, .bool false, .int .i64 0] 110)) := (Below.refl _ _).alloc (Nat.le_refl _) _
  obtain ⟨tt, fr, hmk⟩ := (hENV.below hb0).tabl
  have HN : Hid (n ≤ w.heap.size) := hR.2.1
  have HR0 := Lib.hid (hR.below hb0)
  have HL0 : Hid (Left n rb w _) := Left.new w
  have i3 : (s.size : Int) ≤ 65536 := by omega
  have i4 : (p : Int) ≤ (s.size : Int) := by omega
  have HSZ := Lib.hid hs
  have HPS := Lib.hid hp
  clear hR hb0 hENV hs hp
  go_enter Tryz.func111, Tryz.ntmps111
  go_wp2_with (refine wpList_load_row rfl 185 _ rfl 2 rfl tt _ fr _ hmk Tryz.underlying185 rfl (by kernel_rfl) ?_)
  go_loopw [7] (fun i wr => ∃ k : Nat, k ≤ 12 ∧ i = .int .i64 k ∧ Hid (Rdr n wr rb s p) ∧ Hid (Left n rb w wr) ∧ Hid (NoMark (s.data.toList.drop p) k)) (fun i _ => 12 - (intOf i).toNat)
  case atStart => exact ⟨0, by omega, rfl, HR0, HL0, rfl⟩
  case round =>
    clear HR0 HL0 hmk
    obtain ⟨k, hk, rfl, HR, HL, HM⟩ := hrel
    obtain ⟨q2, q3, q4, q5, q6, q7, c0, c1, -⟩ := HR.out.cells
    have hrb := HR.out.lt
    by_cases hlt : k < 12
    · have hltI : (k : Int) < 12 := by omega
      have hI := run_index_mark wr k hlt
      obtain ⟨z1, z2, z3, z4⟩ := markB_len k hlt
      obtain ⟨b, hb⟩ : ∃ b, b = (markT.getD k []).isPrefixOf (s.data.toList.drop p) := ⟨_, rfl⟩
      have HH : Hid (∀ W : World, Calls Tryz.prog 129 #[.string (s.extract p s.size), .string (markB k)] W fun e w' => e = .returned (.bool b) ∧ w' = W) := fun W => by
        have h := Tryz.strings_HasPrefix (s.extract p s.size) (markB k) W
        have e1 : (s.extract p s.size).data.toList = s.data.toList.drop p := by
          have : s.size = p + (s.size - p) := by have := HPS.out; omega
          rw [this, extract_drop]
          simp [List.take_of_length_le]
        have e2 : Lib.hasPrefix (s.extract p s.size).data.toList (markB k).data.toList = b := by rw [e1, z4, hb]; rfl
        rw [e2] at h
        exact h
      have HB := Lib.hid hb
      have HZ1 := Lib.hid z1
      have HZ4 := Lib.hid z4
      clear hb z1 z4
      obtain ⟨mb, hmb⟩ : ∃ mb, mb = markB k := ⟨_, rfl⟩
      rw [← hmb] at hI z2 z3 HH HZ1 HZ4
      have HMB := Lib.hid hmb
      clear hmb
      obtain ⟨z, hz⟩ : ∃ z, mb.size = z := ⟨_, rfl⟩
      rw [hz] at z2 z3 HZ1
      cases b
      · have HM1 := Lib.hid (HM.out.next hlt HB.out.symm)
        clear HB HM HMB HZ1 HZ4
        go_wp2_with fail
        go_region_with (go_at_call 129; refine (HH.out _).mono ?_; rintro e w' ⟨rfl, rfl⟩)
        all_goals
          go_wp2
          go_roundw
          case rel => exact ⟨k + 1, by omega, by simp, HR.out.below (by first | exact Below.refl _ _ | exact (Below.refl _ _).drew | exact below_drewN _ _), HL.out.below (by first | exact Below.refl _ _ | exact (Below.refl _ _).drew | exact below_drewN _ _), HM1.out⟩
          case measure => simp [intOf]; omega
      · have hf := HM.out.hit hlt HB.out.symm
        have hpre : (markT.getD k []) <+: s.data.toList.drop p := List.isPrefixOf_iff_prefix.1 HB.out.symm
        have hlen : p + z ≤ s.size := by
          have h1 := hpre.length_le
          rw [← HZ1.out] at h1
          simp at h1
          have := HPS.out
          omega
        obtain ⟨E, hE⟩ : ∃ E, E = p + z := ⟨_, rfl⟩
        have hex : s.extract p E = ⟨(markT.getD k []).toArray⟩ := by
          rw [hE, extract_drop, HZ1.out, List.prefix_iff_eq_take.1 hpre]
          simp
        have HG : Hid (markL (s.data.toList.drop p) = ⟨0, ⟨4, s.extract p E, 0, false, 0⟩, z⟩) := by
          show markL _ = _
          rw [hex, HZ1.out]
          unfold markL
          rw [hf]
          rfl
        have HTK := Lib.hid (fun W (hb : Below wr.heap.size wr W) => take_left2 (HR.out.below hb) (HL.out.below hb) HN.out HSZ.out E (by omega) (by omega))
        have hpz : (p : Int) + (z : Int) = (E : Int) := by omega
        have hwz : IntKind.i64.wrap ((p : Int) + (z : Int)) = (E : Int) := by rw [IntKind.wrap_i64]; omega
        have HE := Lib.hid hE
        obtain ⟨x, hx⟩ : ∃ x, x = s.extract p E := ⟨_, rfl⟩
        rw [← hx] at HTK HG
        clear hx hex hf hpre hlen hE HB HM HMB HZ1 HZ4
        go_wp2_with fail
        go_region_with (go_at_call 129; refine (HH.out _).mono ?_; rintro e w' ⟨rfl, rfl⟩)
        all_goals
          go_wp2_with (go_at_call 126; refine (HTK.out _ (by first | exact Below.refl _ _ | exact (Below.refl _ _).drew | exact below_drewN _ _)).mono ?_; rintro e w2 ⟨rfl, HRT, HLT⟩; obtain ⟨g0, g1, g2, g3, g4, k0, k1, k2, k3, k4⟩ := HLT.out.fresh.cells)
          obtain ⟨r0, r1, r2, r3, r4⟩ := lay5_cells HLT.out.fresh ⟨4, x, 0, false, 0⟩
          refine bodyPost_ret (w := lay5 w2 w.heap.size ⟨4, x, 0, false, 0⟩) (v := .tuple #[(⟨4, x, 0, false, 0⟩ : Tk).val, .int .i64 0]) ?_ rfl ?_
          · simp [results, Tryz.results111, go_sem, r0, r1, r2, r3, r4, Tk.val]
          · rw [HG.out]
            exact HLT.out.out HN.out (fun _ => by have := HRT.out; rw [HE.out] at this; exact this) rfl
    · have hltI : ¬ (k : Int) < 12 := by omega
      have hk12 : k = 12 := by omega
      subst hk12
      have HG : Hid (markL (s.data.toList.drop p) = ⟨2, Tk.zero, 0⟩) := by
        show markL _ = _
        unfold markL
        rw [HM.out.none]
        rfl
      obtain ⟨g0, g1, g2, g3, g4, k0, k1, k2, k3, k4⟩ := HL.out.fresh.cells
      clear HM c0 c1
      go_wp2
      obtain ⟨r0, r1, r2, r3, r4⟩ := lay5_cells HL.out.fresh Tk.zero
      refine bodyPost_ret (w := lay5 wr w.heap.size Tk.zero) (v := .tuple #[Tk.zero.val, .int .i64 2]) ?_ rfl ?_
      · simp [results, Tryz.results111, go_sem, r0, r1, r2, r3, r4, Tk.val]
      · rw [HG.out]
        exact HL.out.out HN.out (fun h => absurd h (by decide)) rfl
end Go.Proofs.YtbbmihojfcofdaaGreatDoor
