/-
  Contract of reader's quoted: the walk.
-/
import Derived.Test.YtbbmihojfcofdaaGreatDoorKQuo
namespace Go.Proofs.YtbbmihojfcofdaaGreatDoor
set_option linter.unusedSimpArgs false
set_option linter.unusedVariables false
set_option linter.unusedSectionVars false
set_option maxRecDepth 100000
open Go.RowKit

theorem beqI {c : UInt8} {m : Nat} (hm : m < 256) (h : c = UInt8.ofNat m) : ((c.toNat : Int) == (m : Int)) = true := by
  subst h; simp; omega
theorem neqI {c : UInt8} {m : Nat} (h : c ≠ UInt8.ofNat m) : ((c.toNat : Int) == (m : Int)) = false := by
  rw [beq_eq_false_iff_ne]
  intro e
  have e' : c.toNat = m := by omega
  exact h (by rw [← e']; simp)
theorem quoL_of {s : ByteArray} {p : Nat} : quoL (s.data.toList.drop p) = quoOf (quoS (s.data.toList.drop (p + 1))) := by
  unfold quoL; rw [List.tail_drop]
/-- A name in marks that may not be. -/
theorem Quo.none {n rb : Nat} {s : ByteArray} {k : Nat} {w wr : World} {v : Value} {L : List UInt8} (h : Quo n rb s k w wr v L) {p : Nat} (hn : n ≤ w.heap.size) (hg : quoL (s.data.toList.drop p) = ⟨2, Tk.zero, 0⟩) :
    TokOut n rb s p (quoL (s.data.toList.drop p)) w (.returned (.tuple #[Tk.zero.val, .int .i64 2])) (lay5 wr w.heap.size Tk.zero) := by
  rw [hg]; exact h.left.out hn (fun h => absurd h (by decide)) rfl

set_option maxRecDepth 100000 in
set_option maxHeartbeats 4000000 in
theorem quotedR_any {w : World} {n rb : Nat} {s : ByteArray} {p : Nat} (hR : Rdr n w rb s p) (hs : s.size ≤ 65536) (hp : p < s.size) :
    Calls Tryz.prog 109 #[.pointer (some ⟨rb, 0, none⟩)] w fun e w' => TokOut n rb s p (quoL (s.data.toList.drop p)) w e w' := by
  obtain ⟨i0, hi, hz0, hz1, hz2⟩ := info_parts infoByteK
  have hb0 : Below w.heap.size w (w.alloc (.cells #[.int .i64 0, .string ⟨#[]⟩, .int .i64 0, .bool false, .int .i64 0] 110)) := (Below.refl _ _).alloc (Nat.le_refl _) _
  obtain ⟨q2, q3, q4, q5, q6, q7, c0, c1, c2, c3, c4, c5, c6, c7, f1, -⟩ := hR.cells
  have hrb := hR.lt
  have HN : Hid (n ≤ w.heap.size) := hR.2.1
  obtain ⟨p1, hp1⟩ : ∃ p1, p1 = p + 1 := ⟨_, rfl⟩
  have HQ0 : Hid (Quo n rb s p1 w ((w.setCell ⟨rb, 1, none⟩ (.int .i64 (p1 : Int))).alloc (.cells #[.int .i64 0, .string ⟨#[]⟩, .int .i64 0, .bool false, .int .i64 0] 110)) (.slice none 0 0) []) :=
    ⟨(hR.put p1).below ((Below.refl _ _).alloc (Nat.le_refl _) _), ⟨((Turns.refl (fun i => i = rb) w).setCell (p := ⟨rb, 1, none⟩) (fun _ => rfl) _).alloc _, by
      have h := Fresh.new (w.setCell ⟨rb, 1, none⟩ (.int .i64 (p1 : Int)))
      have hz : (w.setCell ⟨rb, 1, none⟩ (.int .i64 (p1 : Int))).heap.size = w.heap.size := by simp [World.setCell]
      rw [hz] at h
      exact h⟩, World.ownsRow_nil _ _ _ _⟩
  have HA0 : Hid (QAt s p p1 []) := by rw [hp1]; exact QAt.start s p
  have hp1s : p1 ≤ s.size := by omega
  have hw2 : (p : Int) + 1 = (p1 : Int) := by omega
  have hw4 : (p1 : Int) ≤ 65536 := by omega
  have i3 : (s.size : Int) ≤ 65536 := by omega
  have HSZ := Lib.hid hs
  rw [quoL_of]
  have HL0 : Hid (quoL (s.data.toList.drop p) = quoOf (quoS (s.data.toList.drop (p + 1)))) := quoL_of
  rw [← quoL_of]
  clear hR hb0 c2 c3 c4 c5 c6 c7 hp1 hp hs
  go_enter Tryz.func109, Tryz.ntmps109
  go_wp2_with fail
  go_loopw [4] (fun xv wr => ∃ (v : Value) (k : Nat) (L : List UInt8), v = xv ∧ k ≤ s.size ∧ Hid (Quo n rb s k w wr v L) ∧ Hid (QAt s p k L)) (fun _ wr => s.size - (intOf ((wr.cell? ⟨rb, 1, none⟩).getD .nilFunc)).toNat)
  case atStart => exact ⟨_, p1, [], rfl, hp1s, HQ0, HA0⟩
  case round =>
    clear HQ0 HA0 hp1s hw2 hw4 c0 c1 f1 hrb
    obtain ⟨v, k, L, hv, hk, HQ, HA⟩ := hrel
    subst hv
    obtain ⟨q2, q3, q4, q5, q6, q7, c0, c1, c2, c3, c4, c5, c6, c7, f1, -⟩ := HQ.out.rdr.cells
    have hrb := HQ.out.rdr.lt
    have HAT := Lib.hid (atOf HQ.out.rdr)
    clear c2 c3 c4 c5 c6 c7
    obtain ⟨g0, g1, g2, g3, g4, k0, k1, k2, k3, k4⟩ := HQ.out.left.fresh.cells
    have hlw := HQ.out.left.lt
    have hLl : L.length ≤ 65536 := by have := HA.out.2.1; have := HSZ.out; omega
    by_cases hlt : k < s.size
    · have hltI : (k : Int) < (s.size : Int) := by omega
      obtain ⟨kn, hkn⟩ : ∃ kn, kn = k + 1 := ⟨_, rfl⟩
      have hwn : (k : Int) + 1 = (kn : Int) := by omega
      have hwn2 : (kn : Int) ≤ 65536 := by omega
      have HL := Lib.hid hlt
      by_cases h39 : s[k] = 39
      · have b1 : ((s[k].toNat : Int) == 39) = true := beqI (m := 39) (by decide) h39
        have HG : Hid (quoL (s.data.toList.drop p) = ⟨0, ⟨1, ⟨L.toArray⟩, 0, true, 0⟩, k - p + 1⟩) := by show quoL _ = _; rw [HL0.out, HA.out.hit hlt h39]; rfl
        have HPK : Hid (p + (k - p + 1) = kn) := by show _ = _; have := HA.out.1; omega
        have hne1 : ¬ w.heap.size = rb := by have := HN.out; have := HQ.out.rdr.1; omega
        have hne2 : ¬ rb = w.heap.size := fun h => hne1 h.symm
        have hcv : ∀ N, (convert 87 9 v).run Tryz.prog ((wr.drewN N).setCell ⟨rb, 1, none⟩ (.int .i64 (kn : Int))) = .ok (.string ⟨L.toArray⟩) ((wr.drewN N).setCell ⟨rb, 1, none⟩ (.int .i64 (kn : Int))) := fun N => ((HQ.out.below (below_drewN wr N)).put HN.out kn).conv
        obtain ⟨x, hx⟩ : ∃ x, x = (⟨L.toArray⟩ : ByteArray) := ⟨_, rfl⟩
        rw [← hx] at HG
        simp only [← hx] at hcv
        clear hx h39 HA HL0 hkn
        go_wp2_with fail
        go_quiet (fail)
        obtain ⟨na, rfl⟩ : ∃ na, na = nq := ⟨_, rfl⟩
        go_wp2_with fail
        go_quiet (fail)
        go_wp2
        have HQ' := Lib.hid ((HQ.out.below (below_drewN wr (na + nq))).put HN.out kn)
        obtain ⟨r0, r1, r2, r3, r4⟩ := lay5_cells HQ'.out.left.fresh ⟨1, x, 0, true, 0⟩
        refine bodyPost_ret (w := lay5 ((wr.drewN (na + nq)).setCell ⟨rb, 1, none⟩ (.int .i64 (kn : Int))) w.heap.size ⟨1, x, 0, true, 0⟩) (v := .tuple #[(⟨1, x, 0, true, 0⟩ : Tk).val, .int .i64 0]) ?_ rfl ?_
        · simp [results, Tryz.results109, go_sem, r0, r1, r2, r3, r4, Tk.val]
        · rw [HG.out]
          exact HQ'.out.left.out HN.out (fun _ => by show Rdr n _ rb s (p + (k - p + 1)); rw [HPK.out]; exact HQ'.out.rdr) rfl
      · have b1 : ((s[k].toNat : Int) == 39) = false := neqI (m := 39) h39
        by_cases h10 : s[k] = 10
        · have b2 : ((s[k].toNat : Int) == 10) = true := beqI (m := 10) (by decide) h10
          have HG : Hid (quoL (s.data.toList.drop p) = ⟨2, Tk.zero, 0⟩) := by show quoL _ = _; rw [HL0.out, HA.out.line hlt h10]; rfl
          clear h39 h10 HA HL0 hkn
          go_wp2_with fail
          go_quiet (fail)
          obtain ⟨na, rfl⟩ : ∃ na, na = nq := ⟨_, rfl⟩
          go_wp2_with fail
          go_quiet (fail)
          go_wp2
          have HQ' := Lib.hid ((HQ.out.below (below_drewN wr (na + nq))))
          obtain ⟨r0, r1, r2, r3, r4⟩ := lay5_cells HQ'.out.left.fresh Tk.zero
          refine bodyPost_ret (w := lay5 (wr.drewN (na + nq)) w.heap.size Tk.zero) (v := .tuple #[Tk.zero.val, .int .i64 2]) ?_ rfl ?_
          · simp [results, Tryz.results109, go_sem, r0, r1, r2, r3, r4, Tk.val]
          · exact HQ'.out.none HN.out HG.out
        · have b2 : ((s[k].toNat : Int) == 10) = false := neqI (m := 10) h10
          by_cases h92 : s[k] = 92
          · have b3 : ((s[k].toNat : Int) == 92) = true := beqI (m := 92) (by decide) h92
            have HES := Lib.hid (fun W v' L' (h : Quo n rb s kn w W v' L') => escaped_any h.rdr HSZ.out (by omega))
            rcases he : escO (s.data.toList.drop kn) with _ | b
            · have HG : Hid (quoL (s.data.toList.drop p) = ⟨2, Tk.zero, 0⟩) := by show quoL _ = _; rw [HL0.out, HA.out.bad hlt h92 (by rw [← hkn]; exact he)]; rfl
              rw [he] at HES
              clear h39 h10 h92 HA HL0 hkn he
              go_wp2_with fail
              go_quiet (fail)
              obtain ⟨na, rfl⟩ : ∃ na, na = nq := ⟨_, rfl⟩
              go_wp2_with fail
              go_quiet (fail)
              have HQ' := Lib.hid ((HQ.out.below (below_drewN wr (na + nq))).put HN.out kn)
              go_wp2_with (go_at_call 127; refine (HES.out _ _ _ HQ'.out).mono ?_; rintro e w2 ⟨rfl, hb2⟩; have HQ2 := Lib.hid (HQ'.out.below hb2); clear hb2; clear g0 g1 g2 g3 g4 k0 k1 k2 k3 k4; obtain ⟨g0, g1, g2, g3, g4, k0, k1, k2, k3, k4⟩ := HQ2.out.left.fresh.cells; simp only [escV, Option.getD_none, Option.isSome_none])
              obtain ⟨r0, r1, r2, r3, r4⟩ := lay5_cells HQ2.out.left.fresh Tk.zero
              refine bodyPost_ret (w := lay5 w2 w.heap.size Tk.zero) (v := .tuple #[Tk.zero.val, .int .i64 2]) ?_ rfl ?_
              · simp [results, Tryz.results109, go_sem, r0, r1, r2, r3, r4, Tk.val]
              · exact HQ2.out.none HN.out HG.out
            · obtain ⟨hk2, hA2⟩ := HA.out.esc hlt h92 (by rw [← hkn]; exact he)
              obtain ⟨k2n, hk2n⟩ : ∃ q, q = k + 2 := ⟨_, rfl⟩
              rw [← hk2n] at hk2 hA2
              have HA2 := Lib.hid hA2
              have HKK : Hid (k < k2n) := by show k < k2n; omega
              have hwn3 : (kn : Int) + 1 = (k2n : Int) := by omega
              have hwn4 : (k2n : Int) ≤ 65536 := by omega
              rw [he] at HES
              clear h39 h10 h92 HA HL0 hkn he hA2 hk2n hwn2
              go_wp2_with fail
              go_quiet (fail)
              obtain ⟨na, rfl⟩ : ∃ na, na = nq := ⟨_, rfl⟩
              go_wp2_with fail
              go_quiet (fail)
              have HQ' := Lib.hid ((HQ.out.below (below_drewN wr (na + nq))).put HN.out kn)
              go_wp2_with (first
                | (go_at_call 127; refine (HES.out _ _ _ HQ'.out).mono ?_; rintro e w2 ⟨rfl, hb2⟩; have HQ2 := Lib.hid (HQ'.out.below hb2); clear hb2; have hl2 := HQ2.out.left.lt; simp only [escV, Option.getD_some, Option.isSome_some])
                | (at_builtin; refine wpList_append_own _ rfl _ _ 87 rfl (w.heap.size + 1) 5 i0 (.int .u8 0) 1 1 Tryz.underlying87 hi hz0 hz1 hz2 rfl (by decide) _ _ _ rfl (HQ2.out.own.alloc _) ⟨w2.heap.size, 0, none⟩ 1 1 (Lib.byteCells [b]) rfl rfl (cell_new1 _ _ _) (byte_oneCell _) (by unfold maxLen; omega) (by omega) (by simp; omega) ?_; intro v' w3 hown' hgrow hnil; have HQ3 := Lib.hid (HQ2.out.app (m := [b]) HN.out hown' hgrow); clear hown' hgrow hnil; obtain ⟨y2, y3, y4, y5, y6, y7, e0, e1, -, -, -, -, -, -, ef, -⟩ := HQ3.out.rdr.cells; have hl3 := HQ3.out.rdr.lt))
              have HQ4 := Lib.hid (HQ3.out.put HN.out k2n)
              go_roundw
              case rel => exact ⟨_, k2n, L ++ [b], rfl, hk2, HQ4.out, HA2.out⟩
              case measure => rw [atOf HQ4.out.rdr, HAT.out]; have := HKK.out; have := HL.out; omega
          · have b3 : ((s[k].toNat : Int) == 92) = false := neqI (m := 92) h92
            have HA2 : Hid (QAt s p kn (L ++ [s[k]])) := by show QAt _ _ _ _; rw [hkn]; exact HA.out.next hlt h39 h10 h92
            have hk2 : kn ≤ s.size := by omega
            have HKK : Hid (k < kn) := by show k < kn; omega
            clear h39 h10 h92 HA HL0 hkn
            go_wp2_with fail
            go_quiet (fail)
            obtain ⟨na, rfl⟩ : ∃ na, na = nq := ⟨_, rfl⟩
            go_wp2_with fail
            go_quiet (fail)
            have HQ2 := Lib.hid (HQ.out.below (below_drewN wr (na + nq)))
            go_wp2_with (at_builtin; refine wpList_append_own _ rfl _ _ 87 rfl (w.heap.size + 1) 5 i0 (.int .u8 0) 1 1 Tryz.underlying87 hi hz0 hz1 hz2 rfl (by decide) _ _ _ rfl (HQ2.out.own.alloc _) ⟨wr.heap.size, 0, none⟩ 1 1 (Lib.byteCells [s[k]]) rfl rfl (cell_new1 _ _ _) (byte_oneCell _) (by unfold maxLen; omega) (by first | omega | (simp; omega)) (by simp; omega) ?_; intro v' w3 hown' hgrow hnil; have HQ3 := Lib.hid (HQ2.out.app (m := [s[k]]) HN.out hown' hgrow); clear hown' hgrow hnil; obtain ⟨y2, y3, y4, y5, y6, y7, e0, e1, -, -, -, -, -, -, ef, -⟩ := HQ3.out.rdr.cells; have hl3 := HQ3.out.rdr.lt)
            have HQ4 := Lib.hid (HQ3.out.put HN.out kn)
            go_roundw
            case rel => exact ⟨_, kn, L ++ [s[k]], rfl, hk2, HQ4.out, HA2.out⟩
            case measure => rw [atOf HQ4.out.rdr, HAT.out]; have := HKK.out; have := HL.out; omega
    · have hltI : ¬ (k : Int) < (s.size : Int) := by omega
      have HG : Hid (quoL (s.data.toList.drop p) = ⟨2, Tk.zero, 0⟩) := by show quoL _ = _; rw [HL0.out, HA.out.stop hlt]; rfl
      clear HA HL0
      go_wp2_with fail
      go_quiet (fail)
      go_wp2
      have HQ' := Lib.hid (HQ.out.below (below_drewN wr nq))
      obtain ⟨r0, r1, r2, r3, r4⟩ := lay5_cells HQ'.out.left.fresh Tk.zero
      refine bodyPost_ret (w := lay5 (wr.drewN nq) w.heap.size Tk.zero) (v := .tuple #[Tk.zero.val, .int .i64 2]) ?_ rfl ?_
      · simp [results, Tryz.results109, go_sem, r0, r1, r2, r3, r4, Tk.val]
      · exact HQ'.out.none HN.out HG.out
end Go.Proofs.YtbbmihojfcofdaaGreatDoor
