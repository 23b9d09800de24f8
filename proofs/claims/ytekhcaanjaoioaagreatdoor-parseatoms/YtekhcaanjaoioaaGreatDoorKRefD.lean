/-
  Contract of the document's number (lambrequinref05).
-/
import Derived.Test.YtekhcaanjaoioaaGreatDoorKRefC
namespace Go.Proofs.YtekhcaanjaoioaaGreatDoor
set_option linter.unusedSimpArgs false
set_option linter.unusedVariables false
set_option linter.unusedSectionVars false
set_option maxRecDepth 100000
open Go.RowKit

theorem digVal_takeK (D : List UInt8) (j : Nat) : digVal (D.take j) ≤ digVal D := by
  have : digVal D = (D.drop j).foldl (fun a c => 10 * a + (c.toNat - 48)) (digVal (D.take j)) := by
    unfold digVal
    rw [← List.foldl_append, List.take_append_drop]
  rw [this]
  exact fold_ge _ _
/-- What is read of the figures from f on, up to k. -/
def ReadN (s : ByteArray) (f k : Nat) (n : Int) : Prop := n = -((digVal ((s.data.toList.drop f).take (k - f)) : Nat) : Int) ∧ -9223372036854775808 ≤ n ∧ n ≤ 0
theorem ReadN.start (s : ByteArray) {f k : Nat} (h : k ≤ f) : ReadN s f k 0 := by
  unfold ReadN
  rw [show k - f = 0 by omega, List.take_zero]
  exact ⟨by simp [digVal], by decide, by decide⟩
theorem ReadN.snoc {s : ByteArray} {f k : Nat} (hf : f ≤ k) (hk : k < s.size) : digVal ((s.data.toList.drop f).take (k + 1 - f)) = 10 * digVal ((s.data.toList.drop f).take (k - f)) + (s[k].toNat - 48) := by
  have hj : k - f < (s.data.toList.drop f).length := by simp; omega
  rw [show k + 1 - f = (k - f) + 1 by omega, List.take_succ_eq_append_getElem hj, digVal_snoc]
  congr 2
  rw [List.getElem_drop]
  congr 1
  have : f + (k - f) = k := by omega
  simp only [this]
  rfl
theorem ReadN.next {s : ByteArray} {f k : Nat} {n : Int} (h : ReadN s f k n) (hf : f ≤ k) (hk : k < s.size) (h48 : 48 ≤ s[k].toNat) (hb : -9223372036854775808 ≤ 10 * n - ((s[k].toNat : Int) - 48)) : ReadN s f (k + 1) (10 * n - ((s[k].toNat : Int) - 48)) := by
  obtain ⟨h1, h2, h3⟩ := h
  refine ⟨?_, hb, by omega⟩
  rw [ReadN.snoc hf hk, h1]
  omega
/-- Too great on the way is too great at the end. -/
theorem ReadN.over {s : ByteArray} {f k E : Nat} {n : Int} (h : ReadN s f k n) (hf : f ≤ k) (hk : k < s.size) (hE : k + 1 ≤ E) (h48 : 48 ≤ s[k].toNat) (hb : 10 * n - ((s[k].toNat : Int) - 48) < -9223372036854775808) : 9223372036854775808 < digVal ((s.data.toList.drop f).take (E - f)) := by
  have h1 := digVal_takeK ((s.data.toList.drop f).take (E - f)) (k + 1 - f)
  rw [List.take_take, Nat.min_eq_left (by omega), ReadN.snoc hf hk] at h1
  have := h.1
  omega
theorem ReadN.skip {s : ByteArray} {f : Nat} {n : Int} {k : Nat} (h : ReadN s f k n) (hk : k + 1 ≤ f) : ReadN s f (k + 1) n := by
  unfold ReadN at *
  rw [show k - f = 0 by omega] at h
  rw [show k + 1 - f = 0 by omega]
  exact h
theorem figure_at {s : ByteArray} {p1 k : Nat} (h1 : p1 ≤ k) (h2 : k < p1 + runLen figureQ (s.data.toList.drop p1)) (hk : k < s.size) : 48 ≤ s[k].toNat ∧ s[k].toNat ≤ 57 := by
  have hr := run_all_take figureQ (s.data.toList.drop p1)
  apply figure_range
  apply hr
  rw [List.mem_iff_getElem]
  refine ⟨k - p1, by simp; omega, ?_⟩
  rw [List.getElem_take, List.getElem_drop]
  have : p1 + (k - p1) = k := by omega
  simp only [this]
  rfl
/-- What the number is. -/
theorem num_high_at {s : ByteArray} {p : Nat} (hp : p < s.size) (hc : figureQ s[p] = true) : numL (s.data.toList.drop p) = if digVal ((s.data.toList.drop p).take (p + 1 + runLen figureQ (s.data.toList.drop (p + 1)) - p)) ≤ 9223372036854775807 then ⟨0, ⟨3, ⟨#[]⟩, (digVal ((s.data.toList.drop p).take (p + 1 + runLen figureQ (s.data.toList.drop (p + 1)) - p)) : Int), false, 0⟩, 1 + runLen figureQ (s.data.toList.drop (p + 1))⟩ else ⟨3, Tk.zero, 0⟩ := by
  have e : (s.data.toList.drop p).take (p + 1 + runLen figureQ (s.data.toList.drop (p + 1)) - p) = s[p] :: (s.data.toList.drop (p + 1)).take (runLen figureQ (s.data.toList.drop (p + 1))) := by
    rw [show p + 1 + runLen figureQ (s.data.toList.drop (p + 1)) - p = runLen figureQ (s.data.toList.drop (p + 1)) + 1 by omega]
    rw [drop_at hp, List.take_succ_cons]
  rw [e, drop_at hp]
  exact num_high hc
theorem num_low_at {s : ByteArray} {p : Nat} (hp : p < s.size) (hc : s[p] = 45) (hr : 0 < runLen figureQ (s.data.toList.drop (p + 1))) : numL (s.data.toList.drop p) = if digVal ((s.data.toList.drop (p + 1)).take (p + 1 + runLen figureQ (s.data.toList.drop (p + 1)) - (p + 1))) ≤ 9223372036854775808 then ⟨0, ⟨3, ⟨#[]⟩, -(digVal ((s.data.toList.drop (p + 1)).take (p + 1 + runLen figureQ (s.data.toList.drop (p + 1)) - (p + 1))) : Int), false, 0⟩, 1 + runLen figureQ (s.data.toList.drop (p + 1))⟩ else ⟨3, Tk.zero, 0⟩ := by
  rw [show p + 1 + runLen figureQ (s.data.toList.drop (p + 1)) - (p + 1) = runLen figureQ (s.data.toList.drop (p + 1)) by omega, drop_at hp, hc]
  exact num_low hr
/-- At a place of the run of figures. -/
def RunAt (s : ByteArray) (p1 E k : Nat) : Prop := p1 ≤ k ∧ k ≤ s.size ∧ E = k + runLen figureQ (s.data.toList.drop k)

set_option maxRecDepth 100000 in
set_option maxHeartbeats 4000000 in
theorem rnum_low (s : ByteArray) (p : Nat) (w : World) (hs : s.size ≤ 65536) (hp : p < s.size) (hc : s[p] = 45) (hr : 0 < runLen figureQ (s.data.toList.drop (p + 1))) :
    Calls Tryz.prog 43 #[.string s, .int .i64 (p : Int)] w fun e w' => RGot (numL (s.data.toList.drop p)) p w e w' := by
  have HBK := Lib.hid (Blk.new w gotZ 82)
  have HB := Lib.hid (al_bel w (.cells gotZ 82))
  have hN := num_low_at hp hc hr
  have HFG := Lib.hid (fun (k : Nat) (h1 : p + 1 ≤ k) h2 (hk : k < s.size) => figure_at (s := s) (p1 := p + 1) (k := k) h1 h2 hk)
  obtain ⟨p1, hp1⟩ : ∃ p1, p1 = p + 1 := ⟨_, rfl⟩
  obtain ⟨E, hE⟩ : ∃ E, E = p1 + runLen figureQ (s.data.toList.drop p1) := ⟨_, rfl⟩
  have hEs : E ≤ s.size := by rw [hE]; exact run_bound _ _ _ (by omega)
  have HRA : Hid (RunAt s p1 E p1) := ⟨Nat.le_refl _, by omega, hE⟩
  have hE' := hE
  rw [hp1] at hE'
  rw [← hE'] at hN HFG
  have HLEN : Hid (p + (1 + runLen figureQ (s.data.toList.drop (p + 1))) = E) := by show _ = _; omega
  have i3 : (s.size : Int) ≤ 65536 := by omega
  have hpI : (p : Int) < (s.size : Int) := by omega
  have hpp : (p : Int) + 1 = (p1 : Int) := by omega
  have hpE : (p : Int) < (E : Int) := by omega
  have hEI : (E : Int) ≤ (s.size : Int) := by omega
  have b45 : ((s[p].toNat : Int) == 45) = true := beqI (m := 45) (by decide) hc
  have HN := Lib.hid hN
  have HP1 := Lib.hid hp1
  obtain ⟨G, hG⟩ : ∃ G, G = numL (s.data.toList.drop p) := ⟨_, rfl⟩
  rw [← hG] at HN ⊢
  have HES : Hid (E ≤ s.size) := hEs
  have HPE : Hid (p < E) := by show p < E; omega
  unfold gotZ at HBK HB
  have q0 := HB.out.size
  clear hN hp1 hE hE' hs hc hr hG hEs
  go_enter Tryz.func43, Tryz.ntmps43
  go_wp2_with fail
  obtain ⟨W0, hW0⟩ : ∃ W0, W0 = w.alloc (.cells #[.int .i64 0, .string ⟨#[]⟩, .int .i64 0, .bool false, .int .i64 0, .int .i64 0, .int .i64 0] 82) := ⟨_, rfl⟩
  rw [← hW0] at HBK HB q0
  rw [← hW0]
  clear hW0
  go_loopw [5] (fun av wr => ∃ k : Nat, (k : Int) ≤ (s.size : Int) ∧ av = .int .i64 (k : Int) ∧ wr = W0 ∧ Hid (RunAt s p1 E k)) (fun av _ => s.size - (intOf av).toNat)
  case atStart => exact ⟨p1, by omega, rfl, rfl, HRA⟩
  case round =>
    clear HRA
    obtain ⟨k, hk, rfl, hw, HR⟩ := hrel
    subst hw
    by_cases hlt : k < s.size
    · have hltI : (k : Int) < (s.size : Int) := by omega
      have hkI : (k : Int) ≤ 65536 := by omega
      have HF := Lib.hid (rfigure_any s[k] wr)
      have HRY : Hid (figureQ s[k] = true → RunAt s p1 E (k + 1)) := fun h => ⟨by have := HR.out.1; omega, by omega, by have h1 := HR.out.2.2; rw [runLen_yes hlt h] at h1; omega⟩
      have HRN : Hid (figureQ s[k] = false → E = k) := fun h => by have h1 := HR.out.2.2; rw [runLen_no hlt h] at h1; omega
      obtain ⟨b, hb⟩ : ∃ b, b = figureQ s[k] := ⟨_, rfl⟩
      rw [← hb] at HF HRY HRN
      clear hb HR
      cases b
      · obtain rfl := HRN.out rfl
        go_wp2_with (go_at_call 42; refine (HF.out).mono ?_; rintro e w1 ⟨rfl, hw1⟩; obtain rfl : wr = w1 := hw1.symm)
        go_loopw [7, 8] (fun nv iv wv => ∃ (k : Nat) (n : Int), (p : Int) ≤ (k : Int) ∧ (k : Int) ≤ (E : Int) ∧ iv = .int .i64 (k : Int) ∧ nv = .int .i64 n ∧ -9223372036854775808 ≤ n ∧ n ≤ 0 ∧ wv = wr ∧ Hid (ReadN s (p + 1) k n)) (fun _ iv _ => E - (intOf iv).toNat)
        case atStart => exact ⟨p, 0, by omega, by omega, rfl, rfl, by decide, by decide, rfl, ReadN.start s (by omega)⟩
        case round =>
          obtain ⟨k, n, hpk, hkE, rfl, rfl, hn0, hn1, hw, HR⟩ := hrel
          subst hw
          by_cases hlt : k < E
          · have hltI : (k : Int) < (E : Int) := by omega
            have hltJ : (k : Int) < (s.size : Int) := by omega
            have hks : k < s.size := by omega
            have hkI : (k : Int) ≤ 65536 := by omega
            by_cases hpe : k = p
            · subst hpe
              have HNX := Lib.hid (HR.out.skip (Nat.le_refl _))
              have HKE : Hid (k + 1 ≤ E) := hlt
              clear HR
              go_wp2
              go_roundw
              case rel => exact ⟨k + 1, _, by omega, by have := HKE.out; omega, by go_num, rfl, by omega, by omega, by first | rfl | trivial, HNX.out⟩
              case measure => simp [intOf]; have := HKE.out; omega
            have hpeB : ((k : Int) == (p : Int)) = false := by rw [beq_eq_false_iff_ne]; omega
            have hcr : 48 ≤ s[k].toNat ∧ s[k].toNat ≤ 57 := HFG.out k (by omega) (by omega) hks
            have hcI : (48 : Int) ≤ (s[k].toNat : Int) := by omega
            have hcJ : (s[k].toNat : Int) ≤ 57 := by omega
            have hu : IntKind.u8.wrap ((s[k].toNat : Int) - 48) = (s[k].toNat : Int) - 48 := by rw [IntKind.wrap_u8]; omega
            have HNX := Lib.hid (fun hb => HR.out.next (by omega) hks hcr.1 hb)
            have HOV := Lib.hid (fun hb => HR.out.over (E := E) (by omega) hks (by omega) hcr.1 hb)
            have HBAD : Hid (9223372036854775808 < digVal ((s.data.toList.drop (p + 1)).take (E - (p + 1))) → G = ⟨3, Tk.zero, 0⟩) := fun h => by rw [HN.out, if_neg (by omega)]
            have HKE : Hid (k + 1 ≤ E) := hlt
            clear hcr
            by_cases g1 : n < -922337203685477580
            · have HX := Lib.hid (HBAD.out (HOV.out (by omega)))
              clear HNX HOV HBAD
              go_wp2_with (refine wpList_store_row rfl 82 _ _ rfl w.heap.size #[.int .i64 0, .string ⟨#[]⟩, .int .i64 0, .bool false, .int .i64 0, .int .i64 0, .int .i64 3] rfl rfl 82 _ HBK.out (by kernel_rfl) rfl (by simp [Value.oneCell']) ?_)
              refine bodyPost_ret (ret_cell1 Tryz.results43 rfl (HBK.out.lay _) Tryz.underlying82 (by kernel_rfl)) rfl ?_
              exact RGot.mk (by rw [HX.out]; rfl) HB.out
            · by_cases g2 : n = -922337203685477580
              · subst g2
                by_cases g3 : 8 < (s[k].toNat : Int) - 48
                · have HX := Lib.hid (HBAD.out (HOV.out (by omega)))
                  clear HNX HOV HBAD
                  go_wp2_with (refine wpList_store_row rfl 82 _ _ rfl w.heap.size #[.int .i64 0, .string ⟨#[]⟩, .int .i64 0, .bool false, .int .i64 0, .int .i64 0, .int .i64 3] rfl rfl 82 _ HBK.out (by kernel_rfl) rfl (by simp [Value.oneCell']) ?_)
                  refine bodyPost_ret (ret_cell1 Tryz.results43 rfl (HBK.out.lay _) Tryz.underlying82 (by kernel_rfl)) rfl ?_
                  exact RGot.mk (by rw [HX.out]; rfl) HB.out
                · have HNX2 := Lib.hid (HNX.out (by omega))
                  have hlo : -9223372036854775808 ≤ 10 * (-922337203685477580 : Int) - ((s[k].toNat : Int) - 48) := by omega
                  clear HNX HOV HBAD
                  go_wp2
                  go_roundw
                  case rel => exact ⟨k + 1, _, by omega, by have := HKE.out; omega, by go_num, rfl, by omega, by omega, by first | rfl | trivial, HNX2.out⟩
                  case measure => simp [intOf]; have := HKE.out; omega
              · have g2B : (n == -922337203685477580) = false := by simpa using g2
                have HNX2 := Lib.hid (HNX.out (by omega))
                have hlo : -922337203685477580 < n := by omega
                clear HNX HOV HBAD g2
                go_wp2
                go_roundw
                case rel => exact ⟨k + 1, _, by omega, by have := HKE.out; omega, by go_num, rfl, by omega, by omega, by first | rfl | trivial, HNX2.out⟩
                case measure => simp [intOf]; have := HKE.out; omega
          · have hltI : ¬ (k : Int) < (E : Int) := by omega
            have hke : k = E := by omega
            subst hke
            have HX : Hid (G = ⟨0, ⟨3, ⟨#[]⟩, n, false, 0⟩, 1 + runLen figureQ (s.data.toList.drop (p + 1))⟩) := by
              show G = _
              have h1 := HR.out.1
              rw [HN.out, if_pos (by omega), ← h1]
            go_wp2_with (refine wpList_store_row rfl 82 _ _ rfl w.heap.size #[.int .i64 3, .string ⟨#[]⟩, .int .i64 n, .bool false, .int .i64 0, .int .i64 (k : Int), .int .i64 0] rfl rfl 82 _ HBK.out (by kernel_rfl) rfl (by simp [Value.oneCell']) ?_)
            refine bodyPost_ret (ret_cell1 Tryz.results43 rfl (HBK.out.lay _) Tryz.underlying82 (by kernel_rfl)) rfl ?_
            exact RGot.mk (by rw [HX.out]; simp only [gotC, if_true, HLEN.out]; rfl) HB.out
      · have HR1 := Lib.hid (HRY.out rfl)
        go_wp2_with (go_at_call 42; refine (HF.out).mono ?_; rintro e w1 ⟨rfl, hw1⟩; obtain rfl : wr = w1 := hw1.symm)
        go_roundw
        case rel => exact ⟨k + 1, by omega, by go_num, by first | rfl | trivial, HR1.out⟩
        case measure => simp [intOf]; omega
    · have hltI : ¬ (k : Int) < (s.size : Int) := by omega
      have hke : E = k := by have h1 := HR.out.2.2; rw [runLen_end (by omega)] at h1; omega
      subst hke
      clear HR
      go_wp2_with fail
      go_loopw [7, 8] (fun nv iv wv => ∃ (k : Nat) (n : Int), (p : Int) ≤ (k : Int) ∧ (k : Int) ≤ (E : Int) ∧ iv = .int .i64 (k : Int) ∧ nv = .int .i64 n ∧ -9223372036854775808 ≤ n ∧ n ≤ 0 ∧ wv = wr ∧ Hid (ReadN s (p + 1) k n)) (fun _ iv _ => E - (intOf iv).toNat)
      case atStart => exact ⟨p, 0, by omega, by omega, rfl, rfl, by decide, by decide, rfl, ReadN.start s (by omega)⟩
      case round =>
        obtain ⟨k, n, hpk, hkE, rfl, rfl, hn0, hn1, hw, HR⟩ := hrel
        subst hw
        by_cases hlt : k < E
        · have hltI : (k : Int) < (E : Int) := by omega
          have hltJ : (k : Int) < (s.size : Int) := by omega
          have hks : k < s.size := by omega
          have hkI : (k : Int) ≤ 65536 := by omega
          by_cases hpe : k = p
          · subst hpe
            have HNX := Lib.hid (HR.out.skip (Nat.le_refl _))
            have HKE : Hid (k + 1 ≤ E) := hlt
            clear HR
            go_wp2
            go_roundw
            case rel => exact ⟨k + 1, _, by omega, by have := HKE.out; omega, by go_num, rfl, by omega, by omega, by first | rfl | trivial, HNX.out⟩
            case measure => simp [intOf]; have := HKE.out; omega
          have hpeB : ((k : Int) == (p : Int)) = false := by rw [beq_eq_false_iff_ne]; omega
          have hcr : 48 ≤ s[k].toNat ∧ s[k].toNat ≤ 57 := HFG.out k (by omega) (by omega) hks
          have hcI : (48 : Int) ≤ (s[k].toNat : Int) := by omega
          have hcJ : (s[k].toNat : Int) ≤ 57 := by omega
          have hu : IntKind.u8.wrap ((s[k].toNat : Int) - 48) = (s[k].toNat : Int) - 48 := by rw [IntKind.wrap_u8]; omega
          have HNX := Lib.hid (fun hb => HR.out.next (by omega) hks hcr.1 hb)
          have HOV := Lib.hid (fun hb => HR.out.over (E := E) (by omega) hks (by omega) hcr.1 hb)
          have HBAD : Hid (9223372036854775808 < digVal ((s.data.toList.drop (p + 1)).take (E - (p + 1))) → G = ⟨3, Tk.zero, 0⟩) := fun h => by rw [HN.out, if_neg (by omega)]
          have HKE : Hid (k + 1 ≤ E) := hlt
          clear hcr
          by_cases g1 : n < -922337203685477580
          · have HX := Lib.hid (HBAD.out (HOV.out (by omega)))
            clear HNX HOV HBAD
            go_wp2_with (refine wpList_store_row rfl 82 _ _ rfl w.heap.size #[.int .i64 0, .string ⟨#[]⟩, .int .i64 0, .bool false, .int .i64 0, .int .i64 0, .int .i64 3] rfl rfl 82 _ HBK.out (by kernel_rfl) rfl (by simp [Value.oneCell']) ?_)
            refine bodyPost_ret (ret_cell1 Tryz.results43 rfl (HBK.out.lay _) Tryz.underlying82 (by kernel_rfl)) rfl ?_
            exact RGot.mk (by rw [HX.out]; rfl) HB.out
          · by_cases g2 : n = -922337203685477580
            · subst g2
              by_cases g3 : 8 < (s[k].toNat : Int) - 48
              · have HX := Lib.hid (HBAD.out (HOV.out (by omega)))
                clear HNX HOV HBAD
                go_wp2_with (refine wpList_store_row rfl 82 _ _ rfl w.heap.size #[.int .i64 0, .string ⟨#[]⟩, .int .i64 0, .bool false, .int .i64 0, .int .i64 0, .int .i64 3] rfl rfl 82 _ HBK.out (by kernel_rfl) rfl (by simp [Value.oneCell']) ?_)
                refine bodyPost_ret (ret_cell1 Tryz.results43 rfl (HBK.out.lay _) Tryz.underlying82 (by kernel_rfl)) rfl ?_
                exact RGot.mk (by rw [HX.out]; rfl) HB.out
              · have HNX2 := Lib.hid (HNX.out (by omega))
                have hlo : -9223372036854775808 ≤ 10 * (-922337203685477580 : Int) - ((s[k].toNat : Int) - 48) := by omega
                clear HNX HOV HBAD
                go_wp2
                go_roundw
                case rel => exact ⟨k + 1, _, by omega, by have := HKE.out; omega, by go_num, rfl, by omega, by omega, by first | rfl | trivial, HNX2.out⟩
                case measure => simp [intOf]; have := HKE.out; omega
            · have g2B : (n == -922337203685477580) = false := by simpa using g2
              have HNX2 := Lib.hid (HNX.out (by omega))
              have hlo : -922337203685477580 < n := by omega
              clear HNX HOV HBAD g2
              go_wp2
              go_roundw
              case rel => exact ⟨k + 1, _, by omega, by have := HKE.out; omega, by go_num, rfl, by omega, by omega, by first | rfl | trivial, HNX2.out⟩
              case measure => simp [intOf]; have := HKE.out; omega
        · have hltI : ¬ (k : Int) < (E : Int) := by omega
          have hke : k = E := by omega
          subst hke
          have HX : Hid (G = ⟨0, ⟨3, ⟨#[]⟩, n, false, 0⟩, 1 + runLen figureQ (s.data.toList.drop (p + 1))⟩) := by
            show G = _
            have h1 := HR.out.1
            rw [HN.out, if_pos (by omega), ← h1]
          go_wp2_with (refine wpList_store_row rfl 82 _ _ rfl w.heap.size #[.int .i64 3, .string ⟨#[]⟩, .int .i64 n, .bool false, .int .i64 0, .int .i64 (k : Int), .int .i64 0] rfl rfl 82 _ HBK.out (by kernel_rfl) rfl (by simp [Value.oneCell']) ?_)
          refine bodyPost_ret (ret_cell1 Tryz.results43 rfl (HBK.out.lay _) Tryz.underlying82 (by kernel_rfl)) rfl ?_
          exact RGot.mk (by rw [HX.out]; simp only [gotC, if_true, HLEN.out]; rfl) HB.out

set_option maxRecDepth 100000 in
set_option maxHeartbeats 4000000 in
theorem rnum_high (s : ByteArray) (p : Nat) (w : World) (hs : s.size ≤ 65536) (hp : p < s.size) (hc : figureQ s[p] = true) :
    Calls Tryz.prog 43 #[.string s, .int .i64 (p : Int)] w fun e w' => RGot (numL (s.data.toList.drop p)) p w e w' := by
  have HBK := Lib.hid (Blk.new w gotZ 82)
  have HB := Lib.hid (al_bel w (.cells gotZ 82))
  have hN := num_high_at hp hc
  have HFG := Lib.hid (fun (k : Nat) (h1 : p + 1 ≤ k) h2 (hk : k < s.size) => figure_at (s := s) (p1 := p + 1) (k := k) h1 h2 hk)
  obtain ⟨p1, hp1⟩ : ∃ p1, p1 = p + 1 := ⟨_, rfl⟩
  obtain ⟨E, hE⟩ : ∃ E, E = p1 + runLen figureQ (s.data.toList.drop p1) := ⟨_, rfl⟩
  have hEs : E ≤ s.size := by rw [hE]; exact run_bound _ _ _ (by omega)
  have HRA : Hid (RunAt s p1 E p1) := ⟨Nat.le_refl _, by omega, hE⟩
  have hE' := hE
  rw [hp1] at hE'
  rw [← hE'] at hN HFG
  have HLEN : Hid (p + (1 + runLen figureQ (s.data.toList.drop (p + 1))) = E) := by show _ = _; omega
  have i3 : (s.size : Int) ≤ 65536 := by omega
  have hpI : (p : Int) < (s.size : Int) := by omega
  have hpp : (p : Int) + 1 = (p1 : Int) := by omega
  have hpE : (p : Int) < (E : Int) := by omega
  have hEI : (E : Int) ≤ (s.size : Int) := by omega
  have hcr := figure_range hc
  have b45 : ((s[p].toNat : Int) == 45) = false := by rw [beq_eq_false_iff_ne]; omega
  have HC0 : Hid (48 ≤ s[p].toNat ∧ s[p].toNat ≤ 57) := hcr
  have HN := Lib.hid hN
  have HP1 := Lib.hid hp1
  obtain ⟨G, hG⟩ : ∃ G, G = numL (s.data.toList.drop p) := ⟨_, rfl⟩
  rw [← hG] at HN ⊢
  have HES : Hid (E ≤ s.size) := hEs
  have HPE : Hid (p < E) := by show p < E; omega
  unfold gotZ at HBK HB
  have q0 := HB.out.size
  clear hN hp1 hE hE' hs hc hcr hG hEs
  go_enter Tryz.func43, Tryz.ntmps43
  go_wp2_with fail
  obtain ⟨W0, hW0⟩ : ∃ W0, W0 = w.alloc (.cells #[.int .i64 0, .string ⟨#[]⟩, .int .i64 0, .bool false, .int .i64 0, .int .i64 0, .int .i64 0] 82) := ⟨_, rfl⟩
  rw [← hW0] at HBK HB q0
  rw [← hW0]
  clear hW0
  go_loopw [5] (fun av wr => ∃ k : Nat, (k : Int) ≤ (s.size : Int) ∧ av = .int .i64 (k : Int) ∧ wr = W0 ∧ Hid (RunAt s p1 E k)) (fun av _ => s.size - (intOf av).toNat)
  case atStart => exact ⟨p1, by omega, rfl, rfl, HRA⟩
  case round =>
    clear HRA
    obtain ⟨k, hk, rfl, hw, HR⟩ := hrel
    subst hw
    by_cases hlt : k < s.size
    · have hltI : (k : Int) < (s.size : Int) := by omega
      have hkI : (k : Int) ≤ 65536 := by omega
      have HF := Lib.hid (rfigure_any s[k] wr)
      have HRY : Hid (figureQ s[k] = true → RunAt s p1 E (k + 1)) := fun h => ⟨by have := HR.out.1; omega, by omega, by have h1 := HR.out.2.2; rw [runLen_yes hlt h] at h1; omega⟩
      have HRN : Hid (figureQ s[k] = false → E = k) := fun h => by have h1 := HR.out.2.2; rw [runLen_no hlt h] at h1; omega
      obtain ⟨b, hb⟩ : ∃ b, b = figureQ s[k] := ⟨_, rfl⟩
      rw [← hb] at HF HRY HRN
      clear hb HR
      cases b
      · obtain rfl := HRN.out rfl
        go_wp2_with (go_at_call 42; refine (HF.out).mono ?_; rintro e w1 ⟨rfl, hw1⟩; obtain rfl : wr = w1 := hw1.symm)
        go_loopw [7, 8] (fun nv iv wv => ∃ (k : Nat) (n : Int), (p : Int) ≤ (k : Int) ∧ (k : Int) ≤ (E : Int) ∧ iv = .int .i64 (k : Int) ∧ nv = .int .i64 n ∧ -9223372036854775808 ≤ n ∧ n ≤ 0 ∧ wv = wr ∧ Hid (ReadN s p k n)) (fun _ iv _ => E - (intOf iv).toNat)
        case atStart => exact ⟨p, 0, by omega, by omega, rfl, rfl, by decide, by decide, rfl, ReadN.start s (by omega)⟩
        case round =>
          obtain ⟨k, n, hpk, hkE, rfl, rfl, hn0, hn1, hw, HR⟩ := hrel
          subst hw
          by_cases hlt : k < E
          · have hltI : (k : Int) < (E : Int) := by omega
            have hltJ : (k : Int) < (s.size : Int) := by omega
            have hks : k < s.size := by omega
            have hkI : (k : Int) ≤ 65536 := by omega
            obtain ⟨bp, hbp⟩ : ∃ bp, ((k : Int) == (p : Int)) = bp := ⟨_, rfl⟩
            cases bp
            all_goals
              have hcr : 48 ≤ s[k].toNat ∧ s[k].toNat ≤ 57 := (if hpe : k = p then (by subst hpe; exact HC0.out) else HFG.out k (by omega) (by omega) hks)
              have hcI : (48 : Int) ≤ (s[k].toNat : Int) := by omega
              have hcJ : (s[k].toNat : Int) ≤ 57 := by omega
              have hu : IntKind.u8.wrap ((s[k].toNat : Int) - 48) = (s[k].toNat : Int) - 48 := by rw [IntKind.wrap_u8]; omega
              have HNX := Lib.hid (fun hb => HR.out.next (by omega) hks hcr.1 hb)
              have HOV := Lib.hid (fun hb => HR.out.over (E := E) (by omega) hks (by omega) hcr.1 hb)
              have HBAD : Hid (9223372036854775808 < digVal ((s.data.toList.drop p).take (E - p)) → G = ⟨3, Tk.zero, 0⟩) := fun h => by rw [HN.out, if_neg (by omega)]
              have HKE : Hid (k + 1 ≤ E) := hlt
              clear hcr
              by_cases g1 : n < -922337203685477580
              · have HX := Lib.hid (HBAD.out (HOV.out (by omega)))
                clear HNX HOV HBAD
                go_wp2_with (refine wpList_store_row rfl 82 _ _ rfl w.heap.size #[.int .i64 0, .string ⟨#[]⟩, .int .i64 0, .bool false, .int .i64 0, .int .i64 0, .int .i64 3] rfl rfl 82 _ HBK.out (by kernel_rfl) rfl (by simp [Value.oneCell']) ?_)
                refine bodyPost_ret (ret_cell1 Tryz.results43 rfl (HBK.out.lay _) Tryz.underlying82 (by kernel_rfl)) rfl ?_
                exact RGot.mk (by rw [HX.out]; rfl) HB.out
              · by_cases g2 : n = -922337203685477580
                · subst g2
                  by_cases g3 : 8 < (s[k].toNat : Int) - 48
                  · have HX := Lib.hid (HBAD.out (HOV.out (by omega)))
                    clear HNX HOV HBAD
                    go_wp2_with (refine wpList_store_row rfl 82 _ _ rfl w.heap.size #[.int .i64 0, .string ⟨#[]⟩, .int .i64 0, .bool false, .int .i64 0, .int .i64 0, .int .i64 3] rfl rfl 82 _ HBK.out (by kernel_rfl) rfl (by simp [Value.oneCell']) ?_)
                    refine bodyPost_ret (ret_cell1 Tryz.results43 rfl (HBK.out.lay _) Tryz.underlying82 (by kernel_rfl)) rfl ?_
                    exact RGot.mk (by rw [HX.out]; rfl) HB.out
                  · have HNX2 := Lib.hid (HNX.out (by omega))
                    have hlo : -9223372036854775808 ≤ 10 * (-922337203685477580 : Int) - ((s[k].toNat : Int) - 48) := by omega
                    clear HNX HOV HBAD
                    go_wp2
                    go_roundw
                    case rel => exact ⟨k + 1, _, by omega, by have := HKE.out; omega, by go_num, rfl, by omega, by omega, by first | rfl | trivial, HNX2.out⟩
                    case measure => simp [intOf]; have := HKE.out; omega
                · have g2B : (n == -922337203685477580) = false := by simpa using g2
                  have HNX2 := Lib.hid (HNX.out (by omega))
                  have hlo : -922337203685477580 < n := by omega
                  clear HNX HOV HBAD g2
                  go_wp2
                  go_roundw
                  case rel => exact ⟨k + 1, _, by omega, by have := HKE.out; omega, by go_num, rfl, by omega, by omega, by first | rfl | trivial, HNX2.out⟩
                  case measure => simp [intOf]; have := HKE.out; omega
          · have hltI : ¬ (k : Int) < (E : Int) := by omega
            have hke : k = E := by omega
            subst hke
            by_cases g4 : n = -9223372036854775808
            · subst g4
              have HX : Hid (G = ⟨3, Tk.zero, 0⟩) := by
                show G = _
                have h1 := HR.out.1
                rw [HN.out, if_neg (by omega)]
              go_wp2_with (refine wpList_store_row rfl 82 _ _ rfl w.heap.size #[.int .i64 0, .string ⟨#[]⟩, .int .i64 0, .bool false, .int .i64 0, .int .i64 0, .int .i64 3] rfl rfl 82 _ HBK.out (by kernel_rfl) rfl (by simp [Value.oneCell']) ?_)
              refine bodyPost_ret (ret_cell1 Tryz.results43 rfl (HBK.out.lay _) Tryz.underlying82 (by kernel_rfl)) rfl ?_
              exact RGot.mk (by rw [HX.out]; rfl) HB.out
            · have g4B : (n == -9223372036854775808) = false := by simpa using g4
              have hlo : -9223372036854775807 ≤ n := by omega
              have HX : Hid (G = ⟨0, ⟨3, ⟨#[]⟩, -n, false, 0⟩, 1 + runLen figureQ (s.data.toList.drop (p + 1))⟩) := by
                show G = _
                have h1 := HR.out.1
                rw [HN.out, if_pos (by omega), h1, Int.neg_neg]
              clear g4
              go_wp2_with (refine wpList_store_row rfl 82 _ _ rfl w.heap.size #[.int .i64 3, .string ⟨#[]⟩, .int .i64 (-n), .bool false, .int .i64 0, .int .i64 (k : Int), .int .i64 0] rfl rfl 82 _ HBK.out (by kernel_rfl) rfl (by simp [Value.oneCell']) ?_)
              refine bodyPost_ret (ret_cell1 Tryz.results43 rfl (HBK.out.lay _) Tryz.underlying82 (by kernel_rfl)) rfl ?_
              exact RGot.mk (by rw [HX.out]; simp only [gotC, if_true, HLEN.out]; rfl) HB.out
      · have HR1 := Lib.hid (HRY.out rfl)
        go_wp2_with (go_at_call 42; refine (HF.out).mono ?_; rintro e w1 ⟨rfl, hw1⟩; obtain rfl : wr = w1 := hw1.symm)
        go_roundw
        case rel => exact ⟨k + 1, by omega, by go_num, by first | rfl | trivial, HR1.out⟩
        case measure => simp [intOf]; omega
    · have hltI : ¬ (k : Int) < (s.size : Int) := by omega
      have hke : E = k := by have h1 := HR.out.2.2; rw [runLen_end (by omega)] at h1; omega
      subst hke
      clear HR
      go_wp2_with fail
      go_loopw [7, 8] (fun nv iv wv => ∃ (k : Nat) (n : Int), (p : Int) ≤ (k : Int) ∧ (k : Int) ≤ (E : Int) ∧ iv = .int .i64 (k : Int) ∧ nv = .int .i64 n ∧ -9223372036854775808 ≤ n ∧ n ≤ 0 ∧ wv = wr ∧ Hid (ReadN s p k n)) (fun _ iv _ => E - (intOf iv).toNat)
      case atStart => exact ⟨p, 0, by omega, by omega, rfl, rfl, by decide, by decide, rfl, ReadN.start s (by omega)⟩
      case round =>
        obtain ⟨k, n, hpk, hkE, rfl, rfl, hn0, hn1, hw, HR⟩ := hrel
        subst hw
        by_cases hlt : k < E
        · have hltI : (k : Int) < (E : Int) := by omega
          have hltJ : (k : Int) < (s.size : Int) := by omega
          have hks : k < s.size := by omega
          have hkI : (k : Int) ≤ 65536 := by omega
          obtain ⟨bp, hbp⟩ : ∃ bp, ((k : Int) == (p : Int)) = bp := ⟨_, rfl⟩
          cases bp
          all_goals
            have hcr : 48 ≤ s[k].toNat ∧ s[k].toNat ≤ 57 := (if hpe : k = p then (by subst hpe; exact HC0.out) else HFG.out k (by omega) (by omega) hks)
            have hcI : (48 : Int) ≤ (s[k].toNat : Int) := by omega
            have hcJ : (s[k].toNat : Int) ≤ 57 := by omega
            have hu : IntKind.u8.wrap ((s[k].toNat : Int) - 48) = (s[k].toNat : Int) - 48 := by rw [IntKind.wrap_u8]; omega
            have HNX := Lib.hid (fun hb => HR.out.next (by omega) hks hcr.1 hb)
            have HOV := Lib.hid (fun hb => HR.out.over (E := E) (by omega) hks (by omega) hcr.1 hb)
            have HBAD : Hid (9223372036854775808 < digVal ((s.data.toList.drop p).take (E - p)) → G = ⟨3, Tk.zero, 0⟩) := fun h => by rw [HN.out, if_neg (by omega)]
            have HKE : Hid (k + 1 ≤ E) := hlt
            clear hcr
            by_cases g1 : n < -922337203685477580
            · have HX := Lib.hid (HBAD.out (HOV.out (by omega)))
              clear HNX HOV HBAD
              go_wp2_with (refine wpList_store_row rfl 82 _ _ rfl w.heap.size #[.int .i64 0, .string ⟨#[]⟩, .int .i64 0, .bool false, .int .i64 0, .int .i64 0, .int .i64 3] rfl rfl 82 _ HBK.out (by kernel_rfl) rfl (by simp [Value.oneCell']) ?_)
              refine bodyPost_ret (ret_cell1 Tryz.results43 rfl (HBK.out.lay _) Tryz.underlying82 (by kernel_rfl)) rfl ?_
              exact RGot.mk (by rw [HX.out]; rfl) HB.out
            · by_cases g2 : n = -922337203685477580
              · subst g2
                by_cases g3 : 8 < (s[k].toNat : Int) - 48
                · have HX := Lib.hid (HBAD.out (HOV.out (by omega)))
                  clear HNX HOV HBAD
                  go_wp2_with (refine wpList_store_row rfl 82 _ _ rfl w.heap.size #[.int .i64 0, .string ⟨#[]⟩, .int .i64 0, .bool false, .int .i64 0, .int .i64 0, .int .i64 3] rfl rfl 82 _ HBK.out (by kernel_rfl) rfl (by simp [Value.oneCell']) ?_)
                  refine bodyPost_ret (ret_cell1 Tryz.results43 rfl (HBK.out.lay _) Tryz.underlying82 (by kernel_rfl)) rfl ?_
                  exact RGot.mk (by rw [HX.out]; rfl) HB.out
                · have HNX2 := Lib.hid (HNX.out (by omega))
                  have hlo : -9223372036854775808 ≤ 10 * (-922337203685477580 : Int) - ((s[k].toNat : Int) - 48) := by omega
                  clear HNX HOV HBAD
                  go_wp2
                  go_roundw
                  case rel => exact ⟨k + 1, _, by omega, by have := HKE.out; omega, by go_num, rfl, by omega, by omega, by first | rfl | trivial, HNX2.out⟩
                  case measure => simp [intOf]; have := HKE.out; omega
              · have g2B : (n == -922337203685477580) = false := by simpa using g2
                have HNX2 := Lib.hid (HNX.out (by omega))
                have hlo : -922337203685477580 < n := by omega
                clear HNX HOV HBAD g2
                go_wp2
                go_roundw
                case rel => exact ⟨k + 1, _, by omega, by have := HKE.out; omega, by go_num, rfl, by omega, by omega, by first | rfl | trivial, HNX2.out⟩
                case measure => simp [intOf]; have := HKE.out; omega
        · have hltI : ¬ (k : Int) < (E : Int) := by omega
          have hke : k = E := by omega
          subst hke
          by_cases g4 : n = -9223372036854775808
          · subst g4
            have HX : Hid (G = ⟨3, Tk.zero, 0⟩) := by
              show G = _
              have h1 := HR.out.1
              rw [HN.out, if_neg (by omega)]
            go_wp2_with (refine wpList_store_row rfl 82 _ _ rfl w.heap.size #[.int .i64 0, .string ⟨#[]⟩, .int .i64 0, .bool false, .int .i64 0, .int .i64 0, .int .i64 3] rfl rfl 82 _ HBK.out (by kernel_rfl) rfl (by simp [Value.oneCell']) ?_)
            refine bodyPost_ret (ret_cell1 Tryz.results43 rfl (HBK.out.lay _) Tryz.underlying82 (by kernel_rfl)) rfl ?_
            exact RGot.mk (by rw [HX.out]; rfl) HB.out
          · have g4B : (n == -9223372036854775808) = false := by simpa using g4
            have hlo : -9223372036854775807 ≤ n := by omega
            have HX : Hid (G = ⟨0, ⟨3, ⟨#[]⟩, -n, false, 0⟩, 1 + runLen figureQ (s.data.toList.drop (p + 1))⟩) := by
              show G = _
              have h1 := HR.out.1
              rw [HN.out, if_pos (by omega), h1, Int.neg_neg]
            clear g4
            go_wp2_with (refine wpList_store_row rfl 82 _ _ rfl w.heap.size #[.int .i64 3, .string ⟨#[]⟩, .int .i64 (-n), .bool false, .int .i64 0, .int .i64 (k : Int), .int .i64 0] rfl rfl 82 _ HBK.out (by kernel_rfl) rfl (by simp [Value.oneCell']) ?_)
            refine bodyPost_ret (ret_cell1 Tryz.results43 rfl (HBK.out.lay _) Tryz.underlying82 (by kernel_rfl)) rfl ?_
            exact RGot.mk (by rw [HX.out]; simp only [gotC, if_true, HLEN.out]; rfl) HB.out
end Go.Proofs.YtekhcaanjaoioaaGreatDoor
