/-
  Contract of the document's one (lambrequinref05): names, numbers, and names in marks.
-/
import Derived.Test.YtekhcaanjaoioaaGreatDoorKRefD
namespace Go.Proofs.YtekhcaanjaoioaaGreatDoor
set_option linter.unusedSimpArgs false
set_option linter.unusedVariables false
set_option linter.unusedSectionVars false
set_option maxRecDepth 100000
open Go.RowKit

theorem small_great {c : UInt8} (h : smallQ c = true) : greatQ c = false := by
  simp [smallQ, greatQ] at *; omega
theorem great_kindR {c : UInt8} (h : greatQ c = true) : smallQ c = false := by
  simp [smallQ, greatQ] at *; omega
theorem fig_not {c : UInt8} (h : figureQ c = true) : smallQ c = false ∧ greatQ c = false := by
  simp [figureQ] at h
  constructor
  · simp [smallQ]; omega
  · simp [greatQ]; omega
/-- At a place of a name. -/
def InAt (s : ByteArray) (p E k : Nat) : Prop := p ≤ k ∧ k ≤ s.size ∧ E = k + runLen innerQ (s.data.toList.drop k)
theorem InAt.yes {s : ByteArray} {p E k : Nat} (h : InAt s p E k) (hk : k < s.size) (hc : innerQ s[k] = true) : InAt s p E (k + 1) := by
  obtain ⟨h1, h2, h3⟩ := h
  rw [runLen_yes hk hc] at h3
  exact ⟨by omega, by omega, by omega⟩
theorem InAt.no {s : ByteArray} {p E k : Nat} (h : InAt s p E k) (hk : k < s.size) (hc : innerQ s[k] = false) : E = k := by
  obtain ⟨h1, h2, h3⟩ := h
  rw [runLen_no hk hc] at h3
  omega
theorem InAt.stop {s : ByteArray} {p E k : Nat} (h : InAt s p E k) (hk : ¬ k < s.size) : E = k := by
  obtain ⟨h1, h2, h3⟩ := h
  rw [runLen_end (by omega)] at h3
  omega

set_option maxRecDepth 100000 in
set_option maxHeartbeats 4000000 in
theorem rone_name1 (s : ByteArray) (p : Nat) (w : World) (hs : s.size ≤ 65536) (hp : p < s.size) (hc : smallQ s[p] = true) :
    Calls Tryz.prog 23 #[.string s, .int .i64 (p : Int)] w fun e w' => RGot (nameL 1 (s.data.toList.drop p)) p w e w' := by
  have HBK := Lib.hid (Blk.new w gotZ 82)
  have HB := Lib.hid (al_bel w (.cells gotZ 82))
  unfold gotZ at HBK HB
  have q0 := HB.out.size
  have i3 : (s.size : Int) ≤ 65536 := by omega
  have hpI : (p : Int) < (s.size : Int) := by omega
  have HS := Lib.hid (fun W => rsmall_any s[p] W)
  have HG := Lib.hid (fun W => rbig_any s[p] W)
  have HF := Lib.hid (fun W => rfigure_any s[p] W)
  have HE : Hid (greatQ s[p] = false ∧ smallQ s[p] = true) := ⟨small_great hc, hc⟩
  rw [HE.out.1] at HG
  rw [HE.out.2] at HS
  obtain ⟨E, hE⟩ : ∃ E, E = p + runLen innerQ (s.data.toList.drop p) := ⟨_, rfl⟩
  have hEs : E ≤ s.size := by rw [hE]; exact run_bound _ _ _ (by omega)
  have HRA : Hid (InAt s p E p) := ⟨Nat.le_refl _, by omega, hE⟩
  have HPE : Hid (p ≤ E) := by show _ ≤ _; omega
  obtain ⟨G, hG⟩ : ∃ G, G = nameL 1 (s.data.toList.drop p) := ⟨_, rfl⟩
  have HN : Hid (G = if 32 < E - p then ⟨4, Tk.zero, 0⟩ else ⟨0, ⟨1, s.extract p E, 0, false, 0⟩, E - p⟩) := by
    show G = _
    rw [hG, hE, show p + runLen innerQ (s.data.toList.drop p) - p = runLen innerQ (s.data.toList.drop p) by omega, extract_drop]
    rfl
  rw [← hG]
  clear hG hE hc HF hEs hs
  obtain ⟨p1, hp1⟩ : ∃ p1, p1 = p + 1 := ⟨_, rfl⟩
  have hpp : (p : Int) + 1 = (p1 : Int) := by omega
  have hpb : (p1 : Int) ≤ 65536 := by omega
  have HP1 := Lib.hid hp1
  by_cases hn1 : p1 < s.size
  · have hn1I : (p1 : Int) < (s.size : Int) := by omega
    clear hp1
    go_enter Tryz.func23, Tryz.ntmps23
    go_wp2_with fail
    obtain ⟨W0, hW0⟩ : ∃ W0, W0 = w.alloc (.cells #[.int .i64 0, .string ⟨#[]⟩, .int .i64 0, .bool false, .int .i64 0, .int .i64 0, .int .i64 0] 82) := ⟨_, rfl⟩
    rw [← hW0] at HBK HB q0
    rw [← hW0]
    clear hW0
    go_wp2_with ((go_at_call 39; refine (HS.out W0).mono ?_; rintro e w1 ⟨rfl, hw1⟩; obtain rfl : W0 = w1 := hw1.symm))
    go_loopw [7] (fun av wr => ∃ k : Nat, (k : Int) ≤ (s.size : Int) ∧ av = .int .i64 (k : Int) ∧ wr = W0 ∧ Hid (InAt s p E k)) (fun av _ => s.size - (intOf av).toNat)
    case atStart => exact ⟨p, by omega, rfl, rfl, HRA⟩
    case round =>
      clear HRA
      obtain ⟨k, hk, rfl, hw, HR⟩ := hrel
      subst hw
      by_cases hlt : k < s.size
      · have hltI : (k : Int) < (s.size : Int) := by omega
        have hkI : (k : Int) ≤ 65536 := by omega
        have HWD := Lib.hid (fun W => rword_any s[k] W)
        have HRY : Hid (innerQ s[k] = true → InAt s p E (k + 1)) := fun h => HR.out.yes hlt h
        have HRN : Hid (innerQ s[k] = false → E = k) := fun h => HR.out.no hlt h
        obtain ⟨b, hb⟩ : ∃ b, b = innerQ s[k] := ⟨_, rfl⟩
        rw [← hb] at HWD HRY HRN
        clear hb HR
        cases b
        · obtain rfl := HRN.out rfl
          clear HRY HRN
          by_cases h32 : 32 < E - p
          · have h32I : (32 : Int) < (E : Int) - (p : Int) := by omega
            have HX : Hid (G = ⟨4, Tk.zero, 0⟩) := by show G = _; rw [HN.out, if_pos h32]
            clear h32 HN
            go_wp2_with (first
              | (go_at_call 41; refine (HWD.out _).mono ?_; rintro e w1 ⟨rfl, hw1⟩; obtain rfl : wr = w1 := hw1.symm; clear HWD)
              | (refine wpList_store_row rfl 82 _ _ rfl w.heap.size #[.int .i64 0, .string ⟨#[]⟩, .int .i64 0, .bool false, .int .i64 0, .int .i64 0, .int .i64 4] rfl rfl 82 _ HBK.out (by kernel_rfl) rfl (by simp [Value.oneCell']) ?_))
            refine bodyPost_ret (ret_cell1 Tryz.results23 rfl (HBK.out.lay _) Tryz.underlying82 (by kernel_rfl)) rfl ?_
            exact RGot.mk (by rw [HX.out]; rfl) HB.out
          · have h32I : ¬ (32 : Int) < (E : Int) - (p : Int) := by omega
            have HX : Hid (G = ⟨0, ⟨1, s.extract p E, 0, false, 0⟩, E - p⟩) := by show G = _; rw [HN.out, if_neg h32]
            have HEP : Hid (p + (E - p) = E) := by show _ = _; have := HPE.out; omega
            have hpE : (p : Int) ≤ (E : Int) := by have := HPE.out; omega
            clear h32 HN
            go_wp2_with (first
              | (go_at_call 41; refine (HWD.out _).mono ?_; rintro e w1 ⟨rfl, hw1⟩; obtain rfl : wr = w1 := hw1.symm; clear HWD)
              | (go_at_call 40; refine (HG.out wr).mono ?_; rintro e w1 ⟨rfl, hw1⟩; obtain rfl : wr = w1 := hw1.symm)
              | (refine wpList_store_row rfl 82 _ _ rfl w.heap.size #[.int .i64 1, .string (s.extract p E), .int .i64 0, .bool false, .int .i64 0, .int .i64 (E : Int), .int .i64 0] rfl rfl 82 _ HBK.out (by kernel_rfl) rfl (by simp [Value.oneCell']) ?_))
            refine bodyPost_ret (ret_cell1 Tryz.results23 rfl (HBK.out.lay _) Tryz.underlying82 (by kernel_rfl)) rfl ?_
            exact RGot.mk (by rw [HX.out]; simp only [gotC, if_true, HEP.out]; rfl) HB.out
        · have HR1 := Lib.hid (HRY.out rfl)
          clear HRY HRN
          go_wp2_with (go_at_call 41; refine (HWD.out _).mono ?_; rintro e w1 ⟨rfl, hw1⟩; obtain rfl : wr = w1 := hw1.symm)
          go_roundw
          case rel => exact ⟨k + 1, by omega, by go_num, by first | rfl | trivial, HR1.out⟩
          case measure => simp [intOf]; omega
      · have hltI : ¬ (k : Int) < (s.size : Int) := by omega
        have hke : E = k := HR.out.stop hlt
        subst hke
        clear HR
        by_cases h32 : 32 < E - p
        · have h32I : (32 : Int) < (E : Int) - (p : Int) := by omega
          have HX : Hid (G = ⟨4, Tk.zero, 0⟩) := by show G = _; rw [HN.out, if_pos h32]
          clear h32 HN
          go_wp2_with (refine wpList_store_row rfl 82 _ _ rfl w.heap.size #[.int .i64 0, .string ⟨#[]⟩, .int .i64 0, .bool false, .int .i64 0, .int .i64 0, .int .i64 4] rfl rfl 82 _ HBK.out (by kernel_rfl) rfl (by simp [Value.oneCell']) ?_)
          refine bodyPost_ret (ret_cell1 Tryz.results23 rfl (HBK.out.lay _) Tryz.underlying82 (by kernel_rfl)) rfl ?_
          exact RGot.mk (by rw [HX.out]; rfl) HB.out
        · have h32I : ¬ (32 : Int) < (E : Int) - (p : Int) := by omega
          have HX : Hid (G = ⟨0, ⟨1, s.extract p E, 0, false, 0⟩, E - p⟩) := by show G = _; rw [HN.out, if_neg h32]
          have HEP : Hid (p + (E - p) = E) := by show _ = _; have := HPE.out; omega
          have hpE : (p : Int) ≤ (E : Int) := by have := HPE.out; omega
          clear h32 HN
          go_wp2_with (first
            | (go_at_call 40; refine (HG.out wr).mono ?_; rintro e w1 ⟨rfl, hw1⟩; obtain rfl : wr = w1 := hw1.symm)
            | (refine wpList_store_row rfl 82 _ _ rfl w.heap.size #[.int .i64 1, .string (s.extract p E), .int .i64 0, .bool false, .int .i64 0, .int .i64 (E : Int), .int .i64 0] rfl rfl 82 _ HBK.out (by kernel_rfl) rfl (by simp [Value.oneCell']) ?_))
          refine bodyPost_ret (ret_cell1 Tryz.results23 rfl (HBK.out.lay _) Tryz.underlying82 (by kernel_rfl)) rfl ?_
          exact RGot.mk (by rw [HX.out]; simp only [gotC, if_true, HEP.out]; rfl) HB.out
  · have hn1I : ¬ (p1 : Int) < (s.size : Int) := by omega
    clear hp1
    go_enter Tryz.func23, Tryz.ntmps23
    go_wp2_with fail
    obtain ⟨W0, hW0⟩ : ∃ W0, W0 = w.alloc (.cells #[.int .i64 0, .string ⟨#[]⟩, .int .i64 0, .bool false, .int .i64 0, .int .i64 0, .int .i64 0] 82) := ⟨_, rfl⟩
    rw [← hW0] at HBK HB q0
    rw [← hW0]
    clear hW0
    go_wp2_with ((go_at_call 39; refine (HS.out W0).mono ?_; rintro e w1 ⟨rfl, hw1⟩; obtain rfl : W0 = w1 := hw1.symm))
    go_loopw [7] (fun av wr => ∃ k : Nat, (k : Int) ≤ (s.size : Int) ∧ av = .int .i64 (k : Int) ∧ wr = W0 ∧ Hid (InAt s p E k)) (fun av _ => s.size - (intOf av).toNat)
    case atStart => exact ⟨p, by omega, rfl, rfl, HRA⟩
    case round =>
      clear HRA
      obtain ⟨k, hk, rfl, hw, HR⟩ := hrel
      subst hw
      by_cases hlt : k < s.size
      · have hltI : (k : Int) < (s.size : Int) := by omega
        have hkI : (k : Int) ≤ 65536 := by omega
        have HWD := Lib.hid (fun W => rword_any s[k] W)
        have HRY : Hid (innerQ s[k] = true → InAt s p E (k + 1)) := fun h => HR.out.yes hlt h
        have HRN : Hid (innerQ s[k] = false → E = k) := fun h => HR.out.no hlt h
        obtain ⟨b, hb⟩ : ∃ b, b = innerQ s[k] := ⟨_, rfl⟩
        rw [← hb] at HWD HRY HRN
        clear hb HR
        cases b
        · obtain rfl := HRN.out rfl
          clear HRY HRN
          by_cases h32 : 32 < E - p
          · exfalso; omega
          · have h32I : ¬ (32 : Int) < (E : Int) - (p : Int) := by omega
            have HX : Hid (G = ⟨0, ⟨1, s.extract p E, 0, false, 0⟩, E - p⟩) := by show G = _; rw [HN.out, if_neg h32]
            have HEP : Hid (p + (E - p) = E) := by show _ = _; have := HPE.out; omega
            have hpE : (p : Int) ≤ (E : Int) := by have := HPE.out; omega
            clear h32 HN
            go_wp2_with (first
              | (go_at_call 41; refine (HWD.out _).mono ?_; rintro e w1 ⟨rfl, hw1⟩; obtain rfl : wr = w1 := hw1.symm; clear HWD)
              | (go_at_call 40; refine (HG.out wr).mono ?_; rintro e w1 ⟨rfl, hw1⟩; obtain rfl : wr = w1 := hw1.symm)
              | (refine wpList_store_row rfl 82 _ _ rfl w.heap.size #[.int .i64 1, .string (s.extract p E), .int .i64 0, .bool false, .int .i64 0, .int .i64 (E : Int), .int .i64 0] rfl rfl 82 _ HBK.out (by kernel_rfl) rfl (by simp [Value.oneCell']) ?_))
            refine bodyPost_ret (ret_cell1 Tryz.results23 rfl (HBK.out.lay _) Tryz.underlying82 (by kernel_rfl)) rfl ?_
            exact RGot.mk (by rw [HX.out]; simp only [gotC, if_true, HEP.out]; rfl) HB.out
        · have HR1 := Lib.hid (HRY.out rfl)
          clear HRY HRN
          go_wp2_with (go_at_call 41; refine (HWD.out _).mono ?_; rintro e w1 ⟨rfl, hw1⟩; obtain rfl : wr = w1 := hw1.symm)
          go_roundw
          case rel => exact ⟨k + 1, by omega, by go_num, by first | rfl | trivial, HR1.out⟩
          case measure => simp [intOf]; omega
      · have hltI : ¬ (k : Int) < (s.size : Int) := by omega
        have hke : E = k := HR.out.stop hlt
        subst hke
        clear HR
        by_cases h32 : 32 < E - p
        · exfalso; omega
        · have h32I : ¬ (32 : Int) < (E : Int) - (p : Int) := by omega
          have HX : Hid (G = ⟨0, ⟨1, s.extract p E, 0, false, 0⟩, E - p⟩) := by show G = _; rw [HN.out, if_neg h32]
          have HEP : Hid (p + (E - p) = E) := by show _ = _; have := HPE.out; omega
          have hpE : (p : Int) ≤ (E : Int) := by have := HPE.out; omega
          clear h32 HN
          go_wp2_with (first
            | (go_at_call 40; refine (HG.out wr).mono ?_; rintro e w1 ⟨rfl, hw1⟩; obtain rfl : wr = w1 := hw1.symm)
            | (refine wpList_store_row rfl 82 _ _ rfl w.heap.size #[.int .i64 1, .string (s.extract p E), .int .i64 0, .bool false, .int .i64 0, .int .i64 (E : Int), .int .i64 0] rfl rfl 82 _ HBK.out (by kernel_rfl) rfl (by simp [Value.oneCell']) ?_))
          refine bodyPost_ret (ret_cell1 Tryz.results23 rfl (HBK.out.lay _) Tryz.underlying82 (by kernel_rfl)) rfl ?_
          exact RGot.mk (by rw [HX.out]; simp only [gotC, if_true, HEP.out]; rfl) HB.out
set_option maxRecDepth 100000 in
set_option maxHeartbeats 4000000 in
theorem rone_name2 (s : ByteArray) (p : Nat) (w : World) (hs : s.size ≤ 65536) (hp : p < s.size) (hc : greatQ s[p] = true) :
    Calls Tryz.prog 23 #[.string s, .int .i64 (p : Int)] w fun e w' => RGot (nameL 2 (s.data.toList.drop p)) p w e w' := by
  have HBK := Lib.hid (Blk.new w gotZ 82)
  have HB := Lib.hid (al_bel w (.cells gotZ 82))
  unfold gotZ at HBK HB
  have q0 := HB.out.size
  have i3 : (s.size : Int) ≤ 65536 := by omega
  have hpI : (p : Int) < (s.size : Int) := by omega
  have HS := Lib.hid (fun W => rsmall_any s[p] W)
  have HG := Lib.hid (fun W => rbig_any s[p] W)
  have HF := Lib.hid (fun W => rfigure_any s[p] W)
  have HE : Hid (greatQ s[p] = true ∧ smallQ s[p] = false) := ⟨hc, (great_kindR hc)⟩
  rw [HE.out.1] at HG
  rw [HE.out.2] at HS
  obtain ⟨E, hE⟩ : ∃ E, E = p + runLen innerQ (s.data.toList.drop p) := ⟨_, rfl⟩
  have hEs : E ≤ s.size := by rw [hE]; exact run_bound _ _ _ (by omega)
  have HRA : Hid (InAt s p E p) := ⟨Nat.le_refl _, by omega, hE⟩
  have HPE : Hid (p ≤ E) := by show _ ≤ _; omega
  obtain ⟨G, hG⟩ : ∃ G, G = nameL 2 (s.data.toList.drop p) := ⟨_, rfl⟩
  have HN : Hid (G = if 32 < E - p then ⟨4, Tk.zero, 0⟩ else ⟨0, ⟨2, s.extract p E, 0, false, 0⟩, E - p⟩) := by
    show G = _
    rw [hG, hE, show p + runLen innerQ (s.data.toList.drop p) - p = runLen innerQ (s.data.toList.drop p) by omega, extract_drop]
    rfl
  rw [← hG]
  clear hG hE hc HF hEs hs
  obtain ⟨p1, hp1⟩ : ∃ p1, p1 = p + 1 := ⟨_, rfl⟩
  have hpp : (p : Int) + 1 = (p1 : Int) := by omega
  have hpb : (p1 : Int) ≤ 65536 := by omega
  have HP1 := Lib.hid hp1
  by_cases hn1 : p1 < s.size
  · have hn1I : (p1 : Int) < (s.size : Int) := by omega
    clear hp1
    go_enter Tryz.func23, Tryz.ntmps23
    go_wp2_with fail
    obtain ⟨W0, hW0⟩ : ∃ W0, W0 = w.alloc (.cells #[.int .i64 0, .string ⟨#[]⟩, .int .i64 0, .bool false, .int .i64 0, .int .i64 0, .int .i64 0] 82) := ⟨_, rfl⟩
    rw [← hW0] at HBK HB q0
    rw [← hW0]
    clear hW0
    go_wp2_with (first
      | (go_at_call 39; refine (HS.out W0).mono ?_; rintro e w1 ⟨rfl, hw1⟩; obtain rfl : W0 = w1 := hw1.symm)
      | (go_at_call 40; refine (HG.out W0).mono ?_; rintro e w1 ⟨rfl, hw1⟩; obtain rfl : W0 = w1 := hw1.symm))
    go_loopw [7] (fun av wr => ∃ k : Nat, (k : Int) ≤ (s.size : Int) ∧ av = .int .i64 (k : Int) ∧ wr = W0 ∧ Hid (InAt s p E k)) (fun av _ => s.size - (intOf av).toNat)
    case atStart => exact ⟨p, by omega, rfl, rfl, HRA⟩
    case round =>
      clear HRA
      obtain ⟨k, hk, rfl, hw, HR⟩ := hrel
      subst hw
      by_cases hlt : k < s.size
      · have hltI : (k : Int) < (s.size : Int) := by omega
        have hkI : (k : Int) ≤ 65536 := by omega
        have HWD := Lib.hid (fun W => rword_any s[k] W)
        have HRY : Hid (innerQ s[k] = true → InAt s p E (k + 1)) := fun h => HR.out.yes hlt h
        have HRN : Hid (innerQ s[k] = false → E = k) := fun h => HR.out.no hlt h
        obtain ⟨b, hb⟩ : ∃ b, b = innerQ s[k] := ⟨_, rfl⟩
        rw [← hb] at HWD HRY HRN
        clear hb HR
        cases b
        · obtain rfl := HRN.out rfl
          clear HRY HRN
          by_cases h32 : 32 < E - p
          · have h32I : (32 : Int) < (E : Int) - (p : Int) := by omega
            have HX : Hid (G = ⟨4, Tk.zero, 0⟩) := by show G = _; rw [HN.out, if_pos h32]
            clear h32 HN
            go_wp2_with (first
              | (go_at_call 41; refine (HWD.out _).mono ?_; rintro e w1 ⟨rfl, hw1⟩; obtain rfl : wr = w1 := hw1.symm; clear HWD)
              | (refine wpList_store_row rfl 82 _ _ rfl w.heap.size #[.int .i64 0, .string ⟨#[]⟩, .int .i64 0, .bool false, .int .i64 0, .int .i64 0, .int .i64 4] rfl rfl 82 _ HBK.out (by kernel_rfl) rfl (by simp [Value.oneCell']) ?_))
            refine bodyPost_ret (ret_cell1 Tryz.results23 rfl (HBK.out.lay _) Tryz.underlying82 (by kernel_rfl)) rfl ?_
            exact RGot.mk (by rw [HX.out]; rfl) HB.out
          · have h32I : ¬ (32 : Int) < (E : Int) - (p : Int) := by omega
            have HX : Hid (G = ⟨0, ⟨2, s.extract p E, 0, false, 0⟩, E - p⟩) := by show G = _; rw [HN.out, if_neg h32]
            have HEP : Hid (p + (E - p) = E) := by show _ = _; have := HPE.out; omega
            have hpE : (p : Int) ≤ (E : Int) := by have := HPE.out; omega
            clear h32 HN
            go_wp2_with (first
              | (go_at_call 41; refine (HWD.out _).mono ?_; rintro e w1 ⟨rfl, hw1⟩; obtain rfl : wr = w1 := hw1.symm; clear HWD)
              | (go_at_call 40; refine (HG.out wr).mono ?_; rintro e w1 ⟨rfl, hw1⟩; obtain rfl : wr = w1 := hw1.symm)
              | (refine wpList_store_row rfl 82 _ _ rfl w.heap.size #[.int .i64 2, .string (s.extract p E), .int .i64 0, .bool false, .int .i64 0, .int .i64 (E : Int), .int .i64 0] rfl rfl 82 _ HBK.out (by kernel_rfl) rfl (by simp [Value.oneCell']) ?_))
            refine bodyPost_ret (ret_cell1 Tryz.results23 rfl (HBK.out.lay _) Tryz.underlying82 (by kernel_rfl)) rfl ?_
            exact RGot.mk (by rw [HX.out]; simp only [gotC, if_true, HEP.out]; rfl) HB.out
        · have HR1 := Lib.hid (HRY.out rfl)
          clear HRY HRN
          go_wp2_with (go_at_call 41; refine (HWD.out _).mono ?_; rintro e w1 ⟨rfl, hw1⟩; obtain rfl : wr = w1 := hw1.symm)
          go_roundw
          case rel => exact ⟨k + 1, by omega, by go_num, by first | rfl | trivial, HR1.out⟩
          case measure => simp [intOf]; omega
      · have hltI : ¬ (k : Int) < (s.size : Int) := by omega
        have hke : E = k := HR.out.stop hlt
        subst hke
        clear HR
        by_cases h32 : 32 < E - p
        · have h32I : (32 : Int) < (E : Int) - (p : Int) := by omega
          have HX : Hid (G = ⟨4, Tk.zero, 0⟩) := by show G = _; rw [HN.out, if_pos h32]
          clear h32 HN
          go_wp2_with (refine wpList_store_row rfl 82 _ _ rfl w.heap.size #[.int .i64 0, .string ⟨#[]⟩, .int .i64 0, .bool false, .int .i64 0, .int .i64 0, .int .i64 4] rfl rfl 82 _ HBK.out (by kernel_rfl) rfl (by simp [Value.oneCell']) ?_)
          refine bodyPost_ret (ret_cell1 Tryz.results23 rfl (HBK.out.lay _) Tryz.underlying82 (by kernel_rfl)) rfl ?_
          exact RGot.mk (by rw [HX.out]; rfl) HB.out
        · have h32I : ¬ (32 : Int) < (E : Int) - (p : Int) := by omega
          have HX : Hid (G = ⟨0, ⟨2, s.extract p E, 0, false, 0⟩, E - p⟩) := by show G = _; rw [HN.out, if_neg h32]
          have HEP : Hid (p + (E - p) = E) := by show _ = _; have := HPE.out; omega
          have hpE : (p : Int) ≤ (E : Int) := by have := HPE.out; omega
          clear h32 HN
          go_wp2_with (first
            | (go_at_call 40; refine (HG.out wr).mono ?_; rintro e w1 ⟨rfl, hw1⟩; obtain rfl : wr = w1 := hw1.symm)
            | (refine wpList_store_row rfl 82 _ _ rfl w.heap.size #[.int .i64 2, .string (s.extract p E), .int .i64 0, .bool false, .int .i64 0, .int .i64 (E : Int), .int .i64 0] rfl rfl 82 _ HBK.out (by kernel_rfl) rfl (by simp [Value.oneCell']) ?_))
          refine bodyPost_ret (ret_cell1 Tryz.results23 rfl (HBK.out.lay _) Tryz.underlying82 (by kernel_rfl)) rfl ?_
          exact RGot.mk (by rw [HX.out]; simp only [gotC, if_true, HEP.out]; rfl) HB.out
  · have hn1I : ¬ (p1 : Int) < (s.size : Int) := by omega
    clear hp1
    go_enter Tryz.func23, Tryz.ntmps23
    go_wp2_with fail
    obtain ⟨W0, hW0⟩ : ∃ W0, W0 = w.alloc (.cells #[.int .i64 0, .string ⟨#[]⟩, .int .i64 0, .bool false, .int .i64 0, .int .i64 0, .int .i64 0] 82) := ⟨_, rfl⟩
    rw [← hW0] at HBK HB q0
    rw [← hW0]
    clear hW0
    go_wp2_with (first
      | (go_at_call 39; refine (HS.out W0).mono ?_; rintro e w1 ⟨rfl, hw1⟩; obtain rfl : W0 = w1 := hw1.symm)
      | (go_at_call 40; refine (HG.out W0).mono ?_; rintro e w1 ⟨rfl, hw1⟩; obtain rfl : W0 = w1 := hw1.symm))
    go_loopw [7] (fun av wr => ∃ k : Nat, (k : Int) ≤ (s.size : Int) ∧ av = .int .i64 (k : Int) ∧ wr = W0 ∧ Hid (InAt s p E k)) (fun av _ => s.size - (intOf av).toNat)
    case atStart => exact ⟨p, by omega, rfl, rfl, HRA⟩
    case round =>
      clear HRA
      obtain ⟨k, hk, rfl, hw, HR⟩ := hrel
      subst hw
      by_cases hlt : k < s.size
      · have hltI : (k : Int) < (s.size : Int) := by omega
        have hkI : (k : Int) ≤ 65536 := by omega
        have HWD := Lib.hid (fun W => rword_any s[k] W)
        have HRY : Hid (innerQ s[k] = true → InAt s p E (k + 1)) := fun h => HR.out.yes hlt h
        have HRN : Hid (innerQ s[k] = false → E = k) := fun h => HR.out.no hlt h
        obtain ⟨b, hb⟩ : ∃ b, b = innerQ s[k] := ⟨_, rfl⟩
        rw [← hb] at HWD HRY HRN
        clear hb HR
        cases b
        · obtain rfl := HRN.out rfl
          clear HRY HRN
          by_cases h32 : 32 < E - p
          · exfalso; omega
          · have h32I : ¬ (32 : Int) < (E : Int) - (p : Int) := by omega
            have HX : Hid (G = ⟨0, ⟨2, s.extract p E, 0, false, 0⟩, E - p⟩) := by show G = _; rw [HN.out, if_neg h32]
            have HEP : Hid (p + (E - p) = E) := by show _ = _; have := HPE.out; omega
            have hpE : (p : Int) ≤ (E : Int) := by have := HPE.out; omega
            clear h32 HN
            go_wp2_with (first
              | (go_at_call 41; refine (HWD.out _).mono ?_; rintro e w1 ⟨rfl, hw1⟩; obtain rfl : wr = w1 := hw1.symm; clear HWD)
              | (go_at_call 40; refine (HG.out wr).mono ?_; rintro e w1 ⟨rfl, hw1⟩; obtain rfl : wr = w1 := hw1.symm)
              | (refine wpList_store_row rfl 82 _ _ rfl w.heap.size #[.int .i64 2, .string (s.extract p E), .int .i64 0, .bool false, .int .i64 0, .int .i64 (E : Int), .int .i64 0] rfl rfl 82 _ HBK.out (by kernel_rfl) rfl (by simp [Value.oneCell']) ?_))
            refine bodyPost_ret (ret_cell1 Tryz.results23 rfl (HBK.out.lay _) Tryz.underlying82 (by kernel_rfl)) rfl ?_
            exact RGot.mk (by rw [HX.out]; simp only [gotC, if_true, HEP.out]; rfl) HB.out
        · have HR1 := Lib.hid (HRY.out rfl)
          clear HRY HRN
          go_wp2_with (go_at_call 41; refine (HWD.out _).mono ?_; rintro e w1 ⟨rfl, hw1⟩; obtain rfl : wr = w1 := hw1.symm)
          go_roundw
          case rel => exact ⟨k + 1, by omega, by go_num, by first | rfl | trivial, HR1.out⟩
          case measure => simp [intOf]; omega
      · have hltI : ¬ (k : Int) < (s.size : Int) := by omega
        have hke : E = k := HR.out.stop hlt
        subst hke
        clear HR
        by_cases h32 : 32 < E - p
        · exfalso; omega
        · have h32I : ¬ (32 : Int) < (E : Int) - (p : Int) := by omega
          have HX : Hid (G = ⟨0, ⟨2, s.extract p E, 0, false, 0⟩, E - p⟩) := by show G = _; rw [HN.out, if_neg h32]
          have HEP : Hid (p + (E - p) = E) := by show _ = _; have := HPE.out; omega
          have hpE : (p : Int) ≤ (E : Int) := by have := HPE.out; omega
          clear h32 HN
          go_wp2_with (first
            | (go_at_call 40; refine (HG.out wr).mono ?_; rintro e w1 ⟨rfl, hw1⟩; obtain rfl : wr = w1 := hw1.symm)
            | (refine wpList_store_row rfl 82 _ _ rfl w.heap.size #[.int .i64 2, .string (s.extract p E), .int .i64 0, .bool false, .int .i64 0, .int .i64 (E : Int), .int .i64 0] rfl rfl 82 _ HBK.out (by kernel_rfl) rfl (by simp [Value.oneCell']) ?_))
          refine bodyPost_ret (ret_cell1 Tryz.results23 rfl (HBK.out.lay _) Tryz.underlying82 (by kernel_rfl)) rfl ?_
          exact RGot.mk (by rw [HX.out]; simp only [gotC, if_true, HEP.out]; rfl) HB.out
set_option maxRecDepth 100000 in
set_option maxHeartbeats 4000000 in
theorem rone_fig (s : ByteArray) (p : Nat) (w : World) (hs : s.size ≤ 65536) (hp : p < s.size) (hc : figureQ s[p] = true) :
    Calls Tryz.prog 23 #[.string s, .int .i64 (p : Int)] w fun e w' => RGot (numL (s.data.toList.drop p)) p w e w' := by
  have HBK := Lib.hid (Blk.new w gotZ 82)
  have HB := Lib.hid (al_bel w (.cells gotZ 82))
  unfold gotZ at HBK HB
  have q0 := HB.out.size
  have i3 : (s.size : Int) ≤ 65536 := by omega
  have hpI : (p : Int) < (s.size : Int) := by omega
  have HS := Lib.hid (fun W => rsmall_any s[p] W)
  have HG := Lib.hid (fun W => rbig_any s[p] W)
  have HF := Lib.hid (fun W => rfigure_any s[p] W)
  have HNU := Lib.hid (fun W => rnum_high s p W hs hp hc)
  rw [(fig_not hc).1] at HS
  rw [(fig_not hc).2] at HG
  rw [hc] at HF
  clear hs hc
  obtain ⟨p1, hp1⟩ : ∃ p1, p1 = p + 1 := ⟨_, rfl⟩
  have hpp : (p : Int) + 1 = (p1 : Int) := by omega
  have hpb : (p1 : Int) ≤ 65536 := by omega
  have HP1 := Lib.hid hp1
  by_cases hn1 : p1 < s.size
  · have hn1I : (p1 : Int) < (s.size : Int) := by omega
    obtain ⟨g, hg⟩ : ∃ g, g = numL (s.data.toList.drop p) := ⟨_, rfl⟩
    simp only [← hg, RGot] at HNU ⊢
    clear hg
    obtain ⟨bd, ⟨kd, st, nn, qq, pp⟩, ln⟩ := g
    simp only [gotC] at HNU ⊢
    obtain ⟨to, hto⟩ : ∃ to, to = (if bd = 0 then p + ln else 0) := ⟨_, rfl⟩
    simp only [← hto] at HNU ⊢
    clear hto hp1
    go_enter Tryz.func23, Tryz.ntmps23
    go_wp2_with fail
    obtain ⟨W0, hW0⟩ : ∃ W0, W0 = w.alloc (.cells #[.int .i64 0, .string ⟨#[]⟩, .int .i64 0, .bool false, .int .i64 0, .int .i64 0, .int .i64 0] 82) := ⟨_, rfl⟩
    rw [← hW0] at HBK HB q0
    rw [← hW0]
    clear hW0
    go_wp2_with (first
      | (go_at_call 39; refine (HS.out W0).mono ?_; rintro e w1 ⟨rfl, hw1⟩; obtain rfl : W0 = w1 := hw1.symm)
      | (go_at_call 40; refine (HG.out W0).mono ?_; rintro e w1 ⟨rfl, hw1⟩; obtain rfl : W0 = w1 := hw1.symm)
      | (go_at_call 42; refine (HF.out W0).mono ?_; rintro e w1 ⟨rfl, hw1⟩; obtain rfl : W0 = w1 := hw1.symm; clear HF)
      | (go_at_call 43; refine (HNU.out W0).mono ?_; rintro e w1 ⟨rfl, hb1⟩; have HBK1 := Lib.hid (HBK.out.below hb1); have HB1 := Lib.hid (HB.out.trans (hb1.mono q0)); clear hb1)
      | (refine wpList_store_row rfl 82 _ _ rfl w.heap.size #[.int .i64 kd, .string st, .int .i64 nn, .bool qq, .int .i64 pp, .int .i64 (to : Int), .int .i64 (bd : Int)] rfl rfl 82 _ HBK1.out (by kernel_rfl) rfl (by simp [Value.oneCell']) ?_))
    refine bodyPost_ret (ret_cell1 Tryz.results23 rfl (HBK1.out.lay _) Tryz.underlying82 (by kernel_rfl)) rfl ?_
    exact ⟨rfl, below_lay HB1.out (Nat.le_refl _) _⟩
  · have hn1I : ¬ (p1 : Int) < (s.size : Int) := by omega
    obtain ⟨g, hg⟩ : ∃ g, g = numL (s.data.toList.drop p) := ⟨_, rfl⟩
    simp only [← hg, RGot] at HNU ⊢
    clear hg
    obtain ⟨bd, ⟨kd, st, nn, qq, pp⟩, ln⟩ := g
    simp only [gotC] at HNU ⊢
    obtain ⟨to, hto⟩ : ∃ to, to = (if bd = 0 then p + ln else 0) := ⟨_, rfl⟩
    simp only [← hto] at HNU ⊢
    clear hto hp1
    go_enter Tryz.func23, Tryz.ntmps23
    go_wp2_with fail
    obtain ⟨W0, hW0⟩ : ∃ W0, W0 = w.alloc (.cells #[.int .i64 0, .string ⟨#[]⟩, .int .i64 0, .bool false, .int .i64 0, .int .i64 0, .int .i64 0] 82) := ⟨_, rfl⟩
    rw [← hW0] at HBK HB q0
    rw [← hW0]
    clear hW0
    go_wp2_with (first
      | (go_at_call 39; refine (HS.out W0).mono ?_; rintro e w1 ⟨rfl, hw1⟩; obtain rfl : W0 = w1 := hw1.symm)
      | (go_at_call 40; refine (HG.out W0).mono ?_; rintro e w1 ⟨rfl, hw1⟩; obtain rfl : W0 = w1 := hw1.symm)
      | (go_at_call 42; refine (HF.out W0).mono ?_; rintro e w1 ⟨rfl, hw1⟩; obtain rfl : W0 = w1 := hw1.symm; clear HF)
      | (go_at_call 43; refine (HNU.out W0).mono ?_; rintro e w1 ⟨rfl, hb1⟩; have HBK1 := Lib.hid (HBK.out.below hb1); have HB1 := Lib.hid (HB.out.trans (hb1.mono q0)); clear hb1)
      | (refine wpList_store_row rfl 82 _ _ rfl w.heap.size #[.int .i64 kd, .string st, .int .i64 nn, .bool qq, .int .i64 pp, .int .i64 (to : Int), .int .i64 (bd : Int)] rfl rfl 82 _ HBK1.out (by kernel_rfl) rfl (by simp [Value.oneCell']) ?_))
    refine bodyPost_ret (ret_cell1 Tryz.results23 rfl (HBK1.out.lay _) Tryz.underlying82 (by kernel_rfl)) rfl ?_
    exact ⟨rfl, below_lay HB1.out (Nat.le_refl _) _⟩
set_option maxRecDepth 100000 in
set_option maxHeartbeats 4000000 in
theorem rone_low (s : ByteArray) (p : Nat) (w : World) (hs : s.size ≤ 65536) (hp : p < s.size) (hc : s[p] = 45) (hp2 : p + 1 < s.size) (hf : figureQ s[p + 1] = true) :
    Calls Tryz.prog 23 #[.string s, .int .i64 (p : Int)] w fun e w' => RGot (numL (s.data.toList.drop p)) p w e w' := by
  have HBK := Lib.hid (Blk.new w gotZ 82)
  have HB := Lib.hid (al_bel w (.cells gotZ 82))
  unfold gotZ at HBK HB
  have q0 := HB.out.size
  have i3 : (s.size : Int) ≤ 65536 := by omega
  have hpI : (p : Int) < (s.size : Int) := by omega
  have HS := Lib.hid (fun W => rsmall_any s[p] W)
  have HG := Lib.hid (fun W => rbig_any s[p] W)
  have HF := Lib.hid (fun W => rfigure_any s[p] W)
  have HNU := Lib.hid (fun W => rnum_low s p W hs hp hc (by rw [runLen_yes hp2 hf]; omega))
  have HFN := Lib.hid (fun W => rfigure_any s[p + 1] W)
  rw [hf] at HFN
  have e0 : (s[p].toNat : Int) = 45 := by rw [hc]; rfl
  have e1 : smallQ s[p] = false ∧ greatQ s[p] = false ∧ figureQ s[p] = false := by rw [hc]; decide
  rw [e1.1, e0] at HS
  rw [e1.2.1, e0] at HG
  rw [e1.2.2, e0] at HF
  obtain ⟨p1, hp1⟩ : ∃ p1, p1 = p + 1 := ⟨_, rfl⟩
  have hpp : (p : Int) + 1 = (p1 : Int) := by omega
  have hpb : (p1 : Int) ≤ 65536 := by omega
  have hn1I : (p1 : Int) < (s.size : Int) := by omega
  have hn1 : p1 < s.size := by omega
  have e9 : (s[p1].toNat : Int) = (s[p + 1].toNat : Int) := by simp only [hp1]
  rw [← e9] at HFN
  clear hs hc hf e1 e9 hp2
  obtain ⟨g, hg⟩ : ∃ g, g = numL (s.data.toList.drop p) := ⟨_, rfl⟩
  simp only [← hg, RGot] at HNU ⊢
  clear hg
  obtain ⟨bd, ⟨kd, st, nn, qq, pp⟩, ln⟩ := g
  simp only [gotC] at HNU ⊢
  obtain ⟨to, hto⟩ : ∃ to, to = (if bd = 0 then p + ln else 0) := ⟨_, rfl⟩
  simp only [← hto] at HNU ⊢
  clear hto hp1
  go_enter Tryz.func23, Tryz.ntmps23
  go_wp2_with fail
  obtain ⟨W0, hW0⟩ : ∃ W0, W0 = w.alloc (.cells #[.int .i64 0, .string ⟨#[]⟩, .int .i64 0, .bool false, .int .i64 0, .int .i64 0, .int .i64 0] 82) := ⟨_, rfl⟩
  rw [← hW0] at HBK HB q0
  rw [← hW0]
  clear hW0
  go_wp2_with (first
    | (go_at_call 39; refine (HS.out W0).mono ?_; rintro e w1 ⟨rfl, hw1⟩; obtain rfl : W0 = w1 := hw1.symm)
    | (go_at_call 40; refine (HG.out W0).mono ?_; rintro e w1 ⟨rfl, hw1⟩; obtain rfl : W0 = w1 := hw1.symm)
    | (go_at_call 42; refine (HF.out W0).mono ?_; rintro e w1 ⟨rfl, hw1⟩; obtain rfl : W0 = w1 := hw1.symm; clear HF)
    | (go_at_call 42; refine (HFN.out W0).mono ?_; rintro e w1 ⟨rfl, hw1⟩; obtain rfl : W0 = w1 := hw1.symm; clear HFN)
    | (go_at_call 43; refine (HNU.out W0).mono ?_; rintro e w1 ⟨rfl, hb1⟩; have HBK1 := Lib.hid (HBK.out.below hb1); have HB1 := Lib.hid (HB.out.trans (hb1.mono q0)); clear hb1)
    | (refine wpList_store_row rfl 82 _ _ rfl w.heap.size #[.int .i64 kd, .string st, .int .i64 nn, .bool qq, .int .i64 pp, .int .i64 (to : Int), .int .i64 (bd : Int)] rfl rfl 82 _ HBK1.out (by kernel_rfl) rfl (by simp [Value.oneCell']) ?_))
  refine bodyPost_ret (ret_cell1 Tryz.results23 rfl (HBK1.out.lay _) Tryz.underlying82 (by kernel_rfl)) rfl ?_
  exact ⟨rfl, below_lay HB1.out (Nat.le_refl _) _⟩
set_option maxRecDepth 100000 in
set_option maxHeartbeats 4000000 in
theorem rone_quo (s : ByteArray) (p : Nat) (w : World) (hs : s.size ≤ 65536) (hp : p < s.size) (hc : s[p] = 39) :
    Calls Tryz.prog 23 #[.string s, .int .i64 (p : Int)] w fun e w' => RGot (quoOf (quoS (s.data.toList.drop (p + 1)))) p w e w' := by
  have HBK := Lib.hid (Blk.new w gotZ 82)
  have HB := Lib.hid (al_bel w (.cells gotZ 82))
  unfold gotZ at HBK HB
  have q0 := HB.out.size
  have i3 : (s.size : Int) ≤ 65536 := by omega
  have hpI : (p : Int) < (s.size : Int) := by omega
  have HS := Lib.hid (fun W => rsmall_any s[p] W)
  have HG := Lib.hid (fun W => rbig_any s[p] W)
  have HF := Lib.hid (fun W => rfigure_any s[p] W)
  have HNU := Lib.hid (fun W => rquo_any s p W hs hp)
  have e0 : (s[p].toNat : Int) = 39 := by rw [hc]; rfl
  have e1 : smallQ s[p] = false ∧ greatQ s[p] = false ∧ figureQ s[p] = false := by rw [hc]; decide
  rw [e1.1, e0] at HS
  rw [e1.2.1, e0] at HG
  rw [e1.2.2, e0] at HF
  clear hs hc e1
  obtain ⟨p1, hp1⟩ : ∃ p1, p1 = p + 1 := ⟨_, rfl⟩
  have hpp : (p : Int) + 1 = (p1 : Int) := by omega
  have hpb : (p1 : Int) ≤ 65536 := by omega
  have HP1 := Lib.hid hp1
  by_cases hn1 : p1 < s.size
  · have hn1I : (p1 : Int) < (s.size : Int) := by omega
    obtain ⟨g, hg⟩ : ∃ g, g = quoOf (quoS (s.data.toList.drop (p + 1))) := ⟨_, rfl⟩
    simp only [← hg] at HNU ⊢
    clear hg
    rw [← hp1] at HNU
    have hg : True := trivial
    simp only [RGot] at HNU ⊢
    clear hg
    obtain ⟨bd, ⟨kd, st, nn, qq, pp⟩, ln⟩ := g
    simp only [gotC] at HNU ⊢
    obtain ⟨to, hto⟩ : ∃ to, to = (if bd = 0 then p + ln else 0) := ⟨_, rfl⟩
    simp only [← hto] at HNU ⊢
    clear hto hp1
    go_enter Tryz.func23, Tryz.ntmps23
    go_wp2_with fail
    obtain ⟨W0, hW0⟩ : ∃ W0, W0 = w.alloc (.cells #[.int .i64 0, .string ⟨#[]⟩, .int .i64 0, .bool false, .int .i64 0, .int .i64 0, .int .i64 0] 82) := ⟨_, rfl⟩
    rw [← hW0] at HBK HB q0
    rw [← hW0]
    clear hW0
    go_wp2_with (first
      | (go_at_call 39; refine (HS.out W0).mono ?_; rintro e w1 ⟨rfl, hw1⟩; obtain rfl : W0 = w1 := hw1.symm)
      | (go_at_call 40; refine (HG.out W0).mono ?_; rintro e w1 ⟨rfl, hw1⟩; obtain rfl : W0 = w1 := hw1.symm)
      | (go_at_call 42; refine (HF.out W0).mono ?_; rintro e w1 ⟨rfl, hw1⟩; obtain rfl : W0 = w1 := hw1.symm; clear HF)
      | (go_at_call 44; refine (HNU.out W0).mono ?_; rintro e w1 ⟨rfl, hb1⟩; have HBK1 := Lib.hid (HBK.out.below hb1); have HB1 := Lib.hid (HB.out.trans (hb1.mono q0)); clear hb1)
      | (refine wpList_store_row rfl 82 _ _ rfl w.heap.size #[.int .i64 kd, .string st, .int .i64 nn, .bool qq, .int .i64 pp, .int .i64 (to : Int), .int .i64 (bd : Int)] rfl rfl 82 _ HBK1.out (by kernel_rfl) rfl (by simp [Value.oneCell']) ?_))
    refine bodyPost_ret (ret_cell1 Tryz.results23 rfl (HBK1.out.lay _) Tryz.underlying82 (by kernel_rfl)) rfl ?_
    exact ⟨rfl, below_lay HB1.out (Nat.le_refl _) _⟩
  · have hn1I : ¬ (p1 : Int) < (s.size : Int) := by omega
    obtain ⟨g, hg⟩ : ∃ g, g = quoOf (quoS (s.data.toList.drop (p + 1))) := ⟨_, rfl⟩
    simp only [← hg] at HNU ⊢
    clear hg
    rw [← hp1] at HNU
    have hg : True := trivial
    simp only [RGot] at HNU ⊢
    clear hg
    obtain ⟨bd, ⟨kd, st, nn, qq, pp⟩, ln⟩ := g
    simp only [gotC] at HNU ⊢
    obtain ⟨to, hto⟩ : ∃ to, to = (if bd = 0 then p + ln else 0) := ⟨_, rfl⟩
    simp only [← hto] at HNU ⊢
    clear hto hp1
    go_enter Tryz.func23, Tryz.ntmps23
    go_wp2_with fail
    obtain ⟨W0, hW0⟩ : ∃ W0, W0 = w.alloc (.cells #[.int .i64 0, .string ⟨#[]⟩, .int .i64 0, .bool false, .int .i64 0, .int .i64 0, .int .i64 0] 82) := ⟨_, rfl⟩
    rw [← hW0] at HBK HB q0
    rw [← hW0]
    clear hW0
    go_wp2_with (first
      | (go_at_call 39; refine (HS.out W0).mono ?_; rintro e w1 ⟨rfl, hw1⟩; obtain rfl : W0 = w1 := hw1.symm)
      | (go_at_call 40; refine (HG.out W0).mono ?_; rintro e w1 ⟨rfl, hw1⟩; obtain rfl : W0 = w1 := hw1.symm)
      | (go_at_call 42; refine (HF.out W0).mono ?_; rintro e w1 ⟨rfl, hw1⟩; obtain rfl : W0 = w1 := hw1.symm; clear HF)
      | (go_at_call 44; refine (HNU.out W0).mono ?_; rintro e w1 ⟨rfl, hb1⟩; have HBK1 := Lib.hid (HBK.out.below hb1); have HB1 := Lib.hid (HB.out.trans (hb1.mono q0)); clear hb1)
      | (refine wpList_store_row rfl 82 _ _ rfl w.heap.size #[.int .i64 kd, .string st, .int .i64 nn, .bool qq, .int .i64 pp, .int .i64 (to : Int), .int .i64 (bd : Int)] rfl rfl 82 _ HBK1.out (by kernel_rfl) rfl (by simp [Value.oneCell']) ?_))
    refine bodyPost_ret (ret_cell1 Tryz.results23 rfl (HBK1.out.lay _) Tryz.underlying82 (by kernel_rfl)) rfl ?_
    exact ⟨rfl, below_lay HB1.out (Nat.le_refl _) _⟩
end Go.Proofs.YtekhcaanjaoioaaGreatDoor
