/-
  Contract of the document's one (lambrequinref05): marks.
-/
import Derived.Test.YtekhcaanjaoioaaGreatDoorKRefC
namespace Go.Proofs.YtekhcaanjaoioaaGreatDoor
set_option linter.unusedSimpArgs false
set_option linter.unusedVariables false
set_option linter.unusedSectionVars false
set_option maxRecDepth 100000
open Go.RowKit

theorem ba_one (s : ByteArray) (p : Nat) (h : p < s.size) : s.extract p (p + 1) = ⟨#[s[p]]⟩ := by
  rw [extract_drop, drop_at h]
  rfl
theorem ba_two (s : ByteArray) (p : Nat) (h : p + 1 < s.size) : s.extract p (p + 2) = ⟨#[s[p], s[p + 1]]⟩ := by
  rw [extract_drop, drop_at (by omega), drop_at h]
  rfl
set_option maxRecDepth 100000 in
set_option maxHeartbeats 4000000 in
theorem rone_m40 (s : ByteArray) (p : Nat) (w : World) (hs : s.size ≤ 65536) (hp : p < s.size) (hc : s[p] = 40) :
    Calls Tryz.prog 23 #[.string s, .int .i64 (p : Int)] w fun e w' => RGot (markL (s.data.toList.drop p)) p w e w' := by
  have HBK := Lib.hid (Blk.new w gotZ 82)
  have HB := Lib.hid (al_bel w (.cells gotZ 82))
  unfold gotZ at HBK HB
  have q0 := HB.out.size
  have i3 : (s.size : Int) ≤ 65536 := by omega
  have hpI : (p : Int) < (s.size : Int) := by omega
  have HS := Lib.hid (fun W => rsmall_any s[p] W)
  have HG := Lib.hid (fun W => rbig_any s[p] W)
  have HF := Lib.hid (fun W => rfigure_any s[p] W)
  have e0 : (s[p].toNat : Int) = 40 := by rw [hc]; rfl
  have e1 : smallQ s[p] = false ∧ greatQ s[p] = false ∧ figureQ s[p] = false := by rw [hc]; decide
  rw [e1.1, e0] at HS
  rw [e1.2.1, e0] at HG
  rw [e1.2.2, e0] at HF
  obtain ⟨p1, hp1⟩ : ∃ p1, p1 = p + 1 := ⟨_, rfl⟩
  obtain ⟨p2, hp2⟩ : ∃ p2, p2 = p + 2 := ⟨_, rfl⟩
  have hpp : (p : Int) + 1 = (p1 : Int) := by omega
  have hpq : (p : Int) + 2 = (p2 : Int) := by omega
  have hpb : (p1 : Int) ≤ 65536 := by omega
  have hpc : (p2 : Int) ≤ 65537 := by omega
  have hp1le : (p1 : Int) ≤ (s.size : Int) := by omega
  have hpp1 : (p : Int) ≤ (p1 : Int) := by omega
  have hpp2 : (p : Int) ≤ (p2 : Int) := by omega
  have hd := drop_at hp
  rw [hc] at hd
  have hB1 : s.extract p p1 = ⟨#[40]⟩ := by rw [hp1, ba_one s p hp, hc]
  obtain ⟨g, hg⟩ : ∃ g, g = markL (s.data.toList.drop p) := ⟨_, rfl⟩
  rw [← hg]
  have hm : markL (s.data.toList.drop p) = ⟨0, ⟨4, ⟨#[40]⟩, 0, false, 0⟩, 1⟩ := by rw [hd]; exact mark_one _ (by simp) (by intro h; rcases h with h | h <;> exact absurd h (by decide))
  have HX : Hid (gotC g p = #[.int .i64 4, .string (s.extract p p1), .int .i64 0, .bool false, .int .i64 0, .int .i64 (p1 : Int), .int .i64 0]) := by show gotC g p = _; rw [hg, hm, hB1, hp1]; rfl
  by_cases hn1 : p1 < s.size
  · have hn1I : (p1 : Int) < (s.size : Int) := by omega
    clear hg hm hd hc e1 hB1 hp1 hp2 hs
    go_enter Tryz.func23, Tryz.ntmps23
    go_wp2_with fail
    obtain ⟨W0, hW0⟩ : ∃ W0, W0 = w.alloc (.cells #[.int .i64 0, .string ⟨#[]⟩, .int .i64 0, .bool false, .int .i64 0, .int .i64 0, .int .i64 0] 82) := ⟨_, rfl⟩
    rw [← hW0] at HBK HB q0
    rw [← hW0]
    clear hW0
    go_wp2_with (first
      | (go_at_call 39; refine (HS.out W0).mono ?_; rintro e w1 ⟨rfl, hw1⟩; obtain rfl : W0 = w1 := hw1.symm)
      | (go_at_call 40; refine (HG.out W0).mono ?_; rintro e w1 ⟨rfl, hw1⟩; obtain rfl : W0 = w1 := hw1.symm)
      | (go_at_call 42; refine (HF.out W0).mono ?_; rintro e w1 ⟨rfl, hw1⟩; obtain rfl : W0 = w1 := hw1.symm; clear HF)
      | (refine wpList_store_row rfl 82 _ _ rfl w.heap.size #[.int .i64 4, .string (s.extract p p1), .int .i64 0, .bool false, .int .i64 0, .int .i64 (p1 : Int), .int .i64 0] rfl rfl 82 _ HBK.out (by kernel_rfl) rfl (by simp [Value.oneCell']) ?_))
    refine bodyPost_ret (ret_cell1 Tryz.results23 rfl (HBK.out.lay _) Tryz.underlying82 (by kernel_rfl)) rfl ?_
    exact RGot.mk HX.out.symm HB.out
  · have hn1I : ¬ (p1 : Int) < (s.size : Int) := by omega
    clear hg hm hd hc e1 hB1 hp1 hp2 hs
    go_enter Tryz.func23, Tryz.ntmps23
    go_wp2_with fail
    obtain ⟨W0, hW0⟩ : ∃ W0, W0 = w.alloc (.cells #[.int .i64 0, .string ⟨#[]⟩, .int .i64 0, .bool false, .int .i64 0, .int .i64 0, .int .i64 0] 82) := ⟨_, rfl⟩
    rw [← hW0] at HBK HB q0
    rw [← hW0]
    clear hW0
    go_wp2_with (first
      | (go_at_call 39; refine (HS.out W0).mono ?_; rintro e w1 ⟨rfl, hw1⟩; obtain rfl : W0 = w1 := hw1.symm)
      | (go_at_call 40; refine (HG.out W0).mono ?_; rintro e w1 ⟨rfl, hw1⟩; obtain rfl : W0 = w1 := hw1.symm)
      | (go_at_call 42; refine (HF.out W0).mono ?_; rintro e w1 ⟨rfl, hw1⟩; obtain rfl : W0 = w1 := hw1.symm; clear HF)
      | (refine wpList_store_row rfl 82 _ _ rfl w.heap.size #[.int .i64 4, .string (s.extract p p1), .int .i64 0, .bool false, .int .i64 0, .int .i64 (p1 : Int), .int .i64 0] rfl rfl 82 _ HBK.out (by kernel_rfl) rfl (by simp [Value.oneCell']) ?_))
    refine bodyPost_ret (ret_cell1 Tryz.results23 rfl (HBK.out.lay _) Tryz.underlying82 (by kernel_rfl)) rfl ?_
    exact RGot.mk HX.out.symm HB.out
set_option maxRecDepth 100000 in
set_option maxHeartbeats 4000000 in
theorem rone_m41 (s : ByteArray) (p : Nat) (w : World) (hs : s.size ≤ 65536) (hp : p < s.size) (hc : s[p] = 41) :
    Calls Tryz.prog 23 #[.string s, .int .i64 (p : Int)] w fun e w' => RGot (markL (s.data.toList.drop p)) p w e w' := by
  have HBK := Lib.hid (Blk.new w gotZ 82)
  have HB := Lib.hid (al_bel w (.cells gotZ 82))
  unfold gotZ at HBK HB
  have q0 := HB.out.size
  have i3 : (s.size : Int) ≤ 65536 := by omega
  have hpI : (p : Int) < (s.size : Int) := by omega
  have HS := Lib.hid (fun W => rsmall_any s[p] W)
  have HG := Lib.hid (fun W => rbig_any s[p] W)
  have HF := Lib.hid (fun W => rfigure_any s[p] W)
  have e0 : (s[p].toNat : Int) = 41 := by rw [hc]; rfl
  have e1 : smallQ s[p] = false ∧ greatQ s[p] = false ∧ figureQ s[p] = false := by rw [hc]; decide
  rw [e1.1, e0] at HS
  rw [e1.2.1, e0] at HG
  rw [e1.2.2, e0] at HF
  obtain ⟨p1, hp1⟩ : ∃ p1, p1 = p + 1 := ⟨_, rfl⟩
  obtain ⟨p2, hp2⟩ : ∃ p2, p2 = p + 2 := ⟨_, rfl⟩
  have hpp : (p : Int) + 1 = (p1 : Int) := by omega
  have hpq : (p : Int) + 2 = (p2 : Int) := by omega
  have hpb : (p1 : Int) ≤ 65536 := by omega
  have hpc : (p2 : Int) ≤ 65537 := by omega
  have hp1le : (p1 : Int) ≤ (s.size : Int) := by omega
  have hpp1 : (p : Int) ≤ (p1 : Int) := by omega
  have hpp2 : (p : Int) ≤ (p2 : Int) := by omega
  have hd := drop_at hp
  rw [hc] at hd
  have hB1 : s.extract p p1 = ⟨#[41]⟩ := by rw [hp1, ba_one s p hp, hc]
  obtain ⟨g, hg⟩ : ∃ g, g = markL (s.data.toList.drop p) := ⟨_, rfl⟩
  rw [← hg]
  have hm : markL (s.data.toList.drop p) = ⟨0, ⟨4, ⟨#[41]⟩, 0, false, 0⟩, 1⟩ := by rw [hd]; exact mark_one _ (by simp) (by intro h; rcases h with h | h <;> exact absurd h (by decide))
  have HX : Hid (gotC g p = #[.int .i64 4, .string (s.extract p p1), .int .i64 0, .bool false, .int .i64 0, .int .i64 (p1 : Int), .int .i64 0]) := by show gotC g p = _; rw [hg, hm, hB1, hp1]; rfl
  by_cases hn1 : p1 < s.size
  · have hn1I : (p1 : Int) < (s.size : Int) := by omega
    clear hg hm hd hc e1 hB1 hp1 hp2 hs
    go_enter Tryz.func23, Tryz.ntmps23
    go_wp2_with fail
    obtain ⟨W0, hW0⟩ : ∃ W0, W0 = w.alloc (.cells #[.int .i64 0, .string ⟨#[]⟩, .int .i64 0, .bool false, .int .i64 0, .int .i64 0, .int .i64 0] 82) := ⟨_, rfl⟩
    rw [← hW0] at HBK HB q0
    rw [← hW0]
    clear hW0
    go_wp2_with (first
      | (go_at_call 39; refine (HS.out W0).mono ?_; rintro e w1 ⟨rfl, hw1⟩; obtain rfl : W0 = w1 := hw1.symm)
      | (go_at_call 40; refine (HG.out W0).mono ?_; rintro e w1 ⟨rfl, hw1⟩; obtain rfl : W0 = w1 := hw1.symm)
      | (go_at_call 42; refine (HF.out W0).mono ?_; rintro e w1 ⟨rfl, hw1⟩; obtain rfl : W0 = w1 := hw1.symm; clear HF)
      | (refine wpList_store_row rfl 82 _ _ rfl w.heap.size #[.int .i64 4, .string (s.extract p p1), .int .i64 0, .bool false, .int .i64 0, .int .i64 (p1 : Int), .int .i64 0] rfl rfl 82 _ HBK.out (by kernel_rfl) rfl (by simp [Value.oneCell']) ?_))
    refine bodyPost_ret (ret_cell1 Tryz.results23 rfl (HBK.out.lay _) Tryz.underlying82 (by kernel_rfl)) rfl ?_
    exact RGot.mk HX.out.symm HB.out
  · have hn1I : ¬ (p1 : Int) < (s.size : Int) := by omega
    clear hg hm hd hc e1 hB1 hp1 hp2 hs
    go_enter Tryz.func23, Tryz.ntmps23
    go_wp2_with fail
    obtain ⟨W0, hW0⟩ : ∃ W0, W0 = w.alloc (.cells #[.int .i64 0, .string ⟨#[]⟩, .int .i64 0, .bool false, .int .i64 0, .int .i64 0, .int .i64 0] 82) := ⟨_, rfl⟩
    rw [← hW0] at HBK HB q0
    rw [← hW0]
    clear hW0
    go_wp2_with (first
      | (go_at_call 39; refine (HS.out W0).mono ?_; rintro e w1 ⟨rfl, hw1⟩; obtain rfl : W0 = w1 := hw1.symm)
      | (go_at_call 40; refine (HG.out W0).mono ?_; rintro e w1 ⟨rfl, hw1⟩; obtain rfl : W0 = w1 := hw1.symm)
      | (go_at_call 42; refine (HF.out W0).mono ?_; rintro e w1 ⟨rfl, hw1⟩; obtain rfl : W0 = w1 := hw1.symm; clear HF)
      | (refine wpList_store_row rfl 82 _ _ rfl w.heap.size #[.int .i64 4, .string (s.extract p p1), .int .i64 0, .bool false, .int .i64 0, .int .i64 (p1 : Int), .int .i64 0] rfl rfl 82 _ HBK.out (by kernel_rfl) rfl (by simp [Value.oneCell']) ?_))
    refine bodyPost_ret (ret_cell1 Tryz.results23 rfl (HBK.out.lay _) Tryz.underlying82 (by kernel_rfl)) rfl ?_
    exact RGot.mk HX.out.symm HB.out
set_option maxRecDepth 100000 in
set_option maxHeartbeats 4000000 in
theorem rone_m44 (s : ByteArray) (p : Nat) (w : World) (hs : s.size ≤ 65536) (hp : p < s.size) (hc : s[p] = 44) :
    Calls Tryz.prog 23 #[.string s, .int .i64 (p : Int)] w fun e w' => RGot (markL (s.data.toList.drop p)) p w e w' := by
  have HBK := Lib.hid (Blk.new w gotZ 82)
  have HB := Lib.hid (al_bel w (.cells gotZ 82))
  unfold gotZ at HBK HB
  have q0 := HB.out.size
  have i3 : (s.size : Int) ≤ 65536 := by omega
  have hpI : (p : Int) < (s.size : Int) := by omega
  have HS := Lib.hid (fun W => rsmall_any s[p] W)
  have HG := Lib.hid (fun W => rbig_any s[p] W)
  have HF := Lib.hid (fun W => rfigure_any s[p] W)
  have e0 : (s[p].toNat : Int) = 44 := by rw [hc]; rfl
  have e1 : smallQ s[p] = false ∧ greatQ s[p] = false ∧ figureQ s[p] = false := by rw [hc]; decide
  rw [e1.1, e0] at HS
  rw [e1.2.1, e0] at HG
  rw [e1.2.2, e0] at HF
  obtain ⟨p1, hp1⟩ : ∃ p1, p1 = p + 1 := ⟨_, rfl⟩
  obtain ⟨p2, hp2⟩ : ∃ p2, p2 = p + 2 := ⟨_, rfl⟩
  have hpp : (p : Int) + 1 = (p1 : Int) := by omega
  have hpq : (p : Int) + 2 = (p2 : Int) := by omega
  have hpb : (p1 : Int) ≤ 65536 := by omega
  have hpc : (p2 : Int) ≤ 65537 := by omega
  have hp1le : (p1 : Int) ≤ (s.size : Int) := by omega
  have hpp1 : (p : Int) ≤ (p1 : Int) := by omega
  have hpp2 : (p : Int) ≤ (p2 : Int) := by omega
  have hd := drop_at hp
  rw [hc] at hd
  have hB1 : s.extract p p1 = ⟨#[44]⟩ := by rw [hp1, ba_one s p hp, hc]
  obtain ⟨g, hg⟩ : ∃ g, g = markL (s.data.toList.drop p) := ⟨_, rfl⟩
  rw [← hg]
  have hm : markL (s.data.toList.drop p) = ⟨0, ⟨4, ⟨#[44]⟩, 0, false, 0⟩, 1⟩ := by rw [hd]; exact mark_one _ (by simp) (by intro h; rcases h with h | h <;> exact absurd h (by decide))
  have HX : Hid (gotC g p = #[.int .i64 4, .string (s.extract p p1), .int .i64 0, .bool false, .int .i64 0, .int .i64 (p1 : Int), .int .i64 0]) := by show gotC g p = _; rw [hg, hm, hB1, hp1]; rfl
  by_cases hn1 : p1 < s.size
  · have hn1I : (p1 : Int) < (s.size : Int) := by omega
    clear hg hm hd hc e1 hB1 hp1 hp2 hs
    go_enter Tryz.func23, Tryz.ntmps23
    go_wp2_with fail
    obtain ⟨W0, hW0⟩ : ∃ W0, W0 = w.alloc (.cells #[.int .i64 0, .string ⟨#[]⟩, .int .i64 0, .bool false, .int .i64 0, .int .i64 0, .int .i64 0] 82) := ⟨_, rfl⟩
    rw [← hW0] at HBK HB q0
    rw [← hW0]
    clear hW0
    go_wp2_with (first
      | (go_at_call 39; refine (HS.out W0).mono ?_; rintro e w1 ⟨rfl, hw1⟩; obtain rfl : W0 = w1 := hw1.symm)
      | (go_at_call 40; refine (HG.out W0).mono ?_; rintro e w1 ⟨rfl, hw1⟩; obtain rfl : W0 = w1 := hw1.symm)
      | (go_at_call 42; refine (HF.out W0).mono ?_; rintro e w1 ⟨rfl, hw1⟩; obtain rfl : W0 = w1 := hw1.symm; clear HF)
      | (refine wpList_store_row rfl 82 _ _ rfl w.heap.size #[.int .i64 4, .string (s.extract p p1), .int .i64 0, .bool false, .int .i64 0, .int .i64 (p1 : Int), .int .i64 0] rfl rfl 82 _ HBK.out (by kernel_rfl) rfl (by simp [Value.oneCell']) ?_))
    refine bodyPost_ret (ret_cell1 Tryz.results23 rfl (HBK.out.lay _) Tryz.underlying82 (by kernel_rfl)) rfl ?_
    exact RGot.mk HX.out.symm HB.out
  · have hn1I : ¬ (p1 : Int) < (s.size : Int) := by omega
    clear hg hm hd hc e1 hB1 hp1 hp2 hs
    go_enter Tryz.func23, Tryz.ntmps23
    go_wp2_with fail
    obtain ⟨W0, hW0⟩ : ∃ W0, W0 = w.alloc (.cells #[.int .i64 0, .string ⟨#[]⟩, .int .i64 0, .bool false, .int .i64 0, .int .i64 0, .int .i64 0] 82) := ⟨_, rfl⟩
    rw [← hW0] at HBK HB q0
    rw [← hW0]
    clear hW0
    go_wp2_with (first
      | (go_at_call 39; refine (HS.out W0).mono ?_; rintro e w1 ⟨rfl, hw1⟩; obtain rfl : W0 = w1 := hw1.symm)
      | (go_at_call 40; refine (HG.out W0).mono ?_; rintro e w1 ⟨rfl, hw1⟩; obtain rfl : W0 = w1 := hw1.symm)
      | (go_at_call 42; refine (HF.out W0).mono ?_; rintro e w1 ⟨rfl, hw1⟩; obtain rfl : W0 = w1 := hw1.symm; clear HF)
      | (refine wpList_store_row rfl 82 _ _ rfl w.heap.size #[.int .i64 4, .string (s.extract p p1), .int .i64 0, .bool false, .int .i64 0, .int .i64 (p1 : Int), .int .i64 0] rfl rfl 82 _ HBK.out (by kernel_rfl) rfl (by simp [Value.oneCell']) ?_))
    refine bodyPost_ret (ret_cell1 Tryz.results23 rfl (HBK.out.lay _) Tryz.underlying82 (by kernel_rfl)) rfl ?_
    exact RGot.mk HX.out.symm HB.out
set_option maxRecDepth 100000 in
set_option maxHeartbeats 4000000 in
theorem rone_m46 (s : ByteArray) (p : Nat) (w : World) (hs : s.size ≤ 65536) (hp : p < s.size) (hc : s[p] = 46) :
    Calls Tryz.prog 23 #[.string s, .int .i64 (p : Int)] w fun e w' => RGot (markL (s.data.toList.drop p)) p w e w' := by
  have HBK := Lib.hid (Blk.new w gotZ 82)
  have HB := Lib.hid (al_bel w (.cells gotZ 82))
  unfold gotZ at HBK HB
  have q0 := HB.out.size
  have i3 : (s.size : Int) ≤ 65536 := by omega
  have hpI : (p : Int) < (s.size : Int) := by omega
  have HS := Lib.hid (fun W => rsmall_any s[p] W)
  have HG := Lib.hid (fun W => rbig_any s[p] W)
  have HF := Lib.hid (fun W => rfigure_any s[p] W)
  have e0 : (s[p].toNat : Int) = 46 := by rw [hc]; rfl
  have e1 : smallQ s[p] = false ∧ greatQ s[p] = false ∧ figureQ s[p] = false := by rw [hc]; decide
  rw [e1.1, e0] at HS
  rw [e1.2.1, e0] at HG
  rw [e1.2.2, e0] at HF
  obtain ⟨p1, hp1⟩ : ∃ p1, p1 = p + 1 := ⟨_, rfl⟩
  obtain ⟨p2, hp2⟩ : ∃ p2, p2 = p + 2 := ⟨_, rfl⟩
  have hpp : (p : Int) + 1 = (p1 : Int) := by omega
  have hpq : (p : Int) + 2 = (p2 : Int) := by omega
  have hpb : (p1 : Int) ≤ 65536 := by omega
  have hpc : (p2 : Int) ≤ 65537 := by omega
  have hp1le : (p1 : Int) ≤ (s.size : Int) := by omega
  have hpp1 : (p : Int) ≤ (p1 : Int) := by omega
  have hpp2 : (p : Int) ≤ (p2 : Int) := by omega
  have hd := drop_at hp
  rw [hc] at hd
  have hB1 : s.extract p p1 = ⟨#[46]⟩ := by rw [hp1, ba_one s p hp, hc]
  obtain ⟨g, hg⟩ : ∃ g, g = markL (s.data.toList.drop p) := ⟨_, rfl⟩
  rw [← hg]
  have hm : markL (s.data.toList.drop p) = ⟨0, ⟨4, ⟨#[46]⟩, 0, false, 0⟩, 1⟩ := by rw [hd]; exact mark_one _ (by simp) (by intro h; rcases h with h | h <;> exact absurd h (by decide))
  have HX : Hid (gotC g p = #[.int .i64 4, .string (s.extract p p1), .int .i64 0, .bool false, .int .i64 0, .int .i64 (p1 : Int), .int .i64 0]) := by show gotC g p = _; rw [hg, hm, hB1, hp1]; rfl
  by_cases hn1 : p1 < s.size
  · have hn1I : (p1 : Int) < (s.size : Int) := by omega
    clear hg hm hd hc e1 hB1 hp1 hp2 hs
    go_enter Tryz.func23, Tryz.ntmps23
    go_wp2_with fail
    obtain ⟨W0, hW0⟩ : ∃ W0, W0 = w.alloc (.cells #[.int .i64 0, .string ⟨#[]⟩, .int .i64 0, .bool false, .int .i64 0, .int .i64 0, .int .i64 0] 82) := ⟨_, rfl⟩
    rw [← hW0] at HBK HB q0
    rw [← hW0]
    clear hW0
    go_wp2_with (first
      | (go_at_call 39; refine (HS.out W0).mono ?_; rintro e w1 ⟨rfl, hw1⟩; obtain rfl : W0 = w1 := hw1.symm)
      | (go_at_call 40; refine (HG.out W0).mono ?_; rintro e w1 ⟨rfl, hw1⟩; obtain rfl : W0 = w1 := hw1.symm)
      | (go_at_call 42; refine (HF.out W0).mono ?_; rintro e w1 ⟨rfl, hw1⟩; obtain rfl : W0 = w1 := hw1.symm; clear HF)
      | (refine wpList_store_row rfl 82 _ _ rfl w.heap.size #[.int .i64 4, .string (s.extract p p1), .int .i64 0, .bool false, .int .i64 0, .int .i64 (p1 : Int), .int .i64 0] rfl rfl 82 _ HBK.out (by kernel_rfl) rfl (by simp [Value.oneCell']) ?_))
    refine bodyPost_ret (ret_cell1 Tryz.results23 rfl (HBK.out.lay _) Tryz.underlying82 (by kernel_rfl)) rfl ?_
    exact RGot.mk HX.out.symm HB.out
  · have hn1I : ¬ (p1 : Int) < (s.size : Int) := by omega
    clear hg hm hd hc e1 hB1 hp1 hp2 hs
    go_enter Tryz.func23, Tryz.ntmps23
    go_wp2_with fail
    obtain ⟨W0, hW0⟩ : ∃ W0, W0 = w.alloc (.cells #[.int .i64 0, .string ⟨#[]⟩, .int .i64 0, .bool false, .int .i64 0, .int .i64 0, .int .i64 0] 82) := ⟨_, rfl⟩
    rw [← hW0] at HBK HB q0
    rw [← hW0]
    clear hW0
    go_wp2_with (first
      | (go_at_call 39; refine (HS.out W0).mono ?_; rintro e w1 ⟨rfl, hw1⟩; obtain rfl : W0 = w1 := hw1.symm)
      | (go_at_call 40; refine (HG.out W0).mono ?_; rintro e w1 ⟨rfl, hw1⟩; obtain rfl : W0 = w1 := hw1.symm)
      | (go_at_call 42; refine (HF.out W0).mono ?_; rintro e w1 ⟨rfl, hw1⟩; obtain rfl : W0 = w1 := hw1.symm; clear HF)
      | (refine wpList_store_row rfl 82 _ _ rfl w.heap.size #[.int .i64 4, .string (s.extract p p1), .int .i64 0, .bool false, .int .i64 0, .int .i64 (p1 : Int), .int .i64 0] rfl rfl 82 _ HBK.out (by kernel_rfl) rfl (by simp [Value.oneCell']) ?_))
    refine bodyPost_ret (ret_cell1 Tryz.results23 rfl (HBK.out.lay _) Tryz.underlying82 (by kernel_rfl)) rfl ?_
    exact RGot.mk HX.out.symm HB.out
set_option maxRecDepth 100000 in
set_option maxHeartbeats 4000000 in
theorem rone_m47 (s : ByteArray) (p : Nat) (w : World) (hs : s.size ≤ 65536) (hp : p < s.size) (hc : s[p] = 47) :
    Calls Tryz.prog 23 #[.string s, .int .i64 (p : Int)] w fun e w' => RGot (markL (s.data.toList.drop p)) p w e w' := by
  have HBK := Lib.hid (Blk.new w gotZ 82)
  have HB := Lib.hid (al_bel w (.cells gotZ 82))
  unfold gotZ at HBK HB
  have q0 := HB.out.size
  have i3 : (s.size : Int) ≤ 65536 := by omega
  have hpI : (p : Int) < (s.size : Int) := by omega
  have HS := Lib.hid (fun W => rsmall_any s[p] W)
  have HG := Lib.hid (fun W => rbig_any s[p] W)
  have HF := Lib.hid (fun W => rfigure_any s[p] W)
  have e0 : (s[p].toNat : Int) = 47 := by rw [hc]; rfl
  have e1 : smallQ s[p] = false ∧ greatQ s[p] = false ∧ figureQ s[p] = false := by rw [hc]; decide
  rw [e1.1, e0] at HS
  rw [e1.2.1, e0] at HG
  rw [e1.2.2, e0] at HF
  obtain ⟨p1, hp1⟩ : ∃ p1, p1 = p + 1 := ⟨_, rfl⟩
  obtain ⟨p2, hp2⟩ : ∃ p2, p2 = p + 2 := ⟨_, rfl⟩
  have hpp : (p : Int) + 1 = (p1 : Int) := by omega
  have hpq : (p : Int) + 2 = (p2 : Int) := by omega
  have hpb : (p1 : Int) ≤ 65536 := by omega
  have hpc : (p2 : Int) ≤ 65537 := by omega
  have hp1le : (p1 : Int) ≤ (s.size : Int) := by omega
  have hpp1 : (p : Int) ≤ (p1 : Int) := by omega
  have hpp2 : (p : Int) ≤ (p2 : Int) := by omega
  have hd := drop_at hp
  rw [hc] at hd
  have hB1 : s.extract p p1 = ⟨#[47]⟩ := by rw [hp1, ba_one s p hp, hc]
  obtain ⟨g, hg⟩ : ∃ g, g = markL (s.data.toList.drop p) := ⟨_, rfl⟩
  rw [← hg]
  have hm : markL (s.data.toList.drop p) = ⟨0, ⟨4, ⟨#[47]⟩, 0, false, 0⟩, 1⟩ := by rw [hd]; exact mark_one _ (by simp) (by intro h; rcases h with h | h <;> exact absurd h (by decide))
  have HX : Hid (gotC g p = #[.int .i64 4, .string (s.extract p p1), .int .i64 0, .bool false, .int .i64 0, .int .i64 (p1 : Int), .int .i64 0]) := by show gotC g p = _; rw [hg, hm, hB1, hp1]; rfl
  by_cases hn1 : p1 < s.size
  · have hn1I : (p1 : Int) < (s.size : Int) := by omega
    clear hg hm hd hc e1 hB1 hp1 hp2 hs
    go_enter Tryz.func23, Tryz.ntmps23
    go_wp2_with fail
    obtain ⟨W0, hW0⟩ : ∃ W0, W0 = w.alloc (.cells #[.int .i64 0, .string ⟨#[]⟩, .int .i64 0, .bool false, .int .i64 0, .int .i64 0, .int .i64 0] 82) := ⟨_, rfl⟩
    rw [← hW0] at HBK HB q0
    rw [← hW0]
    clear hW0
    go_wp2_with (first
      | (go_at_call 39; refine (HS.out W0).mono ?_; rintro e w1 ⟨rfl, hw1⟩; obtain rfl : W0 = w1 := hw1.symm)
      | (go_at_call 40; refine (HG.out W0).mono ?_; rintro e w1 ⟨rfl, hw1⟩; obtain rfl : W0 = w1 := hw1.symm)
      | (go_at_call 42; refine (HF.out W0).mono ?_; rintro e w1 ⟨rfl, hw1⟩; obtain rfl : W0 = w1 := hw1.symm; clear HF)
      | (refine wpList_store_row rfl 82 _ _ rfl w.heap.size #[.int .i64 4, .string (s.extract p p1), .int .i64 0, .bool false, .int .i64 0, .int .i64 (p1 : Int), .int .i64 0] rfl rfl 82 _ HBK.out (by kernel_rfl) rfl (by simp [Value.oneCell']) ?_))
    refine bodyPost_ret (ret_cell1 Tryz.results23 rfl (HBK.out.lay _) Tryz.underlying82 (by kernel_rfl)) rfl ?_
    exact RGot.mk HX.out.symm HB.out
  · have hn1I : ¬ (p1 : Int) < (s.size : Int) := by omega
    clear hg hm hd hc e1 hB1 hp1 hp2 hs
    go_enter Tryz.func23, Tryz.ntmps23
    go_wp2_with fail
    obtain ⟨W0, hW0⟩ : ∃ W0, W0 = w.alloc (.cells #[.int .i64 0, .string ⟨#[]⟩, .int .i64 0, .bool false, .int .i64 0, .int .i64 0, .int .i64 0] 82) := ⟨_, rfl⟩
    rw [← hW0] at HBK HB q0
    rw [← hW0]
    clear hW0
    go_wp2_with (first
      | (go_at_call 39; refine (HS.out W0).mono ?_; rintro e w1 ⟨rfl, hw1⟩; obtain rfl : W0 = w1 := hw1.symm)
      | (go_at_call 40; refine (HG.out W0).mono ?_; rintro e w1 ⟨rfl, hw1⟩; obtain rfl : W0 = w1 := hw1.symm)
      | (go_at_call 42; refine (HF.out W0).mono ?_; rintro e w1 ⟨rfl, hw1⟩; obtain rfl : W0 = w1 := hw1.symm; clear HF)
      | (refine wpList_store_row rfl 82 _ _ rfl w.heap.size #[.int .i64 4, .string (s.extract p p1), .int .i64 0, .bool false, .int .i64 0, .int .i64 (p1 : Int), .int .i64 0] rfl rfl 82 _ HBK.out (by kernel_rfl) rfl (by simp [Value.oneCell']) ?_))
    refine bodyPost_ret (ret_cell1 Tryz.results23 rfl (HBK.out.lay _) Tryz.underlying82 (by kernel_rfl)) rfl ?_
    exact RGot.mk HX.out.symm HB.out
set_option maxRecDepth 100000 in
set_option maxHeartbeats 4000000 in
theorem rone_m61 (s : ByteArray) (p : Nat) (w : World) (hs : s.size ≤ 65536) (hp : p < s.size) (hc : s[p] = 61) :
    Calls Tryz.prog 23 #[.string s, .int .i64 (p : Int)] w fun e w' => RGot (markL (s.data.toList.drop p)) p w e w' := by
  have HBK := Lib.hid (Blk.new w gotZ 82)
  have HB := Lib.hid (al_bel w (.cells gotZ 82))
  unfold gotZ at HBK HB
  have q0 := HB.out.size
  have i3 : (s.size : Int) ≤ 65536 := by omega
  have hpI : (p : Int) < (s.size : Int) := by omega
  have HS := Lib.hid (fun W => rsmall_any s[p] W)
  have HG := Lib.hid (fun W => rbig_any s[p] W)
  have HF := Lib.hid (fun W => rfigure_any s[p] W)
  have e0 : (s[p].toNat : Int) = 61 := by rw [hc]; rfl
  have e1 : smallQ s[p] = false ∧ greatQ s[p] = false ∧ figureQ s[p] = false := by rw [hc]; decide
  rw [e1.1, e0] at HS
  rw [e1.2.1, e0] at HG
  rw [e1.2.2, e0] at HF
  obtain ⟨p1, hp1⟩ : ∃ p1, p1 = p + 1 := ⟨_, rfl⟩
  obtain ⟨p2, hp2⟩ : ∃ p2, p2 = p + 2 := ⟨_, rfl⟩
  have hpp : (p : Int) + 1 = (p1 : Int) := by omega
  have hpq : (p : Int) + 2 = (p2 : Int) := by omega
  have hpb : (p1 : Int) ≤ 65536 := by omega
  have hpc : (p2 : Int) ≤ 65537 := by omega
  have hp1le : (p1 : Int) ≤ (s.size : Int) := by omega
  have hpp1 : (p : Int) ≤ (p1 : Int) := by omega
  have hpp2 : (p : Int) ≤ (p2 : Int) := by omega
  have hd := drop_at hp
  rw [hc] at hd
  have hB1 : s.extract p p1 = ⟨#[61]⟩ := by rw [hp1, ba_one s p hp, hc]
  obtain ⟨g, hg⟩ : ∃ g, g = markL (s.data.toList.drop p) := ⟨_, rfl⟩
  rw [← hg]
  have hm : markL (s.data.toList.drop p) = ⟨0, ⟨4, ⟨#[61]⟩, 0, false, 0⟩, 1⟩ := by rw [hd]; exact mark_one _ (by simp) (by intro h; rcases h with h | h <;> exact absurd h (by decide))
  have HX : Hid (gotC g p = #[.int .i64 4, .string (s.extract p p1), .int .i64 0, .bool false, .int .i64 0, .int .i64 (p1 : Int), .int .i64 0]) := by show gotC g p = _; rw [hg, hm, hB1, hp1]; rfl
  by_cases hn1 : p1 < s.size
  · have hn1I : (p1 : Int) < (s.size : Int) := by omega
    clear hg hm hd hc e1 hB1 hp1 hp2 hs
    go_enter Tryz.func23, Tryz.ntmps23
    go_wp2_with fail
    obtain ⟨W0, hW0⟩ : ∃ W0, W0 = w.alloc (.cells #[.int .i64 0, .string ⟨#[]⟩, .int .i64 0, .bool false, .int .i64 0, .int .i64 0, .int .i64 0] 82) := ⟨_, rfl⟩
    rw [← hW0] at HBK HB q0
    rw [← hW0]
    clear hW0
    go_wp2_with (first
      | (go_at_call 39; refine (HS.out W0).mono ?_; rintro e w1 ⟨rfl, hw1⟩; obtain rfl : W0 = w1 := hw1.symm)
      | (go_at_call 40; refine (HG.out W0).mono ?_; rintro e w1 ⟨rfl, hw1⟩; obtain rfl : W0 = w1 := hw1.symm)
      | (go_at_call 42; refine (HF.out W0).mono ?_; rintro e w1 ⟨rfl, hw1⟩; obtain rfl : W0 = w1 := hw1.symm; clear HF)
      | (refine wpList_store_row rfl 82 _ _ rfl w.heap.size #[.int .i64 4, .string (s.extract p p1), .int .i64 0, .bool false, .int .i64 0, .int .i64 (p1 : Int), .int .i64 0] rfl rfl 82 _ HBK.out (by kernel_rfl) rfl (by simp [Value.oneCell']) ?_))
    refine bodyPost_ret (ret_cell1 Tryz.results23 rfl (HBK.out.lay _) Tryz.underlying82 (by kernel_rfl)) rfl ?_
    exact RGot.mk HX.out.symm HB.out
  · have hn1I : ¬ (p1 : Int) < (s.size : Int) := by omega
    clear hg hm hd hc e1 hB1 hp1 hp2 hs
    go_enter Tryz.func23, Tryz.ntmps23
    go_wp2_with fail
    obtain ⟨W0, hW0⟩ : ∃ W0, W0 = w.alloc (.cells #[.int .i64 0, .string ⟨#[]⟩, .int .i64 0, .bool false, .int .i64 0, .int .i64 0, .int .i64 0] 82) := ⟨_, rfl⟩
    rw [← hW0] at HBK HB q0
    rw [← hW0]
    clear hW0
    go_wp2_with (first
      | (go_at_call 39; refine (HS.out W0).mono ?_; rintro e w1 ⟨rfl, hw1⟩; obtain rfl : W0 = w1 := hw1.symm)
      | (go_at_call 40; refine (HG.out W0).mono ?_; rintro e w1 ⟨rfl, hw1⟩; obtain rfl : W0 = w1 := hw1.symm)
      | (go_at_call 42; refine (HF.out W0).mono ?_; rintro e w1 ⟨rfl, hw1⟩; obtain rfl : W0 = w1 := hw1.symm; clear HF)
      | (refine wpList_store_row rfl 82 _ _ rfl w.heap.size #[.int .i64 4, .string (s.extract p p1), .int .i64 0, .bool false, .int .i64 0, .int .i64 (p1 : Int), .int .i64 0] rfl rfl 82 _ HBK.out (by kernel_rfl) rfl (by simp [Value.oneCell']) ?_))
    refine bodyPost_ret (ret_cell1 Tryz.results23 rfl (HBK.out.lay _) Tryz.underlying82 (by kernel_rfl)) rfl ?_
    exact RGot.mk HX.out.symm HB.out
set_option maxRecDepth 100000 in
set_option maxHeartbeats 4000000 in
theorem rone_none (s : ByteArray) (p : Nat) (w : World) (hs : s.size ≤ 65536) (hp : p < s.size) (h1 : smallQ s[p] = false) (h2 : greatQ s[p] = false) (h3 : figureQ s[p] = false) (h39 : s[p] ≠ 39) (n40 : s[p] ≠ 40) (n41 : s[p] ≠ 41) (n44 : s[p] ≠ 44) (n46 : s[p] ≠ 46) (n47 : s[p] ≠ 47) (n60 : s[p] ≠ 60) (n62 : s[p] ≠ 62) (n61 : s[p] ≠ 61) (n58 : s[p] ≠ 58) (n33 : s[p] ≠ 33) (n45 : s[p] ≠ 45) :
    Calls Tryz.prog 23 #[.string s, .int .i64 (p : Int)] w fun e w' => RGot (markL (s.data.toList.drop p)) p w e w' := by
  have HBK := Lib.hid (Blk.new w gotZ 82)
  have HB := Lib.hid (al_bel w (.cells gotZ 82))
  unfold gotZ at HBK HB
  have q0 := HB.out.size
  have i3 : (s.size : Int) ≤ 65536 := by omega
  have hpI : (p : Int) < (s.size : Int) := by omega
  have HS := Lib.hid (fun W => rsmall_any s[p] W)
  have HG := Lib.hid (fun W => rbig_any s[p] W)
  have HF := Lib.hid (fun W => rfigure_any s[p] W)
  rw [h1] at HS
  rw [h2] at HG
  rw [h3] at HF
  have k39 : ((s[p].toNat : Int) == 39) = false := neqI (m := 39) h39
  have k40 : ((s[p].toNat : Int) == 40) = false := neqI (m := 40) n40
  have k41 : ((s[p].toNat : Int) == 41) = false := neqI (m := 41) n41
  have k44 : ((s[p].toNat : Int) == 44) = false := neqI (m := 44) n44
  have k46 : ((s[p].toNat : Int) == 46) = false := neqI (m := 46) n46
  have k47 : ((s[p].toNat : Int) == 47) = false := neqI (m := 47) n47
  have k60 : ((s[p].toNat : Int) == 60) = false := neqI (m := 60) n60
  have k62 : ((s[p].toNat : Int) == 62) = false := neqI (m := 62) n62
  have k61 : ((s[p].toNat : Int) == 61) = false := neqI (m := 61) n61
  have k58 : ((s[p].toNat : Int) == 58) = false := neqI (m := 58) n58
  have k33 : ((s[p].toNat : Int) == 33) = false := neqI (m := 33) n33
  have k45 : ((s[p].toNat : Int) == 45) = false := neqI (m := 45) n45
  obtain ⟨p1, hp1⟩ : ∃ p1, p1 = p + 1 := ⟨_, rfl⟩
  have hpp : (p : Int) + 1 = (p1 : Int) := by omega
  have hpb : (p1 : Int) ≤ 65536 := by omega
  have hd := drop_at hp
  obtain ⟨g, hg⟩ : ∃ g, g = markL (s.data.toList.drop p) := ⟨_, rfl⟩
  rw [← hg]
  have hm : markL (s.data.toList.drop p) = ⟨2, Tk.zero, 0⟩ := by rw [hd]; exact mark_none _ (by simp only [not_or]; exact ⟨n40, n41, n44, n46, n47, n60, n62, n61⟩) (fun h => absurd h n58) (fun h => absurd h n33)
  have HX : Hid (gotC g p = #[.int .i64 0, .string ⟨#[]⟩, .int .i64 0, .bool false, .int .i64 0, .int .i64 0, .int .i64 2]) := by show gotC g p = _; rw [hg, hm]; rfl
  clear hg hm hd h1 h2 h3 h39 hs n40 n41 n44 n46 n47 n60 n62 n61 n58 n33 n45
  by_cases hn1 : p1 < s.size
  · have hn1I : (p1 : Int) < (s.size : Int) := by omega
    clear hp1
    go_enter Tryz.func23, Tryz.ntmps23
    go_wp2_with fail
    obtain ⟨W0, hW0⟩ : ∃ W0, W0 = w.alloc (.cells #[.int .i64 0, .string ⟨#[]⟩, .int .i64 0, .bool false, .int .i64 0, .int .i64 0, .int .i64 0] 82) := ⟨_, rfl⟩
    rw [← hW0] at HBK HB q0
    rw [← hW0]
    clear hW0
    go_wp2_with (first
      | (go_at_call 39; refine (HS.out W0).mono ?_; rintro e w1 ⟨rfl, hw1⟩; obtain rfl : W0 = w1 := hw1.symm)
      | (go_at_call 40; refine (HG.out W0).mono ?_; rintro e w1 ⟨rfl, hw1⟩; obtain rfl : W0 = w1 := hw1.symm)
      | (go_at_call 42; refine (HF.out W0).mono ?_; rintro e w1 ⟨rfl, hw1⟩; obtain rfl : W0 = w1 := hw1.symm; clear HF)
      | (refine wpList_store_row rfl 82 _ _ rfl w.heap.size #[.int .i64 0, .string ⟨#[]⟩, .int .i64 0, .bool false, .int .i64 0, .int .i64 0, .int .i64 2] rfl rfl 82 _ HBK.out (by kernel_rfl) rfl (by simp [Value.oneCell']) ?_))
    refine bodyPost_ret (ret_cell1 Tryz.results23 rfl (HBK.out.lay _) Tryz.underlying82 (by kernel_rfl)) rfl ?_
    exact RGot.mk HX.out.symm HB.out
  · have hn1I : ¬ (p1 : Int) < (s.size : Int) := by omega
    clear hp1
    go_enter Tryz.func23, Tryz.ntmps23
    go_wp2_with fail
    obtain ⟨W0, hW0⟩ : ∃ W0, W0 = w.alloc (.cells #[.int .i64 0, .string ⟨#[]⟩, .int .i64 0, .bool false, .int .i64 0, .int .i64 0, .int .i64 0] 82) := ⟨_, rfl⟩
    rw [← hW0] at HBK HB q0
    rw [← hW0]
    clear hW0
    go_wp2_with (first
      | (go_at_call 39; refine (HS.out W0).mono ?_; rintro e w1 ⟨rfl, hw1⟩; obtain rfl : W0 = w1 := hw1.symm)
      | (go_at_call 40; refine (HG.out W0).mono ?_; rintro e w1 ⟨rfl, hw1⟩; obtain rfl : W0 = w1 := hw1.symm)
      | (go_at_call 42; refine (HF.out W0).mono ?_; rintro e w1 ⟨rfl, hw1⟩; obtain rfl : W0 = w1 := hw1.symm; clear HF)
      | (refine wpList_store_row rfl 82 _ _ rfl w.heap.size #[.int .i64 0, .string ⟨#[]⟩, .int .i64 0, .bool false, .int .i64 0, .int .i64 0, .int .i64 2] rfl rfl 82 _ HBK.out (by kernel_rfl) rfl (by simp [Value.oneCell']) ?_))
    refine bodyPost_ret (ret_cell1 Tryz.results23 rfl (HBK.out.lay _) Tryz.underlying82 (by kernel_rfl)) rfl ?_
    exact RGot.mk HX.out.symm HB.out
end Go.Proofs.YtekhcaanjaoioaaGreatDoor
