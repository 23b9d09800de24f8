/-
  Contract of the document's one (lambrequinref05): marks of one or two bytes.
-/
import Derived.Test.YtekhcaanjaoioaaGreatDoorKRefF
namespace Go.Proofs.YtekhcaanjaoioaaGreatDoor
set_option linter.unusedSimpArgs false
set_option linter.unusedVariables false
set_option linter.unusedSectionVars false
set_option maxRecDepth 100000
open Go.RowKit

set_option maxRecDepth 100000 in
set_option maxHeartbeats 4000000 in
theorem rone_m60 (s : ByteArray) (p : Nat) (w : World) (hs : s.size ≤ 65536) (hp : p < s.size) (hc : s[p] = 60) :
    Calls Tryz.prog 23 #[.string s, .int .i64 (p : Int)] w fun e w' => RGot (markL (s.data.toList.drop p)) p w e w' := by
  have HBK := Lib.hid (Blk.new w gotZ 82)
  have HB := Lib.hid (al_bel w (.cells gotZ 82))
  unfold gotZ at HBK HB
  have q0 := HB.out.size
  have i3 : (s.size : Int) ≤ 65536 := by omega
  have hpI : (p : Int) < (s.size : Int) := by omega
  have HS := Lib.hid (fun W => rsmall_any s[p] W)
  have HG := Lib.hid (fun W => rbig_any s[p] W)
  have HF := Lib.hid (fun W => rfigure_any s[p] W)
  have e0 : (s[p].toNat : Int) = 60 := by rw [hc]; rfl
  have e1 : smallQ s[p] = false ∧ greatQ s[p] = false ∧ figureQ s[p] = false := by rw [hc]; decide
  rw [e1.1, e0] at HS
  rw [e1.2.1, e0] at HG
  rw [e1.2.2, e0] at HF
  obtain ⟨p1, hp1⟩ : ∃ p1, p1 = p + 1 := ⟨_, rfl⟩
  obtain ⟨p2, hp2⟩ : ∃ p2, p2 = p + 2 := ⟨_, rfl⟩
  have hpp : (p : Int) + 1 = (p1 : Int) := by omega
  have hpq : (p : Int) + 2 = (p2 : Int) := by omega
  have hpb : (p1 : Int) ≤ 65536 := by omega
  have hpc : (p2 : Int) ≤ 65537 := by omega
  have hp1le : (p1 : Int) ≤ (s.size : Int) := by omega
  have hpp1 : (p : Int) ≤ (p1 : Int) := by omega
  have hpp2 : (p : Int) ≤ (p2 : Int) := by omega
  have hd := drop_at hp
  rw [hc] at hd
  have hB1 : s.extract p p1 = ⟨#[60]⟩ := by rw [hp1, ba_one s p hp, hc]
  obtain ⟨g, hg⟩ : ∃ g, g = markL (s.data.toList.drop p) := ⟨_, rfl⟩
  rw [← hg]
  by_cases hn1 : p1 < s.size
  · have hn1I : (p1 : Int) < (s.size : Int) := by omega
    have hp2le : (p2 : Int) ≤ (s.size : Int) := by omega
    have hd1 : s.data.toList.drop (p + 1) = s[p1] :: s.data.toList.drop (p1 + 1) := by rw [← hp1]; exact drop_at hn1
    have HDD : Hid ((s.data.toList.drop (p + 1)).headD 0 = s[p1]) := by show _ = _; rw [hd1]; rfl
    by_cases hdn : s[p1] = 61
    · have hm : markL (s.data.toList.drop p) = ⟨0, ⟨4, ⟨#[60, 61]⟩, 0, false, 0⟩, 2⟩ := by rw [hd, hd1, hdn]; exact mark_two _ (by decide)
      have hB2 : s.extract p p2 = ⟨#[60, 61]⟩ := by rw [hp2, ba_two s p (by omega), hc]; simp only [← hp1, hdn]
      have HX : Hid (gotC g p = #[.int .i64 4, .string (s.extract p p2), .int .i64 0, .bool false, .int .i64 0, .int .i64 (p2 : Int), .int .i64 0]) := by show gotC g p = _; rw [hg, hm, hB2, hp2]; rfl
      have e2 : (s[p1].toNat : Int) = 61 := by rw [hdn]; rfl
      clear hdn hd1 HDD hB2
      clear hg hm hd hc e1 hB1 hp1 hp2 hs
      go_enter Tryz.func23, Tryz.ntmps23
      go_wp2_with fail
      obtain ⟨W0, hW0⟩ : ∃ W0, W0 = w.alloc (.cells #[.int .i64 0, .string ⟨#[]⟩, .int .i64 0, .bool false, .int .i64 0, .int .i64 0, .int .i64 0] 82) := ⟨_, rfl⟩
      rw [← hW0] at HBK HB q0
      rw [← hW0]
      clear hW0
      go_wp2_with (first
        | (go_at_call 39; refine (HS.out W0).mono ?_; rintro e w1 ⟨rfl, hw1⟩; obtain rfl : W0 = w1 := hw1.symm)
        | (go_at_call 40; refine (HG.out W0).mono ?_; rintro e w1 ⟨rfl, hw1⟩; obtain rfl : W0 = w1 := hw1.symm)
        | (go_at_call 42; refine (HF.out W0).mono ?_; rintro e w1 ⟨rfl, hw1⟩; obtain rfl : W0 = w1 := hw1.symm; clear HF)
        | (refine wpList_store_row rfl 82 _ _ rfl w.heap.size #[.int .i64 4, .string (s.extract p p2), .int .i64 0, .bool false, .int .i64 0, .int .i64 (p2 : Int), .int .i64 0] rfl rfl 82 _ HBK.out (by kernel_rfl) rfl (by simp [Value.oneCell']) ?_))
      refine bodyPost_ret (ret_cell1 Tryz.results23 rfl (HBK.out.lay _) Tryz.underlying82 (by kernel_rfl)) rfl ?_
      exact RGot.mk HX.out.symm HB.out
    · have hm : markL (s.data.toList.drop p) = ⟨0, ⟨4, ⟨#[60]⟩, 0, false, 0⟩, 1⟩ := by rw [hd]; exact mark_one _ (by simp) (by intro h; rw [HDD.out]; exact hdn)
      have HX : Hid (gotC g p = #[.int .i64 4, .string (s.extract p p1), .int .i64 0, .bool false, .int .i64 0, .int .i64 (p1 : Int), .int .i64 0]) := by show gotC g p = _; rw [hg, hm, hB1, hp1]; rfl
      have e2 : ((s[p1].toNat : Int) == 61) = false := neqI (m := 61) hdn
      clear hdn hd1 HDD hp2le
      clear hg hm hd hc e1 hB1 hp1 hp2 hs
      go_enter Tryz.func23, Tryz.ntmps23
      go_wp2_with fail
      obtain ⟨W0, hW0⟩ : ∃ W0, W0 = w.alloc (.cells #[.int .i64 0, .string ⟨#[]⟩, .int .i64 0, .bool false, .int .i64 0, .int .i64 0, .int .i64 0] 82) := ⟨_, rfl⟩
      rw [← hW0] at HBK HB q0
      rw [← hW0]
      clear hW0
      go_wp2_with (first
        | (go_at_call 39; refine (HS.out W0).mono ?_; rintro e w1 ⟨rfl, hw1⟩; obtain rfl : W0 = w1 := hw1.symm)
        | (go_at_call 40; refine (HG.out W0).mono ?_; rintro e w1 ⟨rfl, hw1⟩; obtain rfl : W0 = w1 := hw1.symm)
        | (go_at_call 42; refine (HF.out W0).mono ?_; rintro e w1 ⟨rfl, hw1⟩; obtain rfl : W0 = w1 := hw1.symm; clear HF)
        | (refine wpList_store_row rfl 82 _ _ rfl w.heap.size #[.int .i64 4, .string (s.extract p p1), .int .i64 0, .bool false, .int .i64 0, .int .i64 (p1 : Int), .int .i64 0] rfl rfl 82 _ HBK.out (by kernel_rfl) rfl (by simp [Value.oneCell']) ?_))
      refine bodyPost_ret (ret_cell1 Tryz.results23 rfl (HBK.out.lay _) Tryz.underlying82 (by kernel_rfl)) rfl ?_
      exact RGot.mk HX.out.symm HB.out
  · have hn1I : ¬ (p1 : Int) < (s.size : Int) := by omega
    have HDD : Hid ((s.data.toList.drop (p + 1)).headD 0 = 0) := by show _ = _; rw [List.drop_of_length_le (by simp; omega)]; rfl
    have hdn : (0 : UInt8) ≠ 61 := by decide
    have hm : markL (s.data.toList.drop p) = ⟨0, ⟨4, ⟨#[60]⟩, 0, false, 0⟩, 1⟩ := by rw [hd]; exact mark_one _ (by simp) (by intro h; rw [HDD.out]; exact hdn)
    have HX : Hid (gotC g p = #[.int .i64 4, .string (s.extract p p1), .int .i64 0, .bool false, .int .i64 0, .int .i64 (p1 : Int), .int .i64 0]) := by show gotC g p = _; rw [hg, hm, hB1, hp1]; rfl
    clear hdn HDD
    clear hg hm hd hc e1 hB1 hp1 hp2 hs
    go_enter Tryz.func23, Tryz.ntmps23
    go_wp2_with fail
    obtain ⟨W0, hW0⟩ : ∃ W0, W0 = w.alloc (.cells #[.int .i64 0, .string ⟨#[]⟩, .int .i64 0, .bool false, .int .i64 0, .int .i64 0, .int .i64 0] 82) := ⟨_, rfl⟩
    rw [← hW0] at HBK HB q0
    rw [← hW0]
    clear hW0
    go_wp2_with (first
      | (go_at_call 39; refine (HS.out W0).mono ?_; rintro e w1 ⟨rfl, hw1⟩; obtain rfl : W0 = w1 := hw1.symm)
      | (go_at_call 40; refine (HG.out W0).mono ?_; rintro e w1 ⟨rfl, hw1⟩; obtain rfl : W0 = w1 := hw1.symm)
      | (go_at_call 42; refine (HF.out W0).mono ?_; rintro e w1 ⟨rfl, hw1⟩; obtain rfl : W0 = w1 := hw1.symm; clear HF)
      | (refine wpList_store_row rfl 82 _ _ rfl w.heap.size #[.int .i64 4, .string (s.extract p p1), .int .i64 0, .bool false, .int .i64 0, .int .i64 (p1 : Int), .int .i64 0] rfl rfl 82 _ HBK.out (by kernel_rfl) rfl (by simp [Value.oneCell']) ?_))
    refine bodyPost_ret (ret_cell1 Tryz.results23 rfl (HBK.out.lay _) Tryz.underlying82 (by kernel_rfl)) rfl ?_
    exact RGot.mk HX.out.symm HB.out
set_option maxRecDepth 100000 in
set_option maxHeartbeats 4000000 in
theorem rone_m62 (s : ByteArray) (p : Nat) (w : World) (hs : s.size ≤ 65536) (hp : p < s.size) (hc : s[p] = 62) :
    Calls Tryz.prog 23 #[.string s, .int .i64 (p : Int)] w fun e w' => RGot (markL (s.data.toList.drop p)) p w e w' := by
  have HBK := Lib.hid (Blk.new w gotZ 82)
  have HB := Lib.hid (al_bel w (.cells gotZ 82))
  unfold gotZ at HBK HB
  have q0 := HB.out.size
  have i3 : (s.size : Int) ≤ 65536 := by omega
  have hpI : (p : Int) < (s.size : Int) := by omega
  have HS := Lib.hid (fun W => rsmall_any s[p] W)
  have HG := Lib.hid (fun W => rbig_any s[p] W)
  have HF := Lib.hid (fun W => rfigure_any s[p] W)
  have e0 : (s[p].toNat : Int) = 62 := by rw [hc]; rfl
  have e1 : smallQ s[p] = false ∧ greatQ s[p] = false ∧ figureQ s[p] = false := by rw [hc]; decide
  rw [e1.1, e0] at HS
  rw [e1.2.1, e0] at HG
  rw [e1.2.2, e0] at HF
  obtain ⟨p1, hp1⟩ : ∃ p1, p1 = p + 1 := ⟨_, rfl⟩
  obtain ⟨p2, hp2⟩ : ∃ p2, p2 = p + 2 := ⟨_, rfl⟩
  have hpp : (p : Int) + 1 = (p1 : Int) := by omega
  have hpq : (p : Int) + 2 = (p2 : Int) := by omega
  have hpb : (p1 : Int) ≤ 65536 := by omega
  have hpc : (p2 : Int) ≤ 65537 := by omega
  have hp1le : (p1 : Int) ≤ (s.size : Int) := by omega
  have hpp1 : (p : Int) ≤ (p1 : Int) := by omega
  have hpp2 : (p : Int) ≤ (p2 : Int) := by omega
  have hd := drop_at hp
  rw [hc] at hd
  have hB1 : s.extract p p1 = ⟨#[62]⟩ := by rw [hp1, ba_one s p hp, hc]
  obtain ⟨g, hg⟩ : ∃ g, g = markL (s.data.toList.drop p) := ⟨_, rfl⟩
  rw [← hg]
  by_cases hn1 : p1 < s.size
  · have hn1I : (p1 : Int) < (s.size : Int) := by omega
    have hp2le : (p2 : Int) ≤ (s.size : Int) := by omega
    have hd1 : s.data.toList.drop (p + 1) = s[p1] :: s.data.toList.drop (p1 + 1) := by rw [← hp1]; exact drop_at hn1
    have HDD : Hid ((s.data.toList.drop (p + 1)).headD 0 = s[p1]) := by show _ = _; rw [hd1]; rfl
    by_cases hdn : s[p1] = 61
    · have hm : markL (s.data.toList.drop p) = ⟨0, ⟨4, ⟨#[62, 61]⟩, 0, false, 0⟩, 2⟩ := by rw [hd, hd1, hdn]; exact mark_two _ (by decide)
      have hB2 : s.extract p p2 = ⟨#[62, 61]⟩ := by rw [hp2, ba_two s p (by omega), hc]; simp only [← hp1, hdn]
      have HX : Hid (gotC g p = #[.int .i64 4, .string (s.extract p p2), .int .i64 0, .bool false, .int .i64 0, .int .i64 (p2 : Int), .int .i64 0]) := by show gotC g p = _; rw [hg, hm, hB2, hp2]; rfl
      have e2 : (s[p1].toNat : Int) = 61 := by rw [hdn]; rfl
      clear hdn hd1 HDD hB2
      clear hg hm hd hc e1 hB1 hp1 hp2 hs
      go_enter Tryz.func23, Tryz.ntmps23
      go_wp2_with fail
      obtain ⟨W0, hW0⟩ : ∃ W0, W0 = w.alloc (.cells #[.int .i64 0, .string ⟨#[]⟩, .int .i64 0, .bool false, .int .i64 0, .int .i64 0, .int .i64 0] 82) := ⟨_, rfl⟩
      rw [← hW0] at HBK HB q0
      rw [← hW0]
      clear hW0
      go_wp2_with (first
        | (go_at_call 39; refine (HS.out W0).mono ?_; rintro e w1 ⟨rfl, hw1⟩; obtain rfl : W0 = w1 := hw1.symm)
        | (go_at_call 40; refine (HG.out W0).mono ?_; rintro e w1 ⟨rfl, hw1⟩; obtain rfl : W0 = w1 := hw1.symm)
        | (go_at_call 42; refine (HF.out W0).mono ?_; rintro e w1 ⟨rfl, hw1⟩; obtain rfl : W0 = w1 := hw1.symm; clear HF)
        | (refine wpList_store_row rfl 82 _ _ rfl w.heap.size #[.int .i64 4, .string (s.extract p p2), .int .i64 0, .bool false, .int .i64 0, .int .i64 (p2 : Int), .int .i64 0] rfl rfl 82 _ HBK.out (by kernel_rfl) rfl (by simp [Value.oneCell']) ?_))
      refine bodyPost_ret (ret_cell1 Tryz.results23 rfl (HBK.out.lay _) Tryz.underlying82 (by kernel_rfl)) rfl ?_
      exact RGot.mk HX.out.symm HB.out
    · have hm : markL (s.data.toList.drop p) = ⟨0, ⟨4, ⟨#[62]⟩, 0, false, 0⟩, 1⟩ := by rw [hd]; exact mark_one _ (by simp) (by intro h; rw [HDD.out]; exact hdn)
      have HX : Hid (gotC g p = #[.int .i64 4, .string (s.extract p p1), .int .i64 0, .bool false, .int .i64 0, .int .i64 (p1 : Int), .int .i64 0]) := by show gotC g p = _; rw [hg, hm, hB1, hp1]; rfl
      have e2 : ((s[p1].toNat : Int) == 61) = false := neqI (m := 61) hdn
      clear hdn hd1 HDD hp2le
      clear hg hm hd hc e1 hB1 hp1 hp2 hs
      go_enter Tryz.func23, Tryz.ntmps23
      go_wp2_with fail
      obtain ⟨W0, hW0⟩ : ∃ W0, W0 = w.alloc (.cells #[.int .i64 0, .string ⟨#[]⟩, .int .i64 0, .bool false, .int .i64 0, .int .i64 0, .int .i64 0] 82) := ⟨_, rfl⟩
      rw [← hW0] at HBK HB q0
      rw [← hW0]
      clear hW0
      go_wp2_with (first
        | (go_at_call 39; refine (HS.out W0).mono ?_; rintro e w1 ⟨rfl, hw1⟩; obtain rfl : W0 = w1 := hw1.symm)
        | (go_at_call 40; refine (HG.out W0).mono ?_; rintro e w1 ⟨rfl, hw1⟩; obtain rfl : W0 = w1 := hw1.symm)
        | (go_at_call 42; refine (HF.out W0).mono ?_; rintro e w1 ⟨rfl, hw1⟩; obtain rfl : W0 = w1 := hw1.symm; clear HF)
        | (refine wpList_store_row rfl 82 _ _ rfl w.heap.size #[.int .i64 4, .string (s.extract p p1), .int .i64 0, .bool false, .int .i64 0, .int .i64 (p1 : Int), .int .i64 0] rfl rfl 82 _ HBK.out (by kernel_rfl) rfl (by simp [Value.oneCell']) ?_))
      refine bodyPost_ret (ret_cell1 Tryz.results23 rfl (HBK.out.lay _) Tryz.underlying82 (by kernel_rfl)) rfl ?_
      exact RGot.mk HX.out.symm HB.out
  · have hn1I : ¬ (p1 : Int) < (s.size : Int) := by omega
    have HDD : Hid ((s.data.toList.drop (p + 1)).headD 0 = 0) := by show _ = _; rw [List.drop_of_length_le (by simp; omega)]; rfl
    have hdn : (0 : UInt8) ≠ 61 := by decide
    have hm : markL (s.data.toList.drop p) = ⟨0, ⟨4, ⟨#[62]⟩, 0, false, 0⟩, 1⟩ := by rw [hd]; exact mark_one _ (by simp) (by intro h; rw [HDD.out]; exact hdn)
    have HX : Hid (gotC g p = #[.int .i64 4, .string (s.extract p p1), .int .i64 0, .bool false, .int .i64 0, .int .i64 (p1 : Int), .int .i64 0]) := by show gotC g p = _; rw [hg, hm, hB1, hp1]; rfl
    clear hdn HDD
    clear hg hm hd hc e1 hB1 hp1 hp2 hs
    go_enter Tryz.func23, Tryz.ntmps23
    go_wp2_with fail
    obtain ⟨W0, hW0⟩ : ∃ W0, W0 = w.alloc (.cells #[.int .i64 0, .string ⟨#[]⟩, .int .i64 0, .bool false, .int .i64 0, .int .i64 0, .int .i64 0] 82) := ⟨_, rfl⟩
    rw [← hW0] at HBK HB q0
    rw [← hW0]
    clear hW0
    go_wp2_with (first
      | (go_at_call 39; refine (HS.out W0).mono ?_; rintro e w1 ⟨rfl, hw1⟩; obtain rfl : W0 = w1 := hw1.symm)
      | (go_at_call 40; refine (HG.out W0).mono ?_; rintro e w1 ⟨rfl, hw1⟩; obtain rfl : W0 = w1 := hw1.symm)
      | (go_at_call 42; refine (HF.out W0).mono ?_; rintro e w1 ⟨rfl, hw1⟩; obtain rfl : W0 = w1 := hw1.symm; clear HF)
      | (refine wpList_store_row rfl 82 _ _ rfl w.heap.size #[.int .i64 4, .string (s.extract p p1), .int .i64 0, .bool false, .int .i64 0, .int .i64 (p1 : Int), .int .i64 0] rfl rfl 82 _ HBK.out (by kernel_rfl) rfl (by simp [Value.oneCell']) ?_))
    refine bodyPost_ret (ret_cell1 Tryz.results23 rfl (HBK.out.lay _) Tryz.underlying82 (by kernel_rfl)) rfl ?_
    exact RGot.mk HX.out.symm HB.out
set_option maxRecDepth 100000 in
set_option maxHeartbeats 4000000 in
theorem rone_m58 (s : ByteArray) (p : Nat) (w : World) (hs : s.size ≤ 65536) (hp : p < s.size) (hc : s[p] = 58) :
    Calls Tryz.prog 23 #[.string s, .int .i64 (p : Int)] w fun e w' => RGot (markL (s.data.toList.drop p)) p w e w' := by
  have HBK := Lib.hid (Blk.new w gotZ 82)
  have HB := Lib.hid (al_bel w (.cells gotZ 82))
  unfold gotZ at HBK HB
  have q0 := HB.out.size
  have i3 : (s.size : Int) ≤ 65536 := by omega
  have hpI : (p : Int) < (s.size : Int) := by omega
  have HS := Lib.hid (fun W => rsmall_any s[p] W)
  have HG := Lib.hid (fun W => rbig_any s[p] W)
  have HF := Lib.hid (fun W => rfigure_any s[p] W)
  have e0 : (s[p].toNat : Int) = 58 := by rw [hc]; rfl
  have e1 : smallQ s[p] = false ∧ greatQ s[p] = false ∧ figureQ s[p] = false := by rw [hc]; decide
  rw [e1.1, e0] at HS
  rw [e1.2.1, e0] at HG
  rw [e1.2.2, e0] at HF
  obtain ⟨p1, hp1⟩ : ∃ p1, p1 = p + 1 := ⟨_, rfl⟩
  obtain ⟨p2, hp2⟩ : ∃ p2, p2 = p + 2 := ⟨_, rfl⟩
  have hpp : (p : Int) + 1 = (p1 : Int) := by omega
  have hpq : (p : Int) + 2 = (p2 : Int) := by omega
  have hpb : (p1 : Int) ≤ 65536 := by omega
  have hpc : (p2 : Int) ≤ 65537 := by omega
  have hp1le : (p1 : Int) ≤ (s.size : Int) := by omega
  have hpp1 : (p : Int) ≤ (p1 : Int) := by omega
  have hpp2 : (p : Int) ≤ (p2 : Int) := by omega
  have hd := drop_at hp
  rw [hc] at hd
  have hB1 : s.extract p p1 = ⟨#[58]⟩ := by rw [hp1, ba_one s p hp, hc]
  obtain ⟨g, hg⟩ : ∃ g, g = markL (s.data.toList.drop p) := ⟨_, rfl⟩
  rw [← hg]
  by_cases hn1 : p1 < s.size
  · have hn1I : (p1 : Int) < (s.size : Int) := by omega
    have hp2le : (p2 : Int) ≤ (s.size : Int) := by omega
    have hd1 : s.data.toList.drop (p + 1) = s[p1] :: s.data.toList.drop (p1 + 1) := by rw [← hp1]; exact drop_at hn1
    have HDD : Hid ((s.data.toList.drop (p + 1)).headD 0 = s[p1]) := by show _ = _; rw [hd1]; rfl
    by_cases hdn : s[p1] = 45
    · have hm : markL (s.data.toList.drop p) = ⟨0, ⟨4, ⟨#[58, 45]⟩, 0, false, 0⟩, 2⟩ := by rw [hd, hd1, hdn]; exact mark_two _ (by decide)
      have hB2 : s.extract p p2 = ⟨#[58, 45]⟩ := by rw [hp2, ba_two s p (by omega), hc]; simp only [← hp1, hdn]
      have HX : Hid (gotC g p = #[.int .i64 4, .string (s.extract p p2), .int .i64 0, .bool false, .int .i64 0, .int .i64 (p2 : Int), .int .i64 0]) := by show gotC g p = _; rw [hg, hm, hB2, hp2]; rfl
      have e2 : (s[p1].toNat : Int) = 45 := by rw [hdn]; rfl
      clear hdn hd1 HDD hB2
      clear hg hm hd hc e1 hB1 hp1 hp2 hs
      go_enter Tryz.func23, Tryz.ntmps23
      go_wp2_with fail
      obtain ⟨W0, hW0⟩ : ∃ W0, W0 = w.alloc (.cells #[.int .i64 0, .string ⟨#[]⟩, .int .i64 0, .bool false, .int .i64 0, .int .i64 0, .int .i64 0] 82) := ⟨_, rfl⟩
      rw [← hW0] at HBK HB q0
      rw [← hW0]
      clear hW0
      go_wp2_with (first
        | (go_at_call 39; refine (HS.out W0).mono ?_; rintro e w1 ⟨rfl, hw1⟩; obtain rfl : W0 = w1 := hw1.symm)
        | (go_at_call 40; refine (HG.out W0).mono ?_; rintro e w1 ⟨rfl, hw1⟩; obtain rfl : W0 = w1 := hw1.symm)
        | (go_at_call 42; refine (HF.out W0).mono ?_; rintro e w1 ⟨rfl, hw1⟩; obtain rfl : W0 = w1 := hw1.symm; clear HF)
        | (refine wpList_store_row rfl 82 _ _ rfl w.heap.size #[.int .i64 4, .string (s.extract p p2), .int .i64 0, .bool false, .int .i64 0, .int .i64 (p2 : Int), .int .i64 0] rfl rfl 82 _ HBK.out (by kernel_rfl) rfl (by simp [Value.oneCell']) ?_))
      refine bodyPost_ret (ret_cell1 Tryz.results23 rfl (HBK.out.lay _) Tryz.underlying82 (by kernel_rfl)) rfl ?_
      exact RGot.mk HX.out.symm HB.out
    · have hm : markL (s.data.toList.drop p) = ⟨2, Tk.zero, 0⟩ := by rw [hd]; exact mark_none _ (by decide) (by intro h; rw [HDD.out]; exact hdn) (by intro h; exact absurd h (by decide))
      have HX : Hid (gotC g p = #[.int .i64 0, .string ⟨#[]⟩, .int .i64 0, .bool false, .int .i64 0, .int .i64 0, .int .i64 2]) := by show gotC g p = _; rw [hg, hm]; rfl
      have e2 : ((s[p1].toNat : Int) == 45) = false := neqI (m := 45) hdn
      clear hdn hd1 HDD hp2le
      clear hg hm hd hc e1 hB1 hp1 hp2 hs
      go_enter Tryz.func23, Tryz.ntmps23
      go_wp2_with fail
      obtain ⟨W0, hW0⟩ : ∃ W0, W0 = w.alloc (.cells #[.int .i64 0, .string ⟨#[]⟩, .int .i64 0, .bool false, .int .i64 0, .int .i64 0, .int .i64 0] 82) := ⟨_, rfl⟩
      rw [← hW0] at HBK HB q0
      rw [← hW0]
      clear hW0
      go_wp2_with (first
        | (go_at_call 39; refine (HS.out W0).mono ?_; rintro e w1 ⟨rfl, hw1⟩; obtain rfl : W0 = w1 := hw1.symm)
        | (go_at_call 40; refine (HG.out W0).mono ?_; rintro e w1 ⟨rfl, hw1⟩; obtain rfl : W0 = w1 := hw1.symm)
        | (go_at_call 42; refine (HF.out W0).mono ?_; rintro e w1 ⟨rfl, hw1⟩; obtain rfl : W0 = w1 := hw1.symm; clear HF)
        | (refine wpList_store_row rfl 82 _ _ rfl w.heap.size #[.int .i64 0, .string ⟨#[]⟩, .int .i64 0, .bool false, .int .i64 0, .int .i64 0, .int .i64 2] rfl rfl 82 _ HBK.out (by kernel_rfl) rfl (by simp [Value.oneCell']) ?_))
      refine bodyPost_ret (ret_cell1 Tryz.results23 rfl (HBK.out.lay _) Tryz.underlying82 (by kernel_rfl)) rfl ?_
      exact RGot.mk HX.out.symm HB.out
  · have hn1I : ¬ (p1 : Int) < (s.size : Int) := by omega
    have HDD : Hid ((s.data.toList.drop (p + 1)).headD 0 = 0) := by show _ = _; rw [List.drop_of_length_le (by simp; omega)]; rfl
    have hdn : (0 : UInt8) ≠ 45 := by decide
    have hm : markL (s.data.toList.drop p) = ⟨2, Tk.zero, 0⟩ := by rw [hd]; exact mark_none _ (by decide) (by intro h; rw [HDD.out]; exact hdn) (by intro h; exact absurd h (by decide))
    have HX : Hid (gotC g p = #[.int .i64 0, .string ⟨#[]⟩, .int .i64 0, .bool false, .int .i64 0, .int .i64 0, .int .i64 2]) := by show gotC g p = _; rw [hg, hm]; rfl
    clear hdn HDD
    clear hg hm hd hc e1 hB1 hp1 hp2 hs
    go_enter Tryz.func23, Tryz.ntmps23
    go_wp2_with fail
    obtain ⟨W0, hW0⟩ : ∃ W0, W0 = w.alloc (.cells #[.int .i64 0, .string ⟨#[]⟩, .int .i64 0, .bool false, .int .i64 0, .int .i64 0, .int .i64 0] 82) := ⟨_, rfl⟩
    rw [← hW0] at HBK HB q0
    rw [← hW0]
    clear hW0
    go_wp2_with (first
      | (go_at_call 39; refine (HS.out W0).mono ?_; rintro e w1 ⟨rfl, hw1⟩; obtain rfl : W0 = w1 := hw1.symm)
      | (go_at_call 40; refine (HG.out W0).mono ?_; rintro e w1 ⟨rfl, hw1⟩; obtain rfl : W0 = w1 := hw1.symm)
      | (go_at_call 42; refine (HF.out W0).mono ?_; rintro e w1 ⟨rfl, hw1⟩; obtain rfl : W0 = w1 := hw1.symm; clear HF)
      | (refine wpList_store_row rfl 82 _ _ rfl w.heap.size #[.int .i64 0, .string ⟨#[]⟩, .int .i64 0, .bool false, .int .i64 0, .int .i64 0, .int .i64 2] rfl rfl 82 _ HBK.out (by kernel_rfl) rfl (by simp [Value.oneCell']) ?_))
    refine bodyPost_ret (ret_cell1 Tryz.results23 rfl (HBK.out.lay _) Tryz.underlying82 (by kernel_rfl)) rfl ?_
    exact RGot.mk HX.out.symm HB.out
set_option maxRecDepth 100000 in
set_option maxHeartbeats 4000000 in
theorem rone_m33 (s : ByteArray) (p : Nat) (w : World) (hs : s.size ≤ 65536) (hp : p < s.size) (hc : s[p] = 33) :
    Calls Tryz.prog 23 #[.string s, .int .i64 (p : Int)] w fun e w' => RGot (markL (s.data.toList.drop p)) p w e w' := by
  have HBK := Lib.hid (Blk.new w gotZ 82)
  have HB := Lib.hid (al_bel w (.cells gotZ 82))
  unfold gotZ at HBK HB
  have q0 := HB.out.size
  have i3 : (s.size : Int) ≤ 65536 := by omega
  have hpI : (p : Int) < (s.size : Int) := by omega
  have HS := Lib.hid (fun W => rsmall_any s[p] W)
  have HG := Lib.hid (fun W => rbig_any s[p] W)
  have HF := Lib.hid (fun W => rfigure_any s[p] W)
  have e0 : (s[p].toNat : Int) = 33 := by rw [hc]; rfl
  have e1 : smallQ s[p] = false ∧ greatQ s[p] = false ∧ figureQ s[p] = false := by rw [hc]; decide
  rw [e1.1, e0] at HS
  rw [e1.2.1, e0] at HG
  rw [e1.2.2, e0] at HF
  obtain ⟨p1, hp1⟩ : ∃ p1, p1 = p + 1 := ⟨_, rfl⟩
  obtain ⟨p2, hp2⟩ : ∃ p2, p2 = p + 2 := ⟨_, rfl⟩
  have hpp : (p : Int) + 1 = (p1 : Int) := by omega
  have hpq : (p : Int) + 2 = (p2 : Int) := by omega
  have hpb : (p1 : Int) ≤ 65536 := by omega
  have hpc : (p2 : Int) ≤ 65537 := by omega
  have hp1le : (p1 : Int) ≤ (s.size : Int) := by omega
  have hpp1 : (p : Int) ≤ (p1 : Int) := by omega
  have hpp2 : (p : Int) ≤ (p2 : Int) := by omega
  have hd := drop_at hp
  rw [hc] at hd
  have hB1 : s.extract p p1 = ⟨#[33]⟩ := by rw [hp1, ba_one s p hp, hc]
  obtain ⟨g, hg⟩ : ∃ g, g = markL (s.data.toList.drop p) := ⟨_, rfl⟩
  rw [← hg]
  by_cases hn1 : p1 < s.size
  · have hn1I : (p1 : Int) < (s.size : Int) := by omega
    have hp2le : (p2 : Int) ≤ (s.size : Int) := by omega
    have hd1 : s.data.toList.drop (p + 1) = s[p1] :: s.data.toList.drop (p1 + 1) := by rw [← hp1]; exact drop_at hn1
    have HDD : Hid ((s.data.toList.drop (p + 1)).headD 0 = s[p1]) := by show _ = _; rw [hd1]; rfl
    by_cases hdn : s[p1] = 61
    · have hm : markL (s.data.toList.drop p) = ⟨0, ⟨4, ⟨#[33, 61]⟩, 0, false, 0⟩, 2⟩ := by rw [hd, hd1, hdn]; exact mark_two _ (by decide)
      have hB2 : s.extract p p2 = ⟨#[33, 61]⟩ := by rw [hp2, ba_two s p (by omega), hc]; simp only [← hp1, hdn]
      have HX : Hid (gotC g p = #[.int .i64 4, .string (s.extract p p2), .int .i64 0, .bool false, .int .i64 0, .int .i64 (p2 : Int), .int .i64 0]) := by show gotC g p = _; rw [hg, hm, hB2, hp2]; rfl
      have e2 : (s[p1].toNat : Int) = 61 := by rw [hdn]; rfl
      clear hdn hd1 HDD hB2
      clear hg hm hd hc e1 hB1 hp1 hp2 hs
      go_enter Tryz.func23, Tryz.ntmps23
      go_wp2_with fail
      obtain ⟨W0, hW0⟩ : ∃ W0, W0 = w.alloc (.cells #[.int .i64 0, .string ⟨#[]⟩, .int .i64 0, .bool false, .int .i64 0, .int .i64 0, .int .i64 0] 82) := ⟨_, rfl⟩
      rw [← hW0] at HBK HB q0
      rw [← hW0]
      clear hW0
      go_wp2_with (first
        | (go_at_call 39; refine (HS.out W0).mono ?_; rintro e w1 ⟨rfl, hw1⟩; obtain rfl : W0 = w1 := hw1.symm)
        | (go_at_call 40; refine (HG.out W0).mono ?_; rintro e w1 ⟨rfl, hw1⟩; obtain rfl : W0 = w1 := hw1.symm)
        | (go_at_call 42; refine (HF.out W0).mono ?_; rintro e w1 ⟨rfl, hw1⟩; obtain rfl : W0 = w1 := hw1.symm; clear HF)
        | (refine wpList_store_row rfl 82 _ _ rfl w.heap.size #[.int .i64 4, .string (s.extract p p2), .int .i64 0, .bool false, .int .i64 0, .int .i64 (p2 : Int), .int .i64 0] rfl rfl 82 _ HBK.out (by kernel_rfl) rfl (by simp [Value.oneCell']) ?_))
      refine bodyPost_ret (ret_cell1 Tryz.results23 rfl (HBK.out.lay _) Tryz.underlying82 (by kernel_rfl)) rfl ?_
      exact RGot.mk HX.out.symm HB.out
    · have hm : markL (s.data.toList.drop p) = ⟨2, Tk.zero, 0⟩ := by rw [hd]; exact mark_none _ (by decide) (by intro h; exact absurd h (by decide)) (by intro h; rw [HDD.out]; exact hdn)
      have HX : Hid (gotC g p = #[.int .i64 0, .string ⟨#[]⟩, .int .i64 0, .bool false, .int .i64 0, .int .i64 0, .int .i64 2]) := by show gotC g p = _; rw [hg, hm]; rfl
      have e2 : ((s[p1].toNat : Int) == 61) = false := neqI (m := 61) hdn
      clear hdn hd1 HDD hp2le
      clear hg hm hd hc e1 hB1 hp1 hp2 hs
      go_enter Tryz.func23, Tryz.ntmps23
      go_wp2_with fail
      obtain ⟨W0, hW0⟩ : ∃ W0, W0 = w.alloc (.cells #[.int .i64 0, .string ⟨#[]⟩, .int .i64 0, .bool false, .int .i64 0, .int .i64 0, .int .i64 0] 82) := ⟨_, rfl⟩
      rw [← hW0] at HBK HB q0
      rw [← hW0]
      clear hW0
      go_wp2_with (first
        | (go_at_call 39; refine (HS.out W0).mono ?_; rintro e w1 ⟨rfl, hw1⟩; obtain rfl : W0 = w1 := hw1.symm)
        | (go_at_call 40; refine (HG.out W0).mono ?_; rintro e w1 ⟨rfl, hw1⟩; obtain rfl : W0 = w1 := hw1.symm)
        | (go_at_call 42; refine (HF.out W0).mono ?_; rintro e w1 ⟨rfl, hw1⟩; obtain rfl : W0 = w1 := hw1.symm; clear HF)
        | (refine wpList_store_row rfl 82 _ _ rfl w.heap.size #[.int .i64 0, .string ⟨#[]⟩, .int .i64 0, .bool false, .int .i64 0, .int .i64 0, .int .i64 2] rfl rfl 82 _ HBK.out (by kernel_rfl) rfl (by simp [Value.oneCell']) ?_))
      refine bodyPost_ret (ret_cell1 Tryz.results23 rfl (HBK.out.lay _) Tryz.underlying82 (by kernel_rfl)) rfl ?_
      exact RGot.mk HX.out.symm HB.out
  · have hn1I : ¬ (p1 : Int) < (s.size : Int) := by omega
    have HDD : Hid ((s.data.toList.drop (p + 1)).headD 0 = 0) := by show _ = _; rw [List.drop_of_length_le (by simp; omega)]; rfl
    have hdn : (0 : UInt8) ≠ 61 := by decide
    have hm : markL (s.data.toList.drop p) = ⟨2, Tk.zero, 0⟩ := by rw [hd]; exact mark_none _ (by decide) (by intro h; exact absurd h (by decide)) (by intro h; rw [HDD.out]; exact hdn)
    have HX : Hid (gotC g p = #[.int .i64 0, .string ⟨#[]⟩, .int .i64 0, .bool false, .int .i64 0, .int .i64 0, .int .i64 2]) := by show gotC g p = _; rw [hg, hm]; rfl
    clear hdn HDD
    clear hg hm hd hc e1 hB1 hp1 hp2 hs
    go_enter Tryz.func23, Tryz.ntmps23
    go_wp2_with fail
    obtain ⟨W0, hW0⟩ : ∃ W0, W0 = w.alloc (.cells #[.int .i64 0, .string ⟨#[]⟩, .int .i64 0, .bool false, .int .i64 0, .int .i64 0, .int .i64 0] 82) := ⟨_, rfl⟩
    rw [← hW0] at HBK HB q0
    rw [← hW0]
    clear hW0
    go_wp2_with (first
      | (go_at_call 39; refine (HS.out W0).mono ?_; rintro e w1 ⟨rfl, hw1⟩; obtain rfl : W0 = w1 := hw1.symm)
      | (go_at_call 40; refine (HG.out W0).mono ?_; rintro e w1 ⟨rfl, hw1⟩; obtain rfl : W0 = w1 := hw1.symm)
      | (go_at_call 42; refine (HF.out W0).mono ?_; rintro e w1 ⟨rfl, hw1⟩; obtain rfl : W0 = w1 := hw1.symm; clear HF)
      | (refine wpList_store_row rfl 82 _ _ rfl w.heap.size #[.int .i64 0, .string ⟨#[]⟩, .int .i64 0, .bool false, .int .i64 0, .int .i64 0, .int .i64 2] rfl rfl 82 _ HBK.out (by kernel_rfl) rfl (by simp [Value.oneCell']) ?_))
    refine bodyPost_ret (ret_cell1 Tryz.results23 rfl (HBK.out.lay _) Tryz.underlying82 (by kernel_rfl)) rfl ?_
    exact RGot.mk HX.out.symm HB.out
set_option maxRecDepth 100000 in
set_option maxHeartbeats 4000000 in
theorem rone_m45 (s : ByteArray) (p : Nat) (w : World) (hs : s.size ≤ 65536) (hp : p < s.size) (hc : s[p] = 45) (hno : ∀ h : p + 1 < s.size, figureQ s[p + 1] = false) :
    Calls Tryz.prog 23 #[.string s, .int .i64 (p : Int)] w fun e w' => RGot (markL (s.data.toList.drop p)) p w e w' := by
  have HBK := Lib.hid (Blk.new w gotZ 82)
  have HB := Lib.hid (al_bel w (.cells gotZ 82))
  unfold gotZ at HBK HB
  have q0 := HB.out.size
  have i3 : (s.size : Int) ≤ 65536 := by omega
  have hpI : (p : Int) < (s.size : Int) := by omega
  have HS := Lib.hid (fun W => rsmall_any s[p] W)
  have HG := Lib.hid (fun W => rbig_any s[p] W)
  have HF := Lib.hid (fun W => rfigure_any s[p] W)
  have e0 : (s[p].toNat : Int) = 45 := by rw [hc]; rfl
  have e1 : smallQ s[p] = false ∧ greatQ s[p] = false ∧ figureQ s[p] = false := by rw [hc]; decide
  rw [e1.1, e0] at HS
  rw [e1.2.1, e0] at HG
  rw [e1.2.2, e0] at HF
  obtain ⟨p1, hp1⟩ : ∃ p1, p1 = p + 1 := ⟨_, rfl⟩
  obtain ⟨p2, hp2⟩ : ∃ p2, p2 = p + 2 := ⟨_, rfl⟩
  have hpp : (p : Int) + 1 = (p1 : Int) := by omega
  have hpq : (p : Int) + 2 = (p2 : Int) := by omega
  have hpb : (p1 : Int) ≤ 65536 := by omega
  have hpc : (p2 : Int) ≤ 65537 := by omega
  have hp1le : (p1 : Int) ≤ (s.size : Int) := by omega
  have hpp1 : (p : Int) ≤ (p1 : Int) := by omega
  have hpp2 : (p : Int) ≤ (p2 : Int) := by omega
  have hd := drop_at hp
  rw [hc] at hd
  have hB1 : s.extract p p1 = ⟨#[45]⟩ := by rw [hp1, ba_one s p hp, hc]
  obtain ⟨g, hg⟩ : ∃ g, g = markL (s.data.toList.drop p) := ⟨_, rfl⟩
  rw [← hg]
  have hm : markL (s.data.toList.drop p) = ⟨2, Tk.zero, 0⟩ := by rw [hd]; exact mark_none _ (by decide) (by intro h; exact absurd h (by decide)) (by intro h; exact absurd h (by decide))
  have HX : Hid (gotC g p = #[.int .i64 0, .string ⟨#[]⟩, .int .i64 0, .bool false, .int .i64 0, .int .i64 0, .int .i64 2]) := by show gotC g p = _; rw [hg, hm]; rfl
  by_cases hn1 : p1 < s.size
  · have hn1I : (p1 : Int) < (s.size : Int) := by omega
    have hn2 := hno (by omega)
    have HFN := Lib.hid (fun W => rfigure_any s[p + 1] W)
    rw [hn2] at HFN
    have e9 : (s[p1].toNat : Int) = (s[p + 1].toNat : Int) := by simp only [hp1]
    rw [← e9] at HFN
    clear hno hn2 e9
    clear hg hm hd hc e1 hB1 hp1 hp2 hs
    go_enter Tryz.func23, Tryz.ntmps23
    go_wp2_with fail
    obtain ⟨W0, hW0⟩ : ∃ W0, W0 = w.alloc (.cells #[.int .i64 0, .string ⟨#[]⟩, .int .i64 0, .bool false, .int .i64 0, .int .i64 0, .int .i64 0] 82) := ⟨_, rfl⟩
    rw [← hW0] at HBK HB q0
    rw [← hW0]
    clear hW0
    go_wp2_with (first
      | (go_at_call 39; refine (HS.out W0).mono ?_; rintro e w1 ⟨rfl, hw1⟩; obtain rfl : W0 = w1 := hw1.symm)
      | (go_at_call 40; refine (HG.out W0).mono ?_; rintro e w1 ⟨rfl, hw1⟩; obtain rfl : W0 = w1 := hw1.symm)
      | (go_at_call 42; refine (HF.out W0).mono ?_; rintro e w1 ⟨rfl, hw1⟩; obtain rfl : W0 = w1 := hw1.symm; clear HF)
      | (go_at_call 42; refine (HFN.out W0).mono ?_; rintro e w1 ⟨rfl, hw1⟩; obtain rfl : W0 = w1 := hw1.symm; clear HFN)
      | (refine wpList_store_row rfl 82 _ _ rfl w.heap.size #[.int .i64 0, .string ⟨#[]⟩, .int .i64 0, .bool false, .int .i64 0, .int .i64 0, .int .i64 2] rfl rfl 82 _ HBK.out (by kernel_rfl) rfl (by simp [Value.oneCell']) ?_))
    refine bodyPost_ret (ret_cell1 Tryz.results23 rfl (HBK.out.lay _) Tryz.underlying82 (by kernel_rfl)) rfl ?_
    exact RGot.mk HX.out.symm HB.out
  · have hn1I : ¬ (p1 : Int) < (s.size : Int) := by omega
    have HFN := Lib.hid (fun W => rfigure_any 0 W)
    have e9 : (((0 : UInt8).toNat : Nat) : Int) = 0 := rfl
    have e8 : figureQ 0 = false := rfl
    rw [e9, e8] at HFN
    clear hno e9 e8
    clear hg hm hd hc e1 hB1 hp1 hp2 hs
    go_enter Tryz.func23, Tryz.ntmps23
    go_wp2_with fail
    obtain ⟨W0, hW0⟩ : ∃ W0, W0 = w.alloc (.cells #[.int .i64 0, .string ⟨#[]⟩, .int .i64 0, .bool false, .int .i64 0, .int .i64 0, .int .i64 0] 82) := ⟨_, rfl⟩
    rw [← hW0] at HBK HB q0
    rw [← hW0]
    clear hW0
    go_wp2_with (first
      | (go_at_call 39; refine (HS.out W0).mono ?_; rintro e w1 ⟨rfl, hw1⟩; obtain rfl : W0 = w1 := hw1.symm)
      | (go_at_call 40; refine (HG.out W0).mono ?_; rintro e w1 ⟨rfl, hw1⟩; obtain rfl : W0 = w1 := hw1.symm)
      | (go_at_call 42; refine (HF.out W0).mono ?_; rintro e w1 ⟨rfl, hw1⟩; obtain rfl : W0 = w1 := hw1.symm; clear HF)
      | (go_at_call 42; refine (HFN.out W0).mono ?_; rintro e w1 ⟨rfl, hw1⟩; obtain rfl : W0 = w1 := hw1.symm; clear HFN)
      | (refine wpList_store_row rfl 82 _ _ rfl w.heap.size #[.int .i64 0, .string ⟨#[]⟩, .int .i64 0, .bool false, .int .i64 0, .int .i64 0, .int .i64 2] rfl rfl 82 _ HBK.out (by kernel_rfl) rfl (by simp [Value.oneCell']) ?_))
    refine bodyPost_ret (ret_cell1 Tryz.results23 rfl (HBK.out.lay _) Tryz.underlying82 (by kernel_rfl)) rfl ?_
    exact RGot.mk HX.out.symm HB.out
end Go.Proofs.YtekhcaanjaoioaaGreatDoor
