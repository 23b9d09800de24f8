/-
  ArityAgrees' walk.
-/
import Derived.Test.YtadccjcmiajdeaaAAgreeP
namespace Go.Proofs.Ytadccjcmiajdeaa
set_option linter.unusedSimpArgs false
set_option linter.unusedVariables false
set_option linter.unusedSectionVars false
set_option maxRecDepth 100000
open Go.RowKit Go.Maps

set_option maxHeartbeats 8000000 in
theorem agrees_walk {g : Pr} {x y : Value} {w : World} (hx : Des w x g.decls) (hy : Rus w y g.rules) (hI : InPr g) (hs : szPr g ≤ 1048576) :
    Calls Try.prog 4 #[.agg #[x, y]] w fun e w' => e = .returned (.bool true) ∧ Below w.heap.size w w' := by
  obtain ⟨hu, hn⟩ := uses_in hI hs
  obtain ⟨xo, xc, rfl, -⟩ := hx.form
  obtain ⟨yo, yc, rfl, -⟩ := hy.form
  have HW : Hid (Below w.heap.size w (w.alloc (.cells #[.slice xo g.decls.length xc, .slice yo g.rules.length yc] 25))) := al_bel w _
  have HX := Lib.hid (hx.below stayDe HW.out)
  have HY := Lib.hid (hy.below stayRu HW.out)
  have HU := Lib.hid hu
  have HN : Hid ((usesL g).length ≤ 1000000000) := by show _ ≤ _; omega
  obtain ⟨f, hf⟩ : ∃ f, f = decide ((usesL g).length ≤ 300) := ⟨_, rfl⟩
  have HF := Lib.hid hf
  have HO := Lib.hid (told_or (usesL g))
  clear hx hy hu hn hf hI hs
  cases f
  · go_enter Try.func4, Try.ntmps4
    go_wp2_with (first
      | (go_at_call 8; refine (shown_any _).mono ?_; rintro e w1 ⟨rfl, hb1⟩; obtain ⟨c0, c1⟩ := box2 hb1; have HB1 : Hid (Below (w.alloc (.cells #[.slice xo g.decls.length xc, .slice yo g.rules.length yc] 25)).heap.size (w.alloc (.cells #[.slice xo g.decls.length xc, .slice yo g.rules.length yc] 25)) w1) := hb1; clear hb1)
      | (go_at_call 9; refine (few_any g _ _ w1 (HX.out.below stayDe HB1.out) (HY.out.below stayRu HB1.out) HN.out).mono ?_; rintro e w2 ⟨he, hb2⟩; rw [← HF.out] at he; subst he; have hB2 := HB1.out.trans (hb2.mono HB1.out.size); obtain ⟨d0, d1⟩ := box2 hB2; have HB2 : Hid (Below (w.alloc (.cells #[.slice xo g.decls.length xc, .slice yo g.rules.length yc] 25)).heap.size (w.alloc (.cells #[.slice xo g.decls.length xc, .slice yo g.rules.length yc] 25)) w2) := hB2; clear hb2 hB2 c0 c1))
    go_ret
    exact ⟨rfl, out_of HW.out HB2.out⟩
  · rcases HO.out with ⟨hF, hT⟩ | ⟨hF, bk, hbk, hT⟩
    · have HT := Lib.hid hT
      have HFI := Lib.hid hF
      obtain ⟨U, hU⟩ : ∃ U, U = usesL g := ⟨_, rfl⟩
      rw [← hU] at HFI
      have HUU := Lib.hid hU
      clear hT hF HO hU
      go_enter Try.func4, Try.ntmps4
      go_wp2_with (first
        | (go_at_call 8; refine (shown_any _).mono ?_; rintro e w1 ⟨rfl, hb1⟩; obtain ⟨c0, c1⟩ := box2 hb1; have HB1 : Hid (Below (w.alloc (.cells #[.slice xo g.decls.length xc, .slice yo g.rules.length yc] 25)).heap.size (w.alloc (.cells #[.slice xo g.decls.length xc, .slice yo g.rules.length yc] 25)) w1) := hb1; clear hb1)
        | (go_at_call 9; refine (few_any g _ _ w1 (HX.out.below stayDe HB1.out) (HY.out.below stayRu HB1.out) HN.out).mono ?_; rintro e w2 ⟨he, hb2⟩; rw [← HF.out] at he; subst he; have hB2 := HB1.out.trans (hb2.mono HB1.out.size); obtain ⟨d0, d1⟩ := box2 hB2; have HB2 : Hid (Below (w.alloc (.cells #[.slice xo g.decls.length xc, .slice yo g.rules.length yc] 25)).heap.size (w.alloc (.cells #[.slice xo g.decls.length xc, .slice yo g.rules.length yc] 25)) w2) := hB2; clear hb2 hB2 c0 c1)
        | (go_at_call 10; refine (of_any g _ _ w2 (HX.out.below stayDe HB2.out) (HY.out.below stayRu HB2.out) HU.out HN.out).mono ?_; intro e w3 h3; obtain ⟨v3, he3, hd3, hb3⟩ := h3.des HN.out; rw [HT.out] at he3 hd3; obtain rfl : e = .returned (.tuple #[v3, .int .i64 0, .int .i64 0]) := he3; obtain ⟨o3, n3, s3, rfl, hn3⟩ := hd3.formN; have HN3 := Lib.hid hn3; have hB3 := HB2.out.trans (hb3.mono HB2.out.size); obtain ⟨e0, e1⟩ := box2 hB3; have HB3 : Hid (Below (w.alloc (.cells #[.slice xo g.decls.length xc, .slice yo g.rules.length yc] 25)).heap.size (w.alloc (.cells #[.slice xo g.decls.length xc, .slice yo g.rules.length yc] 25)) w3) := hB3; have HD3 := Lib.hid hd3; clear h3 hb3 hd3 hB3 hn3 d0 d1)
        | (go_at_call 15; refine (ruses_any g _ _ w3 (HX.out.below stayDe HB3.out) (HY.out.below stayRu HB3.out) HN.out).mono ?_; rintro e w4 ⟨u4, rfl, hu4, hb4⟩; have hd4 := hu4.rd stayDe hb4 (by have := HN.out; unfold maxLen; omega); rw [← HUU.out] at hd4; obtain ⟨o4, n4, s4, rfl, hn4⟩ := hd4.formN; have HN4 := Lib.hid hn4; have HD4 := Lib.hid hd4; have HD34 := Lib.hid (HD3.out.below stayDe hb4); have HB4 : Hid (Below (w.alloc (.cells #[.slice xo g.decls.length xc, .slice yo g.rules.length yc] 25)).heap.size (w.alloc (.cells #[.slice xo g.decls.length xc, .slice yo g.rules.length yc] 25)) w4) := HB3.out.trans (hb4.mono HB3.out.size); clear hu4 hb4 hd4 HD3 hn4 e0 e1))
      rw [← HUU.out] at HD34 HN3
      have hk4 : (n4 : Int) ≤ 1000000000 := by have := HN.out; rw [← HUU.out] at this; have := HN4.out; omega
      have hk3 : (n3 : Int) ≤ 1000000000 := by have := HN.out; rw [← HUU.out] at this; have := firsts_len U; have := HN3.out; omega
      go_loopw [8] (fun i wr => ∃ k : Nat, k ≤ n4 ∧ i = .int .i64 (k : Int) ∧ Hid (Below w4.heap.size w4 wr)) (fun i _ => n4 - (intOf i).toNat)
      case atStart => exact ⟨0, Nat.zero_le _, rfl, Below.refl _ _⟩
      case round =>
        obtain ⟨k, hk, rfl, HB⟩ := hrel
        by_cases hlt : k < n4
        · have hltI : (k : Int) < (n4 : Int) := by omega
          have hlt' : k < U.length := by have := HN4.out; omega
          obtain ⟨b, off, cs, rfl, hbl, hR, hcell⟩ := (HD4.out.below stayDe HB.out).at k hlt'
          obtain rfl : cs = _ := hR
          have q0 := hcell 0 _ rfl
          have q1 := hcell 1 _ rfl
          simp only [Nat.add_zero] at q0
          have hfd := HFI.out.found (List.getElem_mem hlt')
          have hcap : n4 ≤ s4 := by
            obtain ⟨_, _, e, h1, -⟩ := HD4.out.form
            cases e
            have := HN4.out
            omega
          clear hcell
          obtain ⟨d, hd⟩ : ∃ d, d = U[k]'hlt' := ⟨_, rfl⟩
          rw [← hd] at q0 q1 hfd
          clear hd
          obtain ⟨dp, dar⟩ := d
          simp only [De.cells] at q0 q1 hfd
          have hc := find_any (HD34.out.below stayDe HB.out) dp
          rw [hfd] at hc
          simp only [Option.getD_some, Option.isSome_some] at hc
          have HC := Lib.hid hc
          clear hc hfd
          go_wp2_with (go_at_call 12; refine HC.out.mono ?_; rintro e w5 ⟨rfl, hb5⟩; have r1 := (hb5.cell (p := ⟨b, _, none⟩) hbl).trans q1; have HB5 : Hid (Below w4.heap.size w4 w5) := HB.out.trans (hb5.mono HB.out.size); clear hb5)
          go_roundw
          case rel => exact ⟨k + 1, by omega, by simp, HB5⟩
          case measure => simp [intOf]; omega
        · have hltI : ¬ (k : Int) < (n4 : Int) := by omega
          obtain rfl : k = n4 := by omega
          go_wp2
          generalize wr = wo at *
          go_loopw [11] (fun i wr => ∃ k : Nat, k ≤ n3 ∧ i = .int .i64 (k : Int) ∧ Hid (Below w4.heap.size w4 wr)) (fun i _ => n3 - (intOf i).toNat)
          case atStart => exact ⟨0, Nat.zero_le _, rfl, HB⟩
          case round =>
            clear HB
            obtain ⟨j, hj, rfl, HB⟩ := hrel
            by_cases hlt2 : j < n3
            · have hltJ : (j : Int) < (n3 : Int) := by omega
              have hlt' : j < (firsts U).length := by have := HN3.out; omega
              have hr3 : Des wr (.slice o3 n3 s3) (firsts U) := HD34.out.below stayDe HB.out
              obtain ⟨b, off, cs, rfl, hbl, hR, hcell⟩ := hr3.at j hlt'
              obtain rfl : cs = _ := hR
              have q0 := hcell 0 _ rfl
              have q1 := hcell 1 _ rfl
              simp only [Nat.add_zero] at q0
              have hfu := findD_mem (firsts_mem HFI.out (List.getElem_mem hlt'))
              have hft := (uniq_firsts U).take hlt'
              have hcap : n3 ≤ s3 := by
                obtain ⟨_, _, e, h1, -⟩ := hr3.form
                cases e
                have := HN3.out
                omega
              have hr3' : Des wr (.slice (some ⟨b, off, none⟩) (firsts U).length s3) (firsts U) := by rw [← HN3.out]; exact hr3
              obtain ⟨hcut, yo2, hyo⟩ := hr3'.sliced (i := 0) (j := j) (Nat.zero_le _) (by omega)
              have hrun : ∀ W, (Instr.slice 22 (.slice (some ⟨b, off, none⟩) n3 s3) none (some (.int .i64 (j : Int))) none).run Try.prog W = .ok (sliced (some ⟨b, off, none⟩) 0 j s3 2) W := fun W => by
                rw [run_slice_h (P := Try.prog) W _ _ _ _ (sizeOf_el elDe W).2 .i64 (j : Int) (by omega) (by omega), (sizeOf_el elDe W).1]
                simp [Result.andThen]
              rw [List.drop_zero] at hcut
              obtain ⟨z, hz⟩ : ∃ z, z = sliced (some ⟨b, off, none⟩) 0 j s3 2 := ⟨_, rfl⟩
              rw [← hz] at hrun hcut
              clear hcell hyo hz hr3 hr3'
              obtain ⟨d, hd⟩ : ∃ d, d = (firsts U)[j]'hlt' := ⟨_, rfl⟩
              rw [← hd] at q0 q1 hfu hft
              clear hd
              obtain ⟨dp, dar⟩ := d
              simp only [De.cells] at q0 q1 hfu hft
              have hc := rfind_any (HD4.out.below stayDe HB.out) dp
              rw [hfu] at hc
              have HC := Lib.hid hc
              have HQ : Hid (∀ nq, Calls Try.prog 13 #[z, .string dp] (wr.drewN nq) fun e w' => e = .returned (.tuple #[.int .i64 0, .bool false]) ∧ w' = wr.drewN nq) := fun nq => by
                have := rfind_any (w := wr.drewN nq) (hcut.below stayDe (below_drewN' (Below.refl _ _) nq)) dp
                rw [hft] at this
                exact this
              clear hc hfu hft hcut
              go_wp2_with (go_at_call 13; refine HC.out.mono ?_; rintro e w5 ⟨rfl, hw5⟩; obtain rfl : w5 = wr := hw5)
              go_quiet ((go_at_call 13; refine Calls.quiet_of_same (HQ.out _)))
              go_wp2
              go_roundw
              case rel => exact ⟨j + 1, by omega, by simp, below_drewN' HB.out _⟩
              case measure => simp [intOf]; omega
            · have hltJ : ¬ (j : Int) < (n3 : Int) := by omega
              go_wp2
              go_ret
              exact ⟨rfl, out_of HW.out (HB4.out.trans (HB.out.mono HB4.out.size))⟩
    · have HT := Lib.hid hT
      clear hT hF HO hbk
      go_enter Try.func4, Try.ntmps4
      go_wp2_with (first
        | (go_at_call 8; refine (shown_any _).mono ?_; rintro e w1 ⟨rfl, hb1⟩; obtain ⟨c0, c1⟩ := box2 hb1; have HB1 : Hid (Below (w.alloc (.cells #[.slice xo g.decls.length xc, .slice yo g.rules.length yc] 25)).heap.size (w.alloc (.cells #[.slice xo g.decls.length xc, .slice yo g.rules.length yc] 25)) w1) := hb1; clear hb1)
        | (go_at_call 9; refine (few_any g _ _ w1 (HX.out.below stayDe HB1.out) (HY.out.below stayRu HB1.out) HN.out).mono ?_; rintro e w2 ⟨he, hb2⟩; rw [← HF.out] at he; subst he; have hB2 := HB1.out.trans (hb2.mono HB1.out.size); obtain ⟨d0, d1⟩ := box2 hB2; have HB2 : Hid (Below (w.alloc (.cells #[.slice xo g.decls.length xc, .slice yo g.rules.length yc] 25)).heap.size (w.alloc (.cells #[.slice xo g.decls.length xc, .slice yo g.rules.length yc] 25)) w2) := hB2; clear hb2 hB2 c0 c1)
        | (go_at_call 10; refine (of_any g _ _ w2 (HX.out.below stayDe HB2.out) (HY.out.below stayRu HB2.out) HU.out HN.out).mono ?_; intro e w3 h3; obtain ⟨v3, he3, hd3, hb3⟩ := h3.des HN.out; rw [HT.out] at he3 hd3; obtain rfl : e = .returned (.tuple #[v3, .int .i64 (bk : Nat), .int .i64 5]) := he3; obtain ⟨o3, n3, s3, rfl, hn3⟩ := hd3.formN; have HN3 := Lib.hid hn3; have hB3 := HB2.out.trans (hb3.mono HB2.out.size); obtain ⟨e0, e1⟩ := box2 hB3; have HB3 : Hid (Below (w.alloc (.cells #[.slice xo g.decls.length xc, .slice yo g.rules.length yc] 25)).heap.size (w.alloc (.cells #[.slice xo g.decls.length xc, .slice yo g.rules.length yc] 25)) w3) := hB3; have HD3 := Lib.hid hd3; clear h3 hb3 hd3 hB3 hn3 d0 d1))
      have hn0 : n3 = 0 := HN3.out
      subst hn0
      go_wp2
      go_ret
      exact ⟨rfl, out_of HW.out HB3.out⟩
end Go.Proofs.Ytadccjcmiajdeaa
