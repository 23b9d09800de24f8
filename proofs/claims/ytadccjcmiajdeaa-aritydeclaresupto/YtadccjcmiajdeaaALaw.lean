/-
  What the laws of arity share: how much a program's uses are; ArityTells' walk.
-/
import Derived.Test.YtadccjcmiajdeaaAShown
namespace Go.Proofs.Ytadccjcmiajdeaa
set_option linter.unusedSimpArgs false
set_option linter.unusedVariables false
set_option linter.unusedSectionVars false
set_option maxRecDepth 100000
open Go.RowKit Go.Maps

theorem sz_mem {α : Type} (f : α → Nat) {L : List α} {a : α} (h : a ∈ L) {n : Nat} (hs : (L.map f).sum ≤ n) : f a ≤ n := Nat.le_trans (sum_mem f h) hs
theorem atom_in {a : Am} (hs : szAm a ≤ 1048576) : DeV (useOf a) := by
  unfold szAm at hs
  have h1 := sum_len szTm 6 (fun t => by unfold szTm; omega) a.args
  unfold szTms at hs
  refine ⟨?_, ?_⟩
  · show a.p.size ≤ maxLen
    unfold maxLen; omega
  · show InR (a.args.length : Nat)
    unfold InR; omega
theorem atoms_of {r : Ru} {a : Am} (h : a ∈ atomsL r) : szAm a ≤ szRu r := by
  unfold szRu szLts
  rcases List.mem_cons.1 h with rfl | h
  · omega
  · obtain ⟨l, hl, rfl⟩ := List.mem_map.1 h
    have := sum_mem szLt (List.mem_filter.1 hl).1
    unfold szLt at this
    have h2 : szLts r.body = (r.body.map szLt).sum := rfl
    unfold szLt at h2 ⊢
    omega
theorem atoms_len (r : Ru) : (atomsL r).length ≤ szRu r := by
  have h1 : (bodyAts r.body).length ≤ r.body.length := by unfold bodyAts; simp; exact List.length_filter_le _ _
  have h2 := sum_len szLt 2 (fun l => by unfold szLt; omega) r.body
  unfold szRu szLts
  have h3 : 2 ≤ szAm r.head := by unfold szAm; omega
  simp [atomsL]
  omega
theorem uses_in {g : Pr} (hI : InPr g) (hs : szPr g ≤ 1048576) : (∀ u ∈ usesL g, DeV u) ∧ (usesL g).length ≤ 1048576 := by
  unfold szPr szDes szRus at hs
  constructor
  · intro u hu
    rcases List.mem_append.1 hu with hu | hu
    · have := sum_mem szDe hu
      unfold szDe at this
      have h2 : szDes g.decls = (g.decls.map szDe).sum := rfl
      unfold szDe at h2 hs
      exact ⟨by unfold maxLen; omega, hI.1 u hu⟩
    · obtain ⟨r, hr, hu⟩ := List.mem_flatMap.1 hu
      obtain ⟨a, ha, rfl⟩ := List.mem_map.1 hu
      exact atom_in (by have := atoms_of ha; have := sum_mem szRu hr; omega)
  · have h1 : g.decls.length ≤ (g.decls.map szDe).sum := by have := sum_len szDe 1 (fun d => by unfold szDe; omega) g.decls; omega
    have h2 : ∀ R : List Ru, (rulesU R).length ≤ (R.map szRu).sum := by
      intro R
      induction R with
      | nil => simp [rulesU]
      | cons r R ih =>
        have := atoms_len r
        simp only [rulesU, List.flatMap_cons, List.length_append, List.length_map, List.map_cons, List.sum_cons] at ih ⊢
        omega
    have h3 := h2 g.rules
    simp only [usesL, List.length_append]
    omega
/-- What is told of uses that are as long as may be, is so. -/
theorem told_mem {L : List De} : ∀ d ∈ (told L).l, d ∈ L := by
  have f1 : ∀ M : List De, ∀ d ∈ firsts M, d ∈ M := by
    have aux : ∀ (M acc : List De) (d : De), d ∈ M.foldl (fun acc u => if (findD acc u.p).isSome then acc else acc ++ [u]) acc → d ∈ acc ∨ d ∈ M := by
      intro M
      induction M with
      | nil => intro acc d h; exact .inl h
      | cons u M ih =>
        intro acc d h
        simp only [List.foldl_cons] at h
        rcases ih _ d h with h | h
        · split at h
          · exact .inl h
          · rcases List.mem_append.1 h with h | h
            · exact .inl h
            · simp at h; exact .inr (by simp [h])
        · exact .inr (by simp [h])
    intro M d h
    rcases aux M [] d h with h | h
    · simp at h
    · exact h
  have aux : ∀ (r pre : List De), ∀ d ∈ (toldF pre r).l, d ∈ pre ++ r := by
    intro r
    induction r with
    | nil => intro pre d h; simp only [toldF] at h; simpa using f1 pre d h
    | cons u r ih =>
      intro pre d h
      by_cases hc : clash pre u = true
      · rw [toldF_bad hc] at h; simp at h
      · rw [Bool.not_eq_true] at hc
        rw [toldF_ok hc] at h
        have := ih (pre ++ [u]) d h
        simpa using this
  intro d h
  simpa using aux L [] d h

/-- The box in which a program lies. -/
theorem box2 {w W : World} {x y : Value} {ty : TypeId} (h : Below (w.alloc (.cells #[x, y] ty)).heap.size (w.alloc (.cells #[x, y] ty)) W) : W.cell? ⟨w.heap.size, 0, none⟩ = some x ∧ W.cell? ⟨w.heap.size, 1, none⟩ = some y := by
  have hb := (Blk.new w #[x, y] ty).below h
  exact ⟨hb.cell 0, hb.cell 1⟩
theorem out_of {w W0 W : World} (h0 : Below w.heap.size w W0) (h : Below W0.heap.size W0 W) : Below w.heap.size w W := h0.trans (h.mono h0.size)

set_option maxHeartbeats 4000000 in
theorem tells_walk {g : Pr} {x y lx : Value} {l : List De} {pred : ByteArray} {w : World} (hx : Des w x g.decls) (hy : Rus w y g.rules) (hl : Des w lx l) (hI : InPr g) (hs : szPr g ≤ 1048576) :
    Calls Try.prog 3 #[.agg #[x, y], lx, .string pred] w fun e w' => e = .returned (.bool true) ∧ Below w.heap.size w w' := by
  obtain ⟨hu, hn⟩ := uses_in hI hs
  obtain ⟨xo, xc, rfl, -⟩ := hx.form
  obtain ⟨yo, yc, rfl, -⟩ := hy.form
  have HW : Hid (Below w.heap.size w (w.alloc (.cells #[.slice xo g.decls.length xc, .slice yo g.rules.length yc] 25))) := al_bel w _
  have HX := Lib.hid (hx.below stayDe HW.out)
  have HY := Lib.hid (hy.below stayRu HW.out)
  have HU := Lib.hid hu
  have HN : Hid ((usesL g).length ≤ 1000000000) := by show _ ≤ _; omega
  obtain ⟨f, hf⟩ : ∃ f, f = decide ((usesL g).length ≤ 300) := ⟨_, rfl⟩
  have HF := Lib.hid hf
  obtain ⟨lo, lc, rfl, -⟩ := hl.form
  have HLL := Lib.hid (hl.below stayDe HW.out)
  clear hx hy hl hu hn hf hI hs
  cases f
  · go_enter Try.func3, Try.ntmps3
    go_wp2_with (first
      | (go_at_call 8; refine (shown_any _).mono ?_; rintro e w1 ⟨rfl, hb1⟩; obtain ⟨c0, c1⟩ := box2 hb1; have HB1 : Hid (Below (w.alloc (.cells #[.slice xo g.decls.length xc, .slice yo g.rules.length yc] 25)).heap.size (w.alloc (.cells #[.slice xo g.decls.length xc, .slice yo g.rules.length yc] 25)) w1) := hb1; clear hb1)
      | (go_at_call 9; refine (few_any g _ _ w1 (HX.out.below stayDe HB1.out) (HY.out.below stayRu HB1.out) HN.out).mono ?_; rintro e w2 ⟨he, hb2⟩; rw [← HF.out] at he; subst he; have hB2 := HB1.out.trans (hb2.mono HB1.out.size); obtain ⟨d0, d1⟩ := box2 hB2; have HB2 : Hid (Below (w.alloc (.cells #[.slice xo g.decls.length xc, .slice yo g.rules.length yc] 25)).heap.size (w.alloc (.cells #[.slice xo g.decls.length xc, .slice yo g.rules.length yc] 25)) w2) := hB2; clear hb2 hB2 c0 c1))
    go_ret
    exact ⟨rfl, out_of HW.out HB2.out⟩
  · go_enter Try.func3, Try.ntmps3
    go_wp2_with (first
      | (go_at_call 8; refine (shown_any _).mono ?_; rintro e w1 ⟨rfl, hb1⟩; obtain ⟨c0, c1⟩ := box2 hb1; have HB1 : Hid (Below (w.alloc (.cells #[.slice xo g.decls.length xc, .slice yo g.rules.length yc] 25)).heap.size (w.alloc (.cells #[.slice xo g.decls.length xc, .slice yo g.rules.length yc] 25)) w1) := hb1; clear hb1)
      | (go_at_call 9; refine (few_any g _ _ w1 (HX.out.below stayDe HB1.out) (HY.out.below stayRu HB1.out) HN.out).mono ?_; rintro e w2 ⟨he, hb2⟩; rw [← HF.out] at he; subst he; have hB2 := HB1.out.trans (hb2.mono HB1.out.size); obtain ⟨d0, d1⟩ := box2 hB2; have HB2 : Hid (Below (w.alloc (.cells #[.slice xo g.decls.length xc, .slice yo g.rules.length yc] 25)).heap.size (w.alloc (.cells #[.slice xo g.decls.length xc, .slice yo g.rules.length yc] 25)) w2) := hB2; clear hb2 hB2 c0 c1)
      | (go_at_call 10; refine (of_any g _ _ w2 (HX.out.below stayDe HB2.out) (HY.out.below stayRu HB2.out) HU.out HN.out).mono ?_; intro e w3 h3; obtain ⟨v3, he3, hd3, hb3⟩ := h3.des HN.out; obtain ⟨c3, hc3⟩ : ∃ c : Int, c = (if (told (usesL g)).bad then 5 else 0) := ⟨_, rfl⟩; obtain ⟨p3, hp3⟩ : ∃ p : Nat, p = (told (usesL g)).at' := ⟨_, rfl⟩; rw [← hc3, ← hp3] at he3; subst he3; have HC3 := Lib.hid hc3; have HP3 := Lib.hid hp3; have hB3 := HB2.out.trans (hb3.mono HB2.out.size); obtain ⟨e0, e1⟩ := box2 hB3; have HB3 : Hid (Below (w.alloc (.cells #[.slice xo g.decls.length xc, .slice yo g.rules.length yc] 25)).heap.size (w.alloc (.cells #[.slice xo g.decls.length xc, .slice yo g.rules.length yc] 25)) w3) := hB3; have HD3 := Lib.hid hd3; clear h3 hc3 hp3 hb3 hd3 hB3 d0 d1)
      | (go_at_call 11; refine (rof_any g _ _ w3 (HX.out.below stayDe HB3.out) (HY.out.below stayRu HB3.out) HN.out).mono ?_; rintro e w4 ⟨v4, he4, hd4, hb4⟩; rw [← HC3.out, ← HP3.out] at he4; subst he4; have HB4 : Hid (Below (w.alloc (.cells #[.slice xo g.decls.length xc, .slice yo g.rules.length yc] 25)).heap.size (w.alloc (.cells #[.slice xo g.decls.length xc, .slice yo g.rules.length yc] 25)) w4) := HB3.out.trans (hb4.mono HB3.out.size); have HD34 : Hid (Des w4 v3 (told (usesL g)).l) := HD3.out.below stayDe hb4; have HD4 := Lib.hid hd4; clear hb4 hd4 e0 e1)
      | (go_at_call 12; refine (find_any (HLL.out.below stayDe HB4.out) pred).mono ?_; rintro e w5 ⟨rfl, hb5⟩; have HB5 : Hid (Below (w.alloc (.cells #[.slice xo g.decls.length xc, .slice yo g.rules.length yc] 25)).heap.size (w.alloc (.cells #[.slice xo g.decls.length xc, .slice yo g.rules.length yc] 25)) w5) := HB4.out.trans (hb5.mono HB4.out.size); have HD35 : Hid (Des w5 v3 (told (usesL g)).l) := HD34.out.below stayDe hb5; have HD45 : Hid (Des w5 v4 (told (usesL g)).l) := HD4.out.below stayDe hb5; clear hb5)
      | (go_at_call 13; refine (rfind_any (HLL.out.below stayDe HB5.out) pred).mono ?_; rintro e w6 ⟨rfl, hw6⟩; obtain rfl : w6 = w5 := hw6)
      | (go_at_call 14; refine (rsame_any HD35.out HD45.out (fun d hd => HU.out d (told_mem d hd))).mono ?_; rintro e w7 ⟨rfl, hb7⟩; have HB7 : Hid (Below (w.alloc (.cells #[.slice xo g.decls.length xc, .slice yo g.rules.length yc] 25)).heap.size (w.alloc (.cells #[.slice xo g.decls.length xc, .slice yo g.rules.length yc] 25)) w7) := HB5.out.trans (hb7.mono HB5.out.size); clear hb7))
    go_ret
    exact ⟨rfl, out_of HW.out HB7.out⟩
end Go.Proofs.Ytadccjcmiajdeaa
