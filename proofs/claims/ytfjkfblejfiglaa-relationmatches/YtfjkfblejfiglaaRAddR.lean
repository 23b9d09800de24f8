/-
  Contract of a relation's Add: a row that isn't there is added at the end; nothing turns but the relation's own blocks.
-/
import Derived.Test.YtfjkfblejfiglaaRMidR
namespace Go.Proofs.Ytfjkfblejfiglaa
set_option linter.unusedSimpArgs false
set_option linter.unusedVariables false
set_option linter.unusedSectionVars false
set_option maxRecDepth 100000
open Go.RowKit Go.Maps
variable [DecidableEq V]

/-- What Add answers: whether the row was new; the relation behind it. -/
def AddOut (w : World) (B : Nat) (FT FR : Nat → Prop) (rb ar : Nat) (L : List V) (RS : List (List Nat)) (s1 s2 : Nat) (vs : List V) (e : Ending) (w' : World) : Prop :=
  ∃ (FT' FR' : Nat → Prop) (L' : List V) (RS' : List (List Nat)) (to : Option Nat) (rv : Value) (c : Bool), e = .returned (.tuple #[.bool c, .int .i64 0]) ∧ Turns (fun k => FT k ∨ FR k) w w' ∧ Rl w' B FT' FR' rb ar L' RS' to rv s1 s2 ∧
    (∀ k, FT' k ∨ FR' k → (FT k ∨ FR k) ∨ w.heap.size ≤ k ∧ k < w'.heap.size) ∧ L' = addAll L vs ∧ ((c = false ∧ numsOf L' vs ∈ RS ∧ RS' = RS) ∨ (c = true ∧ numsOf L' vs ∉ RS ∧ RS' = RS ++ [numsOf L' vs]))

theorem six_new (w : World) (c : Array Value) (t : TypeId) : ∀ j u, c.toList[j]? = some u → (w.alloc (.cells c t)).drew.cell? ((⟨w.heap.size, 0, none⟩ : Addr).add j) = some u := by
  intro j u hj
  show (w.alloc (.cells c t)).cell? _ = _
  rw [add_none, Nat.zero_add, World.cell?_alloc_at _ _ _ _ rfl]
  simpa using hj
theorem six_one (q : List Nat) : ∀ u ∈ six q, u.oneCell' = true := by
  intro u hu
  simp [six] at hu
  rcases hu with rfl | rfl | rfl | rfl | rfl | rfl <;> rfl

set_option maxHeartbeats 6400000 in
set_option maxRecDepth 100000 in
theorem add_rel {w : World} {B : Nat} {FT FR : Nat → Prop} {rb ar : Nat} {L : List V} {RS : List (List Nat)} {to : Option Nat} {rv : Value} {s1 s2 : Nat} (hR : Rl w B FT FR rb ar L RS to rv s1 s2) {x : Value} {vs : List V} (hx : Vals w x vs) (ha : Apart FT x) (hlen : vs.length = ar) (hL : L.length + 6 < 1000000) (hm : RS.length < 1000000) :
    Calls Try.prog 12 #[.pointer (some ⟨rb, 0, none⟩), x] w fun e w' => AddOut w B FT FR rb ar L RS s1 s2 vs e w' := by
  obtain ⟨ao, cap, rfl, hml⟩ := hx.len
  obtain ⟨ro, rc, rfl⟩ := hR.form
  obtain ⟨c2, c3, c4, c5, c6, c7, hrb, hfz⟩ := hR.cells
  have h6 : vs.length ≤ 6 := by have := hR.ar6; omega
  have hPut := Lib.hid (tput_any hR.tab hx ha h6 hL)
  have l9 : (vs.length : Int) ≤ 6 := by omega
  have HR := Lib.hid hR
  have HLN := Lib.hid hlen
  have hlI : (vs.length : Int) = (ar : Int) := by omega
  have hlb : ((vs.length : Int) != (ar : Int)) = false := by simp [hlI]
  have HL : Hid (L.length + 6 < 1000000 ∧ RS.length < 1000000) := ⟨hL, hm⟩
  clear hR hx ha hml hlen hL hm
  go_enter Try.func12, Try.ntmps12
  go_wp2_with fail
  refine (hPut.out).mono ?_
  rintro e w1 ⟨rfl, ht, hT⟩
  have hR1 := HR.out.put ht hT
  have hin := addAll_in vs L
  obtain ⟨hQ, hQn⟩ := nums_ok (L := addAll L vs) (vs := vs) (by have := addAll_len vs L; have := HL.out.1; omega) h6 hin
  have hQl : (numsOf (addAll L vs) vs).length = ar := by simp [numsOf]; exact HLN.out
  obtain ⟨L1, hL1⟩ : ∃ L1, addAll L vs = L1 := ⟨_, rfl⟩
  rw [hL1] at hR1 hin hQ hQn hQl
  obtain ⟨q, hq⟩ : ∃ q, numsOf L1 vs = q := ⟨_, rfl⟩
  rw [hq] at hQ hQn hQl
  rw [hL1, hq]
  have HQ0 : Hid (numsOf L1 vs = q ∧ addAll L vs = L1) := ⟨hq, hL1⟩
  have HQ : Hid (QOk q ∧ (∀ n ∈ q, n < L1.length) ∧ q.length = ar) := ⟨hQ, hQn, hQl⟩
  have eS : (six q).toArray = #[.int .i64 (q.getD 0 0 : Nat), .int .i64 (q.getD 1 0 : Nat), .int .i64 (q.getD 2 0 : Nat), .int .i64 (q.getD 3 0 : Nat), .int .i64 (q.getD 4 0 : Nat), .int .i64 (q.getD 5 0 : Nat)] := rfl
  rw [eS]
  have HS6 : Hid (∀ (W : World) b, W.heap[b]? = some (.cells #[.int .i64 (q.getD 0 0 : Nat), .int .i64 (q.getD 1 0 : Nat), .int .i64 (q.getD 2 0 : Nat), .int .i64 (q.getD 3 0 : Nat), .int .i64 (q.getD 4 0 : Nat), .int .i64 (q.getD 5 0 : Nat)] 78 (0, 0)) → SixAt W b q) := fun W b h => h
  have HLK : Hid (∀ W : World, (∀ k, k < w1.heap.size → W.heap[k]? = w1.heap[k]?) → (Instr.lookup 72 (.map to) (.agg #[.int .i64 (q.getD 0 0 : Nat), .int .i64 (q.getD 1 0 : Nat), .int .i64 (q.getD 2 0 : Nat), .int .i64 (q.getD 3 0 : Nat), .int .i64 (q.getD 4 0 : Nat), .int .i64 (q.getD 5 0 : Nat)]) true).run Try.prog W = .ok (.tuple #[.agg #[], .bool (decide (q ∈ RS))]) W) := fun W hw => hR1.look hQ hQl hw
  have HST : Hid (∀ W mb ao cap, MidR w1 W B (fun k => FT k ∨ w.heap.size ≤ k ∧ k < w1.heap.size) FR rb ar L1 RS RS s1 s2 q w1.heap.size mb ao cap → ∃ w2, (Instr.mapUpdate 72 (.map (some mb)) (.agg #[.int .i64 (q.getD 0 0 : Nat), .int .i64 (q.getD 1 0 : Nat), .int .i64 (q.getD 2 0 : Nat), .int .i64 (q.getD 3 0 : Nat), .int .i64 (q.getD 4 0 : Nat), .int .i64 (q.getD 5 0 : Nat)]) (.agg #[])).run Try.prog W.drew = .ok () w2 ∧ MidR w1 w2 B (fun k => FT k ∨ w.heap.size ≤ k ∧ k < w1.heap.size) FR rb ar L1 RS (RS ++ [q]) s1 s2 q w1.heap.size mb ao cap) := fun W mb ao cap h => h.store hQ hQl HL.out.2
  have HSC : Hid (∀ (W : World) b, SixAt W b q → W.cell? ⟨b, 0, none⟩ = some (.int .i64 (q.getD 0 0 : Nat)) ∧ W.cell? ⟨b, 1, none⟩ = some (.int .i64 (q.getD 1 0 : Nat)) ∧ W.cell? ⟨b, 2, none⟩ = some (.int .i64 (q.getD 2 0 : Nat)) ∧ W.cell? ⟨b, 3, none⟩ = some (.int .i64 (q.getD 3 0 : Nat)) ∧ W.cell? ⟨b, 4, none⟩ = some (.int .i64 (q.getD 4 0 : Nat)) ∧ W.cell? ⟨b, 5, none⟩ = some (.int .i64 (q.getD 5 0 : Nat))) := fun W b h => h.cells
  have HSIX : Hid (six q = [.int .i64 (q.getD 0 0 : Nat), .int .i64 (q.getD 1 0 : Nat), .int .i64 (q.getD 2 0 : Nat), .int .i64 (q.getD 3 0 : Nat), .int .i64 (q.getD 4 0 : Nat), .int .i64 (q.getD 5 0 : Nat)]) := rfl
  have HR1 := Lib.hid hR1
  have HT1 := Lib.hid ht
  generalize ((q.getD 0 0 : Nat) : Int) = x0 at *
  generalize ((q.getD 1 0 : Nat) : Int) = x1 at *
  generalize ((q.getD 2 0 : Nat) : Int) = x2 at *
  generalize ((q.getD 3 0 : Nat) : Int) = x3 at *
  generalize ((q.getD 4 0 : Nat) : Int) = x4 at *
  generalize ((q.getD 5 0 : Nat) : Int) = x5 at *
  obtain ⟨W0, hW0⟩ : ∃ W0, W0 = w1.alloc (.cells #[.int .i64 x0, .int .i64 x1, .int .i64 x2, .int .i64 x3, .int .i64 x4, .int .i64 x5] 78) := ⟨_, rfl⟩
  have hb0 : Below w1.heap.size w1 W0 := by rw [hW0]; exact (Below.refl _ _).alloc (Nat.le_refl _) _
  have hx0 : SixAt W0 w1.heap.size q := by rw [hW0]; exact HS6.out _ _ (MapKept.heap_alloc w1 _).1
  have hs0 : w1.heap.size < W0.heap.size := hx0.lt
  obtain ⟨d2, d3, d4, d5, d6, d7, hrb0, hfz0⟩ := (hR1.below hb0).cells
  obtain ⟨k0, k1, k2, k3, k4, k5⟩ := HSC.out _ _ hx0
  have hrun1 := HLK.out W0.drew (fun k hk => hb0.block k hk)
  have hrun2 := HLK.out (W0.alloc (.cells #[] 80)).drew (fun k hk => (Below.heap_alloc W0 (.cells #[] 80) k (by omega)).trans (hb0.block k hk))
  have HB0 := Lib.hid hb0
  have HX0 := Lib.hid hx0
  clear hR1 ht hT hPut hin hQ hQn hQl hq hL1 eS c2 c3 c4 c5 c6 c7 HLK hb0 hx0 hfz
  go_wp2_with fail
  rw [← hW0]
  clear hW0
  have HAI : Hid (q ∈ RS → ∀ W, Below w1.heap.size w1 W → AddOut w B FT FR rb ar L RS s1 s2 vs (.returned (.tuple #[.bool false, .int .i64 0])) W) := fun hm W hb => by
    have hs := HT1.out.size
    have hs2 := hb.size
    refine ⟨_, FR, L1, RS, to, _, false, rfl, (HT1.out.trans (Turns.of_below (F := fun _ => False) hb) (fun _ h => h.elim)).mono (fun _ h => .inl h), HR1.out.below hb, fun k hk => ?_, HQ0.out.2.symm, .inl ⟨rfl, by rw [HQ0.out.1]; exact hm, rfl⟩⟩
    rcases hk with (hk | hk) | hk
    · exact .inl (.inl hk)
    · exact .inr ⟨hk.1, by omega⟩
    · exact .inl (.inr hk)
  have HDN : Hid (q ∉ RS → ∀ W mb ro' rc' w3 v', MidR w1 W B (fun k => FT k ∨ w.heap.size ≤ k ∧ k < w1.heap.size) FR rb ar L1 RS (RS ++ [q]) s1 s2 q w1.heap.size mb ro' rc' → W.grownBy w3 (Value.slice ro' RS.length rc').ownBlock → w3.ownsRow 0 78 6 v' (RS.length + 1) (RS.flatMap six ++ six q) →
      (v'.ownBlock = (Value.slice ro' RS.length rc').ownBlock ∨ v'.ownBlock = some W.heap.size) → AddOut w B FT FR rb ar L RS s1 s2 vs (.returned (.tuple #[.bool true, .int .i64 0])) (w3.setCell ⟨rb, 4, none⟩ v')) := fun hn W mb ro' rc' w3 v' hM hg hr hl => by
    obtain ⟨t1, t2⟩ := hM.done HR1.out ⟨HQ.out.2.2, HQ.out.2.1⟩ hn hg hr hl
    have hs := HT1.out.size
    have hs2 := t1.size
    refine ⟨_, _, L1, RS ++ [q], some mb, v', true, rfl, (HT1.out.mono (fun _ h => .inl h)).trans t1 (fun k hk hlt => ?_), t2, fun k hk => ?_, HQ0.out.2.symm, .inr ⟨rfl, by rw [HQ0.out.1]; exact hn, by rw [HQ0.out.1]⟩⟩
    · rcases hk with (hk | hk) | hk
      · exact .inl hk
      · omega
      · exact .inr hk
    · rcases hk with (hk | hk) | hk | hk
      · exact .inl (.inl hk)
      · exact .inr ⟨hk.1, by omega⟩
      · exact .inl (.inr hk)
      · exact .inr ⟨by omega, hk.2⟩
  obtain ⟨W1, hW1⟩ : ∃ W1, W1 = (W0.alloc (.cells #[] 80)).drew := ⟨_, rfl⟩
  have hb1 : Below w1.heap.size w1 W1 := by rw [hW1]; exact (HB0.out.alloc (by omega) _).drew
  have hx1 : SixAt W1 w1.heap.size q := HX0.out.turns (Turns.of_below (F := fun _ => False) (show Below W0.heap.size W0 W1 by rw [hW1]; exact ((Below.refl _ _).alloc (Nat.le_refl _) _).drew)) (fun h => h)
  have HB1 := Lib.hid hb1
  have HX1 := Lib.hid hx1
  by_cases hmem : q ∈ RS
  · have hd : decide (q ∈ RS) = true := decide_eq_true hmem
    rw [hd] at hrun1 hrun2
    have HO := Lib.hid (HAI.out hmem W1 hb1)
    clear hd hmem
    go_region
    all_goals
      go_wp2
      rw [← hW1]
      go_ret2
      exact HO.out
  · have hd : decide (q ∈ RS) = false := decide_eq_false hmem
    rw [hd] at hrun1 hrun2
    have HDN := Lib.hid (HDN.out hmem)
    obtain ⟨i0, hi, hz0, hz1, hz2⟩ := info_parts infoNum
    have hRSm := HL.out.2
    have he1 := eqlSomeQ
    have he2 := eqlNilQ
    have hmm := @run_makeMap Try.prog
    have hw11 := hb1.size
    obtain ⟨e2, e3, e4, e5, e6, e7, hrb1, hfz1⟩ := (HR1.out.below hb1).cells
    clear hd hmem HAI hb1 hx1
    cases to with
    | none =>
      have HM := Lib.hid (midR_none (mb := W1.heap.size) HR1.out HB1.out HX1.out (Nat.le_refl _) rfl)
      go_region
      all_goals
        rw [← hW1]
        clear hW1
        go_wp2
        generalize ((W1.setCell { block := rb, off := 3 } (Value.map (some W1.heap.size))).alloc (Obj.map #[] 0)) = W2 at HM ⊢
        generalize W1.heap.size = mb at HM ⊢
        clear d2 d3 d4 d5 d6 d7 e2 e3 e4 e5 e6 e7 k0 k1 k2 k3 k4 k5 hrun1 hrun2 he1 he2 hmm HB1 HX1 HB0 HX0
        obtain ⟨w2, hrun, hM2⟩ := HST.out _ _ _ _ HM.out
        have HM2 := Lib.hid hM2
        obtain ⟨p0, p1, p2, p3⟩ := HM.out.cells
        obtain ⟨k0, k1, k2, k3, k4, k5⟩ := HSC.out _ _ HM.out.box
        have kl := HM.out.box.lt
        obtain ⟨q0, q1, q2, q3⟩ := HM2.out.cells
        obtain ⟨m0, m1, m2, m3, m4, m5⟩ := HSC.out _ _ HM2.out.box
        have ml := HM2.out.box.lt
        clear hM2 HM
        go_region
        go_wp2
        clear hrun p0 p1 p2 p3 k0 k1 k2 k3 k4 k5
        have hMA := HM2.out.below (show Below w2.heap.size w2 (w2.drew.alloc (.cells #[.int .i64 x0, .int .i64 x1, .int .i64 x2, .int .i64 x3, .int .i64 x4, .int .i64 x5] 78)) from ((Below.refl _ _).drew).alloc (by simp) _)
        have HRW : Hid ((w2.drew.alloc (.cells #[.int .i64 x0, .int .i64 x1, .int .i64 x2, .int .i64 x3, .int .i64 x4, .int .i64 x5] 78)).ownsRow 0 78 6 (.slice ro RS.length rc) RS.length (RS.flatMap six)) := hMA.row
        have HC : Hid (∀ (w3 : World), (w2.drew.alloc (.cells #[.int .i64 x0, .int .i64 x1, .int .i64 x2, .int .i64 x3, .int .i64 x4, .int .i64 x5] 78)).grownBy w3 (Value.slice ro RS.length rc).ownBlock → w3.cell? ⟨rb, 4, none⟩ = some (.slice ro RS.length rc) ∧ w3.frozen? ⟨rb, 4, none⟩ = false ∧ rb < w3.heap.size) := fun w3 hg => hMA.cells3 hg
        have HD : Hid (∀ (w3 : World) (v' : Value), (w2.drew.alloc (.cells #[.int .i64 x0, .int .i64 x1, .int .i64 x2, .int .i64 x3, .int .i64 x4, .int .i64 x5] 78)).grownBy w3 (Value.slice ro RS.length rc).ownBlock → w3.ownsRow 0 78 6 v' (RS.length + 1) (RS.flatMap six ++ [.int .i64 x0, .int .i64 x1, .int .i64 x2, .int .i64 x3, .int .i64 x4, .int .i64 x5]) →
            (v'.ownBlock = (Value.slice ro RS.length rc).ownBlock ∨ v'.ownBlock = some (w2.drew.alloc (.cells #[.int .i64 x0, .int .i64 x1, .int .i64 x2, .int .i64 x3, .int .i64 x4, .int .i64 x5] 78)).heap.size) → AddOut w B FT FR rb ar L RS s1 s2 vs (.returned (.tuple #[.bool true, .int .i64 0])) (w3.setCell ⟨rb, 4, none⟩ v')) := fun w3 v' hg hr hl => by
          rw [← HSIX.out] at hr
          exact HDN.out _ _ _ _ _ _ hMA hg hr hl
        clear HM2 hMA
        go_region_law (refine step_append_own rfl (.tmp 54) (.tmp 56) 73 rfl 78 i0 _ 6 48 Try.underlying73 hi hz0 hz1 hz2 rfl (by decide) (.slice ro RS.length rc) RS.length (RS.flatMap six) (by simp [Act.eval, Act.put]) HRW.out ⟨w2.heap.size, 0, none⟩ 1 1 [.int .i64 x0, .int .i64 x1, .int .i64 x2, .int .i64 x3, .int .i64 x4, .int .i64 x5] (by simp [Act.eval, Act.put]) rfl (six_new w2 #[.int .i64 x0, .int .i64 x1, .int .i64 x2, .int .i64 x3, .int .i64 x4, .int .i64 x5] _) (by simp [Value.oneCell']) (by unfold maxLen; omega) (by omega) ?_; intro v' w3 hr3 hg3 hl3; obtain ⟨s1, s2, s3⟩ := HC.out w3 hg3; have s4 := HD.out w3 v' hg3 hr3 hl3; obtain ⟨g', cap', hv'⟩ := Joins.ownsRow_form hr3 (Nat.succ_pos _); subst hv'; have HE := Lib.hid s4; clear s4 hr3 hg3 hl3)
        all_goals
          go_wp2
          go_ret2
          exact HE.out
    | some mb =>
      have HM := Lib.hid (midR_some HR1.out HB1.out HX1.out (Nat.le_refl _))
      go_region
      all_goals
        rw [← hW1]
        clear hW1
        go_wp2
        clear d2 d3 d4 d5 d6 d7 e2 e3 e4 e5 e6 e7 k0 k1 k2 k3 k4 k5 hrun1 hrun2 he1 he2 hmm HB1 HX1 HB0 HX0
        obtain ⟨w2, hrun, hM2⟩ := HST.out _ _ _ _ HM.out
        have HM2 := Lib.hid hM2
        obtain ⟨p0, p1, p2, p3⟩ := HM.out.cells
        obtain ⟨k0, k1, k2, k3, k4, k5⟩ := HSC.out _ _ HM.out.box
        have kl := HM.out.box.lt
        obtain ⟨q0, q1, q2, q3⟩ := HM2.out.cells
        obtain ⟨m0, m1, m2, m3, m4, m5⟩ := HSC.out _ _ HM2.out.box
        have ml := HM2.out.box.lt
        clear hM2 HM
        go_region
        go_wp2
        clear hrun p0 p1 p2 p3 k0 k1 k2 k3 k4 k5
        have hMA := HM2.out.below (show Below w2.heap.size w2 (w2.drew.alloc (.cells #[.int .i64 x0, .int .i64 x1, .int .i64 x2, .int .i64 x3, .int .i64 x4, .int .i64 x5] 78)) from ((Below.refl _ _).drew).alloc (by simp) _)
        have HRW : Hid ((w2.drew.alloc (.cells #[.int .i64 x0, .int .i64 x1, .int .i64 x2, .int .i64 x3, .int .i64 x4, .int .i64 x5] 78)).ownsRow 0 78 6 (.slice ro RS.length rc) RS.length (RS.flatMap six)) := hMA.row
        have HC : Hid (∀ (w3 : World), (w2.drew.alloc (.cells #[.int .i64 x0, .int .i64 x1, .int .i64 x2, .int .i64 x3, .int .i64 x4, .int .i64 x5] 78)).grownBy w3 (Value.slice ro RS.length rc).ownBlock → w3.cell? ⟨rb, 4, none⟩ = some (.slice ro RS.length rc) ∧ w3.frozen? ⟨rb, 4, none⟩ = false ∧ rb < w3.heap.size) := fun w3 hg => hMA.cells3 hg
        have HD : Hid (∀ (w3 : World) (v' : Value), (w2.drew.alloc (.cells #[.int .i64 x0, .int .i64 x1, .int .i64 x2, .int .i64 x3, .int .i64 x4, .int .i64 x5] 78)).grownBy w3 (Value.slice ro RS.length rc).ownBlock → w3.ownsRow 0 78 6 v' (RS.length + 1) (RS.flatMap six ++ [.int .i64 x0, .int .i64 x1, .int .i64 x2, .int .i64 x3, .int .i64 x4, .int .i64 x5]) →
            (v'.ownBlock = (Value.slice ro RS.length rc).ownBlock ∨ v'.ownBlock = some (w2.drew.alloc (.cells #[.int .i64 x0, .int .i64 x1, .int .i64 x2, .int .i64 x3, .int .i64 x4, .int .i64 x5] 78)).heap.size) → AddOut w B FT FR rb ar L RS s1 s2 vs (.returned (.tuple #[.bool true, .int .i64 0])) (w3.setCell ⟨rb, 4, none⟩ v')) := fun w3 v' hg hr hl => by
          rw [← HSIX.out] at hr
          exact HDN.out _ _ _ _ _ _ hMA hg hr hl
        clear HM2 hMA
        go_region_law (refine step_append_own rfl (.tmp 54) (.tmp 56) 73 rfl 78 i0 _ 6 48 Try.underlying73 hi hz0 hz1 hz2 rfl (by decide) (.slice ro RS.length rc) RS.length (RS.flatMap six) (by simp [Act.eval, Act.put]) HRW.out ⟨w2.heap.size, 0, none⟩ 1 1 [.int .i64 x0, .int .i64 x1, .int .i64 x2, .int .i64 x3, .int .i64 x4, .int .i64 x5] (by simp [Act.eval, Act.put]) rfl (six_new w2 #[.int .i64 x0, .int .i64 x1, .int .i64 x2, .int .i64 x3, .int .i64 x4, .int .i64 x5] _) (by simp [Value.oneCell']) (by unfold maxLen; omega) (by omega) ?_; intro v' w3 hr3 hg3 hl3; obtain ⟨s1, s2, s3⟩ := HC.out w3 hg3; have s4 := HD.out w3 v' hg3 hr3 hl3; obtain ⟨g', cap', hv'⟩ := Joins.ownsRow_form hr3 (Nat.succ_pos _); subst hv'; have HE := Lib.hid s4; clear s4 hr3 hg3 hl3)
        all_goals
          go_wp2
          go_ret2
          exact HE.out
end Go.Proofs.Ytfjkfblejfiglaa
