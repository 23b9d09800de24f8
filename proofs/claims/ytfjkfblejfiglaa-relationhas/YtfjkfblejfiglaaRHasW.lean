/-
  The walk of RelationHas: a row is there just if one alike was added; as many rows are told as there are: the law returns true; of old memory nothing turns.
-/
import Derived.Test.YtfjkfblejfiglaaRLaw1
import Derived.Test.YtfjkfblejfiglaaTRef3C
namespace Go.Proofs.Ytfjkfblejfiglaa
set_option linter.unusedSimpArgs false
set_option linter.unusedVariables false
set_option linter.unusedSectionVars false
set_option maxRecDepth 100000
open Go.RowKit Go.Maps
variable [DecidableEq V]

theorem vals_second (w : World) (o : Obj) {u v : V} (hu : u.Ok) (hv : v.Ok) : Vals ((w.alloc o).alloc (.cells #[.bool u.k, .string u.s, .int .i64 u.n, .bool v.k, .string v.s, .int .i64 v.n] 55)) (.slice (some ⟨w.heap.size + 1, 0, none⟩) 2 2) [u, v] := by
  have := vals_new2 (w.alloc o) hu hv
  have hs : (w.alloc o).heap.size = w.heap.size + 1 := by simp
  rwa [hs] at this
theorem prow_cmp {p : V × V} {a b : V} : rcmp [p.1, p.2] [a, b] = 0 ↔ prow p = [a.bare, b.bare] := by rw [rcmp_bare]; rfl
/-- Whether a pair alike is among the first k. -/
def seen (ps : List (V × V)) (r : List V) (k : Nat) : Bool := decide (r ∈ fillM [] (ps.take k))
theorem seen_step {ps : List (V × V)} {r : List V} {k : Nat} (hk : k < ps.length) : seen ps r (k + 1) = (seen ps r k || decide (prow ps[k] = r)) := by
  unfold seen
  rw [List.take_succ_eq_append_getElem hk, fillM_snoc]
  apply Bool.eq_iff_iff.2
  simp only [Bool.or_eq_true, decide_eq_true_eq, mem_addRow]
  exact ⟨fun h => h.imp id Eq.symm, fun h => h.imp id Eq.symm⟩

theorem Box.at {w w' : World} {b B : Nat} {v : V} (h : Box w b v) (hb : Below B w w') (hlt : b < B) : Box w' b v :=
  ⟨(hb.cell (p := ⟨b, 0, none⟩) hlt).trans h.1, (hb.cell (p := ⟨b, 1, none⟩) hlt).trans h.2.1, (hb.cell (p := ⟨b, 2, none⟩) hlt).trans h.2.2.1, Nat.lt_of_lt_of_le h.2.2.2 hb.size⟩
/-- A row made for the call is added: what lies ahead of the relation stays. -/
theorem add_two {wr : World} {B : Nat} {F : Nat → Prop} {rb c : Nat} {M : List (List V)} {s1 s2 : Nat} (hR : Rln wr B F rb 2 c M s1 s2) (hc : c < 9000) {a b : V} (ha : a.Ok) (hb : b.Ok) {r : List V} (hr : [a.bare, b.bare] = r) {z : Bool} (hz : decide (r ∉ M) = z) :
    Calls Try.prog 12 #[.pointer (some ⟨rb, 0, none⟩), .slice (some ⟨wr.heap.size, 0, none⟩) 2 2] (wr.alloc (.cells #[.bool a.k, .string a.s, .int .i64 a.n, .bool b.k, .string b.s, .int .i64 b.n] 55)) fun e w' => ∃ F', e = .returned (.tuple #[.bool z, .int .i64 0]) ∧ Below B wr w' ∧ Rln w' B F' rb 2 (c + 1) (addRow M r) s1 s2 := by
  have hW : Below wr.heap.size wr (wr.alloc (.cells #[.bool a.k, .string a.s, .int .i64 a.n, .bool b.k, .string b.s, .int .i64 b.n] 55)) := (Below.refl _ _).alloc (Nat.le_refl _) _
  have hRW := hR.below hW
  have hlow := hR.low
  have hB : B ≤ wr.heap.size := by omega
  refine (add_rln hRW (vals_new2 wr ha hb) (Apart.at (fun g => ?_)) rfl (by omega)).mono ?_
  · have := (hlow.1 _ g).2
    simp at this
  · intro e w' h
    obtain ⟨F', he, ht, -, hR'⟩ := h.row
    have e2 : [a, b].map V.bare = r := hr
    rw [e2] at he hR'
    rw [hz] at he
    exact ⟨F', he, (hW.mono hB).trans (ht.below (by simp; omega) (fun k hk => (hlow.1 k hk).1)), hR'⟩
theorem has_two {wr : World} {B : Nat} {F : Nat → Prop} {rb c : Nat} {M : List (List V)} {s1 s2 : Nat} (hR : Rln wr B F rb 2 c M s1 s2) (hc : c < 9000) {a b : V} (ha : a.Ok) (hb : b.Ok) {r : List V} (hr : [a.bare, b.bare] = r) {z : Bool} (hz : decide (r ∈ M) = z) :
    Calls Try.prog 19 #[.pointer (some ⟨rb, 0, none⟩), .slice (some ⟨wr.heap.size, 0, none⟩) 2 2] (wr.alloc (.cells #[.bool a.k, .string a.s, .int .i64 a.n, .bool b.k, .string b.s, .int .i64 b.n] 55)) fun e w' => e = .returned (.bool z) ∧ Below wr.heap.size wr w' := by
  have hW : Below wr.heap.size wr (wr.alloc (.cells #[.bool a.k, .string a.s, .int .i64 a.n, .bool b.k, .string b.s, .int .i64 b.n] 55)) := (Below.refl _ _).alloc (Nat.le_refl _) _
  refine (has_rln (hR.below hW) (vals_new2 wr ha hb) (by omega)).mono ?_
  rintro e w' ⟨he, hbn⟩
  have e2 : [a, b].map V.bare = r := hr
  rw [e2, hz] at he
  exact ⟨he, hW.trans (hbn.mono (by simp))⟩
theorem has_one {wr : World} {B : Nat} {F : Nat → Prop} {rb c : Nat} {M : List (List V)} {s1 s2 : Nat} (hR : Rln wr B F rb 2 c M s1 s2) (hc : c < 9000) {a : V} (ha : a.Ok) :
    Calls Try.prog 19 #[.pointer (some ⟨rb, 0, none⟩), .slice (some ⟨wr.heap.size, 0, none⟩) 1 1] (wr.alloc (.cells #[.bool a.k, .string a.s, .int .i64 a.n] 55)) fun e w' => e = .returned (.bool false) ∧ Below wr.heap.size wr w' := by
  have hW : Below wr.heap.size wr (wr.alloc (.cells #[.bool a.k, .string a.s, .int .i64 a.n] 55)) := (Below.refl _ _).alloc (Nat.le_refl _) _
  refine (has_rln (hR.below hW) (vals_new1 wr ha) (by omega)).mono ?_
  rintro e w' ⟨he, hbn⟩
  rw [decide_eq_false (hR.mem_len (vs := [a]) (by simp))] at he
  exact ⟨he, hW.trans (hbn.mono (by simp))⟩

theorem twelve_keep {wr W w' : World} {pb o0 o1 o2 o3 o4 o5 qa qb : Nat} {x0 x1 x2 x3 x4 x5 a0 a1 a2 b0 b1 b2 : Value}
    (h : W.cell? ⟨pb, o0, none⟩ = some x0 ∧ W.cell? ⟨pb, o1, none⟩ = some x1 ∧ W.cell? ⟨pb, o2, none⟩ = some x2 ∧ W.cell? ⟨pb, o3, none⟩ = some x3 ∧ W.cell? ⟨pb, o4, none⟩ = some x4 ∧ W.cell? ⟨pb, o5, none⟩ = some x5 ∧ pb < W.heap.size ∧ W.cell? ⟨qa, 0, none⟩ = some a0 ∧ W.cell? ⟨qa, 1, none⟩ = some a1 ∧ W.cell? ⟨qa, 2, none⟩ = some a2 ∧ qa < W.heap.size ∧ W.cell? ⟨qb, 0, none⟩ = some b0 ∧ W.cell? ⟨qb, 1, none⟩ = some b1 ∧ W.cell? ⟨qb, 2, none⟩ = some b2 ∧ qb < W.heap.size ∧ Below wr.heap.size wr W) (hb : Below W.heap.size W w') :
    w'.cell? ⟨pb, o0, none⟩ = some x0 ∧ w'.cell? ⟨pb, o1, none⟩ = some x1 ∧ w'.cell? ⟨pb, o2, none⟩ = some x2 ∧ w'.cell? ⟨pb, o3, none⟩ = some x3 ∧ w'.cell? ⟨pb, o4, none⟩ = some x4 ∧ w'.cell? ⟨pb, o5, none⟩ = some x5 ∧ pb < w'.heap.size ∧ w'.cell? ⟨qa, 0, none⟩ = some a0 ∧ w'.cell? ⟨qa, 1, none⟩ = some a1 ∧ w'.cell? ⟨qa, 2, none⟩ = some a2 ∧ qa < w'.heap.size ∧ w'.cell? ⟨qb, 0, none⟩ = some b0 ∧ w'.cell? ⟨qb, 1, none⟩ = some b1 ∧ w'.cell? ⟨qb, 2, none⟩ = some b2 ∧ qb < w'.heap.size ∧ Below wr.heap.size wr w' := by
  obtain ⟨h0, h1, h2, h3, h4, h5, hp, k0, k1, k2, hqa, m0, m1, m2, hqb, hB⟩ := h
  have hs := hb.size
  exact ⟨(hb.cell (p := ⟨pb, o0, none⟩) hp).trans h0, (hb.cell (p := ⟨pb, o1, none⟩) hp).trans h1, (hb.cell (p := ⟨pb, o2, none⟩) hp).trans h2, (hb.cell (p := ⟨pb, o3, none⟩) hp).trans h3, (hb.cell (p := ⟨pb, o4, none⟩) hp).trans h4, (hb.cell (p := ⟨pb, o5, none⟩) hp).trans h5, by omega,
    (hb.cell (p := ⟨qa, 0, none⟩) hqa).trans k0, (hb.cell (p := ⟨qa, 1, none⟩) hqa).trans k1, (hb.cell (p := ⟨qa, 2, none⟩) hqa).trans k2, by omega, (hb.cell (p := ⟨qb, 0, none⟩) hqb).trans m0, (hb.cell (p := ⟨qb, 1, none⟩) hqb).trans m1, (hb.cell (p := ⟨qb, 2, none⟩) hqb).trans m2, by omega, hB.trans (hb.mono hB.size)⟩

set_option maxHeartbeats 800000 in
theorem has_walk {x : Value} {ps : List (V × V)} {a b : V} {w : World} (hx : Pairs w x ps) (ha : a.Ok) (hb : b.Ok) :
    Calls Try.prog 8 #[x, .agg #[.bool a.k, .string a.s, .int .i64 a.n], .agg #[.bool b.k, .string b.s, .int .i64 b.n]] w fun e w' => e = .returned (.bool true) ∧ Below w.heap.size w w' := by
  obtain ⟨ao, cap, rfl, hm⟩ := hx.len
  unfold maxLen at hm
  have HX := Lib.hid hx
  have HOK : Hid (a.Ok ∧ b.Ok) := ⟨ha, hb⟩
  clear hx ha hb
  go_enter Try.func8, Try.ntmps8
  go_wp2_with fail
  obtain ⟨w0, hw0⟩ : ∃ w0, w0 = (w.alloc (.cells #[.bool a.k, .string a.s, .int .i64 a.n] 55)).alloc (.cells #[.bool b.k, .string b.s, .int .i64 b.n] 55) := ⟨_, rfl⟩
  have HB0 : Hid (Below w.heap.size w w0) := by show Below _ _ _; rw [hw0]; exact ((Below.refl _ _).alloc (Nat.le_refl _) _).alloc (by simp) _
  have HA0 : Hid (Box w0 w.heap.size a) := by show Box _ _ _; rw [hw0]; exact (Box.new w a).below ((Below.refl _ _).alloc (Nat.le_refl _) _)
  have HC0 : Hid (Box w0 (w.heap.size + 1) b) := by
    show Box _ _ _
    have := Box.new (w.alloc (.cells #[.bool a.k, .string a.s, .int .i64 a.n] 55)) b
    have hs : (w.alloc (.cells #[.bool a.k, .string a.s, .int .i64 a.n] 55)).heap.size = w.heap.size + 1 := by simp
    rw [hs] at this
    rw [hw0]; exact this
  rw [← hw0]
  clear hw0
  obtain ⟨qa, hqa⟩ : ∃ q, w.heap.size = q := ⟨_, rfl⟩
  obtain ⟨qb, hqb⟩ : ∃ q, w.heap.size + 1 = q := ⟨_, rfl⟩
  rw [hqb] at HC0 ⊢
  rw [hqa] at HA0
  refine (shown4_any w0).mono ?_
  rintro e w1 ⟨rfl, hb1⟩
  have HB1 : Hid (Below w.heap.size w w1) := HB0.out.trans (hb1.mono HB0.out.size)
  have HA1 := Lib.hid (HA0.out.below hb1)
  have HC1 := Lib.hid (HC0.out.below hb1)
  have HX1 := Lib.hid (HX.out.below HB1.out)
  have hFL := Lib.hid (filled_any HX1.out)
  have hs1 := HB1.out.size
  clear hb1 HX HB0 HA0 HC0
  have HQA := Lib.hid hqa
  rw [hqa]
  go_wp2_with fail
  refine (hFL.out).mono ?_
  rintro e w2 ⟨F, c, rfl, hc, hb2, hR2⟩
  have HB2 : Hid (Below w.heap.size w w2) := HB1.out.trans (hb2.mono HB1.out.size)
  have HA2 := Lib.hid (HA1.out.below hb2)
  have HC2 := Lib.hid (HC1.out.below hb2)
  have HX2 := Lib.hid (HX1.out.below hb2)
  have HLT : Hid (qa < w1.heap.size ∧ qb < w1.heap.size) := ⟨HA1.out.2.2.2, HC1.out.2.2.2⟩
  obtain ⟨rb, hrb⟩ : ∃ rb, w1.heap.size = rb := ⟨_, rfl⟩
  rw [hrb] at hR2 HLT hs1 ⊢
  have HRB : Hid (w.heap.size ≤ rb) := hs1
  have HR2 := Lib.hid hR2
  by_cases h40 : ps.length ≤ 40
  case neg =>
    have h40I : (ps.length : Int) > 40 := by omega
    clear hb2 hR2 hFL HA1 HC1 HX1 HB1 hqa hqb hrb hs1
    go_wp2
    go_ret
    exact ⟨rfl, HB2.out⟩
  have h40I : ¬ (ps.length : Int) > 40 := by omega
  obtain ⟨M, hM⟩ : ∃ M, fillM [] (ps.take 40) = M := ⟨_, rfl⟩
  rw [hM] at HR2
  obtain ⟨r, hr⟩ : ∃ r : List V, [a.bare, b.bare] = r := ⟨_, rfl⟩
  have HSE : Hid (seen ps r ps.length = decide (r ∈ M)) := by
    show _ = _
    rw [seen, ← hM, List.take_of_length_le (Nat.le_refl _), List.take_of_length_le h40]
  have HRR := Lib.hid hr
  clear hb2 hR2 hFL HA1 HC1 HX1 HB1 hqa hqb hrb hs1 hM hr
  go_wp2_with fail
  go_loopw [9, 10] (fun t i wr => ∃ (k : Nat), k ≤ ps.length ∧ t = .bool (seen ps r k) ∧ i = .int .i64 (k : Int) ∧ Hid (Below w2.heap.size w2 wr)) (fun _ i _ => 50 - (intOf i).toNat)
  case atStart => exact ⟨0, Nat.zero_le _, by simp [seen, fillM], rfl, Below.refl _ _⟩
  case round =>
    obtain ⟨k, hk, rfl, rfl, HBr⟩ := hrel
    have hwr := HBr.out.size
    by_cases hlt : k < ps.length
    · have h1I : (k : Int) < (ps.length : Int) := by omega
      obtain ⟨pb, off, rfl, hbl, hu, hv, c0, c1, c2, c3, c4, c5⟩ := (HX2.out.below HBr.out).at k hlt
      have HST := Lib.hid (seen_step (r := r) hlt)
      obtain ⟨a0, a1, a2, a3⟩ := HA2.out.below HBr.out
      obtain ⟨b0, b1, b2, b3⟩ := HC2.out.below HBr.out
      cases hse : seen ps r k with
      | true =>
        have HS2 : Hid (seen ps r (k + 1) = true) := by show _ = _; have := HST.out; rw [hse] at this; simpa using this
        clear HST hu hv
        generalize ps[k] = p at *
        go_wp2_with fail
        go_quiet (fail)
        go_wp2
        go_roundw
        case rel => exact ⟨k + 1, by omega, by rw [HS2.out], by go_num, below_drewN' HBr.out _⟩
        case measure => simp [intOf]; omega
      | false =>
        have HS2 : Hid (seen ps r (k + 1) = (rcmp [ps[k].1, ps[k].2] [a, b] == 0)) := by
          have := HST.out
          rw [hse, Bool.false_or] at this
          show _ = _
          rw [this]
          apply Bool.eq_iff_iff.2
          rw [decide_eq_true_eq, beq_iff_eq, prow_cmp, HRR.out]
        have hC : Hid (∀ W q1 q2, Vals W (.slice (some ⟨q1, 0, none⟩) 2 2) [ps[k].1, ps[k].2] → Vals W (.slice (some ⟨q2, 0, none⟩) 2 2) [a, b] → Calls Try.prog 29 #[.slice (some ⟨q1, 0, none⟩) 2 2, .slice (some ⟨q2, 0, none⟩) 2 2] W fun e w' => e = .returned (.int .i64 (rcmp [ps[k].1, ps[k].2] [a, b])) ∧ Below W.heap.size W w') := fun W q1 q2 h1 h2 => refRow_cmp h1 h2
        generalize rcmp [ps[k].1, ps[k].2] [a, b] = z at *
        generalize ps[k] = p at *
        obtain ⟨u, v⟩ := p
        simp only at *
        have HUV : Hid (u.Ok ∧ v.Ok) := ⟨hu, hv⟩
        clear hu hv HST
        go_wp2_with fail
        go_region_held3 (fun w' => w'.cell? ⟨pb, off + k * 6, none⟩ = some (.bool u.k) ∧ w'.cell? ⟨pb, off + k * 6 + 1, none⟩ = some (.string u.s) ∧ w'.cell? ⟨pb, off + k * 6 + 2, none⟩ = some (.int .i64 u.n) ∧ w'.cell? ⟨pb, off + k * 6 + 3, none⟩ = some (.bool v.k) ∧ w'.cell? ⟨pb, off + k * 6 + 3 + 1, none⟩ = some (.string v.s) ∧ w'.cell? ⟨pb, off + k * 6 + 3 + 2, none⟩ = some (.int .i64 v.n) ∧ pb < w'.heap.size ∧ w'.cell? ⟨qa, 0, none⟩ = some (.bool a.k) ∧ w'.cell? ⟨qa, 1, none⟩ = some (.string a.s) ∧ w'.cell? ⟨qa, 2, none⟩ = some (.int .i64 a.n) ∧ qa < w'.heap.size ∧ w'.cell? ⟨qb, 0, none⟩ = some (.bool b.k) ∧ w'.cell? ⟨qb, 1, none⟩ = some (.string b.s) ∧ w'.cell? ⟨qb, 2, none⟩ = some (.int .i64 b.n) ∧ qb < w'.heap.size ∧ Below wr.heap.size wr w')
          (first | assumption | exact twelve_keep (by assumption) hbN | exact twelve_keep (by assumption) ((Below.refl _ _).alloc (Nat.le_refl _) _) | exact ⟨c0, c1, c2, c3, c4, c5, hbl, a0, a1, a2, a3, b0, b1, b2, b3, (Below.refl _ _).drew⟩)
          (first
            | (go_at_call 29; refine (hC.out _ _ _ (by first | exact ((vals_new2 wr HUV.out.1 HUV.out.2).below ((Below.refl _ _).alloc (Nat.le_refl _) _)).below ((Below.refl _ _).drew) | exact (vals_second wr _ HUV.out.1 HUV.out.2).below ((Below.refl _ _).drew)) (by first | exact ((vals_new2 wr HOK.out.1 HOK.out.2).below ((Below.refl _ _).alloc (Nat.le_refl _) _)).below ((Below.refl _ _).drew) | exact (vals_second wr _ HOK.out.1 HOK.out.2).below ((Below.refl _ _).drew))).mono ?_; rintro e w' ⟨rfl, hbN⟩))
        all_goals
          go_wp2
          go_roundw
          case rel =>
            go_split_ands
            exact ⟨k + 1, by omega, by rw [HS2.out], by go_num, HBr.out.trans ((show Below wr.heap.size wr _ by assumption).mono HBr.out.size)⟩
          case measure => simp [intOf]; omega
    · have h1I : ¬ (k : Int) < (ps.length : Int) := by omega
      obtain rfl : k = ps.length := by omega
      have hse := HSE.out
      rw [hse]
      obtain ⟨z, hz⟩ : ∃ z, decide (r ∈ M) = z := ⟨_, rfl⟩
      rw [hz]
      have HZ := Lib.hid hz
      have HRr := Lib.hid (HR2.out.below HBr.out)
      have HBw : Hid (Below w.heap.size w wr) := HB2.out.trans (HBr.out.mono HB2.out.size)
      have HAr := Lib.hid (HA2.out.below HBr.out)
      have HCr := Lib.hid (HC2.out.below HBr.out)
      have hH := Lib.hid (has_two HRr.out (by omega) HOK.out.1 HOK.out.2 HRR.out hz)
      clear hse hz HR2 HB2 HA2 HC2 HX2 HSE HBr hwr hk h40
      obtain ⟨a0, a1, a2, a3⟩ := HAr.out
      obtain ⟨b0, b1, b2, b3⟩ := HCr.out
      go_wp2_with fail
      refine (hH.out).mono ?_
      rintro e w3 ⟨rfl, hb3⟩
      have HB3 : Hid (Below w.heap.size w w3) := HBw.out.trans (hb3.mono HBw.out.size)
      have HR3 := Lib.hid (HRr.out.below hb3)
      have HA3 := Lib.hid (HAr.out.below hb3)
      have HC3 := Lib.hid (HCr.out.below hb3)
      have hA := Lib.hid (add_two HR3.out (by omega) HOK.out.1 HOK.out.2 HRR.out (z := !z) (by rw [← HZ.out]; simp))
      clear a0 a1 a2 a3 b0 b1 b2 b3 hb3 hH HRr HBw HAr HCr
      obtain ⟨a0, a1, a2, a3⟩ := HA3.out
      obtain ⟨b0, b1, b2, b3⟩ := HC3.out
      go_wp2_with fail
      refine (hA.out).mono ?_
      rintro e w4 ⟨F4, rfl, hb4, hR4⟩
      have HB4 : Hid (Below w.heap.size w w4) := HB3.out.trans (hb4.mono HRB.out)
      have HR4 := Lib.hid hR4
      have HA4 := Lib.hid (HA3.out.at hb4 HLT.out.1)
      have HC4 := Lib.hid (HC3.out.at hb4 HLT.out.2)
      have hA4 := Lib.hid (add_two HR4.out (by omega) HOK.out.1 HOK.out.2 HRR.out (z := false) (by simp [mem_addRow]))
      clear a0 a1 a2 a3 b0 b1 b2 b3 hb4 hR4 hA HR3 HB3 HA3 HC3
      obtain ⟨a0, a1, a2, a3⟩ := HA4.out
      obtain ⟨b0, b1, b2, b3⟩ := HC4.out
      go_wp2_with fail
      refine (hA4.out).mono ?_
      rintro e w5 ⟨F5, rfl, hb5, hR5⟩
      have HB5 : Hid (Below w.heap.size w w5) := HB4.out.trans (hb5.mono HRB.out)
      have e5 : addRow (addRow M r) r = addRow M r := by rw [addRow, if_pos (mem_addRow.2 (.inr rfl))]
      rw [e5] at hR5
      have HR5 := Lib.hid hR5
      have HA5 := Lib.hid (HA4.out.at hb5 HLT.out.1)
      have HC5 := Lib.hid (HC4.out.at hb5 HLT.out.2)
      have hH5 := Lib.hid (has_two HR5.out (by omega) HOK.out.1 HOK.out.2 HRR.out (z := true) (by simp [mem_addRow]))
      clear a0 a1 a2 a3 b0 b1 b2 b3 hb5 hR5 hA4 HR4 HB4 HA4 HC4 e5
      obtain ⟨a0, a1, a2, a3⟩ := HA5.out
      obtain ⟨b0, b1, b2, b3⟩ := HC5.out
      go_wp2_with fail
      refine (hH5.out).mono ?_
      rintro e w6 ⟨rfl, hb6⟩
      have HB6 : Hid (Below w.heap.size w w6) := HB5.out.trans (hb6.mono HB5.out.size)
      have HR6 := Lib.hid (HR5.out.below hb6)
      have HA6 := Lib.hid (HA5.out.below hb6)
      have hH6 := Lib.hid (has_one HR6.out (by omega) HOK.out.1)
      clear a0 a1 a2 a3 b0 b1 b2 b3 hb6 hH5 HR5 HB5 HA5 HC5
      obtain ⟨a0, a1, a2, a3⟩ := HA6.out
      go_wp2_with fail
      refine (hH6.out).mono ?_
      rintro e w7 ⟨rfl, hb7⟩
      have HB7 : Hid (Below w.heap.size w w7) := HB6.out.trans (hb7.mono HB6.out.size)
      have HR7 := Lib.hid (HR6.out.below hb7)
      obtain ⟨n, hn⟩ : ∃ n, (addRow M r).length = n := ⟨_, rfl⟩
      have hL7 := Lib.hid (all_n HR7.out (by omega) hn)
      have HN := Lib.hid hn
      clear a0 a1 a2 a3 hb7 hH6 HR6 HB6 HA6 hn
      go_wp2_with fail
      refine (hL7.out).mono ?_
      rintro e w8 ⟨xo8, xc8, rfl, hb8⟩
      have HB8 : Hid (Below w.heap.size w w8) := HB7.out.trans (hb8.mono HB7.out.size)
      have hL8 := Lib.hid (len_n (HR7.out.below hb8) HN.out)
      clear hb8 hL7 HR7 HB7
      go_wp2_with fail
      refine (hL8.out).mono ?_
      rintro e w9 ⟨rfl, rfl⟩
      go_wp2
      go_ret
      exact ⟨by first | rfl | simp, HB8.out⟩
end Go.Proofs.Ytfjkfblejfiglaa
