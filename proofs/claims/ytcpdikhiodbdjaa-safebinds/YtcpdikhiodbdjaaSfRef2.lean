/-
  Contracts of the document's Binds and loose.
-/
import Derived.Test.YtcpdikhiodbdjaaSfRef1
import Derived.Test.YtcpdikhiodbdjaaSfChkP
namespace Go.Proofs.Ytcpdikhiodbdjaa
set_option linter.unusedSimpArgs false
set_option linter.unusedVariables false
set_option linter.unusedSectionVars false
set_option maxRecDepth 100000
open Go.RowKit Go.Maps

theorem box3 {w : World} {b : Nat} {x y z : Value} {t : TypeId} (h : w.heap[b]? = some (.cells #[x, y, z] t (0, 0))) : w.cell? ⟨b, 0, none⟩ = some x ∧ w.cell? ⟨b, 1, none⟩ = some y ∧ w.cell? ⟨b, 2, none⟩ = some z ∧ b < w.heap.size :=
  ⟨by simp [World.cell?, h], by simp [World.cell?, h], by simp [World.cell?, h], (Array.getElem?_eq_some_iff.1 h).1⟩
/-- The world of a loop whose only block is the box. -/
def BoxS (w wr : World) (o : Obj) : Prop := Below w.heap.size w wr ∧ wr.heap[w.heap.size]? = some o
theorem BoxS.lt {w wr : World} {o : Obj} (h : BoxS w wr o) : w.heap.size + 1 ≤ wr.heap.size := (Array.getElem?_eq_some_iff.1 h.2).1
theorem BoxS.new (w : World) (cs : Array Value) (t : TypeId) : BoxS w (w.alloc (.cells cs t)) (.cells cs t (0, 0)) := ⟨al_bel _ _, Blk.new _ _ _⟩
theorem BoxS.below {w wr w2 : World} {o : Obj} (h : BoxS w wr o) (hb : Below wr.heap.size wr w2) : BoxS w w2 o := ⟨h.1.trans (hb.mono h.1.size), (hb.block _ (by have := h.lt; omega)).trans h.2⟩

set_option maxHeartbeats 2000000 in
theorem rbinds_any {r : Ru} {x y : Value} {w : World} (hx : Tms w x r.head.args) (hy : Lts w y r.body) (hS : SmRu r) (s : ByteArray) :
    Calls Try.prog 20 #[.agg #[.string r.head.p, x, y], .string s] w fun e w' => e = .returned (.bool (inN (posN r.body) s)) ∧ Below w.heap.size w w' := by
  have hE := hS.each
  obtain ⟨⟨hp, hA⟩, B⟩ := r
  simp only at hx hy hE ⊢
  obtain ⟨xo, xc, rfl, -⟩ := hx.form
  obtain ⟨yo, yc, rfl, -, hym⟩ := hy.form
  unfold maxLen at hym
  have HY := Lib.hid hy
  have HE := Lib.hid hE
  clear hx hy hE hS
  go_enter Try.func20, Try.ntmps20
  go_wp2
  go_loopw [5] (fun i wr => ∃ k : Nat, k ≤ B.length ∧ i = .int .i64 (k : Int) ∧ Hid (inN (posN (B.take k)) s = false) ∧ Hid (BoxS w wr (.cells #[.string hp, .slice xo hA.length xc, .slice yo B.length yc] 27 (0, 0)))) (fun i _ => B.length - (intOf i).toNat)
  case atStart => exact ⟨0, Nat.zero_le _, rfl, rfl, BoxS.new _ _ _⟩
  case round =>
    obtain ⟨k, hk, rfl, HF, HB⟩ := hrel
    obtain ⟨b0, b1, b2, blt⟩ := box3 HB.out.2
    by_cases hlt : k < B.length
    · have hltI : (k : Int) < (B.length : Int) := by omega
      obtain ⟨b, off, cs, rfl, hbl, ⟨xa, rfl, hxa⟩, hcell⟩ := (show Lts wr (.slice yo B.length yc) B from HY.out.below stayLt HB.out.1).at k hlt
      have q0 := hcell 0 _ rfl
      have q1 := hcell 1 _ rfl
      have q2 := hcell 2 _ rfl
      simp only [Nat.add_zero] at q0
      have HT := Lib.hid (pos_take hlt)
      have hel := HE.out _ (List.getElem_mem hlt)
      have HM : Hid ((B[k]'hlt).kind = 1 → inN (varsA (B[k]'hlt).atom.args) s = true → inN (posN B) s = true) := fun h1 h2 => by
        obtain ⟨t, ht, h3⟩ := (mem_vars _ _).1 ((inN_iff _ _).1 h2)
        exact (inN_iff _ _).2 ((mem_pos _ _).2 ⟨_, List.getElem_mem hlt, h1, t, ht, h3⟩)
      clear hcell
      obtain ⟨l, hl⟩ : ∃ l, l = B[k]'hlt := ⟨_, rfl⟩
      rw [← hl] at q0 q1 HT hel HM hxa
      clear hl
      obtain ⟨kind, ⟨lp, la⟩, lop, ll, lr⟩ := l
      simp only at q0 q1 HT hel HM hxa
      obtain ⟨ao, ac, rfl, -⟩ := hxa.form
      have HXA := Lib.hid hxa
      have HEL := Lib.hid hel
      clear hxa hel
      by_cases h1 : kind = 1
      · subst h1
        have HQ := Lib.hid (rvars_any (a := ⟨lp, la⟩) HXA.out (by have := HEL.out; simp; omega))
        have HV := Lib.hid (Nat.le_trans (vars_len la) HEL.out)
        cases hi : inN (varsA la) s
        · have HI := Lib.hid hi
          have HT2 : Hid (inN (posN (B.take (k + 1))) s = false) := by show _ = _; rw [HT.out, inN_app, HF.out]; simp [hi]
          clear hi HM HT
          go_wp2_with (first
            | (go_at_call 17; refine HQ.out.mono ?_; clear HQ; rintro e w1 ⟨v, rfl, h1, hb1⟩; have HR1 := Lib.hid (OwnNm.rd h1 hb1 (by have := HV.out; unfold maxLen; omega)); have HB1 := Lib.hid hb1; clear h1 hb1)
            | (go_at_call 21; refine (rin_any HR1.out s).mono ?_; rintro e w2 ⟨rfl, rfl⟩; rw [HI.out]))
          go_roundw
          case rel => exact ⟨k + 1, by omega, by simp, HT2, HB.out.below HB1.out⟩
          case measure => simp [intOf]; omega
        · have HI := Lib.hid hi
          have HM2 := Lib.hid (HM.out rfl hi)
          clear hi HM HT
          go_wp2_with (first
            | (go_at_call 17; refine HQ.out.mono ?_; clear HQ; rintro e w1 ⟨v, rfl, h1, hb1⟩; have HR1 := Lib.hid (OwnNm.rd h1 hb1 (by have := HV.out; unfold maxLen; omega)); have HB1 := Lib.hid hb1; clear h1 hb1)
            | (go_at_call 21; refine (rin_any HR1.out s).mono ?_; rintro e w2 ⟨rfl, rfl⟩; rw [HI.out]))
          go_ret
          rw [HM2.out]
          exact ⟨rfl, (HB.out.below HB1.out).1⟩
      · have e1 : (kind == 1) = false := beq_eq_false_iff_ne.2 h1
        have HT2 : Hid (inN (posN (B.take (k + 1))) s = false) := by show _ = _; rw [HT.out, inN_app, HF.out, if_neg h1]; rfl
        clear HM HT h1
        go_wp2
        go_roundw
        case rel => exact ⟨k + 1, by omega, by simp, HT2, HB.out⟩
        case measure => simp [intOf]; omega
    · have hltI : ¬ (k : Int) < (B.length : Int) := by omega
      obtain rfl : k = B.length := by omega
      have hv : inN (posN B) s = false := by have := HF.out; rw [List.take_length] at this; exact this
      go_wp2
      go_ret
      try rw [hv]
      exact ⟨rfl, HB.out.1⟩

theorem five_keep {wr W : World} {a b o : Nat} {v0 v1 v2 t0 t1 : Value} (c0 : wr.cell? ⟨a, 0, none⟩ = some v0) (c1 : wr.cell? ⟨a, 1, none⟩ = some v1) (c2 : wr.cell? ⟨a, 2, none⟩ = some v2) (d0 : wr.cell? ⟨b, o, none⟩ = some t0) (d1 : wr.cell? ⟨b, o + 1, none⟩ = some t1) (hb : Below wr.heap.size wr W) :
    W.cell? ⟨a, 0, none⟩ = some v0 ∧ W.cell? ⟨a, 1, none⟩ = some v1 ∧ W.cell? ⟨a, 2, none⟩ = some v2 ∧ W.cell? ⟨b, o, none⟩ = some t0 ∧ W.cell? ⟨b, o + 1, none⟩ = some t1 ∧ Below wr.heap.size wr W :=
  ⟨(hb.cell (p := ⟨a, 0, none⟩) (lt_of_cell c0)).trans c0, (hb.cell (p := ⟨a, 1, none⟩) (lt_of_cell c1)).trans c1, (hb.cell (p := ⟨a, 2, none⟩) (lt_of_cell c2)).trans c2, (hb.cell (p := ⟨b, o, none⟩) (lt_of_cell d0)).trans d0, (hb.cell (p := ⟨b, o + 1, none⟩) (lt_of_cell d1)).trans d1, hb⟩

set_option maxHeartbeats 4000000 in
theorem rloose_any {r : Ru} {x y z : Value} {A : List Tm} {w : World} (hx : Tms w x r.head.args) (hy : Lts w y r.body) (hS : SmRu r) (hz : Tms w z A) :
    Calls Try.prog 25 #[.agg #[.string r.head.p, x, y], z] w fun e w' => e = .returned (looV (looseT (posN r.body) A)) ∧ Below w.heap.size w w' := by
  obtain ⟨xo, xc, rfl, -⟩ := hx.form
  obtain ⟨yo, yc, rfl, -⟩ := hy.form
  obtain ⟨zo, zc, rfl, -, hzm⟩ := hz.form
  unfold maxLen at hzm
  have HX := Lib.hid hx
  have HY := Lib.hid hy
  have HZ := Lib.hid hz
  have HS := Lib.hid hS
  obtain ⟨N, hN⟩ : ∃ N, N = posN r.body := ⟨_, rfl⟩
  have HN := Lib.hid hN
  rw [← hN]
  clear hx hy hz hS hN
  go_enter Try.func25, Try.ntmps25
  go_wp2
  go_loopw [6] (fun i wr => ∃ k : Nat, k ≤ A.length ∧ i = .int .i64 (k : Int) ∧ Hid (looseT N (A.take k) = none) ∧ Hid (BoxS w wr (.cells #[.string r.head.p, .slice xo r.head.args.length xc, .slice yo r.body.length yc] 27 (0, 0)))) (fun i _ => A.length - (intOf i).toNat)
  case atStart => exact ⟨0, Nat.zero_le _, rfl, rfl, BoxS.new _ _ _⟩
  case round =>
    obtain ⟨k, hk, rfl, HF, HB⟩ := hrel
    obtain ⟨b0, b1, b2, blt⟩ := box3 HB.out.2
    by_cases hlt : k < A.length
    · have hltI : (k : Int) < (A.length : Int) := by omega
      obtain ⟨b, off, cs, rfl, hbl, hR, hcell⟩ := (show Tms wr (.slice zo A.length zc) A from HZ.out.below stayTm HB.out.1).at k hlt
      obtain rfl : cs = _ := hR
      have q0 := hcell 0 _ rfl
      have q1 := hcell 1 _ rfl
      simp only [Nat.add_zero] at q0
      have HH : Hid ((A[k]'hlt).v = true → inN N (A[k]'hlt).name = false → looseT N A = some (A[k]'hlt).name) := fun h1 h2 => loose_hit hlt HF.out h1 h2
      have HG : Hid ((A[k]'hlt).v = false ∨ inN N (A[k]'hlt).name = true → looseT N (A.take (k + 1)) = none) := fun h => loose_next hlt HF.out h
      clear hcell
      obtain ⟨t, ht⟩ : ∃ t, t = A[k]'hlt := ⟨_, rfl⟩
      rw [← ht] at q0 q1 HH HG
      clear ht
      obtain ⟨tv, tn, tk, ts, tN⟩ := t
      simp only at q0 q1 HH HG
      cases tv
      · have HG2 := Lib.hid (HG.out (.inl rfl))
        clear HH HG
        go_wp2
        go_quiet (fail)
        go_wp2
        go_roundw
        case rel => exact ⟨k + 1, by omega, by simp, HG2, HB.out.below (bel_drewN (Below.refl _ _) _)⟩
        case measure => simp [intOf]; omega
      · have HK : Hid (∀ W, Below wr.heap.size wr W → W.cell? ⟨w.heap.size, 0, none⟩ = some (.string r.head.p) ∧ W.cell? ⟨w.heap.size, 1, none⟩ = some (.slice xo r.head.args.length xc) ∧ W.cell? ⟨w.heap.size, 2, none⟩ = some (.slice yo r.body.length yc) ∧ W.cell? ⟨b, off + k * 5, none⟩ = some (.bool true) ∧ W.cell? ⟨b, off + k * 5 + 1, none⟩ = some (.string tn) ∧ Below wr.heap.size wr W) := fun W hW => five_keep b0 b1 b2 q0 q1 hW
        have HQ : Hid (∀ W, Below wr.heap.size wr W → Calls Try.prog 20 #[.agg #[.string r.head.p, .slice xo r.head.args.length xc, .slice yo r.body.length yc], .string tn] W fun e w' => e = .returned (.bool (inN N tn)) ∧ Below wr.heap.size wr w') := fun W hW => by
          have h0 := HB.out.1.trans (hW.mono HB.out.1.size)
          refine (rbinds_any (HX.out.below stayTm h0) (HY.out.below stayLt h0) HS.out tn).mono ?_
          rintro e w' ⟨rfl, hb⟩
          rw [HN.out]
          exact ⟨rfl, hW.trans (hb.mono hW.size)⟩
        cases hi : inN N tn
        · rw [hi] at HQ
          have HH2 := Lib.hid (HH.out rfl hi)
          clear HH HG hi
          go_wp2
          go_region_held3 (fun W => W.cell? ⟨w.heap.size, 0, none⟩ = some (.string r.head.p) ∧ W.cell? ⟨w.heap.size, 1, none⟩ = some (.slice xo r.head.args.length xc) ∧ W.cell? ⟨w.heap.size, 2, none⟩ = some (.slice yo r.body.length yc) ∧ W.cell? ⟨b, off + k * 5, none⟩ = some (.bool true) ∧ W.cell? ⟨b, off + k * 5 + 1, none⟩ = some (.string tn) ∧ Below wr.heap.size wr W)
            (first | assumption | exact HK.out _ (by assumption) | exact HK.out _ (Below.refl _ _).drew)
            (first | (go_at_call 20; refine (HQ.out _ (by go_split_ands; assumption)).mono ?_; rintro e w1 ⟨rfl, hbN⟩))
          go_split_ands
          go_wp2
          go_ret2
          rw [HH2.out]
          exact ⟨rfl, HB.out.1.trans (Below.mono (by assumption) HB.out.1.size)⟩
        · rw [hi] at HQ
          have HG2 := Lib.hid (HG.out (.inr hi))
          clear HH HG hi
          go_wp2
          go_region_held3 (fun W => W.cell? ⟨w.heap.size, 0, none⟩ = some (.string r.head.p) ∧ W.cell? ⟨w.heap.size, 1, none⟩ = some (.slice xo r.head.args.length xc) ∧ W.cell? ⟨w.heap.size, 2, none⟩ = some (.slice yo r.body.length yc) ∧ W.cell? ⟨b, off + k * 5, none⟩ = some (.bool true) ∧ W.cell? ⟨b, off + k * 5 + 1, none⟩ = some (.string tn) ∧ Below wr.heap.size wr W)
            (first | assumption | exact HK.out _ (by assumption) | exact HK.out _ (Below.refl _ _).drew)
            (first | (go_at_call 20; refine (HQ.out _ (by go_split_ands; assumption)).mono ?_; rintro e w1 ⟨rfl, hbN⟩))
          go_split_ands
          go_wp2
          go_roundw
          case rel => exact ⟨k + 1, by omega, by simp, HG2, HB.out.below (by assumption)⟩
          case measure => simp [intOf]; omega
    · have hltI : ¬ (k : Int) < (A.length : Int) := by omega
      obtain rfl : k = A.length := by omega
      have hv : looseT N A = none := by have := HF.out; rw [List.take_length] at this; exact this
      go_wp2
      go_ret2
      try rw [hv]
      exact ⟨rfl, HB.out.1⟩
end Go.Proofs.Ytcpdikhiodbdjaa
