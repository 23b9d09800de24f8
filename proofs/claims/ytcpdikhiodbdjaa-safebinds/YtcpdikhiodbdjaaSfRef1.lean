/-
  Contracts of the document's In, Vars and Same.
-/
import Derived.Test.YtcpdikhiodbdjaaSfNam
import Derived.Test.YtcpdikhiodbdjaaQPack
import Derived.WalkSmall
import Derived.BigQuiet
import Derived.Lib.Bytealg
import Derived.Lib.UnsafeStr
namespace Go.Proofs.Ytcpdikhiodbdjaa
set_option linter.unusedSimpArgs false
set_option linter.unusedVariables false
set_option linter.unusedSectionVars false
set_option maxRecDepth 100000
open Go.RowKit Go.Maps

theorem strBeq (a b : ByteArray) : (a.toList == b.toList) = decide (a = b) := by
  by_cases h : a = b
  · simp [h]
  · rw [decide_eq_false h, beq_eq_false_iff_ne]
    intro e
    rw [ByteArray.toList_eq, ByteArray.toList_eq] at e
    exact h (Go.WideShapes.bytes_inj e)
theorem inN_app (A B : List ByteArray) (s : ByteArray) : inN (A ++ B) s = (inN A s || inN B s) := by unfold inN; rw [List.any_append]
theorem inN_hit {L : List ByteArray} {s : ByteArray} {k : Nat} (hk : k < L.length) (h : L[k]'hk = s) : inN L s = true := (inN_iff _ _).2 (h ▸ List.getElem_mem hk)
theorem inN_next {L : List ByteArray} {s : ByteArray} {k : Nat} (hk : k < L.length) (hf : inN (L.take k) s = false) (h : L[k]'hk ≠ s) : inN (L.take (k + 1)) s = false := by
  rw [List.take_succ_eq_append_getElem hk, inN_app, hf]
  simp [inN, h]

set_option maxHeartbeats 1000000 in
theorem rin_any {x : Value} {L : List ByteArray} {w : World} (hx : Nms w x L) (s : ByteArray) :
    Calls Try.prog 21 #[x, .string s] w fun e w' => e = .returned (.bool (inN L s)) ∧ w' = w := by
  obtain ⟨ao, cap, rfl, hcap, hm⟩ := hx.form
  unfold maxLen at hm
  have HX := Lib.hid hx
  clear hx
  go_enter Try.func21, Try.ntmps21
  go_wp2
  go_loop [5] (fun i => ∃ k : Nat, k ≤ L.length ∧ i = .int .i64 k ∧ Hid (inN (L.take k) s = false)) (fun i => L.length - (intOf i).toNat)
  case atStart => exact ⟨0, Nat.zero_le _, rfl, rfl⟩
  case round =>
    obtain ⟨k, hk, rfl, HF⟩ := hrel
    by_cases hlt : k < L.length
    · have hltI : (k : Int) < (L.length : Int) := by omega
      obtain ⟨b, off, rfl, hbl, q0⟩ := HX.out.at k hlt
      have HY : Hid (L[k]'hlt = s → inN L s = true) := fun h => inN_hit hlt h
      have HN : Hid (L[k]'hlt ≠ s → inN (L.take (k + 1)) s = false) := fun h => inN_next hlt HF.out h
      obtain ⟨d, hd⟩ : ∃ d, d = L[k]'hlt := ⟨_, rfl⟩
      rw [← hd] at q0 HY HN
      clear hd
      by_cases he : d = s
      · subst he
        have hsb : (d.toList == d.toList) = true := by simp
        have hv := HY.out rfl
        clear HN HY
        go_wp2
        go_ret
        try rw [hv]
        exact ⟨rfl, rfl⟩
      · have hsb : (d.toList == s.toList) = false := by rw [strBeq, decide_eq_false he]
        have hv := Lib.hid (HN.out he)
        clear HN HY
        go_wp2
        go_round
        case rel => exact ⟨k + 1, by omega, by simp, hv⟩
        case measure => simp [intOf]; omega
    · have hltI : ¬ (k : Int) < (L.length : Int) := by omega
      obtain rfl : k = L.length := by omega
      have hv : inN L s = false := by have := HF.out; rw [List.take_length] at this; exact this
      go_wp2
      go_ret
      try rw [hv]
      exact ⟨rfl, rfl⟩

theorem bel_drewN {B : Nat} {w w' : World} (h : Below B w w') (n : Nat) : Below B w (w'.drewN n) := ⟨h.os, h.tape, h.output, h.size, h.block⟩

set_option maxHeartbeats 2000000 in
/-- The document's Same, where the lists are the same. -/
theorem rsame_any {x y : Value} {L : List ByteArray} {w : World} (hx : Nms w x L) (hy : Nms w y L) :
    Calls Try.prog 15 #[x, y] w fun e w' => e = .returned (.bool true) ∧ Below w.heap.size w w' := by
  obtain ⟨xo, xc, rfl, hxc, hxm⟩ := hx.form
  obtain ⟨yo, yc, rfl, hyc, hym⟩ := hy.form
  unfold maxLen at hxm
  have HX := Lib.hid hx
  have HY := Lib.hid hy
  clear hx hy hym
  go_enter Try.func15, Try.ntmps15
  go_wp2
  go_loopw [5] (fun i wr => ∃ k : Nat, k ≤ L.length ∧ i = .int .i64 (k : Int) ∧ Hid (Below w.heap.size w wr)) (fun i _ => L.length - (intOf i).toNat)
  case atStart => exact ⟨0, Nat.zero_le _, rfl, Below.refl _ _⟩
  case round =>
    obtain ⟨k, hk, rfl, HB⟩ := hrel
    by_cases hlt : k < L.length
    · have hltI : (k : Int) < (L.length : Int) := by omega
      obtain ⟨b, off, rfl, hbl, q0⟩ := Nms.at (HX.out.below stayNm HB.out) k hlt
      obtain ⟨b2, off2, rfl, hbl2, p0⟩ := Nms.at (HY.out.below stayNm HB.out) k hlt
      obtain ⟨d, hd⟩ : ∃ d, d = L[k]'hlt := ⟨_, rfl⟩
      rw [← hd] at q0 p0
      have hsb : (d.toList == d.toList) = true := by simp
      clear hd
      go_wp2
      go_quiet (fail)
      go_wp2
      go_roundw
      case rel => exact ⟨k + 1, by omega, by simp, bel_drewN HB.out _⟩
      case measure => simp [intOf]; omega
    · have hltI : ¬ (k : Int) < (L.length : Int) := by omega
      go_wp2
      go_ret
      exact ⟨rfl, HB.out⟩

/-- The list and the box, as the loop has them. -/
def VarS (w wr : World) (v : Value) (L : List ByteArray) (o : Obj) : Prop := OwnNm w wr (w.heap.size + 1) v L ∧ Below w.heap.size w wr ∧ wr.heap[w.heap.size]? = some o
theorem VarS.alloc {w wr : World} {v : Value} {L : List ByteArray} {o : Obj} (h : VarS w wr v L o) (u : Obj) : VarS w (wr.alloc u) v L o :=
  ⟨h.1.below (al_bel _ _), h.2.1.alloc h.2.1.size _, (Below.heap_alloc _ _ _ (Array.getElem?_eq_some_iff.1 h.2.2).1).trans h.2.2⟩
theorem VarS.nms {w wr : World} {v : Value} {L : List ByteArray} {o : Obj} (h : VarS w wr v L o) (hm : L.length ≤ 1000000) : Nms wr v L := h.1.rd h.2.1 (by unfold maxLen; omega)
theorem VarS.lt {w wr : World} {v : Value} {L : List ByteArray} {o : Obj} (h : VarS w wr v L o) : w.heap.size + 1 ≤ wr.heap.size := (Array.getElem?_eq_some_iff.1 h.2.2).1
theorem VarS.grown {w wr w2 : World} {v v2 : Value} {L L2 : List ByteArray} {o : Obj} (h : VarS w wr v L o) (ho : OwnNm w w2 (w.heap.size + 1) v2 L2) (hg : wr.grownBy w2 v.ownBlock) : VarS w w2 v2 L2 o := by
  have hlt := h.lt
  obtain ⟨h1, h2, h3⟩ := h
  exact ⟨ho, h2.grown hg h2.size (fun k e => by have := (h1.lt k e).1; omega), (hg.block _ (by omega) (fun e => by have := (h1.lt _ e.symm).1; omega)).trans h3⟩
theorem VarS.below {w wr w2 : World} {v : Value} {L : List ByteArray} {o : Obj} (h : VarS w wr v L o) (hb : Below wr.heap.size wr w2) : VarS w w2 v L o :=
  ⟨h.1.below hb, h.2.1.trans (hb.mono h.2.1.size), (hb.block _ (by have := h.lt; omega)).trans h.2.2⟩

set_option maxHeartbeats 2000000 in
theorem rvars_any {a : Am} {x : Value} {w : World} (hx : Tms w x a.args) (hl : a.args.length ≤ 1000000) :
    Calls Try.prog 17 #[.agg #[.string a.p, x]] w fun e w' => ∃ v, e = .returned v ∧ OwnNm w w' (w.heap.size + 1) v (varsA a.args) ∧ Below w.heap.size w w' := by
  obtain ⟨p, A⟩ := a
  simp only at hx hl
  obtain ⟨xo, xc, rfl, hxc, hxm⟩ := hx.form
  unfold maxLen at hxm
  have HX := Lib.hid hx
  clear hx
  go_enter Try.func17, Try.ntmps17
  go_wp2
  go_loopw [3, 4] (fun v i wr => ∃ (k n : Nat) (o : Option Addr) (c : Nat), k ≤ A.length ∧ i = .int .i64 (k : Int) ∧ v = .slice o n c ∧ Hid (n = (varsA (A.take k)).length) ∧ Hid (VarS w wr (.slice o n c) (varsA (A.take k)) (.cells #[.string p, .slice xo A.length xc] 24)))
    (fun _ i _ => A.length - (intOf i).toNat)
  case atStart => exact ⟨0, 0, none, 0, Nat.zero_le _, rfl, rfl, rfl, OwnW.nil _ _ _, al_bel _ _, Blk.new _ _ _⟩
  case round =>
    obtain ⟨k, n, o, c, hk, rfl, rfl, HN, HS⟩ := hrel
    have b1 : wr.cell? ⟨w.heap.size, 1, none⟩ = some (.slice xo A.length xc) := by rw [cell_of_row wr _ 1 _ _ _ HS.out.2.2]; rfl
    have b2 := HS.out.lt
    by_cases hlt : k < A.length
    · have hltI : (k : Int) < (A.length : Int) := by omega
      obtain ⟨b, off, cs, rfl, hbl, hR, hcell⟩ := HX.out.at k hlt
      obtain rfl : cs = _ := hR
      have q0 := (HS.out.2.1.cell (p := ⟨b, _, none⟩) hbl).trans (hcell 0 _ rfl)
      have q1 := (HS.out.2.1.cell (p := ⟨b, _, none⟩) hbl).trans (hcell 1 _ rfl)
      have q2 := (HS.out.2.1.cell (p := ⟨b, _, none⟩) hbl).trans (hcell 2 _ rfl)
      have q3 := (HS.out.2.1.cell (p := ⟨b, _, none⟩) hbl).trans (hcell 3 _ rfl)
      have q4 := (HS.out.2.1.cell (p := ⟨b, _, none⟩) hbl).trans (hcell 4 _ rfl)
      simp only [Nat.add_zero] at q0
      have HT := Lib.hid (vars_take hlt)
      have HLEN := Lib.hid (vars_take_len A k)
      clear hcell
      obtain ⟨t, ht⟩ : ∃ t, t = A[k]'hlt := ⟨_, rfl⟩
      rw [← ht] at q0 q1 q2 q3 q4 HT
      clear ht
      obtain ⟨tv, tn, tk, ts, tN⟩ := t
      obtain ⟨L, hL⟩ : ∃ L, L = varsA (A.take k) := ⟨_, rfl⟩
      rw [← hL] at HT HLEN HS HN
      clear hL
      cases tv
      · have HT2 : Hid (varsA (A.take (k + 1)) = L) := by show _ = _; rw [HT.out]; simp
        clear HT
        go_wp2
        go_roundw
        case rel => exact ⟨k + 1, n, o, c, by omega, by simp, rfl, by rw [HT2.out]; exact HN, by rw [HT2.out]; exact HS.out.alloc _⟩
        case measure => simp [intOf]; omega
      · have HQ := Lib.hid (rin_any ((HS.out.alloc (.cells #[.bool true, .string tn, .bool tk, .string ts, .int .i64 tN] 51)).nms (by have := HLEN.out; omega)) tn)
        cases hi : inN L tn
        · rw [hi] at HQ
          have HT2 : Hid (varsA (A.take (k + 1)) = L ++ [tn]) := by show _ = _; rw [HT.out]; simp [hi]
          clear HT hi
          go_wp2_with (first
            | (go_at_call 21; refine HQ.out.mono ?_; clear HQ; rintro e w1 ⟨rfl, rfl⟩)
            | (at_builtin; refine wpList_append_one rfl _ _ 44 rfl elNm (w.heap.size + 1) (.slice o n c) L rfl ((HS.out.1.below (al_bel _ _)).below (al_bel _ _)) (b := wr.heap.size + 1) (cap := 1) rfl tn _ (cellW_nm _ _) (heap2L _ _ _) rfl (by have := HLEN.out; unfold maxLen; omega) (by have := HLEN.out; omega) (by have h1 := HS.out.lt; simp; omega) ?_; intro v2 w2 h2 hb2 hg2 hl2; obtain ⟨o2, n2, c2, rfl, hn2⟩ := h2.formN; have HN2 := Lib.hid hn2; have HO2 := Lib.hid h2; have HG2 := Lib.hid hg2; clear h2 hb2 hg2 hl2 hn2))
          go_roundw
          case rel => exact ⟨k + 1, n2, o2, c2, by omega, by simp, rfl, by rw [HT2.out]; exact HN2, by rw [HT2.out]; exact ((HS.out.alloc _).alloc _).grown HO2.out HG2.out⟩
          case measure => simp [intOf]; omega
        · rw [hi] at HQ
          have HT2 : Hid (varsA (A.take (k + 1)) = L) := by show _ = _; rw [HT.out]; simp [hi]
          clear HT hi
          go_wp2_with (go_at_call 21; refine HQ.out.mono ?_; clear HQ; rintro e w1 ⟨rfl, rfl⟩)
          go_roundw
          case rel => exact ⟨k + 1, n, o, c, by omega, by simp, rfl, by rw [HT2.out]; exact HN, by rw [HT2.out]; exact HS.out.alloc _⟩
          case measure => simp [intOf]; omega
    · have hltI : ¬ (k : Int) < (A.length : Int) := by omega
      obtain rfl : k = A.length := by omega
      go_wp2
      go_ret
      have := HS.out
      rw [List.take_length] at this
      exact ⟨_, rfl, this.1, this.2.1⟩
end Go.Proofs.Ytcpdikhiodbdjaa
