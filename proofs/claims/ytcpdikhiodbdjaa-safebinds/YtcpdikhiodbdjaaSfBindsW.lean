/-
  SafeBinds's walk.
-/
import Derived.Test.YtcpdikhiodbdjaaSfJustW
namespace Go.Proofs.Ytcpdikhiodbdjaa
set_option linter.unusedSimpArgs false
set_option linter.unusedVariables false
set_option linter.unusedSectionVars false
set_option maxRecDepth 100000
open Go.RowKit Go.Maps

/-- All terms of a head and of a body's literals. -/
def allT (h : Am) (B : List Lt) : List Tm := h.args ++ B.flatMap (fun l => [l.l, l.r] ++ l.atom.args)
theorem allT_take {h : Am} {B : List Lt} {k : Nat} (hk : k < B.length) : allT h (B.take (k + 1)) = (allT h (B.take k) ++ [(B[k]'hk).l, (B[k]'hk).r]) ++ (B[k]'hk).atom.args := by
  unfold allT
  rw [List.take_succ_eq_append_getElem hk, List.flatMap_append]
  simp
theorem allT_len : ∀ (B : List Lt) (n : Nat), (∀ l ∈ B, l.atom.args.length ≤ n) → (B.flatMap (fun l => [l.l, l.r] ++ l.atom.args)).length ≤ B.length * (n + 2)
  | [], n, _ => by simp
  | l :: B, n, h => by
    have h1 := allT_len B n (fun x hx => h x (by simp [hx]))
    have h2 := h l (by simp)
    rw [List.flatMap_cons, List.length_append, List.length_cons, Nat.succ_mul]
    simp only [List.length_append, List.length_cons, List.length_nil]
    omega
theorem allT_few {r : Ru} (h : Few r) (k : Nat) : (allT r.head (r.body.take k)).length ≤ 2000 := by
  have h1 := allT_len (r.body.take k) 30 (fun l hl => h.each l (List.mem_of_mem_take hl))
  have h2 := h.head
  have h3 := h.body
  have h4 : (r.body.take k).length * 32 ≤ 30 * 32 := Nat.mul_le_mul_right _ (by simp; omega)
  unfold allT
  rw [List.length_append]
  omega
theorem allT_ok {r : Ru} (h : OkRu r) : ∀ t ∈ allT r.head r.body, OkTm t := by
  intro t ht
  rcases List.mem_append.1 ht with ht | ht
  · exact h.1 t ht
  · obtain ⟨l, hl, h2⟩ := List.mem_flatMap.1 ht
    have h3 := h.2 l hl
    simp at h2
    rcases h2 with rfl | rfl | h2
    · exact h3.2.1
    · exact h3.2.2
    · exact h3.1 t h2
theorem allT_uses {r : Ru} : ∀ t ∈ usesR ⟨r.head, r.body⟩, t ∈ allT r.head r.body := by
  intro t ht
  rcases uses_some ht with ht | ⟨l, hl, h⟩
  · exact List.mem_append.2 (.inl ht)
  · refine List.mem_append.2 (.inr (List.mem_flatMap.2 ⟨l, hl, ?_⟩))
    rcases h with rfl | rfl | h
    · simp
    · simp
    · simp [h]
def posL (p : ByteArray) (A : List Tm) : Lt := ⟨1, ⟨p, A⟩, ⟨#[]⟩, Tm.zero, Tm.zero⟩
theorem posL_cell {W : World} {p : ByteArray} {A : List Tm} {o : Option Addr} {n c : Nat} (h : Tms W (.slice o n c) A) : CellW LtI 14 W (posL p A) [.int .i64 1, .string p, .slice o n c, .string ⟨#[]⟩, .bool false, .string ⟨#[]⟩, .bool false, .string ⟨#[]⟩, .int .i64 0, .bool false, .string ⟨#[]⟩, .bool false, .string ⟨#[]⟩, .int .i64 0] :=
  ⟨rfl, by simp [Value.oneCell'], ⟨_, rfl, h⟩⟩
theorem more_sm {r : Ru} (h : Few r) {p : ByteArray} {A : List Tm} (hA : A.length ≤ 5000) : SmRu ⟨r.head, ([] ++ r.body) ++ [posL p A]⟩ := by
  refine ⟨by have := h.head; simp; omega, by have := h.body; simp; omega, fun l hl => ?_⟩
  simp only [List.nil_append, List.mem_append, List.mem_singleton] at hl
  rcases hl with hl | rfl
  · have := h.each l hl; omega
  · exact hA
theorem more_ok {r : Ru} (h : OkRu r) {p : ByteArray} {A : List Tm} (hA : ∀ t ∈ A, OkTm t) : OkRu ⟨r.head, ([] ++ r.body) ++ [posL p A]⟩ := by
  refine ⟨h.1, fun l hl => ?_⟩
  simp only [List.nil_append, List.mem_append, List.mem_singleton] at hl
  rcases hl with hl | rfl
  · exact h.2 l hl
  · exact ⟨hA, okZ, okZ⟩
theorem every_safe (r : Ru) (p : ByteArray) : checkR ⟨r.head, ([] ++ r.body) ++ [posL p (allT r.head r.body)]⟩ = none := by
  rw [List.nil_append]
  exact check_every rfl (fun t ht => allT_uses t ht)
theorem more_safe (r : Ru) (p : ByteArray) (A : List Tm) : errC (checkR r) = 0 → errC (checkR ⟨r.head, ([] ++ r.body) ++ [posL p A]⟩) = 0 := by
  intro h
  have h1 : checkR r = none := by
    cases hc : checkR r with
    | none => rfl
    | some q => rw [hc] at h; simp [errC] at h
  rw [List.nil_append, check_more (h := r.head) (B := r.body) (a := ⟨p, A⟩) h1 _ rfl rfl]
  rfl
theorem err_two (o : Option (ByteArray × Int)) : errC o = 0 ∨ errC o = 6 := by cases o <;> simp [errC]

set_option maxHeartbeats 32000000 in
theorem binds_walk {r : Ru} {a : Am} {x y z : Value} {w : World} (hx : Tms w x r.head.args) (hy : Lts w y r.body) (hO : OkRu r) (hz : Tms w z a.args) (hA : OkAm a) :
    Calls Try.prog 6 #[.agg #[.string r.head.p, x, y], .agg #[.string a.p, z]] w fun e w' => e = .returned (.bool true) ∧ Below w.heap.size w w' := by
  obtain ⟨xo, xc, rfl, -⟩ := hx.form
  obtain ⟨yo, yc, rfl, hycap, hym⟩ := hy.form
  obtain ⟨ko, kc, rfl, hkcap, hkm⟩ := hz.form
  unfold maxLen at hym hkm
  obtain ⟨W0, hW0⟩ : ∃ W0, W0 = (w.alloc (.cells #[.string r.head.p, .slice xo r.head.args.length xc, .slice yo r.body.length yc] 27)).alloc (.cells #[.string a.p, .slice ko a.args.length kc] 24) := ⟨_, rfl⟩
  have HW : Hid (Below w.heap.size w W0) := by rw [hW0]; exact al2 _ _ _
  have HX := Lib.hid (hx.below stayTm HW.out)
  have HY := Lib.hid (hy.below stayLt HW.out)
  have HZ := Lib.hid (hz.below stayTm HW.out)
  have HBR : Hid (W0.heap[w.heap.size]? = some (.cells #[.string r.head.p, .slice xo r.head.args.length xc, .slice yo r.body.length yc] 27 (0, 0))) := by rw [hW0]; exact heap1oL _ _ _
  have HBA : Hid (W0.heap[w.heap.size + 1]? = some (.cells #[.string a.p, .slice ko a.args.length kc] 24 (0, 0))) := by rw [hW0]; exact heap2L _ _ _
  have HSH := Lib.hid (shown_any W0)
  rw [hW0] at HSH
  have HO := Lib.hid hO
  have HAO := Lib.hid hA
  have HC : Hid (∀ W, Below W0.heap.size W0 W → (W.cell? ⟨w.heap.size, 0, none⟩ = some (.string r.head.p) ∧ W.cell? ⟨w.heap.size, 1, none⟩ = some (.slice xo r.head.args.length xc) ∧ W.cell? ⟨w.heap.size, 2, none⟩ = some (.slice yo r.body.length yc) ∧ w.heap.size < W.heap.size) ∧ W.cell? ⟨w.heap.size + 1, 0, none⟩ = some (.string a.p) ∧ W.cell? ⟨w.heap.size + 1, 1, none⟩ = some (.slice ko a.args.length kc) ∧ w.heap.size + 1 < W.heap.size) := fun W hW => ⟨three_keep HBR.out hW, two_keep2 HBA.out hW⟩
  clear hx hy hO hz hA
  by_cases hf : Few r
  · have HFW : Hid (∀ W, Below W0.heap.size W0 W → Calls Try.prog 10 #[.agg #[.string r.head.p, .slice xo r.head.args.length xc, .slice yo r.body.length yc]] W fun e w' => e = .returned (.bool true) ∧ Below W.heap.size W w') := fun W hW => few_is ⟨fun _ => hf, fun _ => rfl⟩ (HX.out.below stayTm hW) (HY.out.below stayLt hW)
    have HSM := Lib.hid hf.sm
    have HFEW := Lib.hid hf
    have hB30 : r.body.length ≤ 30 := hf.body
    have hH30 : r.head.args.length ≤ 30 := hf.head
    have HE30 := Lib.hid hf.each
    clear hf
    by_cases hlen : a.args.length ≤ 30
    · have hlI : ¬ (30 : Int) < (a.args.length : Int) := by omega
      go_enter Try.func6, Try.ntmps6
      go_wp2_with (first
        | (go_at_call 9; refine HSH.out.mono ?_; clear HSH; rintro e w1 ⟨rfl, hb1⟩; rw [← hW0] at hb1; have HB1 := Lib.hid hb1; clear hb1; obtain ⟨⟨r0, r1, r2, rlt⟩, a0, a1, alt⟩ := HC.out _ HB1.out)
        | (go_at_call 10; refine (HFW.out _ HB1.out).mono ?_; clear HFW; rintro e w2 ⟨rfl, hb2⟩; have HB2 := Lib.hid (below_to HB1.out hb2 (Nat.le_refl _)); clear hb2 r0 r1 r2 rlt a0 a1 alt; obtain ⟨⟨r0, r1, r2, rlt⟩, a0, a1, alt⟩ := HC.out _ HB2.out)
        | (at_builtin; refine wpList_append_all rfl _ _ 22 rfl elTm cellRTm w2.heap.size (.slice (some ⟨_, 0, none⟩) 0 0) [] rfl (OwnW.made (Nat.le_refl _) (heap1L _ _)) _ r.head.args rfl (HX.out.below stayTm HB2.out) (al_bel _ _) (by unfold maxLen; simp; omega) (by simp; omega) (by simp) ?_; intro v3 w3 h3 hb3 hg3 hl3; obtain ⟨o3, n3, c3, rfl, hn3⟩ := h3.formN; have HN3 := Lib.hid hn3; have HO3 := Lib.hid h3; have HB3 := Lib.hid ((al_bel w2 _).trans hb3); clear h3 hb3 hg3 hl3 hn3))
      go_loopw [6, 7] (fun v i wr => ∃ (k n : Nat) (o : Option Addr) (c : Nat), k ≤ r.body.length ∧ i = .int .i64 (k : Int) ∧ v = .slice o n c ∧ Hid (n = (allT r.head (r.body.take k)).length) ∧ Hid (OwnW TmI 51 5 w2 wr w2.heap.size (.slice o n c) (allT r.head (r.body.take k)) ∧ Below w2.heap.size w2 wr))
        (fun _ i _ => r.body.length - (intOf i).toNat)
      case atStart => exact ⟨0, n3, o3, c3, Nat.zero_le _, rfl, rfl, by show _ = _; rw [HN3.out]; simp [allT], by have := HO3.out; simpa [allT] using this, HB3.out⟩
      case round =>
        clear HO3 HB3 HN3 r0 r1 r2 rlt a0 a1 alt
        obtain ⟨k, n, o, c, hk, rfl, rfl, HN, HS⟩ := hrel
        have HBW := Lib.hid (below_to HB2.out HS.out.2 (Nat.le_refl _))
        obtain ⟨⟨r0, r1, r2, rlt⟩, a0, a1, alt⟩ := HC.out _ HBW.out
        by_cases hlt : k < r.body.length
        · have hltI : (k : Int) < (r.body.length : Int) := by omega
          obtain ⟨b, off, cs, rfl, hbl, ⟨xa, rfl, hxa⟩, hcell⟩ := (show Lts W0 (.slice yo r.body.length yc) r.body from HY.out).at k hlt
          have HT := Lib.hid (allT_take (h := r.head) hlt)
          have HLE0 := Lib.hid (allT_few HFEW.out (k + 1))
          have HZS := Lib.hid HS.out.2.size
          obtain ⟨l, hl⟩ : ∃ l, l = r.body[k]'hlt := ⟨_, rfl⟩
          rw [← hl] at HT hxa hcell
          clear hl
          obtain ⟨kind, ⟨lp, la⟩, lop, ⟨lv, ln, lk, ls, lN⟩, ⟨rv, rn, rk, rs, rN⟩⟩ := l
          simp only at HT hxa
          obtain ⟨ao, ac, rfl, -⟩ := hxa.form
          have HXA := Lib.hid hxa
          clear hxa
          have HK : Hid (∀ W, Below w2.heap.size w2 W → W.cell? ⟨w.heap.size, 2, none⟩ = some (.slice (some ⟨b, off, none⟩) r.body.length yc) ∧ W.cell? ⟨b, off + k * 14 + 2, none⟩ = some (.slice ao la.length ac) ∧ W.cell? ⟨b, off + k * 14 + 4, none⟩ = some (.bool lv) ∧ W.cell? ⟨b, off + k * 14 + 5, none⟩ = some (.string ln) ∧ W.cell? ⟨b, off + k * 14 + 6, none⟩ = some (.bool lk) ∧ W.cell? ⟨b, off + k * 14 + 7, none⟩ = some (.string ls) ∧ W.cell? ⟨b, off + k * 14 + 8, none⟩ = some (.int .i64 lN) ∧ W.cell? ⟨b, off + k * 14 + 9, none⟩ = some (.bool rv) ∧ W.cell? ⟨b, off + k * 14 + 10, none⟩ = some (.string rn) ∧ W.cell? ⟨b, off + k * 14 + 11, none⟩ = some (.bool rk) ∧ W.cell? ⟨b, off + k * 14 + 12, none⟩ = some (.string rs) ∧ W.cell? ⟨b, off + k * 14 + 13, none⟩ = some (.int .i64 rN) ∧ w2.heap.size ≤ W.heap.size ∧ Below w2.heap.size w2 W) := fun W hW =>
            have h0 := below_to HB2.out hW (Nat.le_refl _)
            have hc : ∀ j u, (LtC ⟨kind, ⟨lp, la⟩, lop, ⟨lv, ln, lk, ls, lN⟩, ⟨rv, rn, rk, rs, rN⟩⟩ (.slice ao la.length ac))[j]? = some u → W.cell? ⟨b, off + k * 14 + j, none⟩ = some u := fun j u hj => (h0.cell (p := ⟨b, _, none⟩) hbl).trans (hcell j u hj)
            ⟨(HC.out W h0).1.2.2.1, hc 2 _ rfl, hc 4 _ rfl, hc 5 _ rfl, hc 6 _ rfl, hc 7 _ rfl, hc 8 _ rfl, hc 9 _ rfl, hc 10 _ rfl, hc 11 _ rfl, hc 12 _ rfl, hc 13 _ rfl, hW.size, hW⟩
          clear hcell r0 r1 r2 rlt a0 a1 alt
          obtain ⟨L, hL⟩ : ∃ L, L = allT r.head (r.body.take k) := ⟨_, rfl⟩
          rw [← hL] at HT HS HN
          have HLE : Hid (L.length + 2 + la.length ≤ 2000) := by have := HLE0.out; rw [HT.out] at this; simp only [List.length_append, List.length_cons, List.length_nil] at this; show _ ≤ _; omega
          clear hL HLE0
          obtain ⟨s2, s3, s4, s5, s6, s7, s8, s9, s10, s11, s12, s13, s14, s15⟩ := HK.out wr HS.out.2
          have hblw : b < wr.heap.size := lt_of_cell s3
          clear s15
          go_wp2
          go_region_held3 (fun W => W.cell? ⟨w.heap.size, 2, none⟩ = some (.slice (some ⟨b, off, none⟩) r.body.length yc) ∧ W.cell? ⟨b, off + k * 14 + 2, none⟩ = some (.slice ao la.length ac) ∧ W.cell? ⟨b, off + k * 14 + 4, none⟩ = some (.bool lv) ∧ W.cell? ⟨b, off + k * 14 + 5, none⟩ = some (.string ln) ∧ W.cell? ⟨b, off + k * 14 + 6, none⟩ = some (.bool lk) ∧ W.cell? ⟨b, off + k * 14 + 7, none⟩ = some (.string ls) ∧ W.cell? ⟨b, off + k * 14 + 8, none⟩ = some (.int .i64 lN) ∧ W.cell? ⟨b, off + k * 14 + 9, none⟩ = some (.bool rv) ∧ W.cell? ⟨b, off + k * 14 + 10, none⟩ = some (.string rn) ∧ W.cell? ⟨b, off + k * 14 + 11, none⟩ = some (.bool rk) ∧ W.cell? ⟨b, off + k * 14 + 12, none⟩ = some (.string rs) ∧ W.cell? ⟨b, off + k * 14 + 13, none⟩ = some (.int .i64 rN) ∧ w2.heap.size ≤ W.heap.size ∧ Below w2.heap.size w2 W)
            (first | assumption | (refine HK.out _ ?_; repeat (first | exact HS.out.2 | refine Below.drew ?_ | refine Below.alloc ?_ (by have := HZS.out; first | exact this | (simp; omega) | omega) _)))
            (first
              | (refine step_append_all (w0 := _) rfl (.tmp 44) (.tmp 57) 22 rfl elTm cellRTm w2.heap.size (.slice o n c) L rfl (OwnTm.base (OwnW.below HS.out.1 (by repeat (first | exact Below.refl _ _ | refine Below.drew ?_ | refine Below.alloc ?_ (by first | exact Nat.le_refl _ | (simp; done) | (simp; omega) | omega) _))) (Nat.le_refl _)) (.slice (some ⟨_, 0, none⟩) 2 2) [⟨lv, ln, lk, ls, lN⟩, ⟨rv, rn, rk, rs, rN⟩] rfl (two_terms (by first | exact heap1L _ _ | exact heap2L _ _ _) rfl) (Below.refl _ _) (by have := HLE.out; unfold maxLen; simp; omega) (by have := HLE.out; simp; omega) (by have := HZS.out; first | omega | (simp; omega)) ?_; intro v4 w4 h4 hb4 hz4; have hS4 := HK.out w4 (Below.trans (by go_split_ands; assumption) hb4); obtain ⟨o4, n4, c4, rfl, hn4⟩ := h4.formN; have HO4 := Lib.hid h4; have HB4 : Hid (Below w2.heap.size w2 w4) := hS4.2.2.2.2.2.2.2.2.2.2.2.2.2; clear h4 hb4 hz4 hn4))
          all_goals
            clear s2 s3 s4 s5 s6 s7 s8 s9 s10 s11 s12 s13 s14
            obtain ⟨s2, s3, s4, s5, s6, s7, s8, s9, s10, s11, s12, s13, s14, s15⟩ := hS4
            clear s15 s4 s5 s6 s7 s8 s9 s10 s11 s12 s13
            have hblw4 : b < w4.heap.size := lt_of_cell s3
            go_wp2_with (at_builtin; refine wpList_append_all rfl _ _ 22 rfl elTm cellRTm w2.heap.size (.slice o4 n4 c4) (L ++ [⟨lv, ln, lk, ls, lN⟩, ⟨rv, rn, rk, rs, rN⟩]) rfl (OwnTm.base HO4.out (Nat.le_refl _)) _ la rfl (HXA.out.below stayTm (below_to HB2.out HB4.out (Nat.le_refl _))) (Below.refl _ _) (by have := HLE.out; unfold maxLen; simp; omega) (by have := HLE.out; simp; omega) (by omega) ?_; intro v5 w5 h5 hb5 hg5 hl5; obtain ⟨o5, n5, c5, rfl, hn5⟩ := h5.formN; have HN5 := Lib.hid hn5; have HO5 := Lib.hid h5; have HB5 := Lib.hid (HB4.out.trans hb5); clear h5 hb5 hg5 hl5 hn5)
            go_roundw
            case rel => exact ⟨k + 1, n5, o5, c5, by omega, by simp, rfl, by rw [HT.out]; exact HN5, by rw [HT.out]; exact ⟨OwnTm.base HO5.out (Nat.le_refl _), HB5.out⟩⟩
            case measure => simp [intOf]; omega
        · have hltI : ¬ (k : Int) < (r.body.length : Int) := by omega
          have HE := Lib.hid (allT_few HFEW.out r.body.length)
          rw [List.take_length] at HE
          rw [List.take_of_length_le (by omega)] at HS HN
          have HU : Hid (Tms wr (.slice o n c) (allT r.head r.body)) := HS.out.1.rd stayTm HS.out.2 (by have := HE.out; unfold maxLen; omega)
          clear HN HS
          have HOE : Hid (∀ t ∈ allT r.head r.body, OkTm t) := allT_ok HO.out
          obtain ⟨s1, p1, hv1⟩ := chkV_err (checkR r)
          obtain ⟨s3, p3, hv3⟩ := chkV_err (checkR ⟨r.head, ([] ++ r.body) ++ [posL a.p a.args]⟩)
          obtain ⟨e1, he1⟩ : ∃ e1, e1 = errC (checkR r) := ⟨_, rfl⟩
          obtain ⟨e3, he3⟩ : ∃ e3, e3 = errC (checkR ⟨r.head, ([] ++ r.body) ++ [posL a.p a.args]⟩) := ⟨_, rfl⟩
          have HE1 : Hid (e1 = 0 ∨ e1 = 6) := by rw [he1]; exact err_two _
          have HE3 : Hid (e1 = 0 → e3 = 0) := by rw [he1, he3]; exact more_safe r a.p a.args
          rw [← he1] at hv1
          rw [← he3] at hv3
          clear he1 he3
          have HQ1 : Hid (∀ W, Below W0.heap.size W0 W → Calls Try.prog 11 #[.agg #[.string r.head.p, .slice xo r.head.args.length xc, .slice yo r.body.length yc]] W fun e w' => e = .returned (.tuple #[.string s1, .int .i64 p1, .int .i64 e1]) ∧ Below W.heap.size W w') := fun W hW => by
            have := check_any (HX.out.below stayTm hW) (HY.out.below stayLt hW) HSM.out HO.out
            rw [hv1] at this; exact this
          have HSM2 := Lib.hid (more_sm HFEW.out (p := ⟨#[97, 108, 108]⟩) (A := allT r.head r.body) (by have := HE.out; omega))
          have HOK2 := Lib.hid (more_ok HO.out (p := ⟨#[97, 108, 108]⟩) HOE.out)
          have HSM3 := Lib.hid (more_sm HFEW.out (p := a.p) (A := a.args) (by omega))
          have HOK3 := Lib.hid (more_ok HO.out (p := a.p) (A := a.args) HAO.out)
          have HQ2 : Hid (∀ W v, Below W0.heap.size W0 W → Lts W v (([] ++ r.body) ++ [posL ⟨#[97, 108, 108]⟩ (allT r.head r.body)]) → Calls Try.prog 11 #[.agg #[.string r.head.p, .slice xo r.head.args.length xc, v]] W fun e w' => e = .returned (.tuple #[.string ⟨#[]⟩, .int .i64 0, .int .i64 0]) ∧ Below W.heap.size W w') := fun W v hW hv => by
            have := check_any (r := ⟨r.head, ([] ++ r.body) ++ [posL ⟨#[97, 108, 108]⟩ (allT r.head r.body)]⟩) (HX.out.below stayTm hW) hv HSM2.out HOK2.out
            rw [every_safe] at this; exact this
          have HQ3 : Hid (∀ W v, Below W0.heap.size W0 W → Lts W v (([] ++ r.body) ++ [posL a.p a.args]) → Calls Try.prog 11 #[.agg #[.string r.head.p, .slice xo r.head.args.length xc, v]] W fun e w' => e = .returned (.tuple #[.string s3, .int .i64 p3, .int .i64 e3]) ∧ Below W.heap.size W w') := fun W v hW hv => by
            have := check_any (r := ⟨r.head, ([] ++ r.body) ++ [posL a.p a.args]⟩) (HX.out.below stayTm hW) hv HSM3.out HOK3.out
            rw [hv3] at this; exact this
          have HBARE := Lib.hid (check_bare a)
          have HQ4 : Hid (∀ W, Below W0.heap.size W0 W → Calls Try.prog 11 #[.agg #[.string a.p, .slice ko a.args.length kc, .slice none 0 0]] W fun e w' => e = .returned (chkV (checkR ⟨a, []⟩)) ∧ Below W.heap.size W w') := fun W hW =>
            check_any (r := ⟨a, []⟩) (HZ.out.below stayTm hW) (RdL.nil _ _ _) ⟨by simp; omega, by simp, fun l hl => by simp at hl⟩ ⟨HAO.out, fun l hl => by simp at hl⟩
          have HQV : Hid (∀ W, Below W0.heap.size W0 W → Calls Try.prog 16 #[.agg #[.string a.p, .slice ko a.args.length kc]] W fun e w' => ∃ (o : Option Addr) (c : Nat), e = .returned (.slice o (varsA a.args).length c) ∧ Below W.heap.size W w') := fun W hW =>
            (vars_any (a := a) (HZ.out.below stayTm hW) (by omega) HAO.out).mono fun e w' ⟨v, h1, h2, h3⟩ => by
              obtain ⟨o, c, hv⟩ := h2.form
              exact ⟨o, c, by rw [h1, hv], h3⟩
          clear hv1 hv3 HSM2 HOK2 HSM3 HOK3
          obtain ⟨E, hE⟩ : ∃ E, E = allT r.head r.body := ⟨_, rfl⟩
          rw [← hE] at HU HQ2 HE
          clear hE HOE
          go_wp2_with (go_at_call 11; refine (HQ1.out _ HBW.out).mono ?_; clear HQ1; rintro e w6 ⟨rfl, hb6⟩; have HU6 := Lib.hid (HU.out.below stayTm hb6); have HB6 := Lib.hid (below_to HBW.out hb6 (Nat.le_refl _)); clear hb6 r0 r1 r2 rlt a0 a1 alt; obtain ⟨⟨r0, r1, r2, rlt⟩, a0, a1, alt⟩ := HC.out _ HB6.out)
          have HK7 : Hid (∀ W, Below w6.heap.size w6 W → W.cell? ⟨w.heap.size, 0, none⟩ = some (.string r.head.p) ∧ W.cell? ⟨w.heap.size, 1, none⟩ = some (.slice xo r.head.args.length xc) ∧ W.cell? ⟨w.heap.size, 2, none⟩ = some (.slice yo r.body.length yc) ∧ w.heap.size < W.heap.size ∧ W.cell? ⟨w.heap.size + 1, 0, none⟩ = some (.string a.p) ∧ W.cell? ⟨w.heap.size + 1, 1, none⟩ = some (.slice ko a.args.length kc) ∧ w.heap.size + 1 < W.heap.size ∧ w6.heap.size ≤ W.heap.size ∧ Below w6.heap.size w6 W ∧ Below W0.heap.size W0 W) := fun W hW =>
            have h0 := below_to HB6.out hW (Nat.le_refl _)
            have h := HC.out W h0
            ⟨h.1.1, h.1.2.1, h.1.2.2.1, h.1.2.2.2, h.2.1, h.2.2.1, h.2.2.2, hW.size, hW, h0⟩
          have HSX7 : Hid (∀ W, (W.cell? ⟨w.heap.size, 0, none⟩ = some (.string r.head.p) ∧ W.cell? ⟨w.heap.size, 1, none⟩ = some (.slice xo r.head.args.length xc) ∧ W.cell? ⟨w.heap.size, 2, none⟩ = some (.slice yo r.body.length yc) ∧ w.heap.size < W.heap.size ∧ W.cell? ⟨w.heap.size + 1, 0, none⟩ = some (.string a.p) ∧ W.cell? ⟨w.heap.size + 1, 1, none⟩ = some (.slice ko a.args.length kc) ∧ w.heap.size + 1 < W.heap.size ∧ w6.heap.size ≤ W.heap.size ∧ Below w6.heap.size w6 W ∧ Below W0.heap.size W0 W) → Below w6.heap.size w6 W) := fun W h => h.2.2.2.2.2.2.2.2.1
          have HY7 := Lib.hid (HY.out.below stayLt HB6.out)
          clear r0 r1 r2 rlt a0 a1 alt
          go_region_held3 (fun W => W.cell? ⟨w.heap.size, 0, none⟩ = some (.string r.head.p) ∧ W.cell? ⟨w.heap.size, 1, none⟩ = some (.slice xo r.head.args.length xc) ∧ W.cell? ⟨w.heap.size, 2, none⟩ = some (.slice yo r.body.length yc) ∧ w.heap.size < W.heap.size ∧ W.cell? ⟨w.heap.size + 1, 0, none⟩ = some (.string a.p) ∧ W.cell? ⟨w.heap.size + 1, 1, none⟩ = some (.slice ko a.args.length kc) ∧ w.heap.size + 1 < W.heap.size ∧ w6.heap.size ≤ W.heap.size ∧ Below w6.heap.size w6 W ∧ Below W0.heap.size W0 W)
            (first | assumption | (refine HK7.out _ ?_; repeat (first | exact Below.refl _ _ | exact HSX7.out _ (by assumption) | refine Below.drew ?_ | refine Below.alloc ?_ (by first | exact Nat.le_refl _ | exact (HSX7.out _ (by assumption)).size | omega | (simp; omega) | simp) _)))
            (first
              | (refine step_append_all (w0 := w6) rfl (.tmp 77) (.tmp 79) 25 rfl elLt cellRLt w6.heap.size (.slice (some ⟨_, 0, none⟩) 0 0) [] rfl (OwnW.made (by simp) (by first | exact heap1L _ _ | exact heap2L _ _ _ | exact heap1oL _ _ _)) (.slice yo r.body.length yc) r.body rfl HY7.out (by go_split_ands; assumption) (by unfold maxLen; simp; omega) (by simp; omega) (by first | omega | (simp; omega) | simp) ?_; intro v1 wa ho1 hb1 hz1; have hwa : w6.heap.size ≤ wa.heap.size := Nat.le_trans (by first | omega | (simp; omega) | simp) hb1.size; have hSa := HK7.out wa (Below.trans (by go_split_ands; assumption) hb1); have HO1 := Lib.hid ho1; have HZ1 := Lib.hid hz1; clear ho1 hb1 hz1)
              | (refine step_append_one (w0 := w6) rfl (.tmp 80) (.tmp 84) 25 rfl elLt w6.heap.size v1 ([] ++ r.body) rfl (by first | exact HO1.out | exact HO1.out.below (al_bel _ _)) _ 1 rfl (posL ⟨#[97, 108, 108]⟩ E) [.int .i64 1, .string ⟨#[97, 108, 108]⟩, .slice o n c, .string ⟨#[]⟩, .bool false, .string ⟨#[]⟩, .bool false, .string ⟨#[]⟩, .int .i64 0, .bool false, .string ⟨#[]⟩, .bool false, .string ⟨#[]⟩, .int .i64 0] (posL_cell HU6.out) #[.int .i64 1, .string ⟨#[97, 108, 108]⟩, .slice o n c, .string ⟨#[]⟩, .bool false, .string ⟨#[]⟩, .bool false, .string ⟨#[]⟩, .int .i64 0, .bool false, .string ⟨#[]⟩, .bool false, .string ⟨#[]⟩, .int .i64 0] (by first | exact heap1L _ _ | exact (HZ1.out _ _ (by first | exact heap1oL _ _ _ | exact heap2L _ _ _) (by simp [Value.ownBlock])).1) rfl (by unfold maxLen; simp; omega) (by simp; omega) (by first | omega | (simp; omega)) ?_; intro v2 wb ho2 hb2 hz2; have hSb := HK7.out wb (Below.trans (by go_split_ands; assumption) hb2); have HR2 := Lib.hid (ho2.rd stayLt (HSX7.out _ hSb) (by unfold maxLen; simp; omega)); obtain ⟨vo, nv, vc, hv2, hnv⟩ := ho2.formN; subst hv2; clear ho2 hb2 hz2 hnv)
              | (go_at_call 11; refine (HQ2.out _ _ (by go_split_ands; assumption) (HR2.out.below stayLt (by repeat (first | exact Below.refl _ _ | refine Below.drew ?_ | refine Below.alloc ?_ (by first | exact Nat.le_refl _ | (simp; done) | (simp; omega) | omega) _)))).mono ?_; rintro e w7 ⟨rfl, hbl⟩; have hbN := below_to (show Below w6.heap.size w6 _ by go_split_ands; assumption) hbl (Nat.le_refl _); have hS9 := HK7.out _ hbN; clear hbl))
          all_goals
            clear HO1 HZ1 HR2 hSa hSb
            have HB7 := Lib.hid (below_to HB6.out (HSX7.out _ hS9) (Nat.le_refl _))
            have HZ7 := Lib.hid (HZ.out.below stayTm HB7.out)
            clear hS9
            obtain ⟨⟨r0, r1, r2, rlt⟩, a0, a1, alt⟩ := HC.out _ HB7.out
            go_wp2
            have HK8 : Hid (∀ W, Below w7.heap.size w7 W → W.cell? ⟨w.heap.size, 0, none⟩ = some (.string r.head.p) ∧ W.cell? ⟨w.heap.size, 1, none⟩ = some (.slice xo r.head.args.length xc) ∧ W.cell? ⟨w.heap.size, 2, none⟩ = some (.slice yo r.body.length yc) ∧ w.heap.size < W.heap.size ∧ W.cell? ⟨w.heap.size + 1, 0, none⟩ = some (.string a.p) ∧ W.cell? ⟨w.heap.size + 1, 1, none⟩ = some (.slice ko a.args.length kc) ∧ w.heap.size + 1 < W.heap.size ∧ w7.heap.size ≤ W.heap.size ∧ Below w7.heap.size w7 W ∧ Below W0.heap.size W0 W) := fun W hW =>
              have h0 := below_to HB7.out hW (Nat.le_refl _)
              have h := HC.out W h0
              ⟨h.1.1, h.1.2.1, h.1.2.2.1, h.1.2.2.2, h.2.1, h.2.2.1, h.2.2.2, hW.size, hW, h0⟩
            have HSX8 : Hid (∀ W, (W.cell? ⟨w.heap.size, 0, none⟩ = some (.string r.head.p) ∧ W.cell? ⟨w.heap.size, 1, none⟩ = some (.slice xo r.head.args.length xc) ∧ W.cell? ⟨w.heap.size, 2, none⟩ = some (.slice yo r.body.length yc) ∧ w.heap.size < W.heap.size ∧ W.cell? ⟨w.heap.size + 1, 0, none⟩ = some (.string a.p) ∧ W.cell? ⟨w.heap.size + 1, 1, none⟩ = some (.slice ko a.args.length kc) ∧ w.heap.size + 1 < W.heap.size ∧ w7.heap.size ≤ W.heap.size ∧ Below w7.heap.size w7 W ∧ Below W0.heap.size W0 W) → Below w7.heap.size w7 W) := fun W h => h.2.2.2.2.2.2.2.2.1
            have HY8 := Lib.hid (HY.out.below stayLt HB7.out)
            clear r0 r1 r2 rlt a0 a1 alt
            go_region_held3 (fun W => W.cell? ⟨w.heap.size, 0, none⟩ = some (.string r.head.p) ∧ W.cell? ⟨w.heap.size, 1, none⟩ = some (.slice xo r.head.args.length xc) ∧ W.cell? ⟨w.heap.size, 2, none⟩ = some (.slice yo r.body.length yc) ∧ w.heap.size < W.heap.size ∧ W.cell? ⟨w.heap.size + 1, 0, none⟩ = some (.string a.p) ∧ W.cell? ⟨w.heap.size + 1, 1, none⟩ = some (.slice ko a.args.length kc) ∧ w.heap.size + 1 < W.heap.size ∧ w7.heap.size ≤ W.heap.size ∧ Below w7.heap.size w7 W ∧ Below W0.heap.size W0 W)
              (first | assumption | (refine HK8.out _ ?_; repeat (first | exact Below.refl _ _ | exact HSX8.out _ (by assumption) | refine Below.drew ?_ | refine Below.alloc ?_ (by first | exact Nat.le_refl _ | exact (HSX8.out _ (by assumption)).size | omega | (simp; omega) | simp) _)))
              (first
                | (refine step_append_all (w0 := w7) rfl (.tmp 94) (.tmp 96) 25 rfl elLt cellRLt w7.heap.size (.slice (some ⟨_, 0, none⟩) 0 0) [] rfl (OwnW.made (by simp) (by first | exact heap1L _ _ | exact heap2L _ _ _ | exact heap1oL _ _ _)) (.slice yo r.body.length yc) r.body rfl HY8.out (by go_split_ands; assumption) (by unfold maxLen; simp; omega) (by simp; omega) (by first | omega | (simp; omega) | simp) ?_; intro v1 wa ho1 hb1 hz1; have hwa : w7.heap.size ≤ wa.heap.size := Nat.le_trans (by first | omega | (simp; omega) | simp) hb1.size; have hSa := HK8.out wa (Below.trans (by go_split_ands; assumption) hb1); have HO1 := Lib.hid ho1; have HZ1 := Lib.hid hz1; clear ho1 hb1 hz1)
                | (refine step_append_one (w0 := w7) rfl (.tmp 97) (.tmp 100) 25 rfl elLt w7.heap.size v1 ([] ++ r.body) rfl (by first | exact HO1.out | exact HO1.out.below (al_bel _ _)) _ 1 rfl (posL a.p a.args) [.int .i64 1, .string a.p, .slice ko a.args.length kc, .string ⟨#[]⟩, .bool false, .string ⟨#[]⟩, .bool false, .string ⟨#[]⟩, .int .i64 0, .bool false, .string ⟨#[]⟩, .bool false, .string ⟨#[]⟩, .int .i64 0] (posL_cell HZ7.out) #[.int .i64 1, .string a.p, .slice ko a.args.length kc, .string ⟨#[]⟩, .bool false, .string ⟨#[]⟩, .bool false, .string ⟨#[]⟩, .int .i64 0, .bool false, .string ⟨#[]⟩, .bool false, .string ⟨#[]⟩, .int .i64 0] (by first | exact heap1L _ _ | exact (HZ1.out _ _ (by first | exact heap1oL _ _ _ | exact heap2L _ _ _) (by simp [Value.ownBlock])).1) rfl (by unfold maxLen; simp; omega) (by simp; omega) (by first | omega | (simp; omega)) ?_; intro v2 wb ho2 hb2 hz2; have hSb := HK8.out wb (Below.trans (by go_split_ands; assumption) hb2); have HR2 := Lib.hid (ho2.rd stayLt (HSX8.out _ hSb) (by unfold maxLen; simp; omega)); obtain ⟨vo, nv, vc, hv2, hnv⟩ := ho2.formN; subst hv2; clear ho2 hb2 hz2 hnv)
                | (go_at_call 11; refine (HQ3.out _ _ (by go_split_ands; assumption) (HR2.out.below stayLt (by repeat (first | exact Below.refl _ _ | refine Below.drew ?_ | refine Below.alloc ?_ (by first | exact Nat.le_refl _ | (simp; done) | (simp; omega) | omega) _)))).mono ?_; rintro e w8 ⟨rfl, hbl⟩; have hbN := below_to (show Below w7.heap.size w7 _ by go_split_ands; assumption) hbl (Nat.le_refl _); have hS9 := HK8.out _ hbN; clear hbl))
            all_goals
              clear HO1 HZ1 HR2 hSa hSb
              have HB8 := Lib.hid (below_to HB7.out (HSX8.out _ hS9) (Nat.le_refl _))
              clear hS9
              obtain ⟨⟨r0, r1, r2, rlt⟩, a0, a1, alt⟩ := HC.out _ HB8.out
              rcases HE1.out with h6 | h6
              · obtain rfl := HE3.out h6
                subst h6
                cases hck : checkR ⟨a, []⟩ with
                | none =>
                  have HCK := Lib.hid hck
                  have hv0 : (varsA a.args).length = 0 := by rw [HBARE.out.1.1 hck]; rfl
                  rw [hv0] at HQV
                  clear hck
                  go_wp2_with (first
                    | (go_at_call 11; refine (HQ4.out _ HB8.out).mono ?_; clear HQ4; rintro e w9 ⟨rfl, hb9⟩; rw [HCK.out]; simp only [chkV]; have HB9 := Lib.hid (below_to HB8.out hb9 (Nat.le_refl _)); clear hb9 r0 r1 r2 rlt a0 a1 alt; obtain ⟨⟨r0, r1, r2, rlt⟩, a0, a1, alt⟩ := HC.out _ HB9.out)
                    | (go_at_call 16; refine (HQV.out _ HB9.out).mono ?_; clear HQV; rintro e w10 ⟨vo9, vc9, rfl, hb10⟩; have HB10 := Lib.hid (below_to HB9.out hb10 (Nat.le_refl _)); clear hb10))
                  go_ret
                  exact ⟨rfl, below_to HW.out HB10.out (Nat.le_refl _)⟩
                | some q =>
                  obtain ⟨qs, qp⟩ := q
                  obtain rfl := HBARE.out.2 qs qp hck
                  have HCK := Lib.hid hck
                  have hv0 : ¬ (varsA a.args).length = 0 := fun h0 => by
                    have := HBARE.out.1.2 (List.length_eq_zero_iff.1 h0)
                    rw [this] at hck
                    cases hck
                  have hv1 : (((varsA a.args).length : Int) == 0) = false := by simp; exact fun h => hv0 (by rw [h]; rfl)
                  clear hck hv0
                  obtain ⟨nv9, hnv9⟩ : ∃ nv9, nv9 = (varsA a.args).length := ⟨_, rfl⟩
                  rw [← hnv9] at hv1 HQV
                  clear hnv9
                  go_wp2_with (first
                    | (go_at_call 11; refine (HQ4.out _ HB8.out).mono ?_; clear HQ4; rintro e w9 ⟨rfl, hb9⟩; rw [HCK.out]; simp only [chkV]; have HB9 := Lib.hid (below_to HB8.out hb9 (Nat.le_refl _)); clear hb9 r0 r1 r2 rlt a0 a1 alt; obtain ⟨⟨r0, r1, r2, rlt⟩, a0, a1, alt⟩ := HC.out _ HB9.out)
                    | (go_at_call 16; refine (HQV.out _ HB9.out).mono ?_; clear HQV; rintro e w10 ⟨vo9, vc9, rfl, hb10⟩; have HB10 := Lib.hid (below_to HB9.out hb10 (Nat.le_refl _)); clear hb10))
                  go_ret
                  exact ⟨rfl, below_to HW.out HB10.out (Nat.le_refl _)⟩
              · subst h6
                cases hck : checkR ⟨a, []⟩ with
                | none =>
                  have HCK := Lib.hid hck
                  have hv0 : (varsA a.args).length = 0 := by rw [HBARE.out.1.1 hck]; rfl
                  rw [hv0] at HQV
                  clear hck
                  go_wp2_with (first
                    | (go_at_call 11; refine (HQ4.out _ HB8.out).mono ?_; clear HQ4; rintro e w9 ⟨rfl, hb9⟩; rw [HCK.out]; simp only [chkV]; have HB9 := Lib.hid (below_to HB8.out hb9 (Nat.le_refl _)); clear hb9 r0 r1 r2 rlt a0 a1 alt; obtain ⟨⟨r0, r1, r2, rlt⟩, a0, a1, alt⟩ := HC.out _ HB9.out)
                    | (go_at_call 16; refine (HQV.out _ HB9.out).mono ?_; clear HQV; rintro e w10 ⟨vo9, vc9, rfl, hb10⟩; have HB10 := Lib.hid (below_to HB9.out hb10 (Nat.le_refl _)); clear hb10))
                  go_ret
                  exact ⟨rfl, below_to HW.out HB10.out (Nat.le_refl _)⟩
                | some q =>
                  obtain ⟨qs, qp⟩ := q
                  obtain rfl := HBARE.out.2 qs qp hck
                  have HCK := Lib.hid hck
                  have hv0 : ¬ (varsA a.args).length = 0 := fun h0 => by
                    have := HBARE.out.1.2 (List.length_eq_zero_iff.1 h0)
                    rw [this] at hck
                    cases hck
                  have hv1 : (((varsA a.args).length : Int) == 0) = false := by simp; exact fun h => hv0 (by rw [h]; rfl)
                  clear hck hv0
                  obtain ⟨nv9, hnv9⟩ : ∃ nv9, nv9 = (varsA a.args).length := ⟨_, rfl⟩
                  rw [← hnv9] at hv1 HQV
                  clear hnv9
                  go_wp2_with (first
                    | (go_at_call 11; refine (HQ4.out _ HB8.out).mono ?_; clear HQ4; rintro e w9 ⟨rfl, hb9⟩; rw [HCK.out]; simp only [chkV]; have HB9 := Lib.hid (below_to HB8.out hb9 (Nat.le_refl _)); clear hb9 r0 r1 r2 rlt a0 a1 alt; obtain ⟨⟨r0, r1, r2, rlt⟩, a0, a1, alt⟩ := HC.out _ HB9.out)
                    | (go_at_call 16; refine (HQV.out _ HB9.out).mono ?_; clear HQV; rintro e w10 ⟨vo9, vc9, rfl, hb10⟩; have HB10 := Lib.hid (below_to HB9.out hb10 (Nat.le_refl _)); clear hb10))
                  go_ret
                  exact ⟨rfl, below_to HW.out HB10.out (Nat.le_refl _)⟩
    · have hlI : (30 : Int) < (a.args.length : Int) := by omega
      go_enter Try.func6, Try.ntmps6
      go_wp2_with (first
        | (go_at_call 9; refine HSH.out.mono ?_; clear HSH; rintro e w1 ⟨rfl, hb1⟩; rw [← hW0] at hb1; have HB1 := Lib.hid hb1; clear hb1; obtain ⟨⟨r0, r1, r2, rlt⟩, a0, a1, alt⟩ := HC.out _ HB1.out)
        | (go_at_call 10; refine (HFW.out _ HB1.out).mono ?_; clear HFW; rintro e w2 ⟨rfl, hb2⟩; have HB2 := Lib.hid (below_to HB1.out hb2 (Nat.le_refl _)); clear hb2 r0 r1 r2 rlt a0 a1 alt; obtain ⟨⟨r0, r1, r2, rlt⟩, a0, a1, alt⟩ := HC.out _ HB2.out))
      go_ret
      exact ⟨rfl, below_to HW.out HB2.out (Nat.le_refl _)⟩
  · have HFW : Hid (∀ W, Below W0.heap.size W0 W → Calls Try.prog 10 #[.agg #[.string r.head.p, .slice xo r.head.args.length xc, .slice yo r.body.length yc]] W fun e w' => e = .returned (.bool false) ∧ Below W.heap.size W w') := fun W hW => few_is ⟨fun h => by (cases h), fun h => absurd h hf⟩ (HX.out.below stayTm hW) (HY.out.below stayLt hW)
    clear hf
    go_enter Try.func6, Try.ntmps6
    go_wp2_with (first
      | (go_at_call 9; refine HSH.out.mono ?_; clear HSH; rintro e w1 ⟨rfl, hb1⟩; rw [← hW0] at hb1; have HB1 := Lib.hid hb1; clear hb1; obtain ⟨⟨r0, r1, r2, rlt⟩, a0, a1, alt⟩ := HC.out _ HB1.out)
      | (go_at_call 10; refine (HFW.out _ HB1.out).mono ?_; clear HFW; rintro e w2 ⟨rfl, hb2⟩; have HB2 := Lib.hid (below_to HB1.out hb2 (Nat.le_refl _)); clear hb2))
    go_ret
    exact ⟨rfl, below_to HW.out HB2.out (Nat.le_refl _)⟩
end Go.Proofs.Ytcpdikhiodbdjaa
