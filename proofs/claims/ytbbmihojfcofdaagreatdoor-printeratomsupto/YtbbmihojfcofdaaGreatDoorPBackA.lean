/-
  An atom that may be is printed, and parsed as it was. Plain facts; no walk.
-/
import Derived.Test.YtbbmihojfcofdaaGreatDoorPA
import Derived.Test.YtbbmihojfcofdaaGreatDoorGWholeA
import Derived.Test.YtbbmihojfcofdaaGreatDoorPF
import Derived.Test.YtbbmihojfcofdaaGreatDoorPD
import Derived.Test.YtbbmihojfcofdaaGreatDoorPOpen
import Derived.Test.YtbbmihojfcofdaaGreatDoorPLaidP
namespace Go.Proofs.YtbbmihojfcofdaaGreatDoor
set_option linter.unusedSimpArgs false
set_option linter.unusedVariables false
set_option linter.unusedSectionVars false
set_option maxRecDepth 100000
open Go.RowKit

theorem ends_nil (e : Int) : Ends e [] := by
  unfold Ends
  rw [atT_nil]
  refine ⟨rfl, ?_⟩
  unfold isOp isMk
  simp
theorem atom_whole {a : Am} (h : MayAm a) {s : ByteArray} (hs : s.data.toList = atomTx a) (hl : s.size ≤ 65536) : atomR s = ⟨0, 0, a⟩ := by
  obtain ⟨T, hT, hb⟩ := scans_atom h (r := []) rfl 0
  rw [List.append_nil] at hT
  have e0 : scanAt (0 + (atomTx a).length) [] = ⟨0, 0, []⟩ := by rw [scanAt_eq]; rfl
  rw [e0] at hT
  have hscan : scanR s = ⟨0, 0, T⟩ := by
    unfold scanR
    rw [if_neg (by omega), hs, hT]
    simp [Res.app]
  have hp := atom_back h (s.size : Int) hb (ends_nil _)
  rw [List.append_nil] at hp
  unfold atomR atomL
  rw [hscan]
  simp [hp]
end Go.Proofs.YtbbmihojfcofdaaGreatDoor

/-
  A list of values of the call's own, put to one by one; a program of one rule. Plain facts; no walk.
-/
namespace Go.Proofs.YtbbmihojfcofdaaGreatDoor
set_option linter.unusedSimpArgs false
set_option linter.unusedVariables false
set_option linter.unusedSectionVars false
set_option maxRecDepth 100000
open Go.RowKit Go.Maps

def VlR : RelM Tm := fun _ _ t c => c = [.bool t.k, .string t.s, .int .i64 t.n]
abbrev VlsO (w : World) (B : Nat) (x : Value) (L : List Tm) : Prop := OwnL VlR 33 3 w B x L
theorem keepVl : KeepR VlR := fun _ _ _ _ _ _ _ _ h => h
theorem keepNVl (ty : TypeId) : KeepN VlR ty := fun _ _ _ _ _ _ h => h
theorem VlsO.rd {w : World} {B : Nat} {x : Value} {L : List Tm} (h : VlsO w B x L) (hm : L.length ≤ maxLen) : Vls w x L := OwnL.rd h hm (fun _ _ _ h => h)
theorem infoVlA : (Tryz.prog.info? 33).map (fun i => (i.zero, i.size, i.bytes)) = some (some (.agg #[.bool false, .string ⟨#[]⟩, .int .i64 0]), 3, 32) := by kernel_rfl
theorem va_put {W Wa w4 : World} {ab : Nat} {p : ByteArray} {v v' : Value} {A : List Tm} {t : Tm} {o : Obj} {cs : List (List Value)} (hP : Blk W ab #[.string p, v] 43) (hA : AllR (VlR W (ab + 1)) A cs) (hl : ∀ c ∈ cs, c.length = 3) (hrow : W.ownsRow (ab + 1) 33 3 v A.length cs.flatten)
    (hB : ab + 1 ≤ W.heap.size) (hbw : Below W.heap.size W Wa) (hown' : w4.ownsRow (ab + 1) 33 3 v' (A.length + 1) (cs.flatten ++ [.bool t.k, .string t.s, .int .i64 t.n])) (hg : (Wa.alloc o).grownBy w4 v.ownBlock) :
    (w4.cell? ⟨ab, 1, none⟩ = some v ∧ w4.frozen? ⟨ab, 1, none⟩ = false ∧ ab < w4.heap.size) ∧ Blk (w4.setCell ⟨ab, 1, none⟩ v') ab #[.string p, v'] 43 ∧ VlsO (w4.setCell ⟨ab, 1, none⟩ v') (ab + 1) v' (A ++ [t]) ∧ Below ab W (w4.setCell ⟨ab, 1, none⟩ v') := by
  obtain ⟨h1, h2, h3⟩ := own_step (keepNVl _) hB hA hl hrow (show VlR W (ab + 1) t [.bool t.k, .string t.s, .int .i64 t.n] from rfl) rfl hbw hown' hg
  have hb : Blk w4 ab #[.string p, v] 43 := (h2.block ab (Nat.lt_succ_self _)).trans hP
  have hT : Turns (fun i => i = ab) w4 (w4.setCell ⟨ab, 1, none⟩ v') := (Turns.refl (fun i => i = ab) w4).setCell (p := ⟨ab, 1, none⟩) (fun _ => rfl) _
  refine ⟨⟨hb.cell 1, hb.frozen 1, hb.lt⟩, heap_set hb v', h1.turns keepVl hT (Nat.lt_succ_self _), h2.os, h2.tape, h2.output, ?_, fun i hi => ?_⟩
  · simpa [World.setCell] using h2.size
  · exact (Below.heap_setCell w4 ⟨ab, 1, none⟩ v' i (by simp; omega)).trans (h2.block i (by omega))
/-- A program of one rule without a body. -/
def oneP (a : Am) : Pr := ⟨[], [⟨a, []⟩]⟩
theorem one_rus {W : World} {b : Nat} {a : Am} {x : Value} (hb : Blk W b #[.string a.p, x, .slice none 0 0] 40) (hx : Tms W x a.args) : Rus W (.slice (some ⟨b, 0, none⟩) 1 1) (oneP a).rules := by
  refine ⟨some ⟨b, 0, none⟩, 1, rfl, Nat.le_refl _, by simp [oneP, maxLen], fun i hi => ?_⟩
  obtain rfl : i = 0 := by simp [oneP] at hi; omega
  refine ⟨b, 0, [.string a.p, x, .slice none 0 0], rfl, hb.lt, ⟨x, .slice none 0 0, rfl, hx, RdL.nil _ _ _ _ _⟩, fun j u hj => ?_⟩
  have e0 : 0 + 0 * 3 + j = j := by omega
  rw [e0]
  match j, hj with
  | 0, hj => cases hj; exact hb.cell 0
  | 1, hj => cases hj; exact hb.cell 1
  | 2, hj => cases hj; exact hb.cell 2
theorem one_in {a : Am} (h : InAm a) : InPr (oneP a) := ⟨fun d hd => by simp [oneP] at hd, fun r hr => by
  simp only [oneP, List.mem_singleton] at hr
  subst hr
  exact ⟨h, fun l hl => by simp at hl⟩⟩
theorem one_sz (a : Am) : szPr (oneP a) = szAm a + 1 := by simp [szPr, szDes, szRus, szRu, szLts, oneP]
theorem one_may {a : Am} (h : InAm a) (hm : mayPrB (oneP a) = true) : MayAm a := (((mayPr_iff (one_in h)).1 hm).2.2.2 ⟨a, []⟩ (by simp [oneP])).1
theorem may_val {a : Am} (h : MayAm a) {t : Tm} (ht : t ∈ a.args) (hv : t.v = false) : IsVal t := by
  rcases (h.2.2 t ht).2 with ⟨h1, -⟩ | ⟨-, h2, -⟩
  · rw [hv] at h1; cases h1
  · exact ⟨hv, h2⟩
theorem val_sz (a : Am) : a.p.size + (a.args.map (fun t => t.s.size + 4)).sum ≤ szAm a := by
  have : ∀ L : List Tm, (L.map (fun t => t.s.size + 4)).sum ≤ (L.map szTm).sum := by
    intro L
    induction L with
    | nil => simp
    | cons t L ih => simp [szTm] at *; omega
  have := this a.args
  unfold szAm szTms
  omega
end Go.Proofs.YtbbmihojfcofdaaGreatDoor

/-
  PrinterAtoms' walk.
-/
namespace Go.Proofs.YtbbmihojfcofdaaGreatDoor
set_option linter.unusedSimpArgs false
set_option linter.unusedVariables false
set_option linter.unusedSectionVars false
set_option maxRecDepth 100000
open Go.RowKit Go.Maps

set_option maxHeartbeats 16000000 in
theorem patoms_walk (a : Am) (x : Value) (w : World) (hx : Tms w x a.args) (hI : InAm a) (hs : szAm a ≤ 1048576) (hE : PEnv w) (hT : Tab w) :
    Calls Tryz.prog 7 #[.agg #[.string a.p, x]] w fun e w' => e = .returned (.bool true) ∧ Below w.heap.size w w' := by
  obtain ⟨xo, xc, rfl, -, hxm⟩ := hx.form
  have hle := atomTx_le hI
  have hV := amV_of hI (by omega)
  have hsz := val_sz a
  have hl6 : 6 * a.args.length ≤ szTms a.args := sum_len szTm 6 (fun t => by unfold szTm; omega) _
  have hnL : a.args.length ≤ 1048576 := by unfold szAm at hs; omega
  obtain ⟨S, hS⟩ : ∃ S : ByteArray, S = ⟨(atomTx a).toArray⟩ := ⟨_, rfl⟩
  have hSd : S.data.toList = atomTx a := by rw [hS]
  have hSz : S.size ≤ 4194304 := by
    have h1 : S.size = (atomTx a).length := by rw [← hSd]; simp
    omega
  have HSH := Lib.hid (fun W (hb : Below w.heap.size w W) => shownP_any W (hE.below hb) (hT.on hb))
  have HMY : Hid (∀ W b, Below w.heap.size w W → Blk W b #[.string a.p, .slice xo a.args.length xc, .slice none 0 0] 40 → Calls Tryz.prog 13 #[.agg #[.slice none 0 0, .slice (some ⟨b, 0, none⟩) 1 1]] W fun e w' => e = .returned (.bool (mayPrB (oneP a))) ∧ Below W.heap.size W w') :=
    fun W b hb hk => pmay_any (oneP a) _ _ W (RdL.nil _ _ _ _ _) (one_rus hk (hx.below stayTm hb)) (one_in hI) (by rw [one_sz]; omega)
  have HPA := Lib.hid (fun W (hb : Below w.heap.size w W) => patom_any a _ W (hx.below stayTm hb) hI (by omega) (hT.on hb))
  rw [← hS] at HPA
  have HPS : Hid (∀ W, Below w.heap.size w W → Calls Tryz.prog 27 #[.string S] W fun e w' => ParseAOut W (atomR S) e w') := fun W hb => parseA_any S W (hE.below hb) (by unfold maxLen; omega)
  have HSA : Hid (∀ W, Below w.heap.size w W → ∀ o2 c2, Tms W (.slice o2 a.args.length c2) a.args → Calls Tryz.prog 28 #[.agg #[.string a.p, .slice xo a.args.length xc], .agg #[.string a.p, .slice o2 a.args.length c2]] W fun e w' => e = .returned (.bool true) ∧ Below W.heap.size W w') :=
    fun W hb o2 c2 h => sameA_any (hx.below stayTm hb) h hV.1 hV.2
  have HFA : Hid (mayPrB (oneP a) = true → a.args.all (fun t => !t.v) = true → ∀ W y, Below w.heap.size w W → Vls W y a.args → Calls Tryz.prog 23 #[.agg #[.string a.p, y]] W fun e w' => e = .returned (.string S) ∧ Below W.heap.size W w') := fun hm hg W y hb hy => by
    have := pfact_any a y W hy (fun t ht => ⟨hI t ht, may_val (one_may hI hm) ht (by have := (List.all_eq_true.1 hg) t ht; simpa using this)⟩) (by omega) (hT.on hb)
    rw [← hS] at this
    exact this
  have HAW : Hid (mayPrB (oneP a) = true → S.size ≤ 60000 → atomR S = ⟨0, 0, a⟩) := fun hm h6 => atom_whole (one_may hI hm) hSd (by omega)
  have HX := Lib.hid hx
  obtain ⟨mb, hmb⟩ : ∃ mb, mb = mayPrB (oneP a) := ⟨_, rfl⟩
  rw [← hmb] at HMY HFA HAW
  obtain ⟨p, L⟩ := a
  simp only at HMY HPA HSA HFA HX hnL hxm
  obtain ⟨W, hW⟩ : ∃ W, W = w.alloc (.cells #[.string p, .slice xo L.length xc] 31) := ⟨_, rfl⟩
  have hbW : Below w.heap.size w W := by rw [hW]; exact al_below _ _
  have HB0 := Lib.hid hbW
  have HK : Hid (∀ W', Below W.heap.size W W' → W'.cell? ⟨w.heap.size, 0, none⟩ = some (.string p) ∧ W'.cell? ⟨w.heap.size, 1, none⟩ = some (.slice xo L.length xc) ∧ w.heap.size < W'.heap.size ∧ Below w.heap.size w W') := fun W' hb => by
    have hB : Blk W w.heap.size #[.string p, .slice xo L.length xc] 31 := by rw [hW]; exact Blk.new _ _ _
    exact ⟨(hB.below hb).cell 0, (hB.below hb).cell 1, (hB.below hb).lt, hbW.trans (hb.mono hbW.size)⟩
  have HW := Lib.hid hW
  obtain ⟨i0, hi, hz0, hz1, hz2⟩ := info_parts infoVlA
  have hSI : (S.size : Int) ≤ 4194304 := by omega
  clear hx hI hs hle hV hS hSd hmb hbW hW hE hT hsz hl6
  go_enter Tryz.func7, Tryz.ntmps7
  cases mb
  · go_wp2_with (first
      | (go_at_call 9; rw [← HW.out]; refine (HSH.out _ HB0.out).mono ?_; rintro e w1 ⟨rfl, hb1⟩; have HB1 : Hid (Below W.heap.size W w1) := hb1; clear hb1; obtain ⟨p0, p1, p2, p3⟩ := HK.out _ HB1.out)
      | (go_at_call 13; refine (HMY.out _ _ (p3.trans ((al_below w1 _).mono p3.size)) (Blk.new _ _ _)).mono ?_; rintro e w2 ⟨rfl, hb2⟩; have HB2 : Hid (Below W.heap.size W w2) := (HB1.out.trans ((al_below w1 _).mono HB1.out.size)).trans (hb2.mono (by have := HB1.out.size; simp; omega)); clear hb2; obtain ⟨r0, r1, r2, r3⟩ := HK.out _ HB2.out))
    go_ret
    exact ⟨rfl, (HK.out _ HB2.out).2.2.2⟩
  go_wp2_with (first
    | (go_at_call 9; rw [← HW.out]; refine (HSH.out _ HB0.out).mono ?_; rintro e w1 ⟨rfl, hb1⟩; have HB1 : Hid (Below W.heap.size W w1) := hb1; clear hb1; obtain ⟨p0, p1, p2, p3⟩ := HK.out _ HB1.out)
    | (go_at_call 13; refine (HMY.out _ _ (p3.trans ((al_below w1 _).mono p3.size)) (Blk.new _ _ _)).mono ?_; rintro e w2 ⟨rfl, hb2⟩; have HB2 : Hid (Below W.heap.size W w2) := (HB1.out.trans ((al_below w1 _).mono HB1.out.size)).trans (hb2.mono (by have := HB1.out.size; simp; omega)); clear hb2; obtain ⟨r0, r1, r2, r3⟩ := HK.out _ HB2.out)
    | (go_at_call 19; refine (HPA.out _ r3).mono ?_; rintro e w3 ⟨rfl, hb3⟩; have HB3 : Hid (Below W.heap.size W w3) := HB2.out.trans (hb3.mono HB2.out.size); clear hb3; obtain ⟨t0, t1, t2, t3⟩ := HK.out _ HB3.out))
  go_loopw [6, 7] (fun gr i wr => ∃ (k : Nat) (v : Value), (k : Int) ≤ (L.length : Int) ∧ gr = .bool ((L.take k).all (fun t => !t.v)) ∧ i = .int .i64 k ∧ Hid (Blk wr w3.heap.size #[.string p, v] 43) ∧ Hid (VlsO wr (w3.heap.size + 1) v (L.take k)) ∧ Hid (Below w3.heap.size w3 wr)) (fun _ i _ => L.length - (intOf i).toNat)
  case atStart => exact ⟨0, _, by omega, rfl, rfl, Blk.new _ _ _, OwnL.nil _ _ _ _ _, al_below _ _⟩
  case round =>
    obtain ⟨k, v, hk, rfl, rfl, HP, HO, HB⟩ := hrel
    have HBw : Hid (Below W.heap.size W wr) := HB3.out.trans (HB.out.mono HB3.out.size)
    obtain ⟨q0, q1, q2, q3⟩ := HK.out _ HBw.out
    have hp0 := HP.out.cell 0
    have hp1 := HP.out.cell 1
    have hf1 := HP.out.frozen 1
    simp at hp0 hp1
    have hlA := HP.out.lt
    obtain ⟨G, hG⟩ : ∃ G, G = (L.take k).all (fun t => !t.v) := ⟨_, rfl⟩
    rw [← hG]
    by_cases hlt : k < L.length
    · have hltI : (k : Int) < (L.length : Int) := by omega
      obtain ⟨b, off, cs0, rfl, hbl, hR, hc⟩ := (HX.out.below stayTm q3).at k hlt
      obtain rfl : cs0 = _ := hR
      have x0 := hc 0 _ rfl
      have x2 := hc 2 _ rfl
      have x3 := hc 3 _ rfl
      have x4 := hc 4 _ rfl
      simp only [Nat.add_zero] at x0
      have HN : Hid (L.take (k + 1) = L.take k ++ [(L[k]'hlt)]) := List.take_succ_eq_append_getElem hlt
      have HLK : Hid ((L.take k).length = k) := by show _ = _; rw [List.length_take]; omega
      have HLT : Hid (k + 1 ≤ L.length) := hlt
      obtain ⟨t, ht⟩ : ∃ t, t = (L[k]'hlt) := ⟨_, rfl⟩
      rw [← ht] at x0 x2 x3 x4 HN
      have HGN : Hid ((L.take (k + 1)).all (fun t => !t.v) = (G && !t.v)) := by show _ = _; rw [HN.out, List.all_append, ← hG]; simp
      obtain ⟨A, hA⟩ : ∃ A, A = L.take k := ⟨_, rfl⟩
      rw [← hA] at HO HN HLK
      clear ht hA hlt hc hG
      obtain ⟨tv, tname, tk, ts, tn⟩ := t
      simp only at x0 x2 x3 x4 HGN
      obtain ⟨ao', cap', rfl, -⟩ := HO.out.cells
      obtain ⟨cs, hAll, hcl, hrow⟩ := HO.out
      have hdW : Below wr.heap.size wr wr.drew := (Below.refl _ _).drew
      have HROW : Hid ((wr.drew.alloc (.cells #[.bool tk, .string ts, .int .i64 tn] 33)).ownsRow (w3.heap.size + 1) 33 3 (.slice ao' A.length cap') A.length cs.flatten) := owns_keep hrow (Nat.le_refl _) (fun j _ hj => (((Below.refl wr.heap.size wr).drew).alloc (Nat.le_refl _) _).block j hj)
      have HPUT : Hid (∀ w4 v', w4.ownsRow (w3.heap.size + 1) 33 3 v' (A.length + 1) (cs.flatten ++ [.bool tk, .string ts, .int .i64 tn]) → (wr.drew.alloc (.cells #[.bool tk, .string ts, .int .i64 tn] 33)).grownBy w4 (Value.slice ao' A.length cap').ownBlock → _) := fun w4 v' h1 h2 => va_put (t := ⟨tv, tname, tk, ts, tn⟩) HP.out hAll hcl hrow hlA hdW h1 h2
      have hAb : A.length ≤ 1048576 := by have := HLK.out; have := HLT.out; omega
      clear HP HO hAll hcl hrow hdW
      cases G
      all_goals
        go_wp2_with fail
        go_region_law (refine step_append_at (w3.heap.size + 1) rfl (.tmp 42) (.tmp 49) 41 rfl 33 i0 _ 3 32 Tryz.underlying41 hi hz0 hz1 hz2 rfl (by decide) (.slice ao' A.length cap') A.length cs.flatten (by simp [Act.eval, Act.put]) HROW.out ⟨wr.heap.size, 0, none⟩ 1 1 [.bool tk, .string ts, .int .i64 tn] (by simp [Act.eval, Act.put]) rfl (new_at wr.drew #[.bool tk, .string ts, .int .i64 tn] _) (by simp [Value.oneCell']) (by unfold maxLen; omega) (by omega) (by simp; omega) ?_; intro v' w4 hr4 hg4; obtain ⟨⟨s1, s2, s3⟩, s4, s5, s6⟩ := HPUT.out w4 v' hr4 hg4; obtain ⟨g', cap4, hv'⟩ := Joins.ownsRow_form hr4 (Nat.succ_pos _); subst hv'; have HE4 := Lib.hid s4; have HE5 := Lib.hid s5; have HE6 := Lib.hid s6; clear s4 s5 s6 hr4 hg4)
        all_goals
          go_wp2
          go_roundw
          case rel => exact ⟨k + 1, _, by have := HLT.out; omega, by rw [HGN.out]; simp, by go_num, HE4.out, by rw [HN.out]; exact HE5.out, HB.out.trans HE6.out⟩
          case measure => simp [intOf]; have := HLT.out; omega
    · have hltI : ¬ (k : Int) < (L.length : Int) := by omega
      have hkn : L.length ≤ k := by omega
      have hlm : L.length ≤ maxLen := by unfold maxLen; omega
      have HY : Hid (Vls wr v L) := by
        have := HO.out
        rw [List.take_of_length_le hkn] at this
        exact VlsO.rd this hlm
      rw [List.take_of_length_le hkn] at hG
      have HG : Hid (G = true → L.all (fun t => !t.v) = true) := fun h => by rw [← hG]; exact h
      obtain ⟨vo, vc, rfl, -⟩ := HY.out.form
      have HF : Hid (∀ W', Below wr.heap.size wr W' → W'.cell? ⟨w3.heap.size, 0, none⟩ = some (.string p) ∧ W'.cell? ⟨w3.heap.size, 1, none⟩ = some (.slice vo L.length vc) ∧ w3.heap.size < W'.heap.size) := fun W' hb => ⟨(HP.out.below hb).cell 0, (HP.out.below hb).cell 1, (HP.out.below hb).lt⟩
      have HLM := Lib.hid hlm
      clear hkn hG HO HP hf1 hk hp0 hp1 hlA hlm
      by_cases h6 : S.size ≤ 60000
      · have h6I : ¬ (60000 : Int) < (S.size : Int) := by omega
        have HP6 : Hid (∀ W, Below w.heap.size w W → Calls Tryz.prog 27 #[.string S] W fun e w' => ParseAOut W ⟨0, 0, ⟨p, L⟩⟩ e w') := by
          have := HPS.out
          rw [HAW.out (by first | rfl | trivial) h6] at this
          exact this
        clear h6 HPS HAW
        cases G
        all_goals
          go_wp2_with (first
            | (go_at_call 27; refine (HP6.out _ q3).mono ?_; rintro e w5 ⟨xv, he5, hb5, ho5⟩; obtain rfl : e = .returned (.tuple #[.agg #[.string p, xv], .int .i64 0, .int .i64 0]) := he5; have hx5 := TmsO.rd ho5 HLM.out; obtain ⟨o5, c5, rfl, -⟩ := hx5.form; have HX5 := Lib.hid (hx5.below stayTm (al_below w5 (.cells #[.string p, .slice o5 L.length c5] 31))); have HB5 : Hid (Below W.heap.size W w5) := HBw.out.trans (hb5.mono HBw.out.size); have HR5 := Lib.hid hb5; clear hb5 ho5 hx5; obtain ⟨s0, s1, s2, s3⟩ := HK.out _ HB5.out)
            | (go_at_call 28; refine (HSA.out _ (s3.trans ((al_below w5 _).mono s3.size)) _ _ HX5.out).mono ?_; rintro e w6 ⟨rfl, hb6⟩; have HR6 := Lib.hid ((HR5.out.trans ((al_below w5 _).mono HR5.out.size)).trans (hb6.mono (by have := HR5.out.size; simp; omega))); have HB6 : Hid (Below w.heap.size w w6) := (s3.trans ((al_below w5 _).mono s3.size)).trans (hb6.mono (by have := s3.size; simp; omega)); clear hb6; obtain ⟨f0, f1, f2⟩ := HF.out _ HR6.out)
            | (go_at_call 23; refine (HFA.out (by first | rfl | trivial) (HG.out (by first | rfl | trivial)) _ _ HB6.out (HY.out.below stayVal HR6.out)).mono ?_; rintro e w7 ⟨rfl, hb7⟩; have HB7 : Hid (Below w.heap.size w w7) := HB6.out.trans (hb7.mono HB6.out.size); clear hb7))
          go_ret
          exact ⟨rfl, by first | exact HB7.out | exact HB6.out⟩
      · have h6I : (60000 : Int) < (S.size : Int) := by omega
        obtain ⟨⟨rb, rp, ⟨rq, rL⟩⟩, hr⟩ : ∃ r, r = atomR S := ⟨_, rfl⟩
        rw [← hr] at HPS
        clear h6 HAW hr
        go_wp2_with (go_at_call 27; refine (HPS.out _ q3).mono ?_; rintro e w5 ⟨xv, he5, hb5, ho5⟩; obtain rfl : e = .returned (.tuple #[.agg #[.string rq, xv], .int .i64 rp, .int .i64 (rb : Int)]) := he5; obtain ⟨o5, c5, hv5, -⟩ := ho5.cells; obtain ⟨n5, hn5⟩ : ∃ n5, n5 = (Pa.a ⟨rb, rp, ⟨rq, rL⟩⟩).args.length := ⟨_, rfl⟩; rw [← hn5] at hv5; subst hv5; have HB5 : Hid (Below W.heap.size W w5) := HBw.out.trans (hb5.mono HBw.out.size); clear hb5 ho5 hn5; obtain ⟨s0, s1, s2, s3⟩ := HK.out _ HB5.out)
        go_ret
        exact ⟨rfl, s3.trans ((al_below w5 _).mono s3.size)⟩
end Go.Proofs.YtbbmihojfcofdaaGreatDoor

/-
  PROVED: An atom's text is parsed to the atom; a ground one's is its fact's.
-/
namespace Go.Proofs.YtbbmihojfcofdaaGreatDoor.printerAtoms
set_option linter.unusedSimpArgs false
set_option linter.unusedVariables false
set_option linter.unusedSectionVars false
set_option maxRecDepth 100000
open Go.ChangeShapes Go.WideShapes Go.ChangeAt Go.RowKit Go.Joins
open Go.ChangeMaps (open_string)

theorem contract (H : Type) (enc : TypeId × Value → H) (W : World) (base : Nat) (args : Array Value) (ds gs : List (DataW H)) (before : List MemPlace)
    (hval : ∀ (j : Nat) t v, Tryz.f7.params[j]? = some t → args[j]? = some v → Value.okWide Tryz.prog W .any base t v)
    (hW : DataW.Whole enc Tryz.prog Tryz.f7.params.toList Rows.printerAtomsSpec.vars false W args.toList ds gs before) (hcond : ∀ k, (Rows.OpenSpec.upto Rows.printerAtomsSpec).cond = some k → k H (ds ++ gs) = true) (hL : laidMetH Tryz.prog Rows.printerAtomsUptoRow.laid W) (hS : W.ShapedOpen Tryz.prog) :
    Calls Tryz.prog 7 args W fun e W' => ∃ v, e = .returned v ∧ Rows.printerAtomsSpec.post enc Tryz.prog Tryz.f7 false true false false W args v W' := by
  have hW' := hW
  obtain ⟨p, q, hA0, hV, rfl, hfz, hnd⟩ := hW
  have hA : DataW.TrodAll enc Tryz.prog W 0 (fun _ => true) true Tryz.f7.params.toList args.toList ds p := hA0
  rw [Tryz.params7] at hA hval
  obtain ⟨v0, vs0, d0, ds0, p0, q0, hargs, rfl, rfl, h0, r0⟩ := trodAll_cons hA
  obtain ⟨rfl, rfl, rfl⟩ := trodAll_nil r0
  obtain rfl : args = #[v0] := by cases args; simp_all
  obtain ⟨ag, ax, rfl, hax, Ia, Ga⟩ := open_am (hval 0 31 v0 rfl rfl) h0
  obtain ⟨rfl, rfl⟩ := trodVars_none hV
  have hB := bulk_bound (hcond _ rfl)
  simp only [List.cons_append, List.nil_append] at hB
  simp only [Rows.uptoBulkAll, Rows.uptoBulk, data_len] at hB
  refine (patoms_walk ag ax W hax Ia (by omega) (penv_of hL) (tab_of hL)).mono fun e W' ⟨he, hb⟩ => ⟨_, he, ?_⟩
  exact law_post laidOut (by kernel_rfl) (by kernel_rfl) Tryz.underlying4 rfl (fun ds h => by
    match ds, h with
    | [x0], _ => exact ⟨rfl, rfl, rfl⟩) hW' hb

theorem laid_met (os : Os) : laidMet Tryz.prog Rows.printerAtomsUptoRow.laid (({ World.holding Tryz.prog os ⟨#[.cells #[.string ⟨#[118, 97, 108, 117, 101, 32, 111, 117, 116, 32, 111, 102, 32, 114, 97, 110, 103, 101]⟩] 209, .cells #[.string ⟨#[105, 110, 118, 97, 108, 105, 100, 32, 115, 121, 110, 116, 97, 120]⟩] 209], #[], []⟩ with heap := ((((((((World.holding Tryz.prog os ⟨#[.cells #[.string ⟨#[118, 97, 108, 117, 101, 32, 111, 117, 116, 32, 111, 102, 32, 114, 97, 110, 103, 101]⟩] 209, .cells #[.string ⟨#[105, 110, 118, 97, 108, 105, 100, 32, 115, 121, 110, 116, 97, 120]⟩] 209], #[], []⟩).heap.modify 4 (lay cellsOfVar4)).modify 5 (lay cellsOfVar5)).modify 0 (lay cellsOfVar0)).modify 2 (lay cellsOfVar2)).modify 3 (lay cellsOfVar3)).modify 7 (lay #[.iface 207 (.pointer (some ⟨(World.holding Tryz.prog default ⟨#[], #[], []⟩).heap.size, 0, none⟩))])).modify 6 (lay #[.iface 207 (.pointer (some ⟨(World.holding Tryz.prog default ⟨#[], #[], []⟩).heap.size + 1, 0, none⟩))])) }).forCall (fun _ _ => 0) ⟨#[], #[.agg #[.string ⟨#[]⟩, .slice none 0 0]], []⟩).memory :=
  laidMet_of_run' 8 (by kernel_rfl) (by kernel_rfl)
theorem reads (os : Os) {H : Type} (enc : TypeId × Value → H) : ∃ places, DataW.whole enc Tryz.prog (({ World.holding Tryz.prog os ⟨#[.cells #[.string ⟨#[118, 97, 108, 117, 101, 32, 111, 117, 116, 32, 111, 102, 32, 114, 97, 110, 103, 101]⟩] 209, .cells #[.string ⟨#[105, 110, 118, 97, 108, 105, 100, 32, 115, 121, 110, 116, 97, 120]⟩] 209], #[], []⟩ with heap := ((((((((World.holding Tryz.prog os ⟨#[.cells #[.string ⟨#[118, 97, 108, 117, 101, 32, 111, 117, 116, 32, 111, 102, 32, 114, 97, 110, 103, 101]⟩] 209, .cells #[.string ⟨#[105, 110, 118, 97, 108, 105, 100, 32, 115, 121, 110, 116, 97, 120]⟩] 209], #[], []⟩).heap.modify 4 (lay cellsOfVar4)).modify 5 (lay cellsOfVar5)).modify 0 (lay cellsOfVar0)).modify 2 (lay cellsOfVar2)).modify 3 (lay cellsOfVar3)).modify 7 (lay #[.iface 207 (.pointer (some ⟨(World.holding Tryz.prog default ⟨#[], #[], []⟩).heap.size, 0, none⟩))])).modify 6 (lay #[.iface 207 (.pointer (some ⟨(World.holding Tryz.prog default ⟨#[], #[], []⟩).heap.size + 1, 0, none⟩))])) }).forCall (fun _ _ => 0) ⟨#[], #[.agg #[.string ⟨#[]⟩, .slice none 0 0]], []⟩).memory Tryz.f7.params.toList Rows.printerAtomsSpec.vars false #[Value.agg #[.string ⟨#[]⟩, .slice none 0 0]].toList 8 = some ([.agg [.lit (.string []), .nil]], [], places) :=
  ⟨[], by kernel_rfl⟩

set_option maxRecDepth 100000 in
theorem lifted (os : Os) (started : os.Started) (H : Type) (enc : TypeId × Value → H) (F : Stop.Interp) :
    ReturnsInHanded {} Tryz.checked os 7 .any ((Rows.OpenSpec.upto Rows.printerAtomsSpec).preRow enc Tryz.prog Tryz.f7 Rows.printerAtomsUptoRow.domain false Rows.printerAtomsUptoRow.laid) (((Rows.OpenSpec.upto Rows.printerAtomsSpec).at F).post enc Tryz.prog Tryz.f7 false true false false) := by
  obtain ⟨places, hx⟩ := reads os enc
  refine returnsInHanded_of_row (C := Tryz.checked) (s := (Rows.OpenSpec.upto Rows.printerAtomsSpec)) own started (by kernel_rfl) Tryz.func7
    (witness_row_at (enc := enc) (C := Tryz.checked) false ({ World.holding Tryz.prog os ⟨#[.cells #[.string ⟨#[118, 97, 108, 117, 101, 32, 111, 117, 116, 32, 111, 102, 32, 114, 97, 110, 103, 101]⟩] 209, .cells #[.string ⟨#[105, 110, 118, 97, 108, 105, 100, 32, 115, 121, 110, 116, 97, 120]⟩] 209], #[], []⟩ with heap := ((((((((World.holding Tryz.prog os ⟨#[.cells #[.string ⟨#[118, 97, 108, 117, 101, 32, 111, 117, 116, 32, 111, 102, 32, 114, 97, 110, 103, 101]⟩] 209, .cells #[.string ⟨#[105, 110, 118, 97, 108, 105, 100, 32, 115, 121, 110, 116, 97, 120]⟩] 209], #[], []⟩).heap.modify 4 (lay cellsOfVar4)).modify 5 (lay cellsOfVar5)).modify 0 (lay cellsOfVar0)).modify 2 (lay cellsOfVar2)).modify 3 (lay cellsOfVar3)).modify 7 (lay #[.iface 207 (.pointer (some ⟨(World.holding Tryz.prog default ⟨#[], #[], []⟩).heap.size, 0, none⟩))])).modify 6 (lay #[.iface 207 (.pointer (some ⟨(World.holding Tryz.prog default ⟨#[], #[], []⟩).heap.size + 1, 0, none⟩))])) }) #[.agg #[.string ⟨#[]⟩, .slice none 0 0]] rfl (by kernel_rfl) (by kernel_rfl) (by kernel_rfl)
      (OpenSpec.preRow_of_cond 8 hx (by kernel_rfl) (fun k hk => by cases hk; kernel_rfl) (by kernel_rfl) (laid_met os))) ?_
  intro W base args ds gs before hval hW _ hcond _ hL hS _
  exact contract H enc W base args ds gs before hval hW hcond hL hS

theorem said : Rows.PrinterAtomsUptoSaid :=
  OpenClaim.holds_of_cond 7 Tryz.f7 rfl rfl rfl rfl rfl rfl rfl ⟨rfl, rfl, rfl, rfl, rfl⟩ rfl rfl rfl rfl rfl (by kernel_rfl) Tryz.func7 (by kernel_rfl)
    (of_decide_eq_true (by kernel_rfl)) (by unfold Func.isWrapper; first | (rw [if_pos (by decide +kernel)]; kernel_rfl) | (rw [if_neg (by decide +kernel)]; exact ⟨rfl, rfl⟩))
    (fun os started H enc _ F => by rw [OpenClaim.pre_eq_preRow]; exact lifted os started H enc F)

theorem plain (f : FuncId) (fn : Func) (hf : Tryz.pinned.checked.prog.funcNamed "lambrequin/lambrequinlaw07.PrinterAtoms" = some f) (hfn : Tryz.pinned.checked.prog.funcs[f]? = some fn) :
    true = Tryz.pinned.checked.prog.looks [] ∧ ∀ (j : Nat) t, fn.params[j]? = some t → Tryz.pinned.checked.prog.wantsStandIn t = false := by
  obtain rfl : f = 7 := Option.some.inj ((show Tryz.prog.funcNamed "lambrequin/lambrequinlaw07.PrinterAtoms" = some 7 by kernel_rfl).symm.trans hf) |>.symm
  obtain rfl : fn = Tryz.f7 := (Option.some.inj (Tryz.func7.symm.trans hfn)).symm
  refine ⟨by kernel_rfl, fun j t ht => ?_⟩
  have hall : (Tryz.f7.params.all fun t => !Tryz.prog.wantsStandIn t) = true := by kernel_rfl
  have := Array.all_eq_true'.1 hall t (Array.mem_of_getElem? ht)
  exact (show Tryz.prog.wantsStandIn t = false by simpa using this)

/-- THE CARD. -/
theorem card : Rows.PrinterAtomsUptoCardSaid :=
  Claim7.holds_tied_plain_at .later [] _ _ _ _ said (fun _ h => by cases h) (by kernel_rfl) (fun _ h => by cases h) printerAtomsUpto_row_tie rfl ⟨rfl, rfl⟩ (by kernel_rfl) rfl plain (by kernel_rfl)
end Go.Proofs.YtbbmihojfcofdaaGreatDoor.printerAtoms
namespace Go.Proofs.YtbbmihojfcofdaaGreatDoor
/-- THE STATEMENT. -/
theorem printerAtoms_holds : Rows.PrinterAtomsUptoCardSaid := printerAtoms.card
end Go.Proofs.YtbbmihojfcofdaaGreatDoor
