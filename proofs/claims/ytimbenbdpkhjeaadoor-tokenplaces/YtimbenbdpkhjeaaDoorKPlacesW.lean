/-
  TokenPlaces' walk.
-/
import Derived.Test.YtimbenbdpkhjeaaDoorKFacts
import Derived.Test.YtimbenbdpkhjeaaDoorKShown
namespace Go.Proofs.YtimbenbdpkhjeaaDoor
set_option linter.unusedSimpArgs false
set_option linter.unusedVariables false
set_option linter.unusedSectionVars false
set_option maxRecDepth 100000
open Go.RowKit

def padB (k : Nat) : ByteArray := ⟨(List.replicate k (32 : UInt8)).toArray⟩
theorem padB_size (k : Nat) : (padB k).size = k := by simp [padB, ByteArray.size]
theorem padB_next (k : Nat) : padB k ++ ⟨#[32]⟩ = padB (k + 1) := by
  apply Go.WideShapes.bytes_inj
  simp [padB, List.replicate_succ']
theorem pad_scan (s : ByteArray) (m : Nat) (hm : m ≤ 40) (hs : s.size ≤ 8000) : scanR (padB m ++ s) = (scanR s).move m := by
  have hz : (padB m ++ s).size = m + s.size := by rw [ByteArray.size_append, padB_size]
  unfold scanR
  rw [if_neg (by omega), if_neg (by omega)]
  have e : (padB m ++ s).data.toList = List.replicate m 32 ++ s.data.toList := by simp [padB]
  rw [e, scan_pad]
theorem scanR_pl_le (s : ByteArray) (hs : s.size ≤ 65536) : (scanR s).pl ≤ s.size := by
  unfold scanR
  rw [if_neg (by omega)]
  by_cases h : (scanAt 0 s.data.toList).bad = 0
  · rw [scanAt_pl _ _ h]; omega
  · have := (scanF_err _ _ _ h).2
    simp at this
    exact this
/-- What TokenPlaces asks of the k-th token. -/
theorem rise_at {s : ByteArray} {T : List Tk} (hs : s.size ≤ 65536) (hT : T = (scanR s).toks) (k : Nat) (hk : k < T.length) : 0 ≤ T[k].pl ∧ T[k].pl < (s.size : Int) ∧ ∀ j (hj : j < k), (T[j]'(by omega)).pl < T[k].pl := by
  have h := scanF_rise (s.data.toList.length + 1) 0 s.data.toList
  have e : (scanR s).toks = (scanF (s.data.toList.length + 1) 0 s.data.toList).toks := by unfold scanR; rw [if_neg (by omega)]; rfl
  rw [← e, ← hT] at h
  obtain ⟨h1, h2⟩ := h
  have := h1 _ (List.getElem_mem hk)
  simp at this
  exact ⟨by omega, by omega, fun j hj => (List.pairwise_iff_getElem.1 h2) j k (by omega) hk hj⟩

set_option maxHeartbeats 4000000 in
theorem places_walk (s : ByteArray) (n : Int) (w : World) (hs : s.size ≤ maxLen) (ln : 0 ≤ n) (un : n ≤ 255) (hE : Env w) (hT : Tab w) :
    Calls Tryd.prog 7 #[.string s, .int .u8 n] w fun e w' => e = .returned (.bool true) ∧ Below w.heap.size w w' := by
  unfold maxLen at hs
  have HE := Lib.hid hE
  have HT := Lib.hid hT
  clear hE hT
  by_cases h8 : 8000 < s.size
  · have h8I : (8000 : Int) < (s.size : Int) := by omega
    go_enter Tryd.func7, Tryd.ntmps7
    go_wp2_with (go_at_call 10; refine (shown_any _ HE.out HT.out).mono ?_; rintro e w1 ⟨rfl, hb1⟩)
    go_ret
    exact ⟨rfl, hb1⟩
  have h8I : ¬ (8000 : Int) < (s.size : Int) := by omega
  have h8J : (s.size : Int) ≤ 8000 := by omega
  obtain ⟨M, hM⟩ : ∃ M : Nat, n % 40 = (M : Int) := ⟨(n % 40).toNat, by omega⟩
  have hM40 : (M : Int) < 40 := by omega
  have hMt : n.tmod 40 = (M : Int) := by rw [Int.tmod_eq_emod_of_nonneg ln]; exact hM
  have HM : Hid (M ≤ 40) := by show M ≤ 40; omega
  have hMu : IntKind.u8.wrap (M : Int) = (M : Int) := by simp [IntKind.wrap, IntKind.signed, IntKind.bits]; omega
  obtain ⟨r, hr⟩ : ∃ r, r = scanR s := ⟨_, rfl⟩
  have HSC := Lib.hid (fun W (hW : Env W) => scan_any s W hW)
  have HSD := Lib.hid (fun W (hW : Env W) => scan_any (padB M ++ s) W hW)
  have HLN : Hid (r.toks.length ≤ 65536) := by rw [hr]; exact scanR_len s
  have hpl : r.pl ≤ s.size := by rw [hr]; exact scanR_pl_le s (by omega)
  have HRI : Hid (∀ k (hk : k < r.toks.length), 0 ≤ r.toks[k].pl ∧ r.toks[k].pl < (s.size : Int) ∧ ∀ j (hj : j < k), (r.toks[j]'(by omega)).pl < r.toks[k].pl) := fun k hk => rise_at (by omega) (by rw [hr]) k hk
  unfold ScanOut at HSC HSD
  rw [pad_scan s M HM.out (by omega)] at HSD
  rw [← hr] at HSC HSD
  obtain ⟨bd, pl, T⟩ := r
  simp only [Res.move] at HSC HSD HLN HRI hpl
  clear hr h8 hM
  by_cases hbd : bd = 0
  · subst hbd
    rw [if_pos rfl] at HSD
    go_enter Tryd.func7, Tryd.ntmps7
    go_wp2_with (go_at_call 10; refine (shown_any _ HE.out HT.out).mono ?_; rintro e w1 ⟨rfl, hb1⟩; have HB1 := Lib.hid hb1; clear hb1)
    go_loopw [6, 7] (fun pv i wr => ∃ k : Nat, k ≤ M ∧ pv = .string (padB k) ∧ i = .int .i64 k ∧ wr = w1) (fun _ i _ => M - (intOf i).toNat)
    case atStart => exact ⟨0, Nat.zero_le _, rfl, rfl, rfl⟩
    case round =>
      obtain ⟨k, hk, rfl, rfl, rfl⟩ := hrel
      have hks := padB_size k
      have HPN := Lib.hid (padB_next k)
      by_cases hlt : k < M
      · have hltI : (k : Int) < (M : Int) := by omega
        obtain ⟨x, hx⟩ : ∃ x, x = padB k := ⟨_, rfl⟩
        rw [← hx] at hks HPN ⊢
        have hxs : (x.size : Int) ≤ 40 := by omega
        clear hx
        go_wp2
        go_roundw
        case rel => exact ⟨k + 1, by omega, by rw [← HPN.out], by go_num, by first | rfl | trivial⟩
        case measure => simp [intOf]; omega
      · have hltI : ¬ (k : Int) < (M : Int) := by omega
        obtain rfl : k = M := by omega
        have hks2 : ((padB k).size : Int) ≤ 40 := by omega
        have HLL : Hid ((T.map (Tk.move k)).length = T.length) := by simp [Hid]
        have HMV : Hid (∀ (i : Nat) (t : Tk), T[i]? = some t → (T.map (Tk.move k))[i]? = some (t.move k)) := fun i t hi => by simp [hi]
        obtain ⟨T2, hT2⟩ : ∃ T2, T2 = T.map (Tk.move k) := ⟨_, rfl⟩
        simp only [← hT2] at HSD HLL HMV
        obtain ⟨x, hx⟩ : ∃ x, x = padB k := ⟨_, rfl⟩
        rw [← hx] at hks hks2 HSD ⊢
        clear hx hT2 HPN
        have h65 := HLN.out
        have h65b := HLL.out
        go_wp2_with (first
          | (go_at_call 11; refine (HSC.out _ (HE.out.below HB1.out)).mono ?_; rintro e w2 ⟨v, rfl, hb2, ho2⟩; have HX := Lib.hid (ho2.tks (by (unfold maxLen; omega))); obtain ⟨ao, cap, rfl, hcap, hmx⟩ := HX.out.form; have HB2 : Hid (Below w.heap.size w w2) := HB1.out.trans (hb2.mono HB1.out.size); clear hb2 ho2 HSC)
          | (go_at_call 11; refine (HSD.out _ (HE.out.below HB2.out)).mono ?_; rintro e w3 ⟨v2, rfl, hb3, ho3⟩; have HY := Lib.hid (ho3.tks (by (unfold maxLen; omega))); obtain ⟨ao2, cap2, rfl, hcap2, hmx2⟩ := HY.out.form; have HX3 := Lib.hid (HX.out.below hb3); have HB3 : Hid (Below w.heap.size w w3) := HB2.out.trans (hb3.mono HB2.out.size); clear hb3 ho3; rw [h65b] at hcap2 hmx2))
        unfold maxLen at hmx hmx2
        go_loopw [14] (fun i wr => ∃ j : Nat, j ≤ T.length ∧ i = .int .i64 j ∧ Hid (Below w3.heap.size w3 wr)) (fun i _ => T.length - (intOf i).toNat)
        case atStart => exact ⟨0, Nat.zero_le _, rfl, Below.refl _ _⟩
        case round =>
          obtain ⟨j, hj, rfl, HB⟩ := hrel
          by_cases hlt2 : j < T.length
          · have hlt2I : (j : Int) < (T.length : Int) := by omega
            have hjb : (j : Int) ≤ 65536 := by omega
            obtain ⟨ao', cap', e', -, -, hcells⟩ := HX3.out.below HB.out
            cases e'
            obtain ⟨b, off, rfl, hbl, -, -, -, -, c4⟩ := hcells j hlt2
            have hlt3 : j < T2.length := by omega
            obtain ⟨ao'', cap'', e'', -, -, hcells2⟩ := HY.out.below HB.out
            cases e''
            obtain ⟨b2, off2, rfl, hbl2, -, -, -, -, d4⟩ := hcells2 j hlt3
            have hmv : T2[j] = (T[j]).move k := by
              have h := HMV.out j T[j] (List.getElem?_eq_getElem hlt2)
              rw [List.getElem?_eq_getElem hlt3] at h
              exact Option.some.inj h
            rw [hmv] at d4
            obtain ⟨z1, z2, z3⟩ := HRI.out j hlt2
            obtain ⟨P, hP⟩ : ∃ P, P = T[j].pl := ⟨_, rfl⟩
            have d4' : wr.cell? ⟨b2, off2 + j * 5 + 4, none⟩ = some (.int .i64 (T[j].pl + (k : Int))) := d4
            rw [← hP] at c4 z1 z2 z3 d4'
            obtain ⟨Z, hZ⟩ : ∃ Z, P + (k : Int) = Z := ⟨_, rfl⟩
            rw [hZ] at d4'
            have hZw : IntKind.i64.wrap (P + (k : Int)) = Z := by rw [IntKind.wrap_i64]; omega
            have hZw2 : IntKind.i64.wrap Z = Z := by rw [IntKind.wrap_i64]; omega
            have g0 : ¬ P < 0 := by omega
            have g0d : decide (P < 0) = false := decide_eq_false g0
            have g1 : ¬ (s.size : Int) ≤ P := by omega
            have g1d : decide ((s.size : Int) ≤ P) = false := decide_eq_false g1
            have hxk : (x.size : Int) = (k : Int) := by omega
            have HR : Hid (Below w3.heap.size w3 wr) := HB
            clear d4 hmv hP
            by_cases hj0 : j = 0
            · subst hj0
              clear hcells hcells2 z3
              go_wp2_with fail
              go_quiet (fail)
              go_wp2
              go_roundw
              case rel => exact ⟨0 + 1, by omega, by go_num, HB.out.trans ((below_drewN wr nq).mono HB.out.size)⟩
              case measure => simp [intOf]; omega
            · obtain ⟨j0, rfl⟩ : ∃ j0, j = j0 + 1 := ⟨j - 1, by omega⟩
              obtain ⟨b3, off3, e3, hbl3, -, -, -, -, f4⟩ := hcells j0 (by omega)
              cases e3
              have z3' := z3 j0 (by omega)
              obtain ⟨Q, hQ⟩ : ∃ Q, Q = (T[j0]'(by omega)).pl := ⟨_, rfl⟩
              rw [← hQ] at f4 z3'
              have g2 : ¬ P ≤ Q := by omega
              have g2d : decide (P ≤ Q) = false := decide_eq_false g2
              have hjp : ((j0 + 1 : Nat) : Int) - 1 = (j0 : Int) := by omega
              have hjw : IntKind.i64.wrap (((j0 + 1 : Nat) : Int) - 1) = (j0 : Int) := by rw [IntKind.wrap_i64]; omega
              have hjpos : (0 : Int) < ((j0 + 1 : Nat) : Int) := by omega
              have hjposd : decide ((0 : Int) < ((j0 + 1 : Nat) : Int)) = true := decide_eq_true hjpos
              have hj0l : (j0 : Int) < (T.length : Int) := by omega
              have hj0w : IntKind.i64.wrap (j0 : Int) = (j0 : Int) := by rw [IntKind.wrap_i64]; omega
              have hj0n : (0 : Int) ≤ (j0 : Int) := Int.natCast_nonneg _
              obtain ⟨j1, hj1⟩ : ∃ j1, j1 = j0 + 1 := ⟨_, rfl⟩
              rw [← hj1] at hjp hjw hjpos hjposd hlt2I hjb c4 d4' ⊢
              have HJ1 := Lib.hid hj1
              have hjN : 0 < j1 := by omega
              have hjNd : decide (0 < j1) = true := decide_eq_true hjN
              clear hQ z3 z3' hcells hcells2 hj1
              go_wp2_with fail
              go_quiet (fail)
              go_wp2
              go_roundw
              case rel => exact ⟨j1 + 1, by (have := HJ1.out; omega), by go_num, HB.out.trans ((below_drewN wr nq).mono HB.out.size)⟩
              case measure => simp [intOf]; have := HJ1.out; omega
          · have hlt2I : ¬ (j : Int) < (T.length : Int) := by omega
            go_wp2
            go_ret
            exact ⟨rfl, HB3.out.trans (HB.out.mono HB3.out.size)⟩
  · rw [if_neg hbd] at HSD
    have hbdI : ¬ (bd : Int) = 0 := by omega
    have hbdB : ((bd : Int) == 0) = false := by simpa using hbdI
    obtain ⟨N2, hN2⟩ : ∃ N2, N2 = pl + M := ⟨_, rfl⟩
    rw [← hN2] at HSD
    have hN2I : (pl : Int) + (M : Int) = (N2 : Int) := by omega
    have hplI : (pl : Int) ≤ 8000 := by omega
    clear HRI hN2 hpl hbd
    go_enter Tryd.func7, Tryd.ntmps7
    go_wp2_with (go_at_call 10; refine (shown_any _ HE.out HT.out).mono ?_; rintro e w1 ⟨rfl, hb1⟩; have HB1 := Lib.hid hb1; clear hb1)
    go_loopw [6, 7] (fun pv i wr => ∃ k : Nat, k ≤ M ∧ pv = .string (padB k) ∧ i = .int .i64 k ∧ wr = w1) (fun _ i _ => M - (intOf i).toNat)
    case atStart => exact ⟨0, Nat.zero_le _, rfl, rfl, rfl⟩
    case round =>
      obtain ⟨k, hk, rfl, rfl, rfl⟩ := hrel
      have hks := padB_size k
      have HPN := Lib.hid (padB_next k)
      by_cases hlt : k < M
      · have hltI : (k : Int) < (M : Int) := by omega
        obtain ⟨x, hx⟩ : ∃ x, x = padB k := ⟨_, rfl⟩
        rw [← hx] at hks HPN ⊢
        have hxs : (x.size : Int) ≤ 40 := by omega
        clear hx
        go_wp2
        go_roundw
        case rel => exact ⟨k + 1, by omega, by rw [← HPN.out], by go_num, by first | rfl | trivial⟩
        case measure => simp [intOf]; omega
      · have hltI : ¬ (k : Int) < (M : Int) := by omega
        obtain rfl : k = M := by omega
        have hks2 : ((padB k).size : Int) ≤ 40 := by omega
        obtain ⟨x, hx⟩ : ∃ x, x = padB k := ⟨_, rfl⟩
        rw [← hx] at hks hks2 HSD ⊢
        clear hx HPN
        clear hltI hlt hk
        go_wp2_with (first
          | (go_at_call 11; refine (HSC.out _ (HE.out.below HB1.out)).mono ?_; rintro e w2 ⟨v, rfl, hb2, ho2⟩; have HB2 : Hid (Below w.heap.size w w2) := HB1.out.trans (hb2.mono HB1.out.size); clear hb2 ho2 HSC)
          | (go_at_call 11; refine (HSD.out _ (HE.out.below HB2.out)).mono ?_; rintro e w3 ⟨v2, rfl, hb3, ho3⟩; have HB3 : Hid (Below w.heap.size w w3) := HB2.out.trans (hb3.mono HB2.out.size); clear hb3 ho3))
        go_ret
        exact ⟨rfl, HB3.out⟩
end Go.Proofs.YtimbenbdpkhjeaaDoor
