/-
  ParseCuts' walk.
-/
import Derived.Test.YtfpamkijkaeafaaDoorGExt
import Derived.Test.YtfpamkijkaeafaaDoorGShown
namespace Go.Proofs.YtfpamkijkaeafaaDoor
set_option linter.unusedSimpArgs false
set_option linter.unusedVariables false
set_option linter.unusedSectionVars false
set_option maxRecDepth 100000
open Go.RowKit Go.Maps

theorem app_size (s : ByteArray) (l : List UInt8) : (s ++ ⟨l.toArray⟩ : ByteArray).size = s.size + l.length := by
  have h := ByteArray.size_append (a := s) (b := ⟨l.toArray⟩)
  have h2 : (⟨l.toArray⟩ : ByteArray).size = l.length := rfl
  rw [h, h2]
theorem scanAt_move (m : Nat) (l : List UInt8) : scanAt m l = (scanAt 0 l).move m := by
  have := scanF_move (l.length + 1) 0 m l
  rw [Nat.zero_add] at this
  exact this
/-- A text with a line's end and more behind it. -/
theorem line_scan {s : ByteArray} (h8 : s.size ≤ 8000) (hok : (scanR s).bad = 0) {u : List UInt8} (hu : u.length ≤ 10) {U : List Tk} (hU : scanAt 0 u = ⟨0, 0, U⟩) :
    scanR (s ++ ⟨(10 :: u).toArray⟩) = ⟨0, 0, (scanR s).toks ++ U.map (Tk.move (s.size + 1))⟩ := by
  have e1 : (s ++ ⟨(10 :: u).toArray⟩ : ByteArray).data.toList = s.data.toList ++ 10 :: u := by simp
  have e2 : (s ++ ⟨(10 :: u).toArray⟩ : ByteArray).size = s.size + 1 + u.length := by rw [app_size, List.length_cons]; omega
  have e3 : scanR s = scanAt 0 s.data.toList := by unfold scanR; rw [if_neg (by omega)]
  have e5 : scanR (s ++ ⟨(10 :: u).toArray⟩) = scanAt 0 (s.data.toList ++ 10 :: u) := by unfold scanR; rw [if_neg (by omega), e1]
  rw [e3] at hok ⊢
  rw [e5, scan_line u _ _ (Nat.le_refl _) 0, if_pos hok]
  have e4 : 0 + s.data.toList.length + 1 = s.size + 1 := by simp
  rw [e4, scanAt_move (s.size + 1), hU]
  simp [Res.app, Res.move]
theorem parse_ok_of {s : ByteArray} (h : (parseR s).bad = 0) : (scanR s).bad = 0 ∧ (progP (s.size : Int) (scanR s).toks).bad = 0 ∧ (parseR s).g = (progP (s.size : Int) (scanR s).toks).val := by
  unfold parseR at *
  split at h
  · rename_i h1
    rw [if_pos h1]
    unfold parseL at *
    split at h
    · rename_i h2
      rw [if_pos h2]
      exact ⟨h1, h2, rfl⟩
    · rename_i h2
      exact absurd h h2
  · rename_i h1
    exact absurd h h1
/-- With one more clause that can't be. -/
theorem cut_of {s : ByteArray} (h8 : s.size ≤ 8000) (hok : (parseR s).bad = 0) (hr : (parseR s).g.rules.length ≠ 400) {u : List UInt8} (hu : u.length ≤ 10) {U M : List Tk} (hU : scanAt 0 u = ⟨0, 0, U⟩) (hne : U ≠ [])
    (hs : ∀ e : Int, isMk [47] (atT e (U.map (Tk.move (s.size + 1))) 1) = false) (hR : ∀ e : Int, ruleP e (U.map (Tk.move (s.size + 1))) = ⟨2, Ru.zero, M⟩) :
    parseR (s ++ ⟨(10 :: u).toArray⟩) = ⟨2, (atT ((s.size + 1 + u.length : Nat) : Int) M 0).pl, Pr.zero⟩ := by
  obtain ⟨h1, h2, h3⟩ := parse_ok_of hok
  have e2 : (s ++ ⟨(10 :: u).toArray⟩ : ByteArray).size = s.size + 1 + u.length := by rw [app_size, List.length_cons]; omega
  have hsc := line_scan h8 h1 hu hU
  rw [h3] at hr
  have hp : progP ((s.size + 1 + u.length : Nat) : Int) ((scanR s).toks ++ U.map (Tk.move (s.size + 1))) = ⟨2, Pr.zero, M⟩ := by
    rw [progP_eq, progG_ext (s.size : Int) _ _ _ _ _ (Nat.le_refl _) h2]
    rw [progG_step _ _ (by simpa using hne)]
    have hc : clauseP ((s.size + 1 + u.length : Nat) : Int) (progG (s.size : Int) Pr.zero (scanR s).toks).val (U.map (Tk.move (s.size + 1))) = ⟨2, ⟨(progG (s.size : Int) Pr.zero (scanR s).toks).val.decls, (progG (s.size : Int) Pr.zero (scanR s).toks).val.rules ++ [Ru.zero]⟩, M⟩ := by
      unfold clauseP
      have hr' : ¬ (progG (s.size : Int) Pr.zero (scanR s).toks).val.rules.length = 400 := hr
      rw [if_neg (by rw [hs]; decide), if_neg hr', hR]
    rw [hc]
    rfl
  unfold parseR
  rw [hsc]
  simp only [if_true]
  unfold parseL
  rw [e2, hp]
  rfl
theorem cut_x {s : ByteArray} (h8 : s.size ≤ 8000) (hok : (parseR s).bad = 0) (hr : (parseR s).g.rules.length ≠ 400) : parseR (s ++ ⟨#[10, 120]⟩) = ⟨2, (s.size : Int) + 2, Pr.zero⟩ := by
  have h := cut_of h8 hok hr (u := [120]) (U := [⟨1, ⟨#[120]⟩, 0, false, 0⟩]) (M := []) (by decide) (by kernel_rfl) (by simp) (fun e => rfl) (fun e => rfl)
  have e : (atT ((s.size + 1 + ([120] : List UInt8).length : Nat) : Int) [] 0).pl = (s.size : Int) + 2 := by rw [atT_nil]; simp; omega
  rw [e] at h
  exact h
theorem cut_dot {s : ByteArray} (h8 : s.size ≤ 8000) (hok : (parseR s).bad = 0) (hr : (parseR s).g.rules.length ≠ 400) : parseR (s ++ ⟨#[10, 46]⟩) = ⟨2, (s.size : Int) + 1, Pr.zero⟩ := by
  have h := cut_of h8 hok hr (u := [46]) (U := [⟨4, ⟨#[46]⟩, 0, false, 0⟩]) (M := [⟨4, ⟨#[46]⟩, 0, false, 0 + ((s.size + 1 : Nat) : Int)⟩]) (by decide) (by kernel_rfl) (by simp) (fun e => rfl) (fun e => rfl)
  have e : (atT ((s.size + 1 + ([46] : List UInt8).length : Nat) : Int) [⟨4, ⟨#[46]⟩, 0, false, 0 + ((s.size + 1 : Nat) : Int)⟩] 0).pl = (s.size : Int) + 1 := by simp [atT]
  rw [e] at h
  exact h
theorem cut_rule {s : ByteArray} (h8 : s.size ≤ 8000) (hok : (parseR s).bad = 0) (hr : (parseR s).g.rules.length ≠ 400) : parseR (s ++ ⟨#[10, 120, 32, 58, 45, 32]⟩) = ⟨2, (s.size : Int) + 6, Pr.zero⟩ := by
  have h := cut_of h8 hok hr (u := [120, 32, 58, 45, 32]) (U := [⟨1, ⟨#[120]⟩, 0, false, 0⟩, ⟨4, ⟨#[58, 45]⟩, 0, false, 2⟩]) (M := []) (by decide) (by kernel_rfl) (by simp) (fun e => rfl) (fun e => rfl)
  have e : (atT ((s.size + 1 + ([120, 32, 58, 45, 32] : List UInt8).length : Nat) : Int) [] 0).pl = (s.size : Int) + 6 := by rw [atT_nil]; simp; omega
  rw [e] at h
  exact h

set_option maxHeartbeats 8000000 in
theorem cuts_walk (s : ByteArray) (w : World) (hs : s.size ≤ maxLen) (hE : PEnv w) :
    Calls Tryd.prog 3 #[.string s] w fun e w' => e = .returned (.bool true) ∧ Below w.heap.size w w' := by
  have HE := Lib.hid hE
  have hs' := hs
  unfold maxLen at hs'
  clear hE
  by_cases h8 : 8000 < s.size
  · have h8I : (8000 : Int) < (s.size : Int) := by omega
    go_enter Tryd.func3, Tryd.ntmps3
    go_wp2_with (go_at_call 6; refine (shown_any _ HE.out).mono ?_; rintro e w1 ⟨rfl, hb1⟩)
    go_ret
    exact ⟨rfl, hb1⟩
  have h8I : ¬ (8000 : Int) < (s.size : Int) := by omega
  have h8J : (s.size : Int) ≤ 8000 := by omega
  have HPA := Lib.hid (fun W (hW : PEnv W) => parse_any s W hW hs)
  have hx := fun h1 h2 => cut_x (s := s) (by omega) h1 h2
  have hd := fun h1 h2 => cut_dot (s := s) (by omega) h1 h2
  have hu := fun h1 h2 => cut_rule (s := s) (by omega) h1 h2
  have hzero := parseR_bad (s := s)
  have hmost := parseR_ok s
  obtain ⟨r, hr⟩ : ∃ r, r = parseR s := ⟨_, rfl⟩
  rw [← hr] at HPA hx hd hu hzero hmost
  simp only [ParseOut] at HPA
  obtain ⟨bd, pl, g⟩ := r
  simp only at HPA hx hd hu hzero hmost
  obtain ⟨m1, m2, -⟩ := hmost
  have m1I : (g.decls.length : Int) ≤ 400 := by omega
  have m2I : (g.rules.length : Int) ≤ 400 := by omega
  clear hr hs h8
  by_cases hbd : bd = 0
  · subst hbd
    by_cases hfull : 400 ≤ g.rules.length ∨ 400 ≤ g.decls.length
    · have hf : (400 ≤ g.rules.length) ∨ (¬ 400 ≤ g.rules.length ∧ 400 ≤ g.decls.length) := by omega
      clear hx hd hu hzero hfull
      rcases hf with hf | ⟨hf1, hf2⟩
      · have hfI : (400 : Int) ≤ (g.rules.length : Int) := by omega
        go_enter Tryd.func3, Tryd.ntmps3
        go_wp2_with (first
          | (go_at_call 6; refine (shown_any _ HE.out).mono ?_; rintro e w1 ⟨rfl, hb1⟩; have HB1 := Lib.hid hb1; clear hb1)
          | (go_at_call 7; refine (HPA.out _ (HE.out.below HB1.out)).mono ?_; rintro e w2 ⟨x, y, rfl, hb2, hd2, hu2⟩; obtain ⟨xo, xc, hx, -⟩ := hd2.cells; subst hx; obtain ⟨yo, yc, hy, -⟩ := hu2.cells; subst hy; have HB2 := Lib.hid (HB1.out.trans (hb2.mono HB1.out.size)); clear hb2 hd2 hu2 HPA))
        go_ret
        exact ⟨rfl, HB2.out.alloc HB2.out.size _⟩
      · have hfI : ¬ (400 : Int) ≤ (g.rules.length : Int) := by omega
        have hfJ : (400 : Int) ≤ (g.decls.length : Int) := by omega
        go_enter Tryd.func3, Tryd.ntmps3
        go_wp2_with (first
          | (go_at_call 6; refine (shown_any _ HE.out).mono ?_; rintro e w1 ⟨rfl, hb1⟩; have HB1 := Lib.hid hb1; clear hb1)
          | (go_at_call 7; refine (HPA.out _ (HE.out.below HB1.out)).mono ?_; rintro e w2 ⟨x, y, rfl, hb2, hd2, hu2⟩; obtain ⟨xo, xc, hx, -⟩ := hd2.cells; subst hx; obtain ⟨yo, yc, hy, -⟩ := hu2.cells; subst hy; have HB2 := Lib.hid (HB1.out.trans (hb2.mono HB1.out.size)); clear hb2 hd2 hu2 HPA))
        go_ret
        exact ⟨rfl, HB2.out.alloc HB2.out.size _⟩
    · have hfI : ¬ (400 : Int) ≤ (g.rules.length : Int) := by omega
      have hfJ : ¬ (400 : Int) ≤ (g.decls.length : Int) := by omega
      have hne : g.rules.length ≠ 400 := by omega
      have H1 : Hid (∀ W, PEnv W → Calls Tryd.prog 7 #[.string (s ++ ⟨#[10, 120]⟩)] W fun e w' => ParseOut W ⟨2, (s.size : Int) + 2, Pr.zero⟩ e w') := fun W hW => by
        rw [← hx rfl hne]
        exact parse_any _ W hW (by unfold maxLen; rw [show (⟨#[10, 120]⟩ : ByteArray) = ⟨([10, 120] : List UInt8).toArray⟩ from rfl, app_size]; simp; omega)
      have H2 : Hid (∀ W, PEnv W → Calls Tryd.prog 7 #[.string (s ++ ⟨#[10, 46]⟩)] W fun e w' => ParseOut W ⟨2, (s.size : Int) + 1, Pr.zero⟩ e w') := fun W hW => by
        rw [← hd rfl hne]
        exact parse_any _ W hW (by unfold maxLen; rw [show (⟨#[10, 46]⟩ : ByteArray) = ⟨([10, 46] : List UInt8).toArray⟩ from rfl, app_size]; simp; omega)
      have H3 : Hid (∀ W, PEnv W → Calls Tryd.prog 7 #[.string (s ++ ⟨#[10, 120, 32, 58, 45, 32]⟩)] W fun e w' => ParseOut W ⟨2, (s.size : Int) + 6, Pr.zero⟩ e w') := fun W hW => by
        rw [← hu rfl hne]
        exact parse_any _ W hW (by unfold maxLen; rw [show (⟨#[10, 120, 32, 58, 45, 32]⟩ : ByteArray) = ⟨([10, 120, 32, 58, 45, 32] : List UInt8).toArray⟩ from rfl, app_size]; simp; omega)
      simp only [ParseOut, Pr.zero] at H1 H2 H3
      clear hx hd hu hzero hfull hne
      go_enter Tryd.func3, Tryd.ntmps3
      go_wp2_with (first
        | (go_at_call 6; refine (shown_any _ HE.out).mono ?_; rintro e w1 ⟨rfl, hb1⟩; have HB1 := Lib.hid hb1; clear hb1)
        | (go_at_call 7; refine (HPA.out _ (HE.out.below HB1.out)).mono ?_; rintro e w2 ⟨x, y, rfl, hb2, hd2, hu2⟩; obtain ⟨xo, xc, hx, -⟩ := hd2.cells; subst hx; obtain ⟨yo, yc, hy, -⟩ := hu2.cells; subst hy; have HB2 := Lib.hid (HB1.out.trans (hb2.mono HB1.out.size)); have HB2' := Lib.hid (HB2.out.alloc HB2.out.size (.cells #[.slice xo g.decls.length xc, .slice yo g.rules.length yc] 26)); clear hb2 hd2 hu2 HPA)
        | (go_at_call 7; refine (H1.out _ (HE.out.below HB2'.out)).mono ?_; rintro e w3 ⟨x, y, rfl, hb3, hd3, hu3⟩; obtain ⟨xo3, xc3, hx3, -⟩ := hd3.cells; subst hx3; obtain ⟨yo3, yc3, hy3, -⟩ := hu3.cells; subst hy3; have HB3 := Lib.hid (HB2'.out.trans (hb3.mono HB2'.out.size)); have HB3' := Lib.hid (HB3.out.alloc HB3.out.size (.cells #[.slice xo3 0 xc3, .slice yo3 0 yc3] 26)); clear hb3 hd3 hu3 H1)
        | (go_at_call 7; refine (H2.out _ (HE.out.below HB3'.out)).mono ?_; rintro e w4 ⟨x, y, rfl, hb4, hd4, hu4⟩; obtain ⟨xo4, xc4, hx4, -⟩ := hd4.cells; subst hx4; obtain ⟨yo4, yc4, hy4, -⟩ := hu4.cells; subst hy4; have HB4 := Lib.hid (HB3'.out.trans (hb4.mono HB3'.out.size)); have HB4' := Lib.hid (HB4.out.alloc HB4.out.size (.cells #[.slice xo4 0 xc4, .slice yo4 0 yc4] 26)); clear hb4 hd4 hu4 H2)
        | (go_at_call 7; refine (H3.out _ (HE.out.below HB4'.out)).mono ?_; rintro e w5 ⟨x, y, rfl, hb5, hd5, hu5⟩; obtain ⟨xo5, xc5, hx5, -⟩ := hd5.cells; subst hx5; obtain ⟨yo5, yc5, hy5, -⟩ := hu5.cells; subst hy5; have HB5 := Lib.hid (HB4'.out.trans (hb5.mono HB4'.out.size)); clear hb5 hd5 hu5 H3))
      go_ret
      exact ⟨by first | rfl | simp, HB5.out.alloc HB5.out.size _⟩
  · have hbdI : ¬ (bd : Int) = 0 := by omega
    have hbdB : ((bd : Int) == 0) = false := by simpa using hbdI
    have hbdN : ((bd : Int) != 0) = true := by simp [bne, hbdB]
    obtain rfl := hzero hbd
    simp only [Pr.zero] at HPA
    clear hx hd hu hzero
    go_enter Tryd.func3, Tryd.ntmps3
    go_wp2_with (first
      | (go_at_call 6; refine (shown_any _ HE.out).mono ?_; rintro e w1 ⟨rfl, hb1⟩; have HB1 := Lib.hid hb1; clear hb1)
      | (go_at_call 7; refine (HPA.out _ (HE.out.below HB1.out)).mono ?_; rintro e w2 ⟨x, y, rfl, hb2, hd2, hu2⟩; obtain ⟨xo, xc, hx, -⟩ := hd2.cells; subst hx; obtain ⟨yo, yc, hy, -⟩ := hu2.cells; subst hy; have HB2 := Lib.hid (HB1.out.trans (hb2.mono HB1.out.size)); clear hb2 hd2 hu2 HPA))
    go_ret
    exact ⟨by first | rfl | simp, HB2.out.alloc HB2.out.size _⟩
end Go.Proofs.YtfpamkijkaeafaaDoor
