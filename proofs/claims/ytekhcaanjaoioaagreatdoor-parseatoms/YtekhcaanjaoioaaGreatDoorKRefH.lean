/-
  Contract of the document's one (lambrequinref05): all of it.
-/
import Derived.Test.YtekhcaanjaoioaaGreatDoorKRefE
import Derived.Test.YtekhcaanjaoioaaGreatDoorKRefG
import Derived.Test.YtekhcaanjaoioaaGreatDoorKRefB
import Derived.Test.YtekhcaanjaoioaaGreatDoorKScan
namespace Go.Proofs.YtekhcaanjaoioaaGreatDoor
set_option linter.unusedSimpArgs false
set_option linter.unusedVariables false
set_option linter.unusedSectionVars false
set_option maxRecDepth 100000
open Go.RowKit

theorem oneL_atR {s : ByteArray} {p : Nat} (hp : p < s.size) : oneL (s.data.toList.drop p) =
    if smallQ s[p] then nameL 1 (s.data.toList.drop p) else if greatQ s[p] then nameL 2 (s.data.toList.drop p) else if s[p] = 39 then quoL (s.data.toList.drop p)
    else if (figureQ s[p] || (s[p] == 45 && decide (0 < runLen figureQ (s.data.toList.drop (p + 1))))) = true then numL (s.data.toList.drop p) else markL (s.data.toList.drop p) := by
  unfold oneL oneC
  have e1 : (s.data.toList.drop p).headD 0 = s[p] := by rw [drop_at hp]; rfl
  rw [e1, List.tail_drop]
theorem rone_any (s : ByteArray) (p : Nat) (w : World) (hs : s.size ≤ 65536) (hp : p < s.size) :
    Calls Tryz.prog 23 #[.string s, .int .i64 (p : Int)] w fun e w' => RGot (oneL (s.data.toList.drop p)) p w e w' := by
  rw [oneL_atR hp]
  cases h1 : smallQ s[p]
  case true => rw [if_pos rfl]; exact rone_name1 s p w hs hp h1
  rw [if_neg (by decide)]
  cases h2 : greatQ s[p]
  case true => rw [if_pos rfl]; exact rone_name2 s p w hs hp h2
  rw [if_neg (by decide)]
  by_cases h39 : s[p] = 39
  · rw [if_pos h39, quoL_of]; exact rone_quo s p w hs hp h39
  rw [if_neg h39]
  cases h3 : figureQ s[p]
  case true => rw [Bool.true_or, if_pos rfl]; exact rone_fig s p w hs hp h3
  rw [Bool.false_or]
  by_cases n45 : s[p] = 45
  · by_cases hf : ∃ h : p + 1 < s.size, figureQ s[p + 1] = true
    · obtain ⟨hp2, hf⟩ := hf
      have hr : 0 < runLen figureQ (s.data.toList.drop (p + 1)) := by rw [runLen_yes hp2 hf]; omega
      have e45 : (s[p] == 45) = true := by simpa using n45
      rw [e45, decide_eq_true hr, Bool.true_and, if_pos rfl]
      exact rone_low s p w hs hp n45 hp2 hf
    · have hno : ∀ h : p + 1 < s.size, figureQ s[p + 1] = false := fun h => by
        cases hq : figureQ s[p + 1]
        · rfl
        · exact absurd ⟨h, hq⟩ hf
      have hr : ¬ 0 < runLen figureQ (s.data.toList.drop (p + 1)) := by
        by_cases h : p + 1 < s.size
        · rw [runLen_no h (hno h)]; omega
        · rw [runLen_end (by omega)]; omega
      rw [decide_eq_false hr, Bool.and_false, if_neg (by decide)]
      exact rone_m45 s p w hs hp n45 hno
  have e45 : (s[p] == 45) = false := by simpa using n45
  rw [e45, Bool.false_and, if_neg (by decide)]
  by_cases n40 : s[p] = 40
  · exact rone_m40 s p w hs hp n40
  by_cases n41 : s[p] = 41
  · exact rone_m41 s p w hs hp n41
  by_cases n44 : s[p] = 44
  · exact rone_m44 s p w hs hp n44
  by_cases n46 : s[p] = 46
  · exact rone_m46 s p w hs hp n46
  by_cases n47 : s[p] = 47
  · exact rone_m47 s p w hs hp n47
  by_cases n60 : s[p] = 60
  · exact rone_m60 s p w hs hp n60
  by_cases n62 : s[p] = 62
  · exact rone_m62 s p w hs hp n62
  by_cases n61 : s[p] = 61
  · exact rone_m61 s p w hs hp n61
  by_cases n58 : s[p] = 58
  · exact rone_m58 s p w hs hp n58
  by_cases n33 : s[p] = 33
  · exact rone_m33 s p w hs hp n33
  exact rone_none s p w hs hp h1 h2 h3 h39 n40 n41 n44 n46 n47 n60 n62 n61 n58 n33 n45
end Go.Proofs.YtekhcaanjaoioaaGreatDoor

/-
  Contract of the document's Scan (lambrequinref05): as the program's.
-/
namespace Go.Proofs.YtekhcaanjaoioaaGreatDoor
set_option linter.unusedSimpArgs false
set_option linter.unusedVariables false
set_option linter.unusedSectionVars false
set_option maxRecDepth 100000
open Go.RowKit

theorem rone_good {s : ByteArray} {p : Nat} (hs : s.size ≤ 65536) (hp : p < s.size) {kd : Int} {st : ByteArray} {nn : Int} {qq : Bool} {pp : Int} {ln : Nat} (hg : oneL (s.data.toList.drop p) = ⟨0, ⟨kd, st, nn, qq, pp⟩, ln⟩) (w : World) :
    Calls Tryz.prog 23 #[.string s, .int .i64 (p : Int)] w fun e w' => e = .returned (.agg #[.int .i64 kd, .string st, .int .i64 nn, .bool qq, .int .i64 pp, .int .i64 ((p + ln : Nat) : Int), .int .i64 0]) ∧ Below w.heap.size w w' := by
  have h := rone_any s p w hs hp
  rw [hg] at h
  exact h
theorem rone_bad {s : ByteArray} {p : Nat} (hs : s.size ≤ 65536) (hp : p < s.size) {bd : Nat} {kd : Int} {st : ByteArray} {nn : Int} {qq : Bool} {pp : Int} {ln : Nat} (hg : oneL (s.data.toList.drop p) = ⟨bd, ⟨kd, st, nn, qq, pp⟩, ln⟩) (hb : bd ≠ 0) (w : World) :
    Calls Tryz.prog 23 #[.string s, .int .i64 (p : Int)] w fun e w' => e = .returned (.agg #[.int .i64 kd, .string st, .int .i64 nn, .bool qq, .int .i64 pp, .int .i64 0, .int .i64 (bd : Int)]) ∧ Below w.heap.size w w' := by
  have h := rone_any s p w hs hp
  rw [hg] at h
  refine h.mono ?_
  rintro e w' ⟨rfl, h⟩
  refine ⟨?_, h⟩
  simp only [gotC, if_neg hb]
  rfl
theorem below_drewNR {B : Nat} {a w : World} (h : Below B a w) (n : Nat) : Below B a (w.drewN n) := h.trans ⟨rfl, rfl, rfl, Nat.le_refl _, fun _ _ => rfl⟩
theorem two_al (w : World) (o o' : Obj) : Below w.heap.size w ((w.alloc o).alloc o') := (al_below w o).alloc (by simp) _
/-- Behind an append of a token: the list, old memory, and a cell beside it. -/
theorem tok_append2 {n : Nat} {w3 Wa w4 : World} {o : Obj} {v v' : Value} {T : List Tk} {t : Tk} (hn : n ≤ w3.heap.size) (hO : TkOwn w3 n v T) (hbw : Below w3.heap.size w3 Wa) {u : Value} (hG : Wa.cell? ⟨w3.heap.size, 5, none⟩ = some u) (hlt : w3.heap.size < Wa.heap.size) (hown' : w4.ownsRow n 62 5 v' (T.length + 1) (T.flatMap Tk.cells ++ t.cells)) (hg : (Wa.alloc o).grownBy w4 v.ownBlock) :
    TkOwn w4 n v' (T ++ [t]) ∧ Below n w3 w4 ∧ w4.cell? ⟨w3.heap.size, 5, none⟩ = some u := by
  obtain ⟨h1, h2⟩ := tok_append hn hO hbw hown' hg
  refine ⟨h1, h2, ?_⟩
  have hne : some w3.heap.size ≠ v.ownBlock := fun e => by
    have := (World.ownsRow.lt hO _ e.symm).2
    omega
  have e1 : w4.heap[w3.heap.size]? = Wa.heap[w3.heap.size]? := (hg.block _ (by simp; omega) hne).trans (Below.heap_alloc Wa o _ hlt)
  rw [← hG]
  simp only [World.cell?]
  rw [e1]

/-- The state of Scan's loop: at p, the tokens T in v. -/
structure ScRf (s : ByteArray) (w wr : World) (v : Value) (p : Nat) (T : List Tk) : Prop where
  own : TkOwn wr w.heap.size v T
  at_ : SAt s p T
  bel : Below w.heap.size w wr

theorem rscan_long (s : ByteArray) (w : World) (hs : 65536 < s.size) :
    Calls Tryz.prog 11 #[.string s] w fun e w' => ScanOut s w e w' := by
  have hI : (65536 : Int) < (s.size : Int) := by omega
  have HR : Hid (scanR s = ⟨4, 0, []⟩) := by show scanR s = _; unfold scanR; rw [if_pos hs]
  clear hs
  go_enter Tryz.func11, Tryz.ntmps11
  go_wp2
  exact bodyPost_ret (v := .tuple #[.slice none 0 0, .int .i64 0, .int .i64 4]) (by simp [results, Tryz.results11, go_sem]) rfl ⟨.slice none 0 0, by rw [HR.out]; rfl, Below.refl _ _, by rw [HR.out]; exact TkOwn.nil _ _⟩

set_option maxHeartbeats 4000000 in
theorem rscan_short (s : ByteArray) (w : World) (hs : s.size ≤ 65536) :
    Calls Tryz.prog 11 #[.string s] w fun e w' => ScanOut s w e w' := by
  obtain ⟨i0, hi, hz0, hz1, hz2⟩ := info_parts infoTok
  have hI : ¬ (65536 : Int) < (s.size : Int) := by omega
  have i3 : (s.size : Int) ≤ 65536 := by omega
  have HR : Hid (scanR s = scanAt 0 s.data.toList) := by show scanR s = _; unfold scanR; rw [if_neg (by omega)]
  have HSZ := Lib.hid hs
  have hk0 := rskip_any s 0 w hs (Nat.zero_le _)
  rw [List.drop_zero, Nat.zero_add] at hk0
  have hk0' : Calls Tryz.prog 22 #[.string s, .int .i64 0] w fun e w' => e = .returned (.int .i64 ((skipS false s.data.toList : Nat) : Int)) ∧ w' = w := hk0
  have HS0 : Hid (ScRf s w w (.slice none 0 0) (skipS false s.data.toList) []) := ⟨TkOwn.nil _ _, SAt.start s, Below.refl _ _⟩
  obtain ⟨p0, hp0⟩ : ∃ p0, p0 = skipS false s.data.toList := ⟨_, rfl⟩
  rw [← hp0] at hk0' HS0
  have HK0 := Lib.hid hk0'
  clear hk0 hk0' hp0 hs
  go_enter Tryz.func11, Tryz.ntmps11
  go_wp2_with (go_at_call 22; refine (HK0.out).mono ?_; rintro e w1 ⟨rfl, hw1⟩; obtain rfl : w = w1 := hw1.symm)
  go_loopw [5, 6] (fun xv av wr => ∃ (v : Value) (p : Nat) (T : List Tk), v = xv ∧ av = .int .i64 (p : Int) ∧ Hid (ScRf s w wr v p T)) (fun _ av _ => s.size - (intOf av).toNat)
  case atStart => exact ⟨_, _, [], rfl, rfl, HS0⟩
  case round =>
    clear HS0 HK0
    obtain ⟨v, p, T, hv, rfl, HS⟩ := hrel
    subst hv
    by_cases hlt : p < s.size
    · have hltI : (p : Int) < (s.size : Int) := by omega
      obtain ⟨g, hg⟩ : ∃ g, g = oneL (s.data.toList.drop p) := ⟨_, rfl⟩
      obtain ⟨bd, ⟨kd, st, nn, qq, pp⟩, ln⟩ := g
      have hgb : (oneL (s.data.toList.drop p)).bad = bd := by rw [← hg]
      by_cases hbd : bd = 0
      · subst hbd
        obtain ⟨hp1, hpl, hN⟩ := HS.out.at_.next hlt hgb (p1 := p + ln) (by rw [← hg])
        rw [← hg] at hN
        have HONE := Lib.hid (fun W => rone_good HSZ.out hlt hg.symm W)
        obtain ⟨p1, hp1e⟩ : ∃ p1, p1 = p + ln := ⟨_, rfl⟩
        rw [← hp1e] at hp1 hpl hN HONE
        have HSK := Lib.hid (fun W => rskip_any s p1 W HSZ.out hp1)
        have HNX := Lib.hid hN
        have HPL := Lib.hid hpl
        have HLT := Lib.hid hlt
        obtain ⟨q, hq⟩ : ∃ q, q = p1 + skipS false (s.data.toList.drop p1) := ⟨_, rfl⟩
        rw [← hq] at HSK HNX
        have HQ : Hid (p1 ≤ q) := by show p1 ≤ q; omega
        have hTl : T.length ≤ 65536 := by have := HS.out.at_.2.1; have := HSZ.out; omega
        clear hN hp1 hpl hg hgb hlt hq hp1e
        go_wp2_with (first
          | (go_at_call 23; refine (HONE.out _).mono ?_; rintro e w3 ⟨rfl, hb3⟩; have HO3 := Lib.hid (HS.out.own.below hb3); have HB3 := Lib.hid (HS.out.bel.trans (hb3.mono HS.out.bel.size)); have hn3 : w.heap.size ≤ w3.heap.size := HB3.out.size; clear hb3 HONE)
          | (at_builtin; refine wpList_append_own _ rfl _ _ 52 rfl w.heap.size 62 i0 _ 5 48 Tryz.underlying52 hi hz0 hz1 hz2 rfl (by decide) _ T.length (T.flatMap Tk.cells) rfl (World.ownsRow.alloc (HO3.out.below (two_al w3 _ _)) _) ⟨w3.heap.size + 2, 0, none⟩ 1 1 (Tk.put ⟨kd, st, nn, qq, pp⟩ p).cells rfl rfl (five_at (by simp) (Tk.put ⟨kd, st, nn, qq, pp⟩ p) _) (tk_oneCell _) (by unfold maxLen; omega) (by omega) (by simp; omega) ?_; intro v' w4 hown4 hg4 hnil4; obtain ⟨ho4, hb4, d5⟩ := tok_append2 hn3 HO3.out (two_al w3 _ _) (u := .int .i64 (p1 : Int)) (by simp) (by simp; omega) hown4 hg4; have HO4 := Lib.hid ho4; have HB4 := Lib.hid (HB3.out.trans hb4); clear hown4 hg4 hnil4 ho4 hb4)
          | (go_at_call 22; refine (HSK.out _).mono ?_; rintro e w5 ⟨rfl, rfl⟩))
        go_roundw
        case rel => exact ⟨_, q, _, rfl, rfl, HO4.out, HNX.out, HB4.out⟩
        case measure => simp [intOf]; have := HPL.out; have := HLT.out; have := HQ.out; omega
      · have hbdI : ¬ (bd : Int) = 0 := by omega
        have hbdB : ((bd : Int) == 0) = false := by simpa using hbdI
        have hbdN : ((bd : Int) != 0) = true := by simp [bne, hbdB]
        have HONE := Lib.hid (fun W => rone_bad HSZ.out hlt hg.symm hbd W)
        have HX : Hid (scanR s = ⟨bd, p, []⟩) := by show scanR s = _; rw [HR.out, HS.out.at_.bad hlt (by rw [hgb]; exact hbd), hgb]
        clear hg hgb
        go_wp2_with (go_at_call 23; refine (HONE.out _).mono ?_; rintro e w3 ⟨rfl, hb3⟩; have HB3 := Lib.hid (HS.out.bel.trans (hb3.mono HS.out.bel.size)); clear hb3 HONE)
        go_quiet (fail)
        go_wp2
        refine bodyPost_ret (v := .tuple #[.slice none 0 0, .int .i64 (p : Int), .int .i64 (bd : Int)]) (by simp [results, Tryz.results11, go_sem]) rfl ?_
        exact ⟨.slice none 0 0, by rw [HX.out], below_drewNR (HB3.out.trans ((al_below w3 _).mono HB3.out.size)) _, by rw [HX.out]; exact TkOwn.nil _ _⟩
    · have hltI : ¬ (p : Int) < (s.size : Int) := by omega
      have HX : Hid (scanR s = ⟨0, 0, T⟩) := by show scanR s = _; rw [HR.out, HS.out.at_.done hlt]
      go_wp2
      refine bodyPost_ret (v := .tuple #[v, .int .i64 0, .int .i64 0]) (by simp [results, Tryz.results11, go_sem]) rfl ?_
      exact ⟨_, by rw [HX.out]; rfl, HS.out.bel, by rw [HX.out]; exact HS.out.own⟩

theorem rscan_any (s : ByteArray) (w : World) : Calls Tryz.prog 11 #[.string s] w fun e w' => ScanOut s w e w' := by
  rcases Nat.lt_or_ge 65536 s.size with h | h
  · exact rscan_long s w h
  · exact rscan_short s w h
end Go.Proofs.YtekhcaanjaoioaaGreatDoor
