/-
  A list of tokens of the call's own (TkOwn). Contract of token.Scan.
-/
import Derived.Test.YtbbmihojfcofdaaGreatDoorKOne
import Derived.Test.YtbbmihojfcofdaaGreatDoorKNew
import Derived.OwnWalk
namespace Go.Proofs.YtbbmihojfcofdaaGreatDoor
set_option linter.unusedSimpArgs false
set_option linter.unusedVariables false
set_option linter.unusedSectionVars false
set_option maxRecDepth 100000
open Go.RowKit

theorem infoTok : (Tryz.prog.info? 110).map (fun i => (i.zero, i.size, i.bytes)) = some (some (.agg #[.int .i64 0, .string ⟨#[]⟩, .int .i64 0, .bool false, .int .i64 0]), 5, 48) := by kernel_rfl
/-- A list of tokens in a block of the call's own, from B on. -/
def TkOwn (w : World) (B : Nat) (x : Value) (T : List Tk) : Prop := w.ownsRow B 110 5 x T.length (T.flatMap Tk.cells)
theorem TkOwn.nil (w : World) (B : Nat) : TkOwn w B (.slice none 0 0) [] := World.ownsRow_nil _ _ _ _
theorem TkOwn.keep {w w' : World} {B : Nat} {x : Value} {T : List Tk} (h : TkOwn w B x T) (hb : ∀ k, B ≤ k → k < w.heap.size → w'.heap[k]? = w.heap[k]?) : TkOwn w' B x T := by
  obtain ⟨h1, h2⟩ := h
  refine ⟨h1, ?_⟩
  rcases h2 with h2 | ⟨g, cap, cur, e1, e2, e3, e4⟩
  · exact .inl h2
  · exact .inr ⟨g, cap, cur, e1, e2, (hb g e2 (Array.getElem?_eq_some_iff.1 e3).1).trans e3, e4⟩
theorem TkOwn.below {w w' : World} {B : Nat} {x : Value} {T : List Tk} (h : TkOwn w B x T) (hb : Below w.heap.size w w') : TkOwn w' B x T := h.keep (fun k _ hk => hb.block k hk)
theorem TkOwn.turns {w w' : World} {B rb : Nat} {x : Value} {T : List Tk} (h : TkOwn w B x T) (ht : Turns (fun i => i = rb) w w') (hr : rb < B) : TkOwn w' B x T := h.keep (fun k hB hk => ht.block k hk (by omega))
theorem TkOwn.mono {w : World} {B B' : Nat} {x : Value} {T : List Tk} (h : TkOwn w B x T) (hB : B' ≤ B) : TkOwn w B' x T := by
  obtain ⟨h1, h2⟩ := h
  refine ⟨h1, ?_⟩
  rcases h2 with h2 | ⟨g, cap, cur, e1, e2, e3⟩
  · exact .inl h2
  · exact .inr ⟨g, cap, cur, e1, by omega, e3⟩
theorem TkOwn.app {w' : World} {B : Nat} {x' : Value} {T : List Tk} {t : Tk} (hr : w'.ownsRow B 110 5 x' (T.length + 1) (T.flatMap Tk.cells ++ t.cells)) : TkOwn w' B x' (T ++ [t]) := by
  unfold TkOwn; simpa using hr
theorem tk_oneCell (t : Tk) : ∀ u ∈ t.cells, u.oneCell' = true := by
  intro u hu
  simp [Tk.cells] at hu
  rcases hu with rfl | rfl | rfl | rfl | rfl <;> rfl
theorem five_new (w : World) (t : Tk) (ty : TypeId) : ∀ j u, t.cells[j]? = some u → (w.alloc (.cells #[.int .i64 t.kind, .string t.s, .int .i64 t.n, .bool t.q, .int .i64 t.pl] ty)).cell? ((⟨w.heap.size, 0, none⟩ : Addr).add j) = some u := by
  intro j u hj
  match j, hj with
  | 0, hj => cases hj; simp [Addr.add]
  | 1, hj => cases hj; simp [Addr.add]
  | 2, hj => cases hj; simp [Addr.add]
  | 3, hj => cases hj; simp [Addr.add]
  | 4, hj => cases hj; simp [Addr.add]

/-- What Scan tells. -/
def scanR (s : ByteArray) : Res := if 65536 < s.size then ⟨4, 0, []⟩ else scanAt 0 s.data.toList
/-- Scan's answer. -/
def ScanOut (s : ByteArray) (w : World) (e : Ending) (w' : World) : Prop :=
  ∃ v, e = .returned (.tuple #[v, .int .i64 ((scanR s).pl : Int), .int .i64 ((scanR s).bad : Int)]) ∧ Below w.heap.size w w' ∧ TkOwn w' w.heap.size v (scanR s).toks

/-- The state of Scan's loop: the reader at p, the tokens T in v. -/
structure ScSt (s : ByteArray) (w : World) (n rb : Nat) (wr : World) (v : Value) (p : Nat) (T : List Tk) : Prop where
  rdr : Rdr n wr rb s p
  own : TkOwn wr n v T
  at_ : SAt s p T
  bel : Below w.heap.size w wr
  rbw : w.heap.size ≤ rb
/-- Behind token's call. -/
structure ScMid (s : ByteArray) (w : World) (n rb : Nat) (wr : World) (v : Value) (p : Nat) (T : List Tk) : Prop where
  own : TkOwn wr n v T
  bel : Below w.heap.size w wr
  lt : n ≤ wr.heap.size
  rbn : rb < n
theorem ScMid.past {s : ByteArray} {w : World} {n rb : Nat} {wr w1 : World} {v : Value} {p : Nat} {T : List Tk} (h : ScMid s w n rb wr v p T) (hw : w.heap.size ≤ n) (hb : Below wr.heap.size wr w1) : ScMid s w n rb w1 v p T :=
  ⟨h.own.below hb, h.bel.trans (hb.mono h.bel.size), Nat.le_trans h.lt hb.size, h.rbn⟩

theorem scan_long (s : ByteArray) (w : World) (hs : 65536 < s.size) :
    Calls Tryz.prog 66 #[.string s] w fun e w' => ScanOut s w e w' := by
  have hI : (65536 : Int) < (s.size : Int) := by omega
  have HR : Hid (scanR s = ⟨4, 0, []⟩) := by show scanR s = _; unfold scanR; rw [if_pos hs]
  clear hs
  go_enter Tryz.func66, Tryz.ntmps66
  go_wp2
  exact bodyPost_ret (v := .tuple #[.slice none 0 0, .int .i64 0, .int .i64 4]) (by simp [results, Tryz.results66, go_sem]) rfl ⟨.slice none 0 0, by rw [HR.out]; rfl, Below.refl _ _, by rw [HR.out]; exact TkOwn.nil _ _⟩

theorem tok_good {w : World} {n rb : Nat} {s : ByteArray} {p : Nat} (hR : Rdr n w rb s p) (hs : s.size ≤ 65536) (hp : p < s.size) (hENV : Env w) (h7 : 8 ≤ rb) {kd : Int} {st : ByteArray} {nn : Int} {qq : Bool} {pp : Int} {ln : Nat} (hg : oneL (s.data.toList.drop p) = ⟨0, ⟨kd, st, nn, qq, pp⟩, ln⟩) :
    Calls Tryz.prog 85 #[.pointer (some ⟨rb, 0, none⟩)] w fun e w' => e = .returned (.tuple #[.agg #[.int .i64 kd, .string st, .int .i64 nn, .bool qq, .int .i64 pp], .int .i64 0]) ∧ Hid (Rdr n w' rb s (p + ln)) ∧ Hid (Turns (fun i => i = rb) w w') := by
  refine (token_any hR hs hp hENV h7).mono ?_
  rintro e w' ⟨rfl, h2, h3⟩
  rw [hg] at h3 ⊢
  exact ⟨rfl, h3 rfl, h2⟩
theorem tok_bad {w : World} {n rb : Nat} {s : ByteArray} {p : Nat} (hR : Rdr n w rb s p) (hs : s.size ≤ 65536) (hp : p < s.size) (hENV : Env w) (h7 : 8 ≤ rb) {bd : Nat} {kd : Int} {st : ByteArray} {nn : Int} {qq : Bool} {pp : Int} {ln : Nat} (hg : oneL (s.data.toList.drop p) = ⟨bd, ⟨kd, st, nn, qq, pp⟩, ln⟩) :
    Calls Tryz.prog 85 #[.pointer (some ⟨rb, 0, none⟩)] w fun e w' => e = .returned (.tuple #[.agg #[.int .i64 kd, .string st, .int .i64 nn, .bool qq, .int .i64 pp], .int .i64 (bd : Int)]) ∧ Hid (Turns (fun i => i = rb) w w') := by
  refine (token_any hR hs hp hENV h7).mono ?_
  rintro e w' ⟨rfl, h2, h3⟩
  rw [hg] at ⊢
  exact ⟨rfl, h2⟩
theorem al_below (w : World) (o : Obj) : Below w.heap.size w (w.alloc o) := (Below.refl _ _).alloc (Nat.le_refl _) _
theorem five_at {W : World} {b : Nat} (hb : b = W.heap.size) (t : Tk) (ty : TypeId) : ∀ j u, t.cells[j]? = some u → (W.alloc (.cells #[.int .i64 t.kind, .string t.s, .int .i64 t.n, .bool t.q, .int .i64 t.pl] ty)).cell? ((⟨b, 0, none⟩ : Addr).add j) = some u := by
  subst hb; exact five_new W t ty
theorem tok_append {n : Nat} {w3 Wa w4 : World} {o : Obj} {v v' : Value} {T : List Tk} {t : Tk} (hn : n ≤ w3.heap.size) (hO : TkOwn w3 n v T) (hbw : Below w3.heap.size w3 Wa) (hown' : w4.ownsRow n 110 5 v' (T.length + 1) (T.flatMap Tk.cells ++ t.cells)) (hg : (Wa.alloc o).grownBy w4 v.ownBlock) :
    TkOwn w4 n v' (T ++ [t]) ∧ Below n w3 w4 := by
  have hz := hbw.size
  refine ⟨TkOwn.app hown', ((hbw.mono hn).alloc (by omega) _).grown hg (by simp; omega) (fun k hk => (World.ownsRow.lt hO k hk).1)⟩

set_option maxHeartbeats 4000000 in
theorem scan_short (s : ByteArray) (w : World) (hs : s.size ≤ 65536) (hENV : Env w) :
    Calls Tryz.prog 66 #[.string s] w fun e w' => ScanOut s w e w' := by
  obtain ⟨i0, hi, hz0, hz1, hz2⟩ := info_parts infoTok
  have hI : ¬ (65536 : Int) < (s.size : Int) := by omega
  have i3 : (s.size : Int) ≤ 65536 := by omega
  have HR : Hid (scanR s = scanAt 0 s.data.toList) := by show scanR s = _; unfold scanR; rw [if_neg (by omega)]
  have HENV := Lib.hid hENV
  have HSZ := Lib.hid hs
  have h7w := hENV.big
  clear hs hENV
  go_enter Tryz.func66, Tryz.ntmps66
  go_wp2_with fail
  refine (newReader_any s _).mono ?_
  rintro e w1 ⟨rb, rfl, hb1, hrb, hR1⟩
  obtain ⟨n, hn⟩ : ∃ n, n = w1.heap.size := ⟨_, rfl⟩
  rw [← hn] at hR1
  have HB1 := Lib.hid hb1
  have HR1 := Lib.hid hR1
  have HNW : Hid (w.heap.size ≤ n) := by show w.heap.size ≤ n; rw [hn]; exact hb1.size
  have H7 : Hid (8 ≤ rb) := by show 8 ≤ rb; omega
  clear hb1 hR1 hn
  go_wp2_with fail
  refine (passOver_any HR1.out HSZ.out (Nat.zero_le _)).mono ?_
  rintro e w2 ⟨rfl, hR2, ht2⟩
  rw [List.drop_zero, Nat.zero_add] at hR2
  have HS0 : Hid (ScSt s w n rb w2 (.slice none 0 0) (skipS false s.data.toList) []) := ⟨hR2, TkOwn.nil _ _, SAt.start s, HB1.out.trans (ht2.below (HB1.out.size) (fun k e => by omega)), hrb⟩
  clear hR2 ht2 HR1 HB1
  go_wp2_with fail
  go_loopw [6] (fun xv wr => ∃ (v : Value) (p : Nat) (T : List Tk), v = xv ∧ Hid (ScSt s w n rb wr v p T)) (fun _ wr => s.size - (intOf ((wr.cell? ⟨rb, 1, none⟩).getD .nilFunc)).toNat)
  case atStart => exact ⟨_, _, [], rfl, HS0⟩
  case round =>
    clear HS0
    obtain ⟨v, p, T, hv, HS⟩ := hrel
    subst hv
    obtain ⟨q2, q3, q4, q5, q6, q7, c0, c1, -⟩ := HS.out.rdr.cells
    have hrl := HS.out.rdr.lt
    have HAT := Lib.hid (atOf HS.out.rdr)
    by_cases hlt : p < s.size
    · have hltI : (p : Int) < (s.size : Int) := by omega
      obtain ⟨g, hg⟩ : ∃ g, g = oneL (s.data.toList.drop p) := ⟨_, rfl⟩
      obtain ⟨bd, ⟨kd, st, nn, qq, pp⟩, ln⟩ := g
      have hgb : (oneL (s.data.toList.drop p)).bad = bd := by rw [← hg]
      have HE1 := Lib.hid (HENV.out.below HS.out.bel)
      by_cases hbd : bd = 0
      · subst hbd
        obtain ⟨hp1, hpl, hN⟩ := HS.out.at_.next hlt hgb (p1 := p + ln) (by rw [← hg])
        rw [← hg] at hN
        obtain ⟨p1, hp1e⟩ : ∃ p1, p1 = p + ln := ⟨_, rfl⟩
        have HTOK := Lib.hid (tok_good HS.out.rdr HSZ.out hlt HE1.out H7.out hg.symm)
        rw [← hp1e] at hp1 hpl hN HTOK
        have HNX := Lib.hid hN
        have HP1 := Lib.hid hp1
        have HPL := Lib.hid hpl
        have HLT := Lib.hid hlt
        have hTl : T.length ≤ 65536 := by have := HS.out.at_.2.1; have := HSZ.out; omega
        have HRBN : Hid (rb < n) := HS.out.rdr.1
        have HRBW : Hid (w.heap.size ≤ rb) := HS.out.rbw
        clear hN hp1 hpl hg hgb hlt HE1
        go_wp2_with (first
          | (go_at_call 85; refine (HTOK.out).mono ?_; rintro e w3 ⟨rfl, HR3, HT3⟩; have HO3 := Lib.hid (HS.out.own.turns HT3.out HRBN.out); have HB3 : Hid (Below w.heap.size w w3) := HS.out.bel.trans (HT3.out.below HS.out.bel.size (fun k e => by have := HRBW.out; omega)); have hn3 := HR3.out.2.1; have hwn3 := HNW.out)
          | (at_builtin; refine wpList_append_own _ rfl _ _ 101 rfl n 110 i0 _ 5 48 Tryz.underlying101 hi hz0 hz1 hz2 rfl (by decide) _ T.length (T.flatMap Tk.cells) rfl (World.ownsRow.alloc (HO3.out.below (al_below w3 _)) _) ⟨w3.heap.size + 1, 0, none⟩ 1 1 (Tk.put ⟨kd, st, nn, qq, pp⟩ p).cells rfl rfl (five_at (by simp) (Tk.put ⟨kd, st, nn, qq, pp⟩ p) _) (tk_oneCell _) (by unfold maxLen; omega) (by omega) (by simp; omega) ?_; intro v' w4 hown4 hg4 hnil4; obtain ⟨HO4, HB4⟩ : Hid (TkOwn w4 n v' (T ++ [Tk.put ⟨kd, st, nn, qq, pp⟩ p])) ∧ Hid (Below n w3 w4) := tok_append hn3 HO3.out (al_below w3 _) hown4 hg4; have HR4 := Lib.hid (HR3.out.past HB4.out (Nat.le_refl _)); clear hown4 hg4 hnil4)
          | (go_at_call 84; refine (passOver_any HR4.out HSZ.out HP1.out).mono ?_; rintro e w5 ⟨rfl, hR5, ht5⟩; have HS5 : Hid (ScSt s w n rb w5 v' (p1 + skipS false (s.data.toList.drop p1)) (T ++ [Tk.put ⟨kd, st, nn, qq, pp⟩ p])) := ⟨hR5, HO4.out.turns ht5 HRBN.out, HNX.out, (HB3.out.trans (HB4.out.mono hwn3)).trans (ht5.below (by (have := HB4.out.size; omega)) (fun k e => by have := HRBW.out; omega)), HRBW.out⟩; clear hR5 ht5))
        go_roundw
        case rel => exact ⟨_, _, _, rfl, HS5⟩
        case measure => rw [atOf HS5.out.rdr, HAT.out]; have := HPL.out; have := HLT.out; omega
      · have hbdI : ¬ (bd : Int) = 0 := by omega
        have hbdB : ((bd : Int) == 0) = false := by simpa using hbdI
        have HTOK := Lib.hid (tok_bad HS.out.rdr HSZ.out hlt HE1.out H7.out hg.symm)
        have HX : Hid (scanR s = ⟨bd, p, []⟩) := by show scanR s = _; rw [HR.out, HS.out.at_.bad hlt (by rw [hgb]; exact hbd), hgb]
        have HRBW : Hid (w.heap.size ≤ rb) := HS.out.rbw
        clear hg hgb HE1
        go_wp2_with (go_at_call 85; refine (HTOK.out).mono ?_; rintro e w3 ⟨rfl, HT3⟩; have HB3 : Hid (Below w.heap.size w w3) := HS.out.bel.trans (HT3.out.below HS.out.bel.size (fun k e => by have := HRBW.out; omega)))
        refine bodyPost_ret (v := .tuple #[.slice none 0 0, .int .i64 (p : Int), .int .i64 (bd : Int)]) (by simp [results, Tryz.results66, go_sem]) rfl ?_
        exact ⟨.slice none 0 0, by rw [HX.out], HB3.out.trans ((al_below w3 _).mono HB3.out.size), by rw [HX.out]; exact TkOwn.nil _ _⟩
    · have hltI : ¬ (p : Int) < (s.size : Int) := by omega
      have HX : Hid (scanR s = ⟨0, 0, T⟩) := by show scanR s = _; rw [HR.out, HS.out.at_.done hlt]
      go_wp2
      refine bodyPost_ret (v := .tuple #[v, .int .i64 0, .int .i64 0]) (by simp [results, Tryz.results66, go_sem]) rfl ?_
      exact ⟨_, by rw [HX.out]; rfl, HS.out.bel, by rw [HX.out]; exact HS.out.own.mono HNW.out⟩

theorem scan_any (s : ByteArray) (w : World) (hENV : Env w) : Calls Tryz.prog 66 #[.string s] w fun e w' => ScanOut s w e w' := by
  rcases Nat.lt_or_ge 65536 s.size with h | h
  · exact scan_long s w h
  · exact scan_short s w h hENV
end Go.Proofs.YtbbmihojfcofdaaGreatDoor
