/-
  Contracts of the law's v, shown, few.
-/
import Derived.Test.YtcpdikhiodbdjaaSfRef4
namespace Go.Proofs.Ytcpdikhiodbdjaa
set_option linter.unusedSimpArgs false
set_option linter.unusedVariables false
set_option linter.unusedSectionVars false
set_option maxRecDepth 100000
open Go.RowKit Go.Maps

set_option maxHeartbeats 1000000 in
theorem v_any (s : ByteArray) (w : World) :
    Calls Try.prog 22 #[.string s] w fun e w' => e = .returned (.agg #[.bool true, .string s, .bool false, .string ⟨#[]⟩, .int .i64 0]) ∧ Below w.heap.size w w' := by
  go_enter Try.func22, Try.ntmps22
  go_wp2
  refine bodyPost_ret (ret_cell1 (fn := Try.f22) rfl rfl (Blk.new _ _ _) Try.underlying51 rfl) rfl ⟨rfl, al_bel _ _⟩

theorem tms_one {W : World} {b : Nat} {s : ByteArray} {t : TypeId} {fr : Nat × Nat} (h : W.heap[b]? = some (.cells #[.bool true, .string s, .bool false, .string ⟨#[]⟩, .int .i64 0] t fr)) : Tms W (.slice (some ⟨b, 0, none⟩) 1 1) [varT s] :=
  RdL.laid (L := [varT s]) (CS := [(varT s).cells]) ⟨⟨rfl, by simp [Tm.cells, Value.oneCell'], rfl⟩, trivial⟩ h rfl (Nat.le_refl _) (by unfold maxLen; simp)
def litS (p s : ByteArray) : Lt := ⟨1, ⟨p, [varT s]⟩, ⟨#[]⟩, Tm.zero, Tm.zero⟩
theorem lts_one {W : World} {b : Nat} {p s : ByteArray} {xo : Option Addr} {xc : Nat} {t : TypeId} {fr : Nat × Nat} (h : W.heap[b]? = some (.cells #[.int .i64 1, .string p, .slice xo 1 xc, .string ⟨#[]⟩, .bool false, .string ⟨#[]⟩, .bool false, .string ⟨#[]⟩, .int .i64 0, .bool false, .string ⟨#[]⟩, .bool false, .string ⟨#[]⟩, .int .i64 0] t fr)) (hx : Tms W (.slice xo 1 xc) [varT s]) : Lts W (.slice (some ⟨b, 0, none⟩) 1 1) [litS p s] :=
  RdL.laid (L := [litS p s]) (CS := [LtC (litS p s) (.slice xo 1 xc)]) ⟨⟨rfl, by simp [LtC, litS, Tm.zero, Value.oneCell'], ⟨_, rfl, hx⟩⟩, trivial⟩ h rfl (Nat.le_refl _) (by unfold maxLen; simp)
def rule1S : Ru := ⟨⟨⟨#[112]⟩, [varT ⟨#[88]⟩]⟩, [litS ⟨#[113]⟩ ⟨#[89]⟩]⟩
def rule2S : Ru := ⟨⟨⟨#[113]⟩, [varT ⟨#[89]⟩]⟩, [litS ⟨#[113]⟩ ⟨#[89]⟩]⟩
theorem chk1S : checkR rule1S = some (⟨#[88]⟩, -1) := by kernel_rfl
theorem chk2S : checkR rule2S = none := by kernel_rfl
theorem okS (s : ByteArray) (h : s.size ≤ 1) : OkTm (varT s) := ⟨by simp [varT, InR], by simp [varT, maxLen]; omega⟩
theorem okZ : OkTm Tm.zero := ⟨by simp [Tm.zero, InR], by show (0 : Nat) ≤ maxLen; exact Nat.zero_le _⟩
theorem heap3c (w : World) (a b c : Obj) : (((w.alloc a).alloc b).alloc c).heap[w.heap.size + 1 + 1]? = some c := by
  have := heap2L (w.alloc a) b c
  rwa [World.size_alloc] at this
theorem heap3b (w : World) (a b c : Obj) : (((w.alloc a).alloc b).alloc c).heap[w.heap.size + 1]? = some b := by
  rw [Below.heap_alloc _ _ _ (by simp)]; exact heap2L w a b
theorem heap3a (w : World) (a b c : Obj) : (((w.alloc a).alloc b).alloc c).heap[w.heap.size]? = some a := by
  rw [Below.heap_alloc _ _ _ (by simp <;> omega)]; exact heap1oL w a b
theorem al3 (w : World) (a b c : Obj) : Below w.heap.size w (((w.alloc a).alloc b).alloc c) := ((al_bel _ _).alloc (by simp) _).alloc (by simp <;> omega) _
theorem al2 (w : World) (a b : Obj) : Below w.heap.size w ((w.alloc a).alloc b) := (al_bel _ _).alloc (by simp) _
theorem okR (p s q t : ByteArray) (hs : s.size ≤ 1) (ht : t.size ≤ 1) : OkRu ⟨⟨p, [varT s]⟩, [litS q t]⟩ ∧ SmRu ⟨⟨p, [varT s]⟩, [litS q t]⟩ := by
  refine ⟨⟨fun x hx => ?_, fun l hl => ?_⟩, ⟨by simp, by simp, fun l hl => ?_⟩⟩
  · simp at hx; subst hx; exact okS s hs
  · simp at hl; subst hl; exact ⟨fun x hx => by simp [litS] at hx; subst hx; exact okS t ht, okZ, okZ⟩
  · simp at hl; subst hl; simp [litS]

theorem ok1S : OkRu rule1S ∧ SmRu rule1S := okR ⟨#[112]⟩ ⟨#[88]⟩ ⟨#[113]⟩ ⟨#[89]⟩ (by decide) (by decide)
theorem ok2S : OkRu rule2S ∧ SmRu rule2S := okR ⟨#[113]⟩ ⟨#[89]⟩ ⟨#[113]⟩ ⟨#[89]⟩ (by decide) (by decide)

theorem check1S {W : World} {x y : Value} (hx : Tms W x [varT ⟨#[88]⟩]) (hy : Lts W y [litS ⟨#[113]⟩ ⟨#[89]⟩]) :
    Calls Try.prog 11 #[.agg #[.string ⟨#[112]⟩, x, y]] W fun e w' => e = .returned (.tuple #[.string ⟨#[88]⟩, .int .i64 (-1), .int .i64 6]) ∧ Below W.heap.size W w' := by
  refine (check_any (r := rule1S) hx hy ok1S.2 ok1S.1).mono ?_
  rintro e w' ⟨rfl, hb⟩
  rw [chk1S]
  exact ⟨rfl, hb⟩
theorem check2S {W : World} {x y : Value} (hx : Tms W x [varT ⟨#[89]⟩]) (hy : Lts W y [litS ⟨#[113]⟩ ⟨#[89]⟩]) :
    Calls Try.prog 11 #[.agg #[.string ⟨#[113]⟩, x, y]] W fun e w' => e = .returned (.tuple #[.string ⟨#[]⟩, .int .i64 0, .int .i64 0]) ∧ Below W.heap.size W w' := by
  refine (check_any (r := rule2S) hx hy ok2S.2 ok2S.1).mono ?_
  rintro e w' ⟨rfl, hb⟩
  rw [chk2S]
  exact ⟨rfl, hb⟩

set_option maxHeartbeats 4000000 in
theorem shown_any (w : World) : Calls Try.prog 9 #[] w fun e w' => e = .returned (.bool true) ∧ Below w.heap.size w w' := by
  have H0 : Hid True := trivial
  go_enter Try.func9, Try.ntmps9
  go_wp2_with (first
    | (go_at_call 22; have H1 := H0; (refine (v_any ⟨#[88]⟩ w).mono ?_); clear H0; rintro e w1 ⟨rfl, hb1⟩; have HB1 := Lib.hid hb1; clear hb1)
    | (go_at_call 22; (refine (v_any ⟨#[89]⟩ _).mono ?_); rintro e w4 ⟨rfl, hb4⟩; have hT1 := (hb4.block w1.heap.size (by simp <;> omega)).trans (heap1oL w1 _ _); have hP1 := (hb4.block (w1.heap.size + 1) (by simp)).trans (heap2L w1 _ _); obtain ⟨p0, p1, plt⟩ := box2c hP1; have p2 := fun a b => ((al2 w4 a b).cell (p := ⟨w1.heap.size + 1, 0, none⟩) plt).trans p0; have p3 := fun a b => ((al2 w4 a b).cell (p := ⟨w1.heap.size + 1, 1, none⟩) plt).trans p1; have HT1 := Lib.hid (tms_one hT1); have HB4 := Lib.hid (HB1.out.trans (((al2 _ _ _).trans (hb4.mono (by simp <;> omega))).mono HB1.out.size)); clear hb4 hT1 hP1)
    | (go_at_call 11; (refine (check1S (HT1.out.below stayTm (al3 _ _ _ _)) (lts_one (heap3c _ _ _ _) (tms_one (heap3a _ _ _ _)))).mono ?_); rintro e w8 ⟨rfl, hb8⟩; have hT2 := (hb8.block w4.heap.size (by simp <;> omega)).trans (heap3a w4 _ _ _); have hP2 := (hb8.block (w4.heap.size + 1) (by simp <;> omega)).trans (heap3b w4 _ _ _); obtain ⟨r0, r1, rlt⟩ := box2c hP2; have HT2 := Lib.hid (tms_one hT2); clear HT1; have HB8 := Lib.hid (HB4.out.trans (((al3 _ _ _ _).trans (hb8.mono (by simp <;> omega))).mono HB4.out.size)); clear hb8 hT2 hP2)
    | (go_at_call 11; (refine (check2S (HT2.out.below stayTm (al_bel _ _)) (lts_one (Blk.new _ _ _) (HT2.out.below stayTm (al_bel _ _)))).mono ?_); rintro e w9 ⟨rfl, hb9⟩; have HB9 := Lib.hid (HB8.out.trans (((al_bel _ _).trans (hb9.mono (by simp))).mono HB8.out.size)); clear hb9))
  go_ret
  exact ⟨rfl, HB9.out⟩

/-- So few literals, of so few terms. -/
structure Few (r : Ru) : Prop where
  body : r.body.length ≤ 30
  head : r.head.args.length ≤ 30
  each : ∀ l ∈ r.body, l.atom.args.length ≤ 30
theorem Few.sm {r : Ru} (h : Few r) : SmRu r := ⟨by have := h.head; omega, by have := h.body; omega, fun l hl => by have := h.each l hl; omega⟩
/-- What few answers. -/
def FewD (r : Ru) (b : Bool) : Prop := b = true ↔ Few r
def FewOut (r : Ru) (w : World) (e : Ending) (w' : World) : Prop := ∃ b, e = .returned (.bool b) ∧ FewD r b ∧ Below w.heap.size w w'

set_option maxHeartbeats 4000000 in
theorem few_any {r : Ru} {x y : Value} {w : World} (hx : Tms w x r.head.args) (hy : Lts w y r.body) :
    Calls Try.prog 10 #[.agg #[.string r.head.p, x, y]] w (FewOut r w) := by
  obtain ⟨⟨hp, A⟩, B⟩ := r
  simp only at hx hy
  obtain ⟨xo, xc, rfl, -, hxm⟩ := hx.form
  obtain ⟨yo, yc, rfl, -, hym⟩ := hy.form
  unfold maxLen at hym hxm
  have HY := Lib.hid hy
  clear hx hy
  go_enter Try.func10, Try.ntmps10
  go_wp2
  go_loopw [3] (fun i wr => ∃ k : Nat, k ≤ B.length ∧ k ≤ 31 ∧ i = .int .i64 (k : Int) ∧ Hid (∀ l ∈ B.take k, l.atom.args.length ≤ 30) ∧ Hid (BoxS w wr (.cells #[.string hp, .slice xo A.length xc, .slice yo B.length yc] 27 (0, 0)))) (fun i _ => 31 - (intOf i).toNat)
  case atStart => exact ⟨0, Nat.zero_le _, Nat.zero_le _, rfl, Lib.hid (fun l hl => by simp at hl), BoxS.new _ _ _⟩
  case round =>
    obtain ⟨k, hk, hk31, rfl, HF, HB⟩ := hrel
    obtain ⟨b0, b1, b2, blt⟩ := box3 HB.out.2
    by_cases hlt : k < B.length ∧ k < 31
    · have hltI : (k : Int) < (B.length : Int) := by omega
      have hltI31 : (k : Int) < 31 := by omega
      obtain ⟨hlt, hlt31⟩ := hlt
      obtain ⟨b, off, cs, rfl, hbl, ⟨xa, rfl, hxa⟩, hcell⟩ := (show Lts wr (.slice yo B.length yc) B from HY.out.below stayLt HB.out.1).at k hlt
      have q2 := hcell 2 _ rfl
      obtain ⟨ao, ac, rfl, -, ham⟩ := hxa.form
      unfold maxLen at ham
      have HN : Hid ((B[k]'hlt).atom.args.length ≤ 30 → ∀ l ∈ B.take (k + 1), l.atom.args.length ≤ 30) := fun h l hl => by
        rw [List.take_succ_eq_append_getElem hlt] at hl
        rcases List.mem_append.1 hl with hl | hl
        · exact HF.out l hl
        · obtain rfl := List.mem_singleton.1 hl; exact h
      have HM : Hid ((B[k]'hlt).atom.args.length > 30 → ¬ Few ⟨⟨hp, A⟩, B⟩) := fun h hf => by
        have := hf.each _ (List.getElem_mem hlt); omega
      clear hcell hxa
      obtain ⟨n, hn⟩ : ∃ n, n = (B[k]'hlt).atom.args.length := ⟨_, rfl⟩
      have hq : (LtC (B[k]'hlt) (.slice ao (B[k]'hlt).atom.args.length ac))[2]? = some (.slice ao n ac) := by rw [hn]; rfl
      rw [← hn] at q2 HN HM ham
      clear hn hq
      by_cases hc : n ≤ 30
      · have hcI : ¬ (30 : Int) < (n : Int) := by omega
        have HN2 := Lib.hid (HN.out hc)
        clear HN HM
        go_wp2
        go_roundw
        case rel => exact ⟨k + 1, by omega, by omega, by simp, HN2, HB.out⟩
        case measure => simp [intOf]; omega
      · have hcI : (30 : Int) < (n : Int) := by omega
        have HM2 := Lib.hid (HM.out (by omega))
        clear HN HM
        go_wp2
        go_ret
        exact ⟨false, rfl, ⟨fun h => by (cases h), fun h => absurd h HM2.out⟩, HB.out.1⟩
    · have HFF : Hid (decide (B.length ≤ 30 ∧ A.length ≤ 30) = true ↔ Few ⟨⟨hp, A⟩, B⟩) := by
        constructor
        · intro h
          obtain ⟨h1, h2⟩ := of_decide_eq_true h
          refine ⟨h1, h2, fun l hl => HF.out l ?_⟩
          rw [List.take_of_length_le (by omega)]
          exact hl
        · intro h
          exact decide_eq_true ⟨h.body, h.head⟩
      by_cases hb : B.length ≤ 30
      · have hltI : ¬ (k : Int) < (B.length : Int) := by omega
        have hbI : (B.length : Int) ≤ 30 := by omega
        by_cases ha : A.length ≤ 30
        · have haI : (A.length : Int) ≤ 30 := by omega
          go_wp2
          go_ret
          exact ⟨true, rfl, ⟨fun _ => HFF.out.1 (decide_eq_true ⟨hb, ha⟩), fun _ => rfl⟩, HB.out.1⟩
        · have haI : ¬ (A.length : Int) ≤ 30 := by omega
          go_wp2
          go_ret
          exact ⟨false, rfl, ⟨fun h => by (cases h), fun h => absurd h.head (by simpa using ha)⟩, HB.out.1⟩
      · have hbI : ¬ (B.length : Int) ≤ 30 := by omega
        by_cases hkl : k < B.length
        · have hltI : (k : Int) < (B.length : Int) := by omega
          have hltI31 : ¬ (k : Int) < 31 := by omega
          go_wp2
          go_ret
          exact ⟨false, rfl, ⟨fun h => by (cases h), fun h => absurd h.body (by simpa using hb)⟩, HB.out.1⟩
        · have hltI : ¬ (k : Int) < (B.length : Int) := by omega
          go_wp2
          go_ret
          exact ⟨false, rfl, ⟨fun h => by (cases h), fun h => absurd h.body (by simpa using hb)⟩, HB.out.1⟩
end Go.Proofs.Ytcpdikhiodbdjaa
