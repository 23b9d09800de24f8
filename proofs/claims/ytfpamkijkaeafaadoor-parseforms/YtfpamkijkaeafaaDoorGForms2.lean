/-
  ParseForms' walk.
-/
import Derived.Test.YtfpamkijkaeafaaDoorGFormsW
namespace Go.Proofs.YtfpamkijkaeafaaDoor
set_option linter.unusedSimpArgs false
set_option linter.unusedVariables false
set_option linter.unusedSectionVars false
set_option maxRecDepth 100000
open Go.RowKit Go.Maps

set_option maxHeartbeats 4000000 in
theorem fine_any (a : Am) (ao : Option Addr) (cap : Nat) {B : Nat} (w : World) (hx : TmsO w B (.slice ao a.args.length cap) a.args) (h : AmOk a) :
    Calls Tryd.prog 9 #[.agg #[.string a.p, .slice ao a.args.length cap]] w fun e w' => e = .returned (.bool true) ∧ Below w.heap.size w w' := by
  obtain ⟨p, A⟩ := a
  obtain ⟨⟨⟨hz, hs⟩, hnot, h32⟩, h6, hT⟩ := h
  simp only at hx hz hs hnot h32 h6 hT
  obtain ⟨l1, l2⟩ := small_leG hs
  have hE0 := notEmptyG hz
  have hzI : (0 : Int) < (p.size : Int) := by omega
  have h32I : (p.size : Int) ≤ 32 := by omega
  have h6I : (A.length : Int) ≤ 6 := by omega
  have hnB : (p.toList == [110, 111, 116]) = false := by rw [toList_data]; simpa using hnot
  have hnN : (p.toList != [110, 111, 116]) = true := by simp [bne, hnB]
  have hb0 := al_below w (.cells #[.string p, .slice ao A.length cap] 33)
  have HX := Lib.hid (hx.below keepTm hb0)
  have HB0 := Lib.hid hb0
  have HK : Hid (∀ W, Below (w.alloc (.cells #[.string p, .slice ao A.length cap] 33)).heap.size (w.alloc (.cells #[.string p, .slice ao A.length cap] 33)) W → W.cell? ⟨w.heap.size, 0, none⟩ = some (.string p) ∧ W.cell? ⟨w.heap.size, 1, none⟩ = some (.slice ao A.length cap)) := fun W hb => by
    have := (Blk.new w #[.string p, .slice ao A.length cap] 33).below hb
    exact ⟨this.cell 0, this.cell 1⟩
  have HT := Lib.hid hT
  clear hx hs hnot hb0 hT
  go_enter Tryd.func9, Tryd.ntmps9
  go_wp2_with fail
  go_loopw [3] (fun i wr => ∃ k : Nat, k ≤ A.length ∧ i = .int .i64 k ∧ Hid (Below (w.alloc (.cells #[.string p, .slice ao A.length cap] 33)).heap.size (w.alloc (.cells #[.string p, .slice ao A.length cap] 33)) wr)) (fun i _ => A.length - (intOf i).toNat)
  case atStart => exact ⟨0, Nat.zero_le _, rfl, Below.refl _ _⟩
  case round =>
    obtain ⟨k, hk, rfl, HB⟩ := hrel
    obtain ⟨q0, q1⟩ := HK.out wr HB.out
    by_cases hlt : k < A.length
    · have hltI : (k : Int) < (A.length : Int) := by omega
      obtain ⟨b, off, rfl, hbl, c0, c1, c2, c3, c4⟩ := tms_at (HX.out.below keepTm HB.out) k hlt
      have HON := Lib.hid (fun W => oneT_any A[k] W (HT.out _ (List.getElem_mem hlt)))
      obtain ⟨t, ht⟩ : ∃ t, t = A[k] := ⟨_, rfl⟩
      rw [← ht] at c0 c1 c2 c3 c4 HON
      clear ht
      go_wp2_with (go_at_call 10; refine (HON.out _).mono ?_; rintro e w1 ⟨rfl, hb1⟩)
      go_roundw
      case rel => exact ⟨k + 1, by omega, by go_num, HB.out.trans (hb1.mono HB.out.size)⟩
      case measure => simp [intOf]; omega
    · have hltI : ¬ (k : Int) < (A.length : Int) := by omega
      go_wp2
      go_ret
      exact ⟨rfl, HB0.out.trans (HB.out.mono HB0.out.size)⟩

/-- The program that was parsed lies in a block, its lists behind it; a world in which all of it stands. -/
structure PgAt (w2 : World) (gb : Nat) (g : Pr) (xo : Option Addr) (xc : Nat) (yo : Option Addr) (yc : Nat) : Prop where
  blk : Blk w2 gb #[.slice xo g.decls.length xc, .slice yo g.rules.length yc] 26
  rus : ∃ B, RusO w2 B (.slice yo g.rules.length yc) g.rules
theorem PgAt.below {w2 w' : World} {gb : Nat} {g : Pr} {xo : Option Addr} {xc : Nat} {yo : Option Addr} {yc : Nat} (h : PgAt w2 gb g xo xc yo yc) (hb : Below w2.heap.size w2 w') : PgAt w' gb g xo xc yo yc :=
  ⟨h.blk.below hb, h.rus.imp fun B h => h.below keepRu hb⟩

set_option maxHeartbeats 8000000 in
theorem forms_walk (s : ByteArray) (w : World) (hs : s.size ≤ maxLen) (hE : PEnv w) :
    Calls Tryd.prog 5 #[.string s] w fun e w' => e = .returned (.bool true) ∧ Below w.heap.size w w' := by
  have HE := Lib.hid hE
  have HPA := Lib.hid (fun W (hW : PEnv W) => parse_any s W hW hs)
  have hok := parseR_ok s
  obtain ⟨r, hr⟩ : ∃ r, r = parseR s := ⟨_, rfl⟩
  rw [← hr] at HPA hok
  simp only [ParseOut] at HPA
  obtain ⟨bd, pl, g⟩ := r
  simp only at HPA hok
  obtain ⟨hd4, hr4, hOK⟩ := hok
  have HOK := Lib.hid hOK
  have d4I : (g.decls.length : Int) ≤ 400 := by omega
  have r4I : (g.rules.length : Int) ≤ 400 := by omega
  clear hE hr hs hOK
  by_cases hbd : bd = 0
  · subst hbd
    go_enter Tryd.func5, Tryd.ntmps5
    go_wp2_with (first
      | (go_at_call 6; refine (shown_any _ HE.out).mono ?_; rintro e w1 ⟨rfl, hb1⟩; have HB1 := Lib.hid hb1; clear hb1)
      | (go_at_call 7; refine (HPA.out _ (HE.out.below HB1.out)).mono ?_; rintro e w2 ⟨x, y, rfl, hb2, hd, hu⟩; obtain ⟨xo, xc, hx, -⟩ := hd.cells; subst hx; obtain ⟨yo, yc, hy, -⟩ := hu.cells; subst hy; have HB2 := Lib.hid (HB1.out.trans (hb2.mono HB1.out.size)); have HU2 := Lib.hid hu; clear hb2 hd hu HPA))
    have HPG : Hid (PgAt (w2.alloc (.cells #[.slice xo g.decls.length xc, .slice yo g.rules.length yc] 26)) w2.heap.size g xo xc yo yc) := ⟨Blk.new _ _ _, _, HU2.out.below keepRu (al_below w2 _)⟩
    have HB3 := Lib.hid (HB2.out.alloc HB2.out.size (.cells #[.slice xo g.decls.length xc, .slice yo g.rules.length yc] 26))
    clear HU2
    obtain ⟨W, hW⟩ : ∃ W, W = w2.alloc (.cells #[.slice xo g.decls.length xc, .slice yo g.rules.length yc] 26) := ⟨_, rfl⟩
    obtain ⟨gb, hgb⟩ : ∃ gb, gb = w2.heap.size := ⟨_, rfl⟩
    rw [← hW, ← hgb] at HPG
    rw [← hW] at HB3
    rw [← hW, ← hgb]
    clear hW hgb
    go_loopw [7] (fun i wr => ∃ k : Nat, k ≤ g.rules.length ∧ i = .int .i64 k ∧ Hid (Below W.heap.size W wr)) (fun i _ => g.rules.length - (intOf i).toNat)
    case atStart => exact ⟨0, Nat.zero_le _, rfl, Below.refl _ _⟩
    case round =>
      obtain ⟨k, hk, rfl, HB⟩ := hrel
      have HPR := Lib.hid (HPG.out.below HB.out)
      have q0 := HPR.out.blk.cell 0
      have q1 := HPR.out.blk.cell 1
      simp at q0 q1
      by_cases hlt : k < g.rules.length
      · have hltI : (k : Int) < (g.rules.length : Int) := by omega
        obtain ⟨B, hu⟩ := HPR.out.rus
        obtain ⟨b, off, x, y, rfl, hbl, hx, hy, c0, c1, c2⟩ := rus_at hu k hlt
        have hok := HOK.out _ (List.getElem_mem hlt)
        obtain ⟨ru, hru⟩ : ∃ t, t = g.rules[k] := ⟨_, rfl⟩
        rw [← hru] at c0 hx hy hok
        clear hru hu
        obtain ⟨hd, bo⟩ := ru
        obtain ⟨hok1, hok2, hok3⟩ := hok
        simp only at hx hy c0 c1 c2 hok1 hok2 hok3
        obtain ⟨ao, cap, rfl, -⟩ := hx.cells
        obtain ⟨bo', bcap, rfl, -⟩ := hy.cells
        have HFI := Lib.hid (fun W' (hb : Below wr.heap.size wr W') => fine_any hd ao cap W' (hx.below keepTm hb) hok1)
        have HBO := Lib.hid hy
        have HOB := Lib.hid hok3
        have hok2I : (bo.length : Int) ≤ 8 := by omega
        have hal := al_below wr (.cells #[.string hd.p, .slice ao hd.args.length cap, .slice bo' bo.length bcap] 38)
        have HAL := Lib.hid hal
        obtain ⟨wo, hwo⟩ : ∃ wo, wo = wr := ⟨_, rfl⟩
        subst hwo
        have HRB := Lib.hid (Blk.new wo #[.string hd.p, .slice ao hd.args.length cap, .slice bo' bo.length bcap] 38)
        clear hx hy hok1 hok3 hal
        go_wp2_with (go_at_call 9; refine (HFI.out _ HAL.out).mono ?_; rintro e w4 ⟨rfl, hb4⟩; have HB4 := Lib.hid (HAL.out.trans (hb4.mono HAL.out.size)); have HR4 := Lib.hid (HRB.out.below hb4); have r2 := HR4.out.cell 2; simp at r2; clear hb4)
        clear r2
        go_loopw [9] (fun i wr => ∃ m : Nat, m ≤ bo.length ∧ i = .int .i64 m ∧ Hid (Below w4.heap.size w4 wr)) (fun i _ => bo.length - (intOf i).toNat)
        case atStart => exact ⟨0, Nat.zero_le _, rfl, Below.refl _ _⟩
        case round =>
          obtain ⟨m, hm, rfl, HI⟩ := hrel
          have r2 := (HR4.out.below HI.out).cell 2
          simp at r2
          by_cases hlt2 : m < bo.length
          · have hlt2I : (m : Int) < (bo.length : Int) := by omega
            obtain ⟨b2, off2, x2, rfl, hbl2, hx2, d0, d1, d2, d3, d4, d5, d6, d7, d8, d9, d10, d11, d12, d13⟩ := lts_at ((HBO.out.below keepLt HB4.out).below keepLt HI.out) m hlt2
            have hok := HOB.out _ (List.getElem_mem hlt2)
            obtain ⟨li, hli⟩ : ∃ t, t = bo[m] := ⟨_, rfl⟩
            rw [← hli] at hx2 d0 d1 d3 d4 d5 d6 d7 d8 d9 d10 d11 d12 d13 hok
            clear hli
            obtain ⟨kk, am, op, l, rr⟩ := li
            simp only at hx2 d0 d1 d2 d3 d4 d5 d6 d7 d8 d9 d10 d11 d12 d13
            obtain ⟨ao2, cap2, rfl, -⟩ := hx2.cells
            have hal := al_below wr (.cells #[.int .i64 kk, .string am.p, .slice ao2 am.args.length cap2, .string op, .bool l.v, .string l.name, .bool l.k, .string l.s, .int .i64 l.n, .bool rr.v, .string rr.name, .bool rr.k, .string rr.s, .int .i64 rr.n] 46)
            have HA2 := Lib.hid hal
            have HL2 := Lib.hid (Blk.new wr #[.int .i64 kk, .string am.p, .slice ao2 am.args.length cap2, .string op, .bool l.v, .string l.name, .bool l.k, .string l.s, .int .i64 l.n, .bool rr.v, .string rr.name, .bool rr.k, .string rr.s, .int .i64 rr.n] 46)
            clear hal
            rcases hok with ⟨e1, e2, e3, e4, e5⟩ | ⟨e1, e2, e3, e4, e5⟩
            · simp only at e1 e2 e3 e4 e5
              subst e1 e5
              have ho1 : (op.toList == []) = false := by rw [toList_data]; simpa using e2
              have ho2 : op.toList.isEmpty = false := by rw [toList_data]; cases h : op.data.toList with
                | nil => exact absurd h e2
                | cons a t => rfl
              have HO1 := Lib.hid (fun W => oneT_any l W e3)
              have HO2 := Lib.hid (fun W => oneT_any rr W e4)
              clear e2 e3 e4 hx2
              simp only [Am.zero] at *
              go_wp2_with (first
                | (go_at_call 10; refine (HO1.out _).mono ?_; rintro e w5 ⟨rfl, hb5⟩; have HB5 := Lib.hid (HA2.out.trans (hb5.mono HA2.out.size)); have hl5 := (HL2.out.below hb5).cell; have f1 := hl5 1; have f9 := hl5 9; have f10 := hl5 10; have f11 := hl5 11; have f12 := hl5 12; have f13 := hl5 13; simp at f1 f9 f10 f11 f12 f13; have HL5 := Lib.hid (HL2.out.below hb5); clear HO1 hb5 hl5)
                | (go_at_call 10; refine (HO2.out _).mono ?_; rintro e w6 ⟨rfl, hb6⟩; have HB6 := Lib.hid (HB5.out.trans (hb6.mono HB5.out.size)); have hl6 := (HL5.out.below hb6).cell; have f1' := hl6 1; simp at f1'; clear HO2 hb6 hl6))
              go_roundw
              case rel => exact ⟨m + 1, by omega, by go_num, HI.out.trans (HB6.out.mono HI.out.size)⟩
              case measure => simp [intOf]; omega
            · simp only at e1 e2 e3 e4 e5
              subst e2 e4 e5
              have HF2 := Lib.hid (fun W' (hb : Below wr.heap.size wr W') => fine_any am ao2 cap2 W' (hx2.below keepTm hb) e3)
              simp only [Tm.zero] at *
              clear e3 hx2
              rcases e1 with rfl | rfl
              all_goals
                go_wp2_with (go_at_call 9; refine (HF2.out _ HA2.out).mono ?_; rintro e w5 ⟨rfl, hb5⟩; have HB5 := Lib.hid (HA2.out.trans (hb5.mono HA2.out.size)); have f0 := (HL2.out.below hb5).cell 0; simp at f0; clear hb5)
                go_roundw
                case rel => exact ⟨m + 1, by omega, by go_num, HI.out.trans (HB5.out.mono HI.out.size)⟩
                case measure => simp [intOf]; omega
          · have hlt2I : ¬ (m : Int) < (bo.length : Int) := by omega
            go_wp2
            go_roundw
            case rel => exact ⟨k + 1, by omega, by go_num, HB.out.trans ((HB4.out.trans (HI.out.mono HB4.out.size)).mono HB.out.size)⟩
            case measure => simp [intOf]; omega
      · have hltI : ¬ (k : Int) < (g.rules.length : Int) := by omega
        go_wp2
        go_ret
        exact ⟨rfl, HB3.out.trans (HB.out.mono HB3.out.size)⟩
  · have hbdI : ¬ (bd : Int) = 0 := by omega
    have hbdB : ((bd : Int) == 0) = false := by simpa using hbdI
    have hbdN : ((bd : Int) != 0) = true := by simp [bne, hbdB]
    go_enter Tryd.func5, Tryd.ntmps5
    go_wp2_with (first
      | (go_at_call 6; refine (shown_any _ HE.out).mono ?_; rintro e w1 ⟨rfl, hb1⟩; have HB1 := Lib.hid hb1; clear hb1)
      | (go_at_call 7; refine (HPA.out _ (HE.out.below HB1.out)).mono ?_; rintro e w2 ⟨x, y, rfl, hb2, hd, hu⟩; obtain ⟨xo, xc, hx, -⟩ := hd.cells; subst hx; obtain ⟨yo, yc, hy, -⟩ := hu.cells; subst hy; have HB2 := Lib.hid (HB1.out.trans (hb2.mono HB1.out.size)); clear hb2 hd hu HPA))
    go_ret
    exact ⟨rfl, HB2.out.alloc HB2.out.size _⟩
end Go.Proofs.YtfpamkijkaeafaaDoor
