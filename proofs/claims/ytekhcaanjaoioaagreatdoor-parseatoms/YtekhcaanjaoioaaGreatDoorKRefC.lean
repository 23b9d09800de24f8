/-
  Contract of the document's quoted (lambrequinref05): a name in marks.
-/
import Derived.Test.YtekhcaanjaoioaaGreatDoorKRefP
import Derived.Test.YtekhcaanjaoioaaGreatDoorKBlk
namespace Go.Proofs.YtekhcaanjaoioaaGreatDoor
set_option linter.unusedSimpArgs false
set_option linter.unusedVariables false
set_option linter.unusedSectionVars false
set_option maxRecDepth 100000
open Go.RowKit

/-- What the document tells of a token that begins at p: the token, the place behind it, or an error. -/
def gotC (g : Got) (p : Nat) : Array Value := #[.int .i64 g.tok.kind, .string g.tok.s, .int .i64 g.tok.n, .bool g.tok.q, .int .i64 g.tok.pl, .int .i64 ((if g.bad = 0 then p + g.len else 0 : Nat) : Int), .int .i64 (g.bad : Int)]
def gotZ : Array Value := #[.int .i64 0, .string ⟨#[]⟩, .int .i64 0, .bool false, .int .i64 0, .int .i64 0, .int .i64 0]
def RGot (g : Got) (p : Nat) (w : World) (e : Ending) (w' : World) : Prop := e = .returned (.agg (gotC g p)) ∧ Below w.heap.size w w'
theorem RGot.mk {g : Got} {p : Nat} {w W : World} {cs : Array Value} (hc : cs = gotC g p) (hb : Below w.heap.size w W) : RGot g p w (.returned (.agg cs)) (W.setRow w.heap.size cs) := ⟨by rw [hc], below_lay hb (Nat.le_refl _) _⟩

theorem conv_own {w : World} {B : Nat} {v : Value} {L : List UInt8} (h : w.ownsRow B 5 1 v L.length (Lib.byteCells L)) : (convert 122 9 v).run Tryz.prog w = .ok (.string ⟨L.toArray⟩) w := by
  rcases h.2 with ⟨rfl, h0⟩ | ⟨g, cap, cur, rfl, -, -, -, -, -, -⟩
  · have : L = [] := List.length_eq_zero_iff.1 h0
    subst this
    exact conv_nil w
  · exact run_convert_bytes_back (P := Tryz.prog) w 122 9 5 ⟨g, 0, none⟩ cap L Tryz.underlying122 Tryz.underlying5 Tryz.underlying9 (fun j hj => h.cells (g := g) rfl j _ (by simp [Lib.byteCells, hj]))

/-- The state of quoted's loop. -/
structure QuoR (s : ByteArray) (p k : Nat) (w wr : World) (v : Value) (L : List UInt8) : Prop where
  blk : Blk wr w.heap.size gotZ 82
  own : wr.ownsRow (w.heap.size + 1) 5 1 v L.length (Lib.byteCells L)
  at_ : QAt s p k L
  bel : Below w.heap.size w wr
theorem QuoR.app {s : ByteArray} {p k k' : Nat} {w wr w1 : World} {v v' : Value} {L m : List UInt8} {o : Obj} (h : QuoR s p k w wr v L) (hA : QAt s p k' (L ++ m))
    (hown' : w1.ownsRow (w.heap.size + 1) 5 1 v' (L.length + m.length) (Lib.byteCells L ++ Lib.byteCells m)) (hg : (wr.alloc o).grownBy w1 v.ownBlock) : QuoR s p k' w w1 v' (L ++ m) := by
  have hl := h.blk.lt
  obtain ⟨h1, h2⟩ := bytes_append (by omega) h.own hown' hg
  exact ⟨(h2.block _ (by omega)).trans h.blk, h1, hA, h.bel.trans (h2.mono (by omega))⟩

set_option maxRecDepth 100000 in
set_option maxHeartbeats 4000000 in
theorem rquo_any (s : ByteArray) (p : Nat) (w : World) (hs : s.size ≤ 65536) (hp : p < s.size) :
    Calls Tryz.prog 44 #[.string s, .int .i64 ((p + 1 : Nat) : Int)] w fun e w' => RGot (quoOf (quoS (s.data.toList.drop (p + 1)))) p w e w' := by
  obtain ⟨i0, hi, hz0, hz1, hz2⟩ := info_parts infoByteK
  have HQ0 : Hid (QuoR s p (p + 1) w (w.alloc (.cells gotZ 82)) (.slice none 0 0) []) := ⟨Blk.new _ _ _, World.ownsRow_nil _ _ _ _, QAt.start s p, al_bel _ _⟩
  unfold gotZ at HQ0
  obtain ⟨p1, hp1⟩ : ∃ p1, p1 = p + 1 := ⟨_, rfl⟩
  have hp1s : p1 ≤ s.size := by omega
  have i3 : (s.size : Int) ≤ 65536 := by omega
  have HSZ := Lib.hid hs
  obtain ⟨G, hG⟩ : ∃ G, G = quoS (s.data.toList.drop (p + 1)) := ⟨_, rfl⟩
  have HG := Lib.hid hG
  rw [← hG]
  rw [← hp1] at HQ0 ⊢
  have HP1 := Lib.hid hp1
  clear hG hp1 hs hp
  go_enter Tryz.func44, Tryz.ntmps44
  go_wp2_with fail
  go_loopw [1, 5] (fun av bv wr => ∃ (k : Nat) (v : Value) (L : List UInt8), k ≤ s.size ∧ av = .int .i64 (k : Int) ∧ v = bv ∧ Hid (QuoR s p k w wr v L)) (fun av _ _ => s.size - (intOf av).toNat)
  case atStart => exact ⟨p1, _, [], hp1s, rfl, rfl, HQ0⟩
  case round =>
    clear HQ0
    obtain ⟨k, v, L, hk, rfl, hv, HS⟩ := hrel
    subst hv
    have hlw := HS.out.blk.lt
    have hLl : L.length ≤ 65536 := by have := HS.out.at_.2.1; have := HSZ.out; omega
    have HBW := Lib.hid HS.out.bel
    by_cases hlt : k < s.size
    · have hltI : (k : Int) < (s.size : Int) := by omega
      have hkI : (k : Int) ≤ 65536 := by omega
      have HLT := Lib.hid hlt
      by_cases h39 : s[k] = 39
      · have b1 : ((s[k].toNat : Int) == 39) = true := beqI (m := 39) (by decide) h39
        have HR : Hid (G = some (L, k - p)) := by show G = _; rw [HG.out]; exact HS.out.at_.hit hlt h39
        have HPK : Hid (p + (k - p + 1) = k + 1) := by show _ = _; have := HS.out.at_.1; omega
        have hcv := conv_own HS.out.own
        obtain ⟨x, hx⟩ : ∃ x, x = (⟨L.toArray⟩ : ByteArray) := ⟨_, rfl⟩
        have HX := Lib.hid hx
        rw [← hx] at hcv
        clear hx h39
        go_wp2_with (refine wpList_store_row rfl 82 _ _ rfl w.heap.size #[.int .i64 1, .string x, .int .i64 0, .bool true, .int .i64 0, .int .i64 ((k : Int) + 1), .int .i64 0] rfl rfl 82 _ HS.out.blk (by kernel_rfl) rfl (by simp [Value.oneCell']) ?_)
        refine bodyPost_ret (ret_cell1 Tryz.results44 rfl (HS.out.blk.lay _) Tryz.underlying82 (by kernel_rfl)) rfl ?_
        exact RGot.mk (by rw [HR.out, HX.out]; simp only [quoOf, gotC, if_true, HPK.out]; rfl) HBW.out
      · have b1 : ((s[k].toNat : Int) == 39) = false := neqI (m := 39) h39
        by_cases h10 : s[k] = 10
        · have b2 : ((s[k].toNat : Int) == 10) = true := beqI (m := 10) (by decide) h10
          have HR : Hid (G = none) := by show G = _; rw [HG.out]; exact HS.out.at_.line hlt h10
          clear h39 h10
          go_wp2_with (refine wpList_store_row rfl 82 _ _ rfl w.heap.size #[.int .i64 0, .string ⟨#[]⟩, .int .i64 0, .bool false, .int .i64 0, .int .i64 0, .int .i64 2] rfl rfl 82 _ HS.out.blk (by kernel_rfl) rfl (by simp [Value.oneCell']) ?_)
          refine bodyPost_ret (ret_cell1 Tryz.results44 rfl (HS.out.blk.lay _) Tryz.underlying82 (by kernel_rfl)) rfl ?_
          exact RGot.mk (by rw [HR.out]; rfl) HBW.out
        · have b2 : ((s[k].toNat : Int) == 10) = false := neqI (m := 10) h10
          obtain ⟨kn, hkn⟩ : ∃ kn, kn = k + 1 := ⟨_, rfl⟩
          have hwn : (k : Int) + 1 = (kn : Int) := by omega
          have hwn2 : (kn : Int) ≤ 65536 := by omega
          by_cases h92 : s[k] = 92
          · have b3 : ((s[k].toNat : Int) == 92) = true := beqI (m := 92) (by decide) h92
            by_cases hlt2 : kn < s.size
            · have hlt2I : (kn : Int) < (s.size : Int) := by omega
              have hlt2J : ¬ (s.size : Int) ≤ (kn : Int) := by omega
              have hd : s.data.toList.drop (k + 1) = s[kn] :: s.data.toList.drop (kn + 1) := by rw [← hkn]; exact drop_at hlt2
              obtain ⟨k2n, hk2n⟩ : ∃ q, q = k + 2 := ⟨_, rfl⟩
              have hwn3 : (kn : Int) + 1 = (k2n : Int) := by omega
              have hwn4 : (k2n : Int) ≤ 65536 := by omega
              by_cases d110 : s[kn] = 110
              · have c1 : ((s[kn].toNat : Int) == 110) = true := beqI (m := 110) (by decide) d110
                have c1' : ((s[kn].toNat : Int) != 110) = false := by simp [bne, c1]
                obtain ⟨hk2, hA2⟩ := HS.out.at_.esc hlt h92 (b := 10) (by rw [hd, d110]; rfl)
                rw [← hk2n] at hk2 hA2
                have HA2 := Lib.hid hA2
                have HKK : Hid (k < k2n) := by show k < k2n; omega
                clear h39 h10 h92 hkn hd hA2 hk2n d110
                go_wp2_with (at_builtin; refine wpList_append_own _ rfl _ _ 122 rfl (w.heap.size + 1) 5 i0 (.int .u8 0) 1 1 Tryz.underlying122 hi hz0 hz1 hz2 rfl (by decide) _ _ _ rfl (HS.out.own.alloc _) ⟨wr.heap.size, 0, none⟩ 1 1 (Lib.byteCells [10]) rfl rfl (cell_new1 _ _ _) (byte_oneCell _) (by unfold maxLen; omega) (by omega) (by simp; omega) ?_; intro v' w3 hown' hgrow hnil; have HS3 := Lib.hid (HS.out.app (m := [10]) HA2.out hown' hgrow); clear hown' hgrow hnil)
                go_roundw
                case rel => exact ⟨k2n, _, L ++ [10], hk2, rfl, rfl, HS3.out⟩
                case measure => simp [intOf]; have := HKK.out; have := HLT.out; omega
              · have c1 : ((s[kn].toNat : Int) == 110) = false := neqI (m := 110) d110
                have c1' : ((s[kn].toNat : Int) != 110) = true := by simp [bne, c1]
                by_cases d92 : s[kn] = 92 ∨ s[kn] = 39
                · obtain ⟨hk2, hA2⟩ := HS.out.at_.esc hlt h92 (b := s[kn]) (by rw [hd]; simp only [escO, if_neg d110, if_pos d92])
                  rw [← hk2n] at hk2 hA2
                  have HA2 := Lib.hid hA2
                  have HKK : Hid (k < k2n) := by show k < k2n; omega
                  have HD := Lib.hid d92
                  have c2 : (((s[kn].toNat : Int) == 92) = true ∧ ((s[kn].toNat : Int) != 92) = false) ∨ (((s[kn].toNat : Int) == 92) = false ∧ ((s[kn].toNat : Int) != 92) = true ∧ ((s[kn].toNat : Int) == 39) = true ∧ ((s[kn].toNat : Int) != 39) = false) := by
                    rcases d92 with d | d
                    · have c := beqI (m := 92) (by decide) d
                      exact .inl ⟨c, by simp [bne] at c ⊢; exact c⟩
                    · have c := beqI (m := 39) (by decide) d
                      have e39 : (s[kn].toNat : Int) = 39 := by rw [d]; rfl
                      exact .inr ⟨by rw [e39]; rfl, by rw [e39]; rfl, by rw [e39]; rfl, by rw [e39]; rfl⟩
                  clear h39 h10 h92 hkn hd hA2 hk2n d110 d92
                  rcases c2 with ⟨c2, c3⟩ | ⟨c2, c3, c4, c5⟩
                  all_goals
                    go_wp2_with (at_builtin; refine wpList_append_own _ rfl _ _ 122 rfl (w.heap.size + 1) 5 i0 (.int .u8 0) 1 1 Tryz.underlying122 hi hz0 hz1 hz2 rfl (by decide) _ _ _ rfl (HS.out.own.alloc _) ⟨wr.heap.size, 0, none⟩ 1 1 (Lib.byteCells [s[kn]]) rfl rfl (cell_new1 _ _ _) (byte_oneCell _) (by unfold maxLen; omega) (by omega) (by simp; omega) ?_; intro v' w3 hown' hgrow hnil; have HS3 := Lib.hid (HS.out.app (m := [s[kn]]) HA2.out hown' hgrow); clear hown' hgrow hnil)
                    go_roundw
                    case rel => exact ⟨k2n, _, L ++ [s[kn]], hk2, rfl, rfl, HS3.out⟩
                    case measure => simp [intOf]; have := HKK.out; have := HLT.out; omega
                · have n92 : ¬ s[kn] = 92 := fun h => d92 (.inl h)
                  have n39 : ¬ s[kn] = 39 := fun h => d92 (.inr h)
                  have c2 : ((s[kn].toNat : Int) == 92) = false := neqI (m := 92) n92
                  have c3 : ((s[kn].toNat : Int) == 39) = false := neqI (m := 39) n39
                  have c2' : ((s[kn].toNat : Int) != 92) = true := by simp [bne, c2]
                  have c3' : ((s[kn].toNat : Int) != 39) = true := by simp [bne, c3]
                  have HR : Hid (G = none) := by show G = _; rw [HG.out]; exact HS.out.at_.bad hlt h92 (by rw [hd]; simp only [escO, if_neg d110, if_neg d92])
                  clear h39 h10 h92 hkn hd hk2n d110 d92 n92 n39
                  go_wp2_with (refine wpList_store_row rfl 82 _ _ rfl w.heap.size #[.int .i64 0, .string ⟨#[]⟩, .int .i64 0, .bool false, .int .i64 0, .int .i64 0, .int .i64 2] rfl rfl 82 _ HS.out.blk (by kernel_rfl) rfl (by simp [Value.oneCell']) ?_)
                  refine bodyPost_ret (ret_cell1 Tryz.results44 rfl (HS.out.blk.lay _) Tryz.underlying82 (by kernel_rfl)) rfl ?_
                  exact RGot.mk (by rw [HR.out]; rfl) HBW.out
            · have hlt2I : (s.size : Int) ≤ (kn : Int) := by omega
              have hlt2J : ¬ (kn : Int) < (s.size : Int) := by omega
              have HR : Hid (G = none) := by show G = _; rw [HG.out]; exact HS.out.at_.bad hlt h92 (by rw [← hkn, List.drop_of_length_le (by simp; omega)]; rfl)
              clear h39 h10 h92 hkn
              go_wp2_with (refine wpList_store_row rfl 82 _ _ rfl w.heap.size #[.int .i64 0, .string ⟨#[]⟩, .int .i64 0, .bool false, .int .i64 0, .int .i64 0, .int .i64 2] rfl rfl 82 _ HS.out.blk (by kernel_rfl) rfl (by simp [Value.oneCell']) ?_)
              refine bodyPost_ret (ret_cell1 Tryz.results44 rfl (HS.out.blk.lay _) Tryz.underlying82 (by kernel_rfl)) rfl ?_
              exact RGot.mk (by rw [HR.out]; rfl) HBW.out
          · have b3 : ((s[k].toNat : Int) == 92) = false := neqI (m := 92) h92
            have HA2 : Hid (QAt s p kn (L ++ [s[k]])) := by show QAt _ _ _ _; rw [hkn]; exact HS.out.at_.next hlt h39 h10 h92
            have hk2 : kn ≤ s.size := by omega
            have HKK : Hid (k < kn) := by show k < kn; omega
            clear h39 h10 h92 hkn
            go_wp2_with (at_builtin; refine wpList_append_own _ rfl _ _ 122 rfl (w.heap.size + 1) 5 i0 (.int .u8 0) 1 1 Tryz.underlying122 hi hz0 hz1 hz2 rfl (by decide) _ _ _ rfl (HS.out.own.alloc _) ⟨wr.heap.size, 0, none⟩ 1 1 (Lib.byteCells [s[k]]) rfl rfl (cell_new1 _ _ _) (byte_oneCell _) (by unfold maxLen; omega) (by omega) (by simp; omega) ?_; intro v' w3 hown' hgrow hnil; have HS3 := Lib.hid (HS.out.app (m := [s[k]]) HA2.out hown' hgrow); clear hown' hgrow hnil)
            go_roundw
            case rel => exact ⟨kn, _, L ++ [s[k]], hk2, rfl, rfl, HS3.out⟩
            case measure => simp [intOf]; have := HKK.out; have := HLT.out; omega
    · have hltI : ¬ (k : Int) < (s.size : Int) := by omega
      have HR : Hid (G = none) := by show G = _; rw [HG.out]; exact HS.out.at_.stop hlt
      go_wp2_with (refine wpList_store_row rfl 82 _ _ rfl w.heap.size #[.int .i64 0, .string ⟨#[]⟩, .int .i64 0, .bool false, .int .i64 0, .int .i64 0, .int .i64 2] rfl rfl 82 _ HS.out.blk (by kernel_rfl) rfl (by simp [Value.oneCell']) ?_)
      refine bodyPost_ret (ret_cell1 Tryz.results44 rfl (HS.out.blk.lay _) Tryz.underlying82 (by kernel_rfl)) rfl ?_
      exact RGot.mk (by rw [HR.out]; rfl) HBW.out
end Go.Proofs.YtekhcaanjaoioaaGreatDoor
