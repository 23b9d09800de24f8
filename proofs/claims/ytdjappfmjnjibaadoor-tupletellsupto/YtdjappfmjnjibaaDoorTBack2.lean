/-
  Contracts of tuple.valueOf, tuple.Back: the row whose key a text is, in memory of the call's own, or a refusal; of old memory nothing turns.
-/
import Derived.Test.YtdjappfmjnjibaaDoorTBack
namespace Go.Proofs.YtdjappfmjnjibaaDoor
set_option linter.unusedSimpArgs false
set_option linter.unusedVariables false
set_option linter.unusedSectionVars false
set_option maxRecDepth 100000
open Go.RowKit
variable [DecidableEq V]

theorem u8_ne {c d : UInt8} (h : c ≠ d) : (c.toNat : Int) ≠ (d.toNat : Int) := fun e => h (UInt8.toNat_inj.1 (by omega))

set_option maxHeartbeats 1600000 in
theorem valueOf_any (c : UInt8) (s : ByteArray) (hs : s.size ≤ 281474976710656) (w : World) (hg : Glob w) :
    Calls Tryd.prog 28 #[.int .u8 c.toNat, .string s] w fun e w' => Below w.heap.size w w' ∧
      ((∃ v : V, IsVal c s v ∧ e = .returned (.tuple #[.agg #[.bool v.k, .string v.s, .int .i64 v.n], .bool true])) ∨
        ((¬ ∃ v, IsVal c s v) ∧ ∃ v : V, e = .returned (.tuple #[.agg #[.bool v.k, .string v.s, .int .i64 v.n], .bool false]))) := by
  by_cases h1 : c = 115
  · subst h1
    have HV : Hid (IsVal 115 s ⟨true, s, 0⟩) := isVal_sym (by unfold maxLen; omega)
    clear hs hg
    rw [show (((115 : UInt8).toNat : Nat) : Int) = 115 from rfl]
    go_enter Tryd.func28, Tryd.ntmps28
    go_wp2_with (go_at_call 44; refine (sym_any _ _).mono ?_; rintro e w1 ⟨rfl, hb⟩; obtain ⟨hc, hf⟩ := bcell hb; have hz : w.heap.size < w1.heap.size := by (have := hb.size; simp at this; omega))
    exact bodyPost_ret (v := .tuple #[.agg #[.bool true, .string s, .int .i64 0], .bool true]) (by simp [results, Tryd.results28, go_sem, hc, hz]) rfl ⟨((((Below.refl _ _).alloc (Nat.le_refl _) _).trans (hb.mono (by simp))).setCell (by simp) _ |>.setCell (by simp) _ |>.setCell (by simp) _), .inl ⟨⟨true, s, 0⟩, HV.out, rfl⟩⟩
  · by_cases h2 : c = 110
    · subst h2
      have HN : Hid (∀ w1, Below w.heap.size w w1 → _) := fun w1 hb => numberOf_any s hs w1 (hg.on hb)
      clear hs hg h1
      rw [show (((110 : UInt8).toNat : Nat) : Int) = 110 from rfl]
      go_enter Tryd.func28, Tryd.ntmps28
      go_wp2_with fail
      refine (HN.out _ ((Below.refl _ _).alloc (Nat.le_refl _) _)).mono ?_
      rintro e w1 ⟨hb1, hP⟩
      have HB1 : Hid (Below w.heap.size w w1) := ((Below.refl _ _).alloc (Nat.le_refl _) _).trans (hb1.mono (by simp))
      have hz1 : w.heap.size < w1.heap.size := by have := hb1.size; simp at this; omega
      obtain ⟨hc1, hf1⟩ := bcell hb1
      clear hb1 HN
      rcases hP with ⟨n, hn, rfl⟩ | ⟨hn, rfl⟩
      · have HV := Lib.hid (isVal_int hn)
        clear hn
        go_wp2_with (go_at_call 45; refine (int_any _ _).mono ?_; rintro e w2 ⟨rfl, hb2⟩; obtain ⟨hc2, hf2⟩ := bcell hb2; have hz2 : w.heap.size < w2.heap.size := by (have := hb2.size; omega))
        exact bodyPost_ret (v := .tuple #[.agg #[.bool false, .string ⟨#[]⟩, .int .i64 n], .bool true]) (by simp [results, Tryd.results28, go_sem, hc1, hc2, hz1, hz2]) rfl ⟨((HB1.out.trans (hb2.mono HB1.out.size)).setCell (Nat.le_refl _) _ |>.setCell (Nat.le_refl _) _ |>.setCell (Nat.le_refl _) _), .inl ⟨⟨false, ⟨#[]⟩, n⟩, HV.out, rfl⟩⟩
      · have HV := Lib.hid (no_int hn)
        clear hn
        go_wp2_with (go_at_call 45; refine (int_any _ _).mono ?_; rintro e w2 ⟨rfl, hb2⟩; obtain ⟨hc2, hf2⟩ := bcell hb2; have hz2 : w.heap.size < w2.heap.size := by (have := hb2.size; omega))
        exact bodyPost_ret (v := .tuple #[.agg #[.bool false, .string ⟨#[]⟩, .int .i64 0], .bool false]) (by simp [results, Tryd.results28, go_sem, hc1, hc2, hz1, hz2]) rfl ⟨((HB1.out.trans (hb2.mono HB1.out.size)).setCell (Nat.le_refl _) _ |>.setCell (Nat.le_refl _) _ |>.setCell (Nat.le_refl _) _), .inr ⟨HV.out, ⟨false, ⟨#[]⟩, 0⟩, rfl⟩⟩
    · have HV := Lib.hid (no_mark (s := s) h1 h2)
      have e1 : ((c.toNat : Int) == 115) = false := by have := u8_ne h1; simpa using this
      have e2 : ((c.toNat : Int) == 110) = false := by have := u8_ne h2; simpa using this
      clear hs hg h1 h2
      go_enter Tryd.func28, Tryd.ntmps28
      go_wp2
      exact bodyPost_ret (v := .tuple #[.agg #[.bool false, .string ⟨#[]⟩, .int .i64 0], .bool false]) (by simp [results, Tryd.results28, go_sem]) rfl ⟨(by repeat (first | exact Below.refl _ _ | refine Below.alloc ?_ (by simp) _ | refine Below.setCell ?_ (by simp) _)), .inr ⟨HV.out, ⟨false, ⟨#[]⟩, 0⟩, rfl⟩⟩

/-- How long a text is. -/
def strLen : Value → Nat
  | .string s => s.size
  | _ => 0
theorem head_tail (s : ByteArray) (h0 : 0 < s.size) : s.data.toList = s[0] :: (s.extract 1 s.size).data.toList := by
  rw [drop_data]
  have h : 0 < s.data.toList.length := by rw [ba_size]; exact h0
  have := List.drop_eq_getElem_cons (l := s.data.toList) (i := 0) h
  rw [List.drop_zero] at this
  exact this
theorem key_len_ge (L : List V) : L.length ≤ (keyL L).length := by
  induction L with
  | nil => simp
  | cons v l ih => simp only [keyL, List.flatMap_cons, List.length_append, List.length_cons, V.part] at ih ⊢; omega

theorem three_new' (w : World) (o : Obj) (x y z : Value) (t : TypeId) : ∀ j u, [x, y, z][j]? = some u → ((w.alloc o).alloc (.cells #[x, y, z] t)).cell? ((⟨w.heap.size + 1, 0, none⟩ : Addr).add j) = some u := by
  have := three_new (w.alloc o) x y z t
  rwa [World.size_alloc] at this

set_option maxHeartbeats 3200000 in
theorem back_any (s : ByteArray) (hs : s.size < 4294967281) (w : World) (hg : Glob w) :
    Calls Tryd.prog 11 #[.string s] w fun e w' => Below w.heap.size w w' ∧
      ((∃ L x, IsKey L s.data.toList ∧ Own w' w.heap.size x L ∧ e = .returned (.tuple #[x, .int .i64 0])) ∨
        ((¬ ∃ L, IsKey L s.data.toList) ∧ e = .returned (.tuple #[.slice none 0 0, .int .i64 2]))) := by
  obtain ⟨i0, hi, hz0, hz1, hz2⟩ := info_parts infoVal
  have HG := Lib.hid hg
  have hsz := ba_size s
  clear hg
  go_enter Tryd.func11, Tryd.ntmps11
  go_wp2_with fail
  go_loopw [0, 4] (fun sv x wr => ∃ (r : ByteArray) (L : List V) (d : List UInt8), r.size ≤ s.size ∧ L.length ≤ s.size ∧ sv = .string r ∧ Hid (IsKey L d) ∧ Hid (s.data.toList = d ++ r.data.toList) ∧ Hid (Own wr w.heap.size x L) ∧ Hid (Below w.heap.size w wr)) (fun sv _ _ => strLen sv)
  case atStart => exact ⟨s, [], [], Nat.le_refl _, by simp, rfl, ⟨by simp, rfl⟩, by simp [Hid], Own.nil _ _, Below.refl _ _⟩
  case round =>
    obtain ⟨r, L, d, hrs, hLs, rfl, HK, HE, HO, HB⟩ := hrel
    by_cases h0 : 0 < r.size
    · have hne : (r.toList == ([] : List UInt8)) = false := by
        rw [beq_eq_false_iff_ne, ne_eq, ByteArray.toList_eq]
        intro e
        have := congrArg List.length e
        rw [ba_size, List.length_nil] at this
        omega
      have h0I : (0 : Int) < (r.size : Int) := by omega
      have h1I : (1 : Int) ≤ (r.size : Int) := by omega
      have HH := Lib.hid (head_tail r h0)
      have hrl := ba_size r
      have HC := Lib.hid (cutBody_any (r.extract 1 r.size) (by rw [← ba_size, drop_data, List.length_drop, hrl]; omega) wr (HG.out.on HB.out))
      have hel : (r.extract 1 r.size).data.toList.length = r.size - 1 := by rw [drop_data, List.length_drop, hrl]
      go_wp2_with fail
      refine (HC.out).mono ?_
      rintro e w1 ⟨hb1, hP⟩
      have HB1 : Hid (Below w.heap.size w w1) := HB.out.trans (hb1.mono HB.out.size)
      have HO1 := Lib.hid (HO.out.below hb1)
      clear hb1 HC HO HB
      rcases hP with ⟨bd, rs, hc, rfl⟩ | ⟨hc, bd, rs, rfl⟩
      · have hl1 : bd.size + rs.size < r.size := by
          have := congrArg List.length hc
          rw [hel] at this
          simp only [List.length_append, List.length_cons, ba_size] at this
          omega
        have HV := Lib.hid (valueOf_any r[0] bd (by omega) w1 (HG.out.on HB1.out))
        have HCo := Lib.hid hc
        clear hc hel
        go_wp2_with fail
        refine (HV.out).mono ?_
        rintro e w2 ⟨hb2, hP⟩
        have HB2 : Hid (Below w.heap.size w w2) := HB1.out.trans (hb2.mono HB1.out.size)
        have HO2 := Lib.hid (HO1.out.below hb2)
        clear hb2 HV HO1 HB1
        rcases hP with ⟨v, hv, rfl⟩ | ⟨hv, v, rfl⟩
        · have hp := val_part HCo.out hv
          rw [← HH.out] at hp
          have HK2 := Lib.hid (HK.out.snoc ⟨hv.1, hv.2.1⟩)
          have HE2 : Hid (s.data.toList = (d ++ v.part) ++ rs.data.toList) := by
            rw [Hid, HE.out, hp, List.append_assoc]
          have HVo := Lib.hid hv.1
          have hL1 : L.length + 1 ≤ s.size := by
            have h1 := key_len_ge (L ++ [v])
            rw [HK2.out.2] at h1
            have h2 := congrArg List.length HE2.out
            simp only [List.length_append, List.length_singleton] at h1 h2
            omega
          have hs2 : w.heap.size ≤ w2.heap.size := HB2.out.size
          clear hv hp
          go_wp2_with (at_builtin; refine wpList_append_own _ rfl _ _ 22 rfl w.heap.size 47 i0 _ 3 32 Tryd.underlying22 hi hz0 hz1 hz2 rfl (by decide) _ L.length (L.flatMap V.cells) rfl ((HO2.out.own.alloc _).alloc _) ⟨w2.heap.size + 1, 0, none⟩ 1 1 v.cells rfl rfl (three_new' _ _ _ _ _ _) (cells_one v) (by unfold maxLen; omega) (by omega) (by simp; omega) ?_; intro v3 w3 hown3 hg3 hnil3; have HO3 := Lib.hid (HO2.out.app HVo.out hown3); have HB3 : Hid (Below w.heap.size w w3) := ((HB2.out.alloc hs2 _).alloc (by simp; omega) _).grown hg3 (by simp; omega) (fun k hk => (HO2.out.own.lt k hk).1); clear hown3 hg3 hnil3)
          go_roundw
          case rel => exact ⟨rs, L ++ [v], d ++ v.part, by omega, by simp; omega, rfl, HK2, HE2, HO3, HB3⟩
          case measure => simp [strLen]; omega
        · have HN : Hid (¬ ∃ L, IsKey L s.data.toList) := by
            rw [HE.out, HH.out]
            exact key_no HK.out (no_val HCo.out hv)
          clear hv
          go_wp2
          go_ret2
          exact ⟨(by first | exact HB2.out | exact HB2.out.alloc HB2.out.size _), .inr ⟨HN.out, rfl⟩⟩
      · have HN : Hid (¬ ∃ L, IsKey L s.data.toList) := by
          rw [HE.out, HH.out]
          exact key_no HK.out (no_cut hc)
        clear hc
        go_wp2
        go_ret2
        exact ⟨HB1.out, .inr ⟨HN.out, rfl⟩⟩
    · have hr0 : r = ⟨#[]⟩ := by
        apply bytes_ext
        have := ba_size r
        exact List.eq_nil_of_length_eq_zero (by omega)
      subst hr0
      have HK2 : Hid (IsKey L s.data.toList) := by
        have := HE.out
        rw [show (⟨#[]⟩ : ByteArray).data.toList = [] from rfl, List.append_nil] at this
        rw [this]; exact HK.out
      clear HK HE
      go_wp2
      go_ret2
      exact ⟨HB.out, .inl ⟨L, _, HK2.out, HO.out, rfl⟩⟩
end Go.Proofs.YtdjappfmjnjibaaDoor
