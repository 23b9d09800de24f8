/-
  Contracts of tuple.numberOf, tuple.cutBody, tuple.valueOf: what a key's pieces tell; of old memory nothing turns.
-/
import Derived.Test.YtdjappfmjnjibaaDoorTBackP
import Derived.Test.YtdjappfmjnjibaaDoorTOf
import Derived.Lib.AtoiErrMem
import Derived.Shelf.Strconv.ErrVarParseInt
namespace Go.Proofs.YtdjappfmjnjibaaDoor
set_option linter.unusedSimpArgs false
set_option linter.unusedVariables false
set_option linter.unusedSectionVars false
set_option maxRecDepth 100000
open Go.RowKit
variable [DecidableEq V]

theorem var_on {P : Program} {w w' : World} {n : String} {cs : Array Value} (h : w.var? P n = some cs) (hb : Below w.heap.size w w') : w'.var? P n = some cs := by
  unfold World.var? at *
  cases hg : P.globalNamed n with
  | none => simp [hg] at h
  | some g =>
    simp only [hg, Option.bind_some] at h ⊢
    have hlt : g < w.heap.size := by
      rcases Nat.lt_or_ge g w.heap.size with h' | h'
      · exact h'
      · rw [Array.getElem?_eq_none h'] at h; simp at h
    rw [hb.block g hlt]
    exact h
theorem ba_ne {t s : ByteArray} (h : t ≠ s) : (t.toList == s.toList) = false := by
  rw [beq_eq_false_iff_ne, ne_eq, ByteArray.toList_eq, ByteArray.toList_eq]
  exact fun e => h (bytes_ext e)
/-- The library's variables read as its text lays them. -/
structure Glob (w : World) : Prop where
  tab : Tab w
  max : ∃ m, w.cell? ⟨0, 0, none⟩ = some (.int .i64 m)
  syn : ∃ tp p, w.var? Tryd.prog "strconv.ErrSyntax" = some #[.iface tp p]
  rng : ∃ tp p, w.var? Tryd.prog "strconv.ErrRange" = some #[.iface tp p]
theorem Glob.on {w w' : World} (h : Glob w) (hb : Below w.heap.size w w') : Glob w' := by
  obtain ⟨h1, ⟨m, h2⟩, ⟨tp, p, h3⟩, ⟨tq, q, h4⟩⟩ := h
  exact ⟨h1.on hb, ⟨m, (hb.cell (p := ⟨0, 0, none⟩) (lt_of_cell h2)).trans h2⟩, ⟨tp, p, var_on h3 hb⟩, ⟨tq, q, var_on h4 hb⟩⟩

theorem parseInt_any (s : ByteArray) (hs : s.size ≤ 281474976710656) (w : World) (hg : Glob w) :
    Calls Tryd.prog 54 #[.string s, .int .i64 10, .int .i64 64] w fun e w' => Below w.heap.size w w' ∧
      ((∃ v, Lib.parseIntB 64 s.data.toList = .ok v ∧ e = .returned (.tuple #[.int .i64 v, .nilIface])) ∨
        ((¬ ∃ n, IsNum s.data.toList n) ∧ ∃ v t p, e = .returned (.tuple #[.int .i64 v, .iface t p]))) := by
  cases hp : Lib.parseIntB 64 s.data.toList
  · rename_i v
    refine (Tryd.strconv_ParseInt_10_at64_ok s (by omega) v hp w).mono ?_
    rintro e w' ⟨rfl, h⟩
    refine ⟨?_, .inl ⟨v, rfl, rfl⟩⟩
    rcases h with rfl | ⟨t, rfl⟩
    · exact Below.refl _ _
    · exact Lib.bytesWorld_below _ _ _
  · obtain ⟨tp, p, hv⟩ := hg.syn
    refine (Any.strconv_ParseInt_10_at64_syntax_var Tryd.laysC174 s hs hp tp p w hv).mono ?_
    rintro e w' ⟨N, rfl, -, -, hb⟩
    exact ⟨hb, .inr ⟨parse_no hp (fun n h => by cases h), _, _, _, rfl⟩⟩
  · obtain ⟨tp, p, hv⟩ := hg.rng
    refine (Any.strconv_ParseInt_10_at64_range_var Tryd.laysC174 s hs hp tp p w hv).mono ?_
    rintro e w' ⟨N, rfl, -, -, hb⟩
    exact ⟨hb, .inr ⟨parse_no hp (fun n h => by cases h), _, _, _, rfl⟩⟩

set_option maxHeartbeats 1600000 in
theorem numberOf_any (s : ByteArray) (hs : s.size ≤ 281474976710656) (w : World) (hg : Glob w) :
    Calls Tryd.prog 43 #[.string s] w fun e w' => Below w.heap.size w w' ∧
      ((∃ n, IsNum s.data.toList n ∧ e = .returned (.tuple #[.int .i64 n, .bool true])) ∨
        ((¬ ∃ n, IsNum s.data.toList n) ∧ e = .returned (.tuple #[.int .i64 0, .bool false]))) := by
  have HP := Lib.hid (parseInt_any s hs w hg)
  have HG := Lib.hid hg
  clear hs hg
  go_enter Tryd.func43, Tryd.ntmps43
  go_wp2_with fail
  refine (HP.out).mono ?_
  rintro e w1 ⟨hb1, hP⟩
  have HB1 := Lib.hid hb1
  clear hb1 HP
  rcases hP with ⟨v, hv, rfl⟩ | ⟨hn, v, t, p, rfl⟩
  · have hr := parse_in hv
    have HF := Lib.hid (tfig_any v hr.1 hr.2 w1 (HG.out.on HB1.out).tab)
    have HV := Lib.hid hv
    have HR := Lib.hid hr
    clear hv hr
    obtain ⟨t, ht⟩ : ∃ t : ByteArray, t = ⟨(Lib.itoa v).toArray⟩ := ⟨_, rfl⟩
    rw [← ht] at HF
    have htl : t.data.toList = Lib.itoa v := by rw [ht]
    have HT := Lib.hid htl
    clear ht htl
    by_cases h : t = s
    · subst h
      go_wp2_with fail
      refine (HF.out).mono ?_
      rintro e w2 ⟨rfl, hb2⟩
      have HB2 : Hid (Below w.heap.size w w2) := HB1.out.trans (hb2.mono HB1.out.size)
      clear hb2 HB1
      go_wp2
      go_ret2
      exact ⟨HB2.out, .inl ⟨v, ⟨HR.out, HT.out.symm⟩, rfl⟩⟩
    · have hne := ba_ne h
      have HN : Hid (¬ ∃ n, IsNum s.data.toList n) := parse_other HV.out (fun e => h (bytes_ext (HT.out.trans e)))
      clear h
      go_wp2_with fail
      refine (HF.out).mono ?_
      rintro e w2 ⟨rfl, hb2⟩
      have HB2 : Hid (Below w.heap.size w w2) := HB1.out.trans (hb2.mono HB1.out.size)
      clear hb2 HB1
      go_wp2
      go_ret2
      exact ⟨HB2.out, .inr ⟨HN.out, rfl⟩⟩
  · have HN := Lib.hid hn
    clear hn
    go_wp2
    go_ret2
    exact ⟨HB1.out, .inr ⟨HN.out, rfl⟩⟩

theorem ba_list (l : List UInt8) : (⟨l.toArray⟩ : ByteArray).data.toList = l := by simp
theorem take_data (s : ByteArray) (k : Nat) : (s.extract 0 k).data.toList = s.data.toList.take k := by rw [Lib.extract_data]; simp
theorem drop_data (s : ByteArray) (k : Nat) : (s.extract k s.size).data.toList = s.data.toList.drop k := by
  rw [Lib.extract_data]
  apply List.take_of_length_le
  simp
theorem ba_size (s : ByteArray) : s.data.toList.length = s.size := by simp

theorem cut_any (s : ByteArray) (hs : s.size < 4294967281) (w : World) (hg : Glob w) :
    Calls Tryd.prog 42 #[.string s, .string ⟨#[58]⟩] w fun e w' => Below w.heap.size w w' ∧
      (((∀ x ∈ s.data.toList, x ≠ 58) ∧ ∃ a b, e = .returned (.tuple #[.string a, .string b, .bool false])) ∨
        ∃ a b : ByteArray, s.data.toList = a.data.toList ++ 58 :: b.data.toList ∧ (∀ x ∈ a.data.toList, x ≠ 58) ∧ e = .returned (.tuple #[.string a, .string b, .bool true])) := by
  obtain ⟨m, hm⟩ := hg.max
  refine (Tryd.strings_Cut s ⟨#[58]⟩ m w hs hm).mono ?_
  rintro e w' ⟨rfl, n, rfl⟩
  refine ⟨below_drewN' (Below.refl _ _) n, ?_⟩
  rw [show (⟨#[58]⟩ : ByteArray).data.toList = [58] from rfl]
  rcases colon_cases s.data.toList with ⟨h1, h2⟩ | ⟨a, b, h1, h2, h3⟩
  · exact .inl ⟨h2, _, _, by rw [h1]⟩
  · exact .inr ⟨⟨a.toArray⟩, ⟨b.toArray⟩, by rw [ba_list, ba_list]; exact h2, by rw [ba_list]; exact h3, by rw [h1]⟩

set_option maxHeartbeats 1600000 in
theorem cutBody_any (s : ByteArray) (hs : s.size < 4294967281) (w : World) (hg : Glob w) :
    Calls Tryd.prog 27 #[.string s] w fun e w' => Below w.heap.size w w' ∧
      ((∃ b r : ByteArray, CutOk s.data.toList b.data.toList r.data.toList ∧ e = .returned (.tuple #[.string b, .string r, .bool true])) ∨
        ((¬ ∃ b r, CutOk s.data.toList b r) ∧ ∃ b r, e = .returned (.tuple #[.string b, .string r, .bool false]))) := by
  have HC := Lib.hid (cut_any s hs w hg)
  have HG := Lib.hid hg
  have hz := ba_size s
  clear hg
  go_enter Tryd.func27, Tryd.ntmps27
  go_wp2_with fail
  refine (HC.out).mono ?_
  rintro e w1 ⟨hb1, hP⟩
  have HB1 := Lib.hid hb1
  clear hb1 HC
  rcases hP with ⟨hn, a, b, rfl⟩ | ⟨a, b, h1, h2, rfl⟩
  · have HN := Lib.hid (cut_no_colon hn)
    clear hn
    go_wp2
    go_ret3
    exact ⟨HB1.out, .inr ⟨HN.out, _, _, rfl⟩⟩
  · have ha := ba_size a
    have hb := ba_size b
    have hsz : a.size + b.size < 4294967281 := by
      have := congrArg List.length h1
      simp only [List.length_append, List.length_cons] at this
      omega
    have HN := Lib.hid (numberOf_any a (by omega) w1 (HG.out.on HB1.out))
    have H1 := Lib.hid h1
    have H2 := Lib.hid h2
    clear h1 h2
    go_wp2_with fail
    refine (HN.out).mono ?_
    rintro e w2 ⟨hb2, hP⟩
    have HB2 : Hid (Below w.heap.size w w2) := HB1.out.trans (hb2.mono HB1.out.size)
    clear hb2 HB1 HN
    rcases hP with ⟨n, hn, rfl⟩ | ⟨hn, rfl⟩
    · by_cases c1 : n < 0
      · have HX : Hid (¬ ∃ b r, CutOk s.data.toList b r) := by
          rintro ⟨bd, rs, hc⟩
          have := cut_head H1.out H2.out hc
          have := itoa_inj (hn.2.trans this.1)
          omega
        clear hn
        go_wp2
        go_ret3
        exact ⟨HB2.out, .inr ⟨HX.out, _, _, rfl⟩⟩
      · by_cases c2 : n > (b.size : Int)
        · have HX : Hid (¬ ∃ b r, CutOk s.data.toList b r) := by
            rintro ⟨bd, rs, hc⟩
            have h3 := cut_head H1.out H2.out hc
            have h4 := itoa_inj (hn.2.trans h3.1)
            have h5 := congrArg List.length h3.2
            simp only [List.length_append] at h5
            omega
          clear hn
          go_wp2
          go_ret3
          exact ⟨HB2.out, .inr ⟨HX.out, _, _, rfl⟩⟩
        · obtain ⟨k, hk⟩ : ∃ k : Nat, n = (k : Int) := ⟨n.toNat, by omega⟩
          subst hk
          have hkb : k ≤ b.size := by omega
          have hkI : (k : Int) ≤ (b.size : Int) := by omega
          have hk0 : (0 : Int) ≤ (k : Int) := by omega
          have HX := Lib.hid (cut_yes H1.out hn.2 (by omega))
          clear hn c1 c2
          go_wp2
          go_quiet (fail)
          go_wp2
          go_ret3
          refine ⟨below_drewN' HB2.out _, .inl ⟨b.extract 0 k, b.extract k b.size, by rw [take_data, drop_data]; exact HX.out, ?_⟩⟩
          rfl
    · have HX : Hid (¬ ∃ b r, CutOk s.data.toList b r) := by
        rintro ⟨bd, rs, hc⟩
        have h3 := cut_head H1.out H2.out hc
        have h5 := congrArg List.length h3.2
        simp only [List.length_append] at h5
        exact hn ⟨(bd.length : Int), ⟨by omega, by omega⟩, h3.1.symm⟩
      clear hn
      go_wp2
      go_ret3
      exact ⟨HB2.out, .inr ⟨HX.out, _, _, rfl⟩⟩
end Go.Proofs.YtdjappfmjnjibaaDoor
