/-
  Contract of the document's Back (lambrequinref03): the row whose key a text is, or a refusal.
-/
import Derived.Test.YtdjappfmjnjibaaDoorTRefNum
namespace Go.Proofs.YtdjappfmjnjibaaDoor
set_option linter.unusedSimpArgs false
set_option linter.unusedVariables false
set_option linter.unusedSectionVars false
set_option maxRecDepth 100000
open Go.RowKit
variable [DecidableEq V]

theorem cut_at {l : List UInt8} {p q : Nat} (hq : q < l.length) (hpq : p + 1 ≤ q) (hc : l[q] = 58) (hn : ∀ j (hj : j < l.length), p + 1 ≤ j → j < q → l[j] ≠ 58) :
    l.drop (p + 1) = (l.drop (p + 1)).take (q - (p + 1)) ++ 58 :: l.drop (q + 1) ∧ ∀ x ∈ (l.drop (p + 1)).take (q - (p + 1)), x ≠ 58 := by
  constructor
  · have h1 : (l.drop (p + 1)).drop (q - (p + 1)) = 58 :: l.drop (q + 1) := by
      rw [List.drop_drop, show p + 1 + (q - (p + 1)) = q by omega, List.drop_eq_getElem_cons hq, hc]
    rw [← h1, List.take_append_drop]
  · intro x hx
    obtain ⟨j, hj, rfl⟩ := List.mem_iff_getElem.1 hx
    simp only [List.length_take, List.length_drop] at hj
    rw [List.getElem_take, List.getElem_drop]
    exact hn _ _ (by omega) (by omega)
theorem nocut_at {l : List UInt8} {p : Nat} (hn : ∀ j (hj : j < l.length), p + 1 ≤ j → j < l.length → l[j] ≠ 58) : ∀ x ∈ l.drop (p + 1), x ≠ 58 := by
  intro x hx
  obtain ⟨j, hj, rfl⟩ := List.mem_iff_getElem.1 hx
  simp only [List.length_drop] at hj
  rw [List.getElem_drop]
  exact hn _ _ (by omega) (by omega)

/-- Between p and q there is no colon. -/
def NoCol (l : List UInt8) (p q : Nat) : Prop := ∀ j (hj : j < l.length), p + 1 ≤ j → j < q → l[j] ≠ 58
/-- How a key's reading ends. -/
def BackOut (l : List UInt8) (w : World) (e : Ending) (w' : World) : Prop := Below w.heap.size w w' ∧
  ((∃ L x, IsKey L l ∧ Own w' w.heap.size x L ∧ e = .returned (.tuple #[x, .int .i64 0])) ∨ ((¬ ∃ L, IsKey L l) ∧ e = .returned (.tuple #[.slice none 0 0, .int .i64 2])))
theorem BackOut.yes {l : List UInt8} {w w' : World} {L : List V} {x : Value} (hb : Below w.heap.size w w') (h : IsKey L l) (ho : Own w' w.heap.size x L) : BackOut l w (.returned (.tuple #[x, .int .i64 0])) w' := ⟨hb, .inl ⟨L, x, h, ho, rfl⟩⟩
theorem BackOut.no {l : List UInt8} {w w' : World} (hb : Below w.heap.size w w') (h : ¬ ∃ L, IsKey L l) : BackOut l w (.returned (.tuple #[.slice none 0 0, .int .i64 2])) w' := ⟨hb, .inr ⟨h, rfl⟩⟩

/-- Where the reading stands: what is read is the key of L. -/
def At (l : List UInt8) (p : Nat) (L : List V) : Prop := ∃ d, IsKey L d ∧ l = d ++ l.drop p
theorem At.start (l : List UInt8) : At l 0 [] := ⟨[], ⟨by simp, rfl⟩, by simp⟩
theorem At.done {l : List UInt8} {p : Nat} {L : List V} (h : At l p L) (hp : l.length ≤ p) : IsKey L l := by
  obtain ⟨d, hd, e⟩ := h
  rw [List.drop_eq_nil_of_le hp, List.append_nil] at e
  rw [e]; exact hd
theorem At.len {l : List UInt8} {p : Nat} {L : List V} (h : At l p L) : L.length ≤ l.length := by
  obtain ⟨d, hd, e⟩ := h
  have h1 := key_len_ge L
  rw [hd.2] at h1
  have := congrArg List.length e
  rw [List.length_append] at this
  omega
theorem At.bad {l : List UInt8} {p : Nat} {L : List V} (h : At l p L) (hp : p < l.length) (hb : ∀ (v : V) rest, v.Ok → v.bare = v → l[p] :: l.drop (p + 1) ≠ v.part ++ rest) : ¬ ∃ M, IsKey M l := by
  obtain ⟨d, hd, e⟩ := h
  rw [e, List.drop_eq_getElem_cons hp]
  exact key_no hd hb
theorem At.step {l : List UInt8} {p p' : Nat} {L : List V} {v : V} (h : At l p L) (hp : p < l.length) (hv : v.Ok ∧ v.bare = v) (hs : l[p] :: l.drop (p + 1) = v.part ++ l.drop p') : At l p' (L ++ [v]) := by
  obtain ⟨d, hd, e⟩ := h
  refine ⟨d ++ v.part, hd.snoc hv, ?_⟩
  rw [List.append_assoc, ← hs, ← List.drop_eq_getElem_cons hp]
  exact e
theorem no_num_cut {t a b : List UInt8} (h : t = a ++ 58 :: b) (ha : ∀ x ∈ a, x ≠ 58) (hl : t.length < 4294967281) (hn : ¬ ∃ n, IsNum a n) : ¬ ∃ bd r, CutOk t bd r := by
  rintro ⟨bd, rs, hc⟩
  have h3 := cut_head h ha hc
  have h5 := congrArg List.length h3.2
  have h6 := congrArg List.length h
  simp only [List.length_append, List.length_cons] at h5 h6
  exact hn ⟨(bd.length : Int), ⟨by omega, by omega⟩, h3.1.symm⟩
theorem bad_num_cut {t a b : List UInt8} {n : Int} (h : t = a ++ 58 :: b) (ha : ∀ x ∈ a, x ≠ 58) (hn : IsNum a n) (hb : n < 0 ∨ (b.length : Int) < n) : ¬ ∃ bd r, CutOk t bd r := by
  rintro ⟨bd, rs, hc⟩
  have h3 := cut_head h ha hc
  have h4 := itoa_inj (hn.2.trans h3.1)
  have h5 := congrArg List.length h3.2
  simp only [List.length_append] at h5
  omega
theorem text_data (s : ByteArray) (a k : Nat) : (s.extract a (a + k)).data.toList = (s.data.toList.drop a).take k := by
  rw [Lib.extract_data]; congr 1; omega

theorem NumOut.get {l : List UInt8} {w w' : World} {e : Ending} (h : NumOut l w e w') : Below w.heap.size w w' ∧ ∃ m f, e = .returned (.tuple #[.int .i64 m, .bool f]) ∧ (f = true → IsNum l m) ∧ (f = false → ¬ ∃ n, IsNum l n) := by
  obtain ⟨hb, ⟨n, hn, rfl⟩ | ⟨hn, n, rfl⟩⟩ := h
  · exact ⟨hb, n, true, rfl, fun _ => hn, fun h => by cases h⟩
  · exact ⟨hb, n, false, rfl, (fun h => by cases h), fun _ => hn⟩
theorem ext_size (s : ByteArray) (a b : Nat) : (s.extract a b).size ≤ s.size := by
  rw [← ba_size, Lib.extract_data, List.length_take, List.length_drop, ba_size]; omega

set_option maxHeartbeats 12800000 in
theorem refBack_any (s : ByteArray) (hs : s.size < 4294967281) (w : World) :
    Calls Tryd.prog 12 #[.string s] w fun e w' => BackOut s.data.toList w e w' := by
  obtain ⟨i0, hi, hz0, hz1, hz2⟩ := info_parts infoVal
  have hsz := ba_size s
  have hsI : (s.size : Int) < 4294967281 := by omega
  go_enter Tryd.func12, Tryd.ntmps12
  go_wp2_with fail
  go_loopw [4, 5] (fun x i wr => ∃ (p : Nat) (L : List V), p ≤ s.size ∧ i = .int .i64 p ∧ Hid (At s.data.toList p L) ∧ Hid (Own wr w.heap.size x L) ∧ Hid (Below w.heap.size w wr)) (fun _ i _ => s.size - (intOf i).toNat)
  case atStart => exact ⟨0, [], Nat.zero_le _, rfl, At.start _, Own.nil _ _, Below.refl _ _⟩
  case round =>
    obtain ⟨p, L, hp, rfl, HA, HO, HB⟩ := hrel
    by_cases hlt : p < s.size
    · have h1I : (p : Int) < (s.size : Int) := by omega
      have hpl : p < s.data.toList.length := by omega
      go_wp2_with fail
      obtain ⟨wo, hwo⟩ : ∃ wo, wo = wr := ⟨_, rfl⟩
      go_loopw [6] (fun j wr => ∃ (q : Nat), p + 1 ≤ q ∧ q ≤ s.size ∧ j = .int .i64 q ∧ wr = wo ∧ Hid (NoCol s.data.toList p q)) (fun j _ => s.size - (intOf j).toNat)
      case atStart => exact ⟨p + 1, Nat.le_refl _, by omega, by go_num, hwo.symm, fun j hj h1 h2 => by omega⟩
      case round =>
        subst hwo
        obtain ⟨q, hpq, hq, rfl, rfl, HN⟩ := hrel
        by_cases hql : q < s.size
        · have h2I : (q : Int) < (s.size : Int) := by omega
          have hqb : s.data.toList[q] = s[q] := rfl
          by_cases hc : s[q] = 58
          · have e58 : (s[q].toNat : Int) = 58 := by rw [hc]; rfl
            obtain ⟨hcut, hno⟩ := cut_at (l := s.data.toList) (p := p) (q := q) (by omega) hpq hc HN.out
            have H1 := Lib.hid hcut
            have H2 := Lib.hid hno
            have HNum := Lib.hid (refNum_any (s.extract (p + 1) q) (by have := ext_size s (p + 1) q; omega) wr)
            have HD : Hid ((s.extract (p + 1) q).data.toList = (s.data.toList.drop (p + 1)).take (q - (p + 1))) := Lib.extract_data s (p + 1) q
            clear hcut hno hqb hc HN
            go_wp2_with fail
            refine (HNum.out).mono ?_
            rintro e w1 hOut
            obtain ⟨hb1, n, f, rfl, hy, hnn⟩ := hOut.get
            have HB1 : Hid (Below w.heap.size w w1) := HB.out.trans (hb1.mono HB.out.size)
            have HO1 := Lib.hid (HO.out.below hb1)
            rw [HD.out] at hy hnn
            clear hb1 hOut HNum HB HO HD
            cases f
            · have HX : Hid (¬ ∃ M, IsKey M s.data.toList) := HA.out.bad hpl (no_cut (no_num_cut H1.out H2.out (by simp; omega) (hnn rfl)))
              clear hy hnn
              go_wp2
              go_ret2
              exact BackOut.no HB1.out HX.out
            · have HY := Lib.hid (hy rfl)
              clear hy hnn
              have hbl : (s.data.toList.drop (q + 1)).length = s.size - q - 1 := by rw [List.length_drop, hsz]; omega
              by_cases c1 : n < 0
              · have HX : Hid (¬ ∃ M, IsKey M s.data.toList) := HA.out.bad hpl (no_cut (bad_num_cut H1.out H2.out HY.out (.inl c1)))
                go_wp2
                go_ret2
                exact BackOut.no HB1.out HX.out
              · by_cases c2 : n > (s.size : Int) - (q : Int) - 1
                · have HX : Hid (¬ ∃ M, IsKey M s.data.toList) := HA.out.bad hpl (no_cut (bad_num_cut H1.out H2.out HY.out (.inr (by omega))))
                  go_wp2
                  go_ret2
                  exact BackOut.no HB1.out HX.out
                · obtain ⟨k, hk⟩ : ∃ k : Nat, n = (k : Int) := ⟨n.toNat, by omega⟩
                  subst hk
                  have hkq : q + 1 + k ≤ s.size := by omega
                  have hkI : (q : Int) + 1 + (k : Int) ≤ (s.size : Int) := by omega
                  have HC0 := Lib.hid (cut_yes H1.out HY.out.2 (by omega : k ≤ (s.data.toList.drop (q + 1)).length))
                  have HD2 := Lib.hid (text_data s (q + 1) k)
                  have htx := Lib.hid (ext_size s (q + 1) (q + 1 + k))
                  have HNum := Lib.hid (refNum_any (s.extract (q + 1) (q + 1 + k)) (Nat.lt_of_le_of_lt htx.out hs) w1)
                  rw [← HD2.out, List.drop_drop] at HC0
                  have hqw : IntKind.i64.wrap ((q : Int) + 1) = (q : Int) + 1 := by rw [IntKind.wrap_i64]; omega
                  have hqw2 : IntKind.i64.wrap ((q : Int) + 1 + (k : Int)) = (q : Int) + 1 + (k : Int) := by rw [IntKind.wrap_i64]; omega
                  have hq9 : (q : Int) ≤ 9000000000 := by omega
                  have hk9 : (k : Int) ≤ 9000000000 := by omega
                  have hs9 : (s.size : Int) ≤ 9000000000 := by omega
                  have hsw : IntKind.i64.wrap ((s.size : Int) - (q : Int)) = (s.size : Int) - (q : Int) := by rw [IntKind.wrap_i64]; omega
                  have hsw2 : IntKind.i64.wrap ((s.size : Int) - (q : Int) - 1) = (s.size : Int) - (q : Int) - 1 := by rw [IntKind.wrap_i64]; omega
                  have hge : ¬ (q : Int) ≥ (s.size : Int) := by omega
                  have HAll := Lib.hid (And.intro hs (And.intro hpq (And.intro hq (And.intro hp hsz))))
                  clear H1 H2 HY hbl HD2 hs hsI hpq hq hp hsz
                  go_wp2_with fail
                  refine (HNum.out).mono ?_
                  rintro e w2 hOut
                  obtain ⟨hb2, m, f, rfl, hy, hnn⟩ := hOut.get
                  have HB2 : Hid (Below w.heap.size w w2) := HB1.out.trans (hb2.mono HB1.out.size)
                  have HO2 := Lib.hid (HO1.out.below hb2)
                  have hs2 : w.heap.size ≤ w2.heap.size := HB2.out.size
                  have hLs := HA.out.len
                  have hsz := HAll.out.2.2.2.2
                  have hs := HAll.out.1
                  rw [hsz] at hLs
                  clear hsz
                  clear hb2 hOut HNum HB1 HO1
                  generalize s.extract (q + 1) (q + 1 + k) = tx at *
                  by_cases m1 : s[p] = 115
                  · have e1 : (s[p].toNat : Int) = 115 := by rw [m1]; rfl
                    have hV : IsVal s.data.toList[p] tx ⟨true, tx, 0⟩ := by rw [show s.data.toList[p] = 115 from m1]; exact isVal_sym (by have := htx.out; unfold maxLen; omega)
                    have HVo : Hid ((V.mk true tx 0).Ok ∧ (V.mk true tx 0).bare = V.mk true tx 0) := ⟨hV.1, hV.2.1⟩
                    have HA2 := Lib.hid (HA.out.step hpl HVo.out (val_part HC0.out hV))
                    clear hy hnn m1 hV HA HC0
                    go_wp2_with (at_builtin; refine wpList_append_own _ rfl _ _ 22 rfl w.heap.size 47 i0 _ 3 32 Tryd.underlying22 hi hz0 hz1 hz2 rfl (by decide) _ L.length (L.flatMap V.cells) rfl (HO2.out.own.alloc _) ⟨w2.heap.size, 0, none⟩ 1 1 (V.cells ⟨true, tx, 0⟩) rfl rfl (three_new _ _ _ _ _) (cells_one ⟨true, tx, 0⟩) (by unfold maxLen; omega) (by omega) (by simp; omega) ?_; intro v3 w3 hown3 hg3 hnil3; have HO3 := Lib.hid (HO2.out.app HVo.out.1 hown3); have HB3 : Hid (Below w.heap.size w w3) := (HB2.out.alloc hs2 _).grown hg3 (by simp; omega) (fun k hk => (HO2.out.own.lt k hk).1); clear hown3 hg3 hnil3)
                    go_roundw
                    case rel => exact ⟨q + 1 + k, L ++ [⟨true, tx, 0⟩], by omega, by go_num, HA2, HO3, HB3⟩
                    case measure => have hpq := HAll.out.2.1; simp [intOf]; omega
                  · have e1 : ((s[p].toNat : Int) == 115) = false := by have := u8_ne m1; simpa using this
                    by_cases m2 : s[p] = 110
                    · have e2 : (s[p].toNat : Int) = 110 := by rw [m2]; rfl
                      cases f
                      · have HX : Hid (¬ ∃ M, IsKey M s.data.toList) := HA.out.bad hpl (no_val HC0.out (by rw [show s.data.toList[p] = 110 from m2]; exact no_int (hnn rfl)))
                        clear hy hnn m1 m2 HA HC0 e1
                        go_wp2
                        go_ret2
                        exact BackOut.no HB2.out HX.out
                      · have hV : IsVal s.data.toList[p] tx ⟨false, ⟨#[]⟩, m⟩ := by rw [show s.data.toList[p] = 110 from m2]; exact isVal_int (hy rfl)
                        have HVo : Hid ((V.mk false ⟨#[]⟩ m).Ok ∧ (V.mk false ⟨#[]⟩ m).bare = V.mk false ⟨#[]⟩ m) := ⟨hV.1, hV.2.1⟩
                        have HA2 := Lib.hid (HA.out.step hpl HVo.out (val_part HC0.out hV))
                        clear hy hnn m1 m2 hV HA HC0 e1
                        go_wp2_with (at_builtin; refine wpList_append_own _ rfl _ _ 22 rfl w.heap.size 47 i0 _ 3 32 Tryd.underlying22 hi hz0 hz1 hz2 rfl (by decide) _ L.length (L.flatMap V.cells) rfl (HO2.out.own.alloc _) ⟨w2.heap.size, 0, none⟩ 1 1 (V.cells ⟨false, ⟨#[]⟩, m⟩) rfl rfl (three_new _ _ _ _ _) (cells_one ⟨false, ⟨#[]⟩, m⟩) (by unfold maxLen; omega) (by omega) (by simp; omega) ?_; intro v3 w3 hown3 hg3 hnil3; have HO3 := Lib.hid (HO2.out.app HVo.out.1 hown3); have HB3 : Hid (Below w.heap.size w w3) := (HB2.out.alloc hs2 _).grown hg3 (by simp; omega) (fun k hk => (HO2.out.own.lt k hk).1); clear hown3 hg3 hnil3)
                        go_roundw
                        case rel => exact ⟨q + 1 + k, L ++ [⟨false, ⟨#[]⟩, m⟩], by omega, by go_num, HA2, HO3, HB3⟩
                        case measure => have hpq := HAll.out.2.1; simp [intOf]; omega
                    · have e2 : ((s[p].toNat : Int) == 110) = false := by have := u8_ne m2; simpa using this
                      have HX : Hid (¬ ∃ M, IsKey M s.data.toList) := HA.out.bad hpl (no_val HC0.out (no_mark m1 m2))
                      have d1 : ¬ (s[p].toNat : Int) = 115 := u8_ne m1
                      have d2 : ¬ (s[p].toNat : Int) = 110 := u8_ne m2
                      clear hy hnn m1 m2 HA HC0
                      go_wp2
                      go_ret2
                      exact BackOut.no HB2.out HX.out
          · have e58 : ((s[q].toNat : Int) == 58) = false := by have := u8_ne hc; simpa using this
            have HN2 : Hid (NoCol s.data.toList p (q + 1)) := fun j hj h1 h2 => by
              by_cases e : j = q
              · subst e; exact hc
              · exact HN.out j hj h1 (by omega)
            have hqw : IntKind.i64.wrap ((q : Int) + 1) = (q : Int) + 1 := by rw [IntKind.wrap_i64]; omega
            have hq9 : (q : Int) ≤ 9000000000 := by omega
            have HAll := Lib.hid (And.intro hpq hq)
            clear HN hc hqb hs hsI hpq hq hp hsz hpl
            go_wp2
            have hpq := HAll.out.1
            go_roundw
            case rel => exact ⟨q + 1, by omega, by omega, by go_num, by first | rfl | trivial, HN2⟩
            case measure => simp [intOf]; omega
        · obtain rfl : q = s.size := by omega
          have HX : Hid (¬ ∃ M, IsKey M s.data.toList) := HA.out.bad hpl (no_cut (cut_no_colon (nocut_at (fun j hj h1 _ => HN.out j hj h1 (by omega)))))
          have HNum := Lib.hid (refNum_any (s.extract (p + 1) s.size) (by have := ext_size s (p + 1) s.size; omega) wr)
          clear HN hql hsz HA
          go_wp2_with fail
          refine (HNum.out).mono ?_
          rintro e w1 hOut
          obtain ⟨hb1, n, f, rfl, -, -⟩ := hOut.get
          have HB1 : Hid (Below w.heap.size w w1) := HB.out.trans (hb1.mono HB.out.size)
          clear hb1 hOut HNum HB HO
          go_wp2
          go_ret2
          exact BackOut.no HB1.out HX.out
    · have HK := Lib.hid (HA.out.done (by omega))
      clear HA
      go_wp2
      go_ret2
      exact BackOut.yes HB.out HK.out HO.out
end Go.Proofs.YtdjappfmjnjibaaDoor
