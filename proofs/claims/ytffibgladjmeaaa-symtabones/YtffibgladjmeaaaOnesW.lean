/-
  The walk of SymtabOnes: values have one number just if they are the same: the law returns true; of old memory nothing turns.
-/
import Derived.Test.YtffibgladjmeaaaSRef
namespace Go.Proofs.Ytffibgladjmeaaa
set_option linter.unusedSimpArgs false
set_option linter.unusedVariables false
set_option linter.unusedSectionVars false
open Go.RowKit Go.Maps
variable [DecidableEq V]

/-- What a list that came in and a list of the call's own tell, kept while nothing old turns. -/
def Cell (w : World) (b o : Nat) (x : Value) : Prop := w.cell? ⟨b, o, none⟩ = some x ∧ b < w.heap.size
theorem Cell.below {w w' : World} {b o : Nat} {x : Value} (h : Cell w b o x) (hb : Below w.heap.size w w') : Cell w' b o x := ⟨(hb.cell (p := ⟨b, o, none⟩) h.2).trans h.1, Nat.lt_of_lt_of_le h.2 hb.size⟩

theorem seven_keep {w W w' : World} {b1 o1 b2 b3 o3 : Nat} {a0 a1 a2 c0 c1 c2 d : Value}
    (h : W.cell? ⟨b1, o1, none⟩ = some a0 ∧ W.cell? ⟨b1, o1 + 1, none⟩ = some a1 ∧ W.cell? ⟨b1, o1 + 2, none⟩ = some a2 ∧ W.cell? ⟨b2, 0, none⟩ = some c0 ∧ W.cell? ⟨b2, 1, none⟩ = some c1 ∧ W.cell? ⟨b2, 2, none⟩ = some c2 ∧ W.cell? ⟨b3, o3, none⟩ = some d ∧ b1 < W.heap.size ∧ b2 < W.heap.size ∧ b3 < W.heap.size ∧ Below w.heap.size w W)
    (hb : Below W.heap.size W w') : w'.cell? ⟨b1, o1, none⟩ = some a0 ∧ w'.cell? ⟨b1, o1 + 1, none⟩ = some a1 ∧ w'.cell? ⟨b1, o1 + 2, none⟩ = some a2 ∧ w'.cell? ⟨b2, 0, none⟩ = some c0 ∧ w'.cell? ⟨b2, 1, none⟩ = some c1 ∧ w'.cell? ⟨b2, 2, none⟩ = some c2 ∧ w'.cell? ⟨b3, o3, none⟩ = some d ∧ b1 < w'.heap.size ∧ b2 < w'.heap.size ∧ b3 < w'.heap.size ∧ Below w.heap.size w w' := by
  obtain ⟨h1, h2, h3, h4, h5, h6, h7, h8, h9, h10, h11⟩ := h
  have hs := hb.size
  exact ⟨(hb.cell (p := ⟨b1, o1, none⟩) h8).trans h1, (hb.cell (p := ⟨b1, o1 + 1, none⟩) h8).trans h2, (hb.cell (p := ⟨b1, o1 + 2, none⟩) h8).trans h3, (hb.cell (p := ⟨b2, 0, none⟩) h9).trans h4, (hb.cell (p := ⟨b2, 1, none⟩) h9).trans h5, (hb.cell (p := ⟨b2, 2, none⟩) h9).trans h6, (hb.cell (p := ⟨b3, o3, none⟩) h10).trans h7, by omega, by omega, by omega, h11.trans (hb.mono h11.size)⟩

theorem eight_keep {w W w' : World} {b1 o1 o2 b3 o3 o4 : Nat} {a0 a1 a2 c0 c1 c2 d0 d1 : Value}
    (h : W.cell? ⟨b1, o1, none⟩ = some a0 ∧ W.cell? ⟨b1, o1 + 1, none⟩ = some a1 ∧ W.cell? ⟨b1, o1 + 2, none⟩ = some a2 ∧ W.cell? ⟨b1, o2, none⟩ = some c0 ∧ W.cell? ⟨b1, o2 + 1, none⟩ = some c1 ∧ W.cell? ⟨b1, o2 + 2, none⟩ = some c2 ∧ W.cell? ⟨b3, o3, none⟩ = some d0 ∧ W.cell? ⟨b3, o4, none⟩ = some d1 ∧ b1 < W.heap.size ∧ b3 < W.heap.size ∧ Below w.heap.size w W)
    (hb : Below W.heap.size W w') : w'.cell? ⟨b1, o1, none⟩ = some a0 ∧ w'.cell? ⟨b1, o1 + 1, none⟩ = some a1 ∧ w'.cell? ⟨b1, o1 + 2, none⟩ = some a2 ∧ w'.cell? ⟨b1, o2, none⟩ = some c0 ∧ w'.cell? ⟨b1, o2 + 1, none⟩ = some c1 ∧ w'.cell? ⟨b1, o2 + 2, none⟩ = some c2 ∧ w'.cell? ⟨b3, o3, none⟩ = some d0 ∧ w'.cell? ⟨b3, o4, none⟩ = some d1 ∧ b1 < w'.heap.size ∧ b3 < w'.heap.size ∧ Below w.heap.size w w' := by
  obtain ⟨h1, h2, h3, h4, h5, h6, h7, h7', h8, h10, h11⟩ := h
  have hs := hb.size
  exact ⟨(hb.cell (p := ⟨b1, o1, none⟩) h8).trans h1, (hb.cell (p := ⟨b1, o1 + 1, none⟩) h8).trans h2, (hb.cell (p := ⟨b1, o1 + 2, none⟩) h8).trans h3, (hb.cell (p := ⟨b1, o2, none⟩) h8).trans h4, (hb.cell (p := ⟨b1, o2 + 1, none⟩) h8).trans h5, (hb.cell (p := ⟨b1, o2 + 2, none⟩) h8).trans h6, (hb.cell (p := ⟨b3, o3, none⟩) h10).trans h7, (hb.cell (p := ⟨b3, o4, none⟩) h10).trans h7', by omega, by omega, h11.trans (hb.mono h11.size)⟩

/-- Two that are told have one number just if they are the same. -/
theorem idx_one {L : List V} {b c : V} (hb : b ∈ L) (hc : c ∈ L) : (((L.idxOf b : Nat) : Int) == ((L.idxOf c : Nat) : Int)) = decide (b = c) := by
  by_cases h : b = c
  · subst h; simp
  · have : L.idxOf b ≠ L.idxOf c := fun e => h (by
      have h1 := List.getElem_idxOf (List.idxOf_lt_length_iff.2 hb)
      have h2 := List.getElem_idxOf (List.idxOf_lt_length_iff.2 hc)
      rw [← h1, ← h2]; congr 1)
    have h3 : ¬ ((L.idxOf b : Nat) : Int) = ((L.idxOf c : Nat) : Int) := by omega
    simp [h, h3]

set_option maxHeartbeats 6400000 in
set_option maxRecDepth 100000 in
theorem ones_walk {x : Value} {vs : List V} {w : World} (hx : Vals w x vs) :
    Calls Try.prog 4 #[x] w fun e w' => e = .returned (.bool true) ∧ Below w.heap.size w w' := by
  obtain ⟨ao, cap, rfl, hm⟩ := hx.len
  unfold maxLen at hm
  have HX := Lib.hid hx
  obtain ⟨i0, hi, hz0, hz1, hz2⟩ := info_parts infoInt
  clear hx
  go_enter Try.func4, Try.ntmps4
  go_wp2_with fail
  refine (shown2_any _).mono ?_
  rintro e w1 ⟨rfl, hb1⟩
  have HB1 := Lib.hid hb1
  clear hb1
  go_wp2_with fail
  refine (new_at _).mono ?_
  rintro e w2 ⟨tb, F, rfl, hb2, hT2⟩
  have HB2 : Hid (Below w.heap.size w w2) := HB1.out.trans (hb2.mono HB1.out.size)
  have HT2 := Lib.hid hT2
  have hB : Hid (w.heap.size ≤ w1.heap.size) := HB1.out.size
  clear hb2 hT2 HB1
  go_wp2_with fail
  go_loopw [5, 6] (fun nv i wr => ∃ (k : Nat) (L : List V) (F : Nat → Prop) (zs : List Int) (ao2 : Option Addr) (cap2 : Nat), k ≤ vs.length ∧ k ≤ 200 ∧ L.length ≤ k ∧ i = .int .i64 k ∧ nv = .slice ao2 k cap2 ∧ zs.length = k ∧ Hid (Nums wr w1.heap.size F (.slice ao2 k cap2) zs) ∧ Hid (Told L (vs.take k) zs) ∧ Hid (Tbl wr w1.heap.size F tb L) ∧ Hid (Below w.heap.size w wr)) (fun _ i _ => vs.length - (intOf i).toNat)
  case atStart => exact ⟨0, [], F, [], none, 0, Nat.zero_le _, by omega, by simp, rfl, rfl, rfl, nums_nil _ _ _, told_nil _, HT2, HB2⟩
  case round =>
    obtain ⟨k, L, F1, zs, ao2, cap2, hk, hk2, hLk, rfl, rfl, hzk, HN, HD, HT, HB⟩ := hrel
    by_cases hlt : k < vs.length ∧ k < 200
    · obtain ⟨h1, h2⟩ := hlt
      obtain ⟨b, off, rfl, c0, c1, c2, hok, hbl⟩ := HX.out.at HB.out k h1
      have h1I : (k : Int) < (vs.length : Int) := by omega
      have h2I : (k : Int) < 200 := by omega
      have HD1 := Lib.hid (HD.out.snoc vs[k])
      rw [← take_snocV vs k h1] at HD1
      generalize hvk : vs[k] = u at *
      clear hvk
      go_wp2_with fail
      refine (put_at HT.out hok (by omega)).mono ?_
      rintro e w4 ⟨rfl, ht4, F4, hT4, hF4⟩
      have HB4 : Hid (Below w.heap.size w w4) := HB.out.trans ((HT.out.stay ht4).mono hB.out)
      have HN4 := Lib.hid (HN.out.put ht4 hF4)
      have hs4 := HT.out.le
      have HT4 := Lib.hid hT4
      have hs4' : w1.heap.size ≤ w4.heap.size := by have := ht4.size; omega
      clear ht4 hT4 c0 c1 c2 hF4
      generalize hix : L.idxOf u.bare = ix at *
      clear hix
      go_wp2_with (at_builtin; refine wpList_append_own_at _ rfl _ _ 38 rfl w1.heap.size 3 i0 (.int .i64 0) 1 8 Try.underlying38 hi hz0 hz1 hz2 rfl (by decide) _ zs.length (zs.map (Value.int .i64)) rfl (HN4.out.1.alloc _) ⟨w4.heap.size, 0, none⟩ 1 1 [.int .i64 ix] rfl rfl (cell_one_new _ _ _) (ints_oneCell .i64 [(ix : Int)]) (by unfold maxLen; omega) (by omega) (by simp; omega) ?_; intro v' w5 hown' hgrow hnil hloc)
      obtain ⟨n1, n2, n3⟩ := HN4.out.app HT4.out hown' hgrow hloc hs4' (Nat.le_refl _)
      obtain ⟨ao3, cap3, e3, -⟩ := n1.form
      have hl3 : (zs ++ [(ix : Int)]).length = k + 1 := by simp [hzk]
      rw [hl3] at e3
      rw [e3] at n1 ⊢
      have hla := addV_len L u.bare
      exact ⟨⟨k + 1, addV L u.bare, F4, zs ++ [(ix : Int)], ao3, cap3, by omega, by omega, by omega, by go_num, rfl, hl3, n1, HD1, n2, HB4.out.trans (n3.mono hB.out)⟩, by simp [intOf]; omega⟩
    · have hL2 : L.length ≤ 200 := by omega
      have hout : ¬ (k : Int) < (vs.length : Int) ∨ ((k : Int) < (vs.length : Int) ∧ ¬ (k : Int) < 200) := by omega
      have hk200 : k ≤ 200 := hk2
      have hkI : (k : Int) ≤ (vs.length : Int) := by omega
      have hLkI : (L.length : Int) ≤ (k : Int) := by omega
      clear hlt hk2
      rcases hout with ho | ⟨ho, ho2⟩
      all_goals
        go_wp2_with fail
        refine (len_any HT.out).mono ?_
        rintro e w3 ⟨rfl, rfl⟩
        go_wp2_with fail
        go_loopw [8] (fun i wr => ∃ (j : Nat), j ≤ k ∧ i = .int .i64 j ∧ Hid (Nums wr w1.heap.size F1 (.slice ao2 k cap2) zs) ∧ Hid (Tbl wr w1.heap.size F1 tb L) ∧ Hid (Below w.heap.size w wr)) (fun i _ => k - (intOf i).toNat)
        case atStart => exact ⟨0, Nat.zero_le _, rfl, HN, HT, HB⟩
        case round =>
          clear HN HT HB
          obtain ⟨j, hjk, rfl, HN, HT, HB⟩ := hrel
          obtain ⟨wo, hwo⟩ : ∃ wo, wo = wr := ⟨_, rfl⟩
          subst hwo
          by_cases hj : j < k
          · have hjv : j < vs.length := by omega
            obtain ⟨t1, hz, t2⟩ := HD.out.at j hj hjv
            obtain ⟨g, hg1, hg2, hg3, hg4⟩ := HN.out.at j hz
            subst hg1
            rw [t2] at hg2
            have hjI : (j : Int) < (k : Int) := by omega
            have hjI2 : (j : Int) < (vs.length : Int) := by omega
            have hixl := idx_lt t1
            clear hg4
            obtain ⟨b, off, hao, c0, c1, c2, hok, hbl⟩ := HX.out.at HB.out j hjv
            subst hao
            have hAt : Hid (Calls Try.prog 15 #[.pointer (some ⟨tb, 0, none⟩), .int .i64 ((L.idxOf vs[j].bare : Nat) : Int)] wo fun e w' => e = .returned (.tuple #[.agg #[.bool vs[j].bare.k, .string vs[j].bare.s, .int .i64 vs[j].bare.n], .bool true]) ∧ Below wo.heap.size wo w') := by
              have := at_yes HT.out _ hixl
              rwa [List.getElem_idxOf hixl] at this
            have hPut : Hid (∀ W, Below wo.heap.size wo W → Calls Try.prog 10 #[.pointer (some ⟨tb, 0, none⟩), .agg #[.bool vs[j].k, .string vs[j].s, .int .i64 vs[j].n]] W fun e w' => e = .returned (.int .i64 ((L.idxOf vs[j].bare : Nat) : Int)) ∧ Below W.heap.size W w') := fun W hb => put_in (HT.out.below hb) hok t1
            have hSame : Hid (∀ W, Calls Try.prog 16 #[.agg #[.bool vs[j].bare.k, .string vs[j].bare.s, .int .i64 vs[j].bare.n], .agg #[.bool vs[j].k, .string vs[j].s, .int .i64 vs[j].n]] W fun e w' => e = .returned (.bool true) ∧ Below W.heap.size W w') := fun W => by
              have := same_any hok.bare hok W
              rwa [V.bare_bare, decide_eq_true rfl] at this
            have HOne : Hid (∀ m (hm : m < j) (hmz : m < zs.length) (hmv : m < vs.length), (((L.idxOf vs[j].bare : Nat) : Int) == zs[m]) = decide (vs[j].bare = vs[m].bare)) := fun m hm hmz hmv => by
              obtain ⟨s1, _, s2⟩ := HD.out.at m (by omega) hmv
              rw [s2]; exact idx_one t1 s1
            clear t1 t2 hixl
            generalize hvj : vs[j] = u at *
            clear hvj
            generalize hbj : u.bare = bv at *
            have HUB := Lib.hid hbj
            clear hbj
            generalize L.idxOf bv = ix at *
            have hbw : b < wo.heap.size := Nat.lt_of_lt_of_le hbl HB.out.size
            go_wp2_with fail
            refine hAt.out.mono ?_
            rintro e w5 ⟨rfl, hb5⟩
            have HT5 := Lib.hid (HT.out.below hb5)
            have HN5 := Lib.hid (HN.out.below hb5)
            have HB5 : Hid (Below w.heap.size w w5) := HB.out.trans (hb5.mono HB.out.size)
            have HW5 := Lib.hid hb5
            have C0 : Hid (Cell w5 b (off + j * 3) (.bool u.k) ∧ Cell w5 b (off + j * 3 + 1) (.string u.s) ∧ Cell w5 b (off + j * 3 + 2) (.int .i64 u.n) ∧ Cell w5 g j (.int .i64 ix)) := ⟨Cell.below ⟨c0, hbw⟩ hb5, Cell.below ⟨c1, hbw⟩ hb5, Cell.below ⟨c2, hbw⟩ hb5, Cell.below ⟨hg2, hg3⟩ hb5⟩
            have HC := Lib.hid (And.intro (And.intro c0 (And.intro c1 c2)) (And.intro hg2 (And.intro hbw hg3)))
            clear hb5 c0 c1 c2 hg2 hAt HT5 HN5 HB5
            have I0 : Hid ((w5.alloc (.cells #[.bool bv.k, .string bv.s, .int .i64 bv.n] 24)).drew.cell? ⟨b, off + j * 3, none⟩ = some (.bool u.k) ∧ (w5.alloc (.cells #[.bool bv.k, .string bv.s, .int .i64 bv.n] 24)).drew.cell? ⟨b, off + j * 3 + 1, none⟩ = some (.string u.s) ∧ (w5.alloc (.cells #[.bool bv.k, .string bv.s, .int .i64 bv.n] 24)).drew.cell? ⟨b, off + j * 3 + 2, none⟩ = some (.int .i64 u.n) ∧ (w5.alloc (.cells #[.bool bv.k, .string bv.s, .int .i64 bv.n] 24)).drew.cell? ⟨w5.heap.size, 0, none⟩ = some (.bool bv.k) ∧ (w5.alloc (.cells #[.bool bv.k, .string bv.s, .int .i64 bv.n] 24)).drew.cell? ⟨w5.heap.size, 1, none⟩ = some (.string bv.s) ∧ (w5.alloc (.cells #[.bool bv.k, .string bv.s, .int .i64 bv.n] 24)).drew.cell? ⟨w5.heap.size, 2, none⟩ = some (.int .i64 bv.n) ∧ (w5.alloc (.cells #[.bool bv.k, .string bv.s, .int .i64 bv.n] 24)).drew.cell? ⟨g, j, none⟩ = some (.int .i64 ix) ∧ b < (w5.alloc (.cells #[.bool bv.k, .string bv.s, .int .i64 bv.n] 24)).drew.heap.size ∧ w5.heap.size < (w5.alloc (.cells #[.bool bv.k, .string bv.s, .int .i64 bv.n] 24)).drew.heap.size ∧ g < (w5.alloc (.cells #[.bool bv.k, .string bv.s, .int .i64 bv.n] 24)).drew.heap.size ∧ Below wo.heap.size wo (w5.alloc (.cells #[.bool bv.k, .string bv.s, .int .i64 bv.n] 24)).drew) := by
              obtain ⟨k0, k1, k2, k3⟩ := C0.out
              have hba : Below w5.heap.size w5 (w5.alloc (.cells #[.bool bv.k, .string bv.s, .int .i64 bv.n] 24)) := (Below.refl _ _).alloc (Nat.le_refl _) _
              have nb := Box.new w5 bv
              exact ⟨(k0.below hba).1, (k1.below hba).1, (k2.below hba).1, nb.1, nb.2.1, nb.2.2.1, (k3.below hba).1, (k0.below hba).2, nb.2.2.2, (k3.below hba).2, ((HW5.out.alloc HW5.out.size _)).drew⟩
            clear C0
            go_wp2_with fail
            go_region_held3 (fun w' => w'.cell? ⟨b, off + j * 3, none⟩ = some (.bool u.k) ∧ w'.cell? ⟨b, off + j * 3 + 1, none⟩ = some (.string u.s) ∧ w'.cell? ⟨b, off + j * 3 + 2, none⟩ = some (.int .i64 u.n) ∧ w'.cell? ⟨w5.heap.size, 0, none⟩ = some (.bool bv.k) ∧ w'.cell? ⟨w5.heap.size, 1, none⟩ = some (.string bv.s) ∧ w'.cell? ⟨w5.heap.size, 2, none⟩ = some (.int .i64 bv.n) ∧ w'.cell? ⟨g, j, none⟩ = some (.int .i64 ix) ∧ b < w'.heap.size ∧ w5.heap.size < w'.heap.size ∧ g < w'.heap.size ∧ Below wo.heap.size wo w')
              (first | assumption | exact seven_keep (by assumption) hbN | exact I0.out)
              (first
                | (go_at_call 16; refine (hSame.out _).mono ?_; rintro e w' ⟨rfl, hbN⟩)
                | (go_at_call 10; refine (hPut.out _ (by go_split_ands; assumption)).mono ?_; rintro e w' ⟨rfl, hbN⟩))
            rename_i hSS
            have HW := Lib.hid hSS.2.2.2.2.2.2.2.2.2.2
            clear hSS I0 HW5 hPut hSame
            go_wp2_with fail
            go_loopw [11] (fun i wr => ∃ (m : Nat), m ≤ j ∧ i = .int .i64 m ∧ Hid (Below wo.heap.size wo wr)) (fun i _ => j - (intOf i).toNat)
            case atStart => exact ⟨0, Nat.zero_le _, rfl, HW⟩
            case round =>
              clear HW
              obtain ⟨m, hmj, rfl, HW⟩ := hrel
              by_cases hm' : m < j
              · have hmv : m < vs.length := by omega
                obtain ⟨-, hmz, -⟩ := HD.out.at m (by omega) hmv
                obtain ⟨b', off', hao, e0, e1, e2, hok', hbl'⟩ := HX.out.at HB.out m hmv
                obtain ⟨rfl, rfl⟩ : b = b' ∧ off = off' := by simpa using hao
                obtain ⟨g', hg1', hg2', hg3', hg4'⟩ := HN.out.at m hmz
                obtain rfl : g = g' := by simpa using hg1'
                have hmI : (m : Int) < (j : Int) := by omega
                have hmI2 : (m : Int) < (vs.length : Int) := by omega
                have hmI3 : (m : Int) < (k : Int) := by omega
                clear hg4' hg1' hao
                have HQ1 := HOne.out m hm' hmz hmv
                have hS2 : Hid (∀ W, Calls Try.prog 16 #[.agg #[.bool u.k, .string u.s, .int .i64 u.n], .agg #[.bool vs[m].k, .string vs[m].s, .int .i64 vs[m].n]] W fun e w' => e = .returned (.bool (decide (bv = vs[m].bare))) ∧ Below W.heap.size W w') := fun W => by
                  have := same_any hok hok' W
                  rwa [HUB.out] at this
                generalize decide (bv = vs[m].bare) = q at *
                generalize vs[m] = y at *
                generalize hzm : zs[m] = zm at *
                clear hzm
                have I1 : Hid (wr.drew.cell? ⟨b, off + j * 3, none⟩ = some (.bool u.k) ∧ wr.drew.cell? ⟨b, off + j * 3 + 1, none⟩ = some (.string u.s) ∧ wr.drew.cell? ⟨b, off + j * 3 + 2, none⟩ = some (.int .i64 u.n) ∧ wr.drew.cell? ⟨b, off + m * 3, none⟩ = some (.bool y.k) ∧ wr.drew.cell? ⟨b, off + m * 3 + 1, none⟩ = some (.string y.s) ∧ wr.drew.cell? ⟨b, off + m * 3 + 2, none⟩ = some (.int .i64 y.n) ∧ wr.drew.cell? ⟨g, j, none⟩ = some (.int .i64 ix) ∧ wr.drew.cell? ⟨g, m, none⟩ = some (.int .i64 zm) ∧ b < wr.drew.heap.size ∧ g < wr.drew.heap.size ∧ Below wo.heap.size wo wr.drew) := by
                  obtain ⟨⟨k0, k1, k2⟩, k3, k4, k5⟩ := HC.out
                  have hw := HW.out
                  exact ⟨(Cell.below ⟨k0, k4⟩ hw).1, (Cell.below ⟨k1, k4⟩ hw).1, (Cell.below ⟨k2, k4⟩ hw).1, (Cell.below ⟨e0, k4⟩ hw).1, (Cell.below ⟨e1, k4⟩ hw).1, (Cell.below ⟨e2, k4⟩ hw).1, (Cell.below ⟨k3, k5⟩ hw).1, (Cell.below ⟨hg2', k5⟩ hw).1, (Cell.below ⟨k0, k4⟩ hw).2, (Cell.below ⟨hg2', k5⟩ hw).2, hw.drew⟩
                clear e0 e1 e2 hg2' hok' hbl'
                go_wp2_with fail
                go_region_held3 (fun w' => w'.cell? ⟨b, off + j * 3, none⟩ = some (.bool u.k) ∧ w'.cell? ⟨b, off + j * 3 + 1, none⟩ = some (.string u.s) ∧ w'.cell? ⟨b, off + j * 3 + 2, none⟩ = some (.int .i64 u.n) ∧ w'.cell? ⟨b, off + m * 3, none⟩ = some (.bool y.k) ∧ w'.cell? ⟨b, off + m * 3 + 1, none⟩ = some (.string y.s) ∧ w'.cell? ⟨b, off + m * 3 + 2, none⟩ = some (.int .i64 y.n) ∧ w'.cell? ⟨g, j, none⟩ = some (.int .i64 ix) ∧ w'.cell? ⟨g, m, none⟩ = some (.int .i64 zm) ∧ b < w'.heap.size ∧ g < w'.heap.size ∧ Below wo.heap.size wo w')
                  (first | assumption | exact eight_keep (by assumption) hbN | exact I1.out)
                  (first
                    | (go_at_call 16; refine (hS2.out _).mono ?_; rintro e w' ⟨rfl, hbN⟩))
                rename_i hSS
                have HQ := Lib.hid hSS.2.2.2.2.2.2.2.2.2.2
                clear hSS
                go_wp2
                exact ⟨⟨m + 1, by omega, by go_num, HQ⟩, by simp [intOf]; omega⟩
              · go_wp2
                go_roundw
                case rel => exact ⟨j + 1, by omega, by go_num, HN.out.below HW.out, HT.out.below HW.out, HB.out.trans (HW.out.mono HB.out.size)⟩
                case measure => simp [intOf]; omega
          · go_wp2_with (go_at_call 12; refine (len_any HT.out).mono ?_; rintro e w9 ⟨rfl, rfl⟩)
            go_ret
            exact ⟨rfl, HB.out⟩
end Go.Proofs.Ytffibgladjmeaaa
