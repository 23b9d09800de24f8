/-
  The walk of TupleTells: any two rows' order, any one's key, made, and projected on any places, and any text's row, are the document's, or refused: the law returns true; of old memory nothing turns. A list of numbers that came in.
-/
import Derived.Test.YtdjappfmjnjibaaDoorTShown
import Derived.Test.YtdjappfmjnjibaaDoorTBackW
import Derived.Test.YtdjappfmjnjibaaDoorTRefBack
import Derived.Test.YtdjappfmjnjibaaDoorTRefKey
namespace Go.Proofs.YtdjappfmjnjibaaDoor
set_option linter.unusedSimpArgs false
set_option linter.unusedVariables false
set_option linter.unusedSectionVars false
set_option maxRecDepth 100000
open Go.RowKit Go.Deep Go.WideShapes
variable [DecidableEq V]

theorem cellsInt : Tryd.prog.cellsOf 3 = 1 := by kernel_rfl
/-- A list of numbers that came in: what it holds; how much. -/
theorem open_ints {H : Type} {enc : TypeId × Value → H} {W : World} {r : Reach} {b0 : Nat} {x : Value} {d : DataW H} {p : List MemPlace} {sp : Nat → Bool} {hd : Bool} {base : Nat}
    (hv : Value.okWide Tryd.prog W r b0 23 x) (h : DataW.Trod enc Tryd.prog W base sp hd 23 x d p) :
    ∃ zs : List Int, Ints W x zs ∧ zs.length ≤ Rows.uptoBulk d := by
  obtain ⟨a0, len, cap, rfl⟩ := okWide_slice Tryd.underlying23 hv
  obtain ⟨fuel, hf⟩ := h
  rcases open_slice Tryd.underlying23 hf with ⟨hc, -⟩ | ⟨a, len', cap', m, n, D, Pl, hc, hb, hl, hm, hmm, hdat, hx⟩
  · simp [Value.cells] at hc
    obtain ⟨rfl, rfl, rfl⟩ := hc
    exact ⟨[], Ints.nil _, Nat.zero_le _⟩
  · simp [Value.cells] at hc
    obtain ⟨rfl, rfl, rfl⟩ := hc
    have hlm : len ≤ m := by rw [hmm]; split <;> omega
    have each : ∀ i, i < len → ∃ z : Int, W.cell? (a.add i) = some (.int .i64 z) ∧ Rows.uptoBulk (D i) = 1 := fun i hi => by
      obtain ⟨cs', h1, h2⟩ := hx i (by omega)
      rw [cellsInt] at h1
      obtain ⟨_, hlen, hcell⟩ := World.cells?_some h1
      obtain ⟨z, e2, f2, wn⟩ := DataW.trod_int Tryd.underlying3 h2
      have q0 := hcell 0 (by omega)
      rw [add_add] at q0
      subst e2
      refine ⟨z, by simpa using q0, ?_⟩
      have : D i = .lit (.int .i64 z) := by
        have := f2; simp at this; first | exact this.1 | exact this
      rw [this]; simp [Rows.uptoBulk]
    obtain ⟨f, hfx⟩ := choose_lt each
    have hdd : d = .slice ((List.range len).map D) ((List.range (m - len)).map fun j => D (len + j)) := by
      have := congrArg Prod.fst hdat; simpa using this
    refine ⟨(List.range len).map f, ⟨some a, cap, by simp, by simp; omega, ?_⟩, ?_⟩
    · intro i hi
      simp at hi
      obtain ⟨e0, -⟩ := hfx i hi
      have hsp : a.spot = none := by
        have := World.cell?_spot (hfx 0 (by omega)).1
        simpa [Addr.add] using this
      obtain ⟨b, off, sp'⟩ := a
      simp at hsp
      subst hsp
      rw [add_none] at e0
      exact ⟨b, off, rfl, lt_of_cell e0, by simpa using e0⟩
    · rw [hdd]
      have : Rows.uptoBulkAll ((List.range len).map D) = len := by
        rw [bulkAll_sum, List.map_map]
        have : (List.range len).map (Rows.uptoBulk ∘ D) = (List.range len).map (fun _ => 1) := by
          apply List.map_congr_left
          intro i hi
          simp at hi
          exact (hfx i hi).2
        rw [this]
        have : ∀ n : Nat, ((List.range n).map (fun _ => 1)).sum = n := fun n => by
          induction n with
          | zero => rfl
          | succ n ih => rw [List.range_succ, List.map_append, List.sum_append, ih]; rfl
        exact this len
      simp only [Rows.uptoBulk, this, List.length_map, List.length_range]
      omega

/-- What a text's reading tells, whoever reads. -/
theorem back_fix (l : List UInt8) : ∃ (M : List V) (c : Int), ∀ (w : World) (e : Ending) (w' : World), BackOut l w e w' → Below w.heap.size w w' ∧ ∃ x, e = .returned (.tuple #[x, .int .i64 c]) ∧ Vals w' x M := by
  by_cases h : ∃ L, IsKey L l
  · obtain ⟨L, hL⟩ := h
    refine ⟨L, 0, fun w e w' ho => ?_⟩
    obtain ⟨hb, ⟨L', x, hL', hO, rfl⟩ | ⟨hn, -⟩⟩ := ho
    · obtain rfl := hL'.one hL
      exact ⟨hb, x, rfl, hO.vals⟩
    · exact absurd ⟨L, hL⟩ hn
  · refine ⟨[], 2, fun w e w' ho => ?_⟩
    obtain ⟨hb, ⟨L', x, hL', hO, rfl⟩ | ⟨hn, rfl⟩⟩ := ho
    · exact absurd ⟨L', hL'⟩ h
    · exact ⟨hb, _, rfl, Vals.nil _⟩
theorem proj_fix (vs : List V) (zs : List Int) : ∃ (M : List V) (c : Int), ∀ (w : World) (e : Ending) (w' : World), (Below w.heap.size w w' ∧
      (((∀ z ∈ zs, okZ vs z) ∧ ∃ x', e = .returned (.tuple #[x', .int .i64 0]) ∧ Own w' w.heap.size x' (zs.map (atZ vs))) ∨
        ((∃ z ∈ zs, ¬ okZ vs z) ∧ e = .returned (.tuple #[.slice none 0 0, .int .i64 1])))) → Below w.heap.size w w' ∧ ∃ x, e = .returned (.tuple #[x, .int .i64 c]) ∧ Vals w' x M := by
  by_cases h : ∀ z ∈ zs, okZ vs z
  · refine ⟨zs.map (atZ vs), 0, fun w e w' ⟨hb, ho⟩ => ?_⟩
    obtain ⟨-, x, rfl, hO⟩ := ho.resolve_right (fun ⟨⟨z, hz, hz'⟩, _⟩ => hz' (h z hz))
    exact ⟨hb, x, rfl, hO.vals⟩
  · refine ⟨[], 1, fun w e w' ⟨hb, ho⟩ => ?_⟩
    obtain ⟨-, rfl⟩ := ho.resolve_left (fun ⟨h', _⟩ => h h')
    exact ⟨hb, _, rfl, Vals.nil _⟩

set_option maxHeartbeats 6400000 in
theorem tells_walk {x y cv : Value} {a b : List V} {s : ByteArray} {zs : List Int} {w : World} (hx : Vals w x a) (hy : Vals w y b) (hc : Ints w cv zs) (ka : bulkV a ≤ 1048576) (la : a.length ≤ 1048576) (hs : s.size ≤ 1048576) (lz : zs.length ≤ 1048576) (hg : Glob w) :
    Calls Tryd.prog 3 #[x, y, .string s, cv] w fun e w' => e = .returned (.bool true) ∧ Below w.heap.size w w' := by
  have h1 := key_len a hx.ok
  have HX := Lib.hid hx
  have HY := Lib.hid hy
  have HC := Lib.hid hc
  have HG := Lib.hid hg
  obtain ⟨M, c, hM⟩ := back_fix s.data.toList
  obtain ⟨M', c', hM'⟩ := proj_fix a zs
  have HM := Lib.hid hM
  have HM' := Lib.hid hM'
  clear hx hy hc hg hM hM'
  go_enter Tryd.func3, Tryd.ntmps3
  go_wp2_with fail
  refine (shown3_any _ HG.out.tab).mono ?_
  rintro e w1 ⟨rfl, hb1⟩
  have HB1 := Lib.hid hb1
  clear hb1
  go_wp2_with fail
  refine (back_any s (by omega) _ (HG.out.on HB1.out)).mono ?_
  intro e w2 hOut
  obtain ⟨hb2, x2, rfl, hV2⟩ := HM.out _ _ _ hOut
  have HV2 := Lib.hid hV2
  have HB2 : Hid (Below w.heap.size w w2) := HB1.out.trans (hb2.mono HB1.out.size)
  clear hb2 HB1 hOut hV2
  go_wp2_with fail
  refine (refBack_any s (by omega) _).mono ?_
  intro e w3 hOut
  obtain ⟨hb3, x3, rfl, hV3⟩ := HM.out _ _ _ hOut
  have HV2' := Lib.hid (HV2.out.below hb3)
  have HV3 := Lib.hid hV3
  have HB3 : Hid (Below w.heap.size w w3) := HB2.out.trans (hb3.mono HB2.out.size)
  clear hb3 HB2 hOut hV3 HV2 HM
  go_wp2_with fail
  refine (project_any (HX.out.below HB3.out) (HC.out.below HB3.out) (by omega)).mono ?_
  intro e w4 hOut
  obtain ⟨hb4, x4, rfl, hV4⟩ := HM'.out _ _ _ hOut
  have HV2 := Lib.hid (HV2'.out.below hb4)
  have HV3' := Lib.hid (HV3.out.below hb4)
  have HV4 := Lib.hid hV4
  have HB4 : Hid (Below w.heap.size w w4) := HB3.out.trans (hb4.mono HB3.out.size)
  clear hb4 HB3 hOut hV4 HV2' HV3
  go_wp2_with fail
  refine (refProject_any (HX.out.below HB4.out) (HC.out.below HB4.out) (by omega)).mono ?_
  intro e w5 hOut
  obtain ⟨hb5, x5, rfl, hV5⟩ := HM'.out _ _ _ hOut
  have HP2 := Lib.hid (HV2.out.below hb5)
  have HP3 := Lib.hid (HV3'.out.below hb5)
  have HP4 := Lib.hid (HV4.out.below hb5)
  have HP5 := Lib.hid hV5
  have HB5 : Hid (Below w.heap.size w w5) := HB4.out.trans (hb5.mono HB4.out.size)
  clear hb5 HB4 hOut hV5 HV2 HV3' HV4 HM' HC
  have HS1 : Hid (∀ W, Below w5.heap.size w5 W → Calls Tryd.prog 19 #[x2, x3] W fun e w' => e = .returned (.bool true) ∧ Below W.heap.size W w') := fun W hb => row_same (HP2.out.below hb) (HP3.out.below hb)
  have HS2 : Hid (∀ W, Below w5.heap.size w5 W → Calls Tryd.prog 19 #[x4, x5] W fun e w' => e = .returned (.bool true) ∧ Below W.heap.size W w') := fun W hb => row_same (HP4.out.below hb) (HP5.out.below hb)
  have HX5 := Lib.hid (HX.out.below HB5.out)
  have HY5 := Lib.hid (HY.out.below HB5.out)
  have HG5 := Lib.hid (HG.out.on HB5.out).tab
  clear HP2 HP3 HP4 HP5 HX HY HG
  have h1' : (keyL a).length ≤ 100000000 := by omega
  have HK := Lib.hid h1'
  clear h1 h1' ka
  go_wp2_with fail
  refine (tcmp_any HX5.out HY5.out).mono ?_
  rintro e w6 ⟨rfl, hb6⟩
  have HC6 := Lib.hid hb6
  clear hb6
  go_wp2_with fail
  refine (refRow_cmp (HX5.out.below HC6.out) (HY5.out.below HC6.out)).mono ?_
  rintro e w7 ⟨rfl, hb7⟩
  have HC7 : Hid (Below w5.heap.size w5 w7) := HC6.out.trans (hb7.mono HC6.out.size)
  clear hb7 HC6
  generalize rcmp a b = r at *
  go_wp2_with fail
  refine (key_any (HX5.out.below HC7.out) (by have := HK.out; omega) (HG5.out.on HC7.out)).mono ?_
  rintro e w8 ⟨rfl, hb8⟩
  have HC8 : Hid (Below w5.heap.size w5 w8) := HC7.out.trans (hb8.mono HC7.out.size)
  clear hb8 HC7
  go_wp2_with fail
  refine (refKey_any (HX5.out.below HC8.out) HK.out).mono ?_
  rintro e w9 ⟨rfl, hb9⟩
  have HC9 : Hid (Below w5.heap.size w5 w9) := HC8.out.trans (hb9.mono HC8.out.size)
  clear hb9 HC8
  generalize (⟨(keyL a).toArray⟩ : ByteArray) = ks at *
  go_wp2_with fail
  refine (of_any (HX5.out.below HC9.out) (by omega)).mono ?_
  rintro e wa ⟨xa, rfl, hba, hOa⟩
  have HVa := Lib.hid hOa.vals
  have HCa : Hid (Below w5.heap.size w5 wa) := HC9.out.trans (hba.mono HC9.out.size)
  clear hba HC9 hOa
  go_wp2_with fail
  refine (refOf_any (HX5.out.below HCa.out) (by omega)).mono ?_
  rintro e wb ⟨xb, rfl, hbb, hOb⟩
  have HVa2 := Lib.hid (HVa.out.below hbb)
  have HVb := Lib.hid hOb.vals
  have HCb : Hid (Below w5.heap.size w5 wb) := HCa.out.trans (hbb.mono HCa.out.size)
  clear hbb HCa hOb HVa
  go_wp2_with fail
  refine (row_same HVa2.out HVb.out).mono ?_
  rintro e wc ⟨rfl, hbc⟩
  have HCc : Hid (Below w5.heap.size w5 wc) := HCb.out.trans (hbc.mono HCb.out.size)
  clear hbc HCb HVa2 HVb
  go_wp2_with fail
  refine (HS1.out _ HCc.out).mono ?_
  rintro e wd ⟨rfl, hbd⟩
  have HCd : Hid (Below w5.heap.size w5 wd) := HCc.out.trans (hbd.mono HCc.out.size)
  clear hbd HCc
  go_wp2_with fail
  refine (HS2.out _ HCd.out).mono ?_
  rintro e wf ⟨rfl, hbf⟩
  have HCf : Hid (Below w5.heap.size w5 wf) := HCd.out.trans (hbf.mono HCd.out.size)
  clear hbf HCd
  go_wp2
  go_ret
  exact ⟨rfl, HB5.out.trans (HCf.out.mono HB5.out.size)⟩
end Go.Proofs.YtdjappfmjnjibaaDoor
