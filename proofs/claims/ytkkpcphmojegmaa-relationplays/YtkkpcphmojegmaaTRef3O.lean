/-
  Contracts of the document's Bare, Of of rows (lambrequinref03).
-/
import Derived.Test.YtkkpcphmojegmaaTRef01
namespace Go.Proofs.Ytkkpcphmojegmaa
set_option linter.unusedSimpArgs false
set_option linter.unusedVariables false
set_option linter.unusedSectionVars false
set_option maxRecDepth 100000
open Go.RowKit
variable [DecidableEq V]

set_option maxHeartbeats 800000 in
theorem refBare_any (v : V) (w : World) :
    Calls Try.prog 36 #[.agg #[.bool v.k, .string v.s, .int .i64 v.n]] w fun e w' => e = .returned (.agg #[.bool v.bare.k, .string v.bare.s, .int .i64 v.bare.n]) ∧ Below w.heap.size w w' := by
  obtain ⟨k, s, n⟩ := v
  cases k
  · rw [show (V.mk false s n).bare = ⟨false, ⟨#[]⟩, n⟩ from rfl]
    go_enter Try.func36, Try.ntmps36
    go_wp2
    exact bodyPost_ret (v := .agg #[.bool false, .string ⟨#[]⟩, .int .i64 n]) (by simp [results, Try.results36, go_sem]) rfl ⟨rfl, by repeat (first | exact Below.refl _ _ | refine Below.alloc ?_ (by simp) _ | refine Below.setCell ?_ (by simp) _)⟩
  · rw [show (V.mk true s n).bare = ⟨true, s, 0⟩ from rfl]
    go_enter Try.func36, Try.ntmps36
    go_wp2
    exact bodyPost_ret (v := .agg #[.bool true, .string s, .int .i64 0]) (by simp [results, Try.results36, go_sem]) rfl ⟨rfl, by repeat (first | exact Below.refl _ _ | refine Below.alloc ?_ (by simp) _ | refine Below.setCell ?_ (by simp) _)⟩

set_option maxHeartbeats 3200000 in
theorem refOf_any {x : Value} {vs : List V} {w : World} (hx : Vals w x vs) (hK : vs.length * 32 ≤ 140737488355328) :
    Calls Try.prog 25 #[x] w fun e w' => ∃ x', e = .returned x' ∧ Below w.heap.size w w' ∧ Own w' w.heap.size x' (vs.map V.bare) := by
  obtain ⟨ao, cap, rfl, hm⟩ := hx.len
  unfold maxLen at hm
  obtain ⟨i0, hi, hz0, hz1, hz2⟩ := info_parts infoVal
  have HX := Lib.hid hx
  clear hx
  go_enter Try.func25, Try.ntmps25
  go_wp2_with fail
  go_loopw [3, 4] (fun v i wr => ∃ k : Nat, k ≤ vs.length ∧ i = .int .i64 k ∧ Hid (Own wr w.heap.size v ((vs.map V.bare).take k)) ∧ Hid (Below w.heap.size w wr)) (fun _ i _ => vs.length - (intOf i).toNat)
  case atStart => exact ⟨0, Nat.zero_le _, rfl, Own.nil _ _, Below.refl _ _⟩
  case round =>
    obtain ⟨k, hk, rfl, HR, HB⟩ := hrel
    by_cases hlt : k < vs.length
    · have h1I : (k : Int) < (vs.length : Int) := by omega
      obtain ⟨b, off, rfl, c0, c1, c2, hok, hbl⟩ := HX.out.at HB.out k hlt
      have HS : Hid ((vs.map V.bare).take (k + 1) = (vs.map V.bare).take k ++ [vs[k].bare]) := by
        rw [Hid, take_snocV _ k (by simpa using hlt), List.getElem_map]
      have hl : ((vs.map V.bare).take k).length = k := by simp; omega
      have HV := Lib.hid hok.bare
      have hC := Lib.hid (refBare_any vs[k])
      generalize vs[k] = u at *
      clear hok
      go_wp2_with fail
      refine (hC.out _).mono ?_
      rintro e w2 ⟨rfl, hb2⟩
      have HR2 := Lib.hid (HR.out.below hb2)
      have HB2 : Hid (Below w.heap.size w w2) := HB.out.trans (hb2.mono HB.out.size)
      have hw2 : w.heap.size ≤ w2.heap.size := HB2.out.size
      clear hb2 HR HB c0 c1 c2 hC
      generalize u.bare = bu at *
      generalize (vs.map V.bare).take k = L at *
      go_wp2_with (at_builtin; refine wpList_append_own _ rfl _ _ 30 rfl w.heap.size 55 i0 _ 3 32 Try.underlying30 hi hz0 hz1 hz2 rfl (by decide) _ L.length (L.flatMap V.cells) rfl (HR2.out.own.alloc _) ⟨w2.heap.size, 0, none⟩ 1 1 bu.cells rfl rfl (three_new _ _ _ _ _) (cells_one bu) (by unfold maxLen; omega) (by omega) (by simp; omega) ?_; intro v3 w3 hown3 hg3 hnil3; have HR3 := Lib.hid (HR2.out.app HV.out hown3); have HB3 : Hid (Below w.heap.size w w3) := (HB2.out.alloc hw2 _).grown hg3 (by simp; omega) (fun k hk => (HR2.out.own.lt k hk).1); rw [← HS.out] at HR3; clear hown3 hg3 hnil3)
      go_roundw
      case rel => exact ⟨k + 1, by omega, by go_num, HR3, HB3⟩
      case measure => simp [intOf]; omega
    · obtain rfl : k = vs.length := by omega
      have HR' := HR.out
      rw [List.take_of_length_le (by simp)] at HR'
      go_wp2
      go_ret
      exact ⟨_, rfl, HB.out, HR'⟩

end Go.Proofs.Ytkkpcphmojegmaa
