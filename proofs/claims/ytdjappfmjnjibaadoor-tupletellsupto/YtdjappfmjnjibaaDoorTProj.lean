/-
  Contract of tuple.Project: some of a row's values, in memory of the call's own, or a refusal; of old memory nothing turns.
-/
import Derived.Test.YtdjappfmjnjibaaDoorTOf
namespace Go.Proofs.YtdjappfmjnjibaaDoor
set_option linter.unusedSimpArgs false
set_option linter.unusedVariables false
set_option linter.unusedSectionVars false
set_option maxRecDepth 100000
open Go.RowKit Go.Deep Go.WideShapes
variable [DecidableEq V]

/-- y is a list of the numbers zs, in memory that is there. -/
def Ints (W : World) (y : Value) (zs : List Int) : Prop :=
  ∃ (ao : Option Addr) (cap : Nat), y = .slice ao zs.length cap ∧ zs.length ≤ maxLen ∧ ∀ i (hi : i < zs.length), ∃ b off, ao = some ⟨b, off, none⟩ ∧ b < W.heap.size ∧ W.cell? ⟨b, off + i, none⟩ = some (.int .i64 zs[i])
theorem Ints.below {W w1 : World} {x : Value} {zs : List Int} (h : Ints W x zs) (hb : Below W.heap.size W w1) : Ints w1 x zs := by
  obtain ⟨ao, cap, h1, h2, h4⟩ := h
  refine ⟨ao, cap, h1, h2, fun i hi => ?_⟩
  obtain ⟨b, off, e, hlt, c0⟩ := h4 i hi
  exact ⟨b, off, e, Nat.lt_of_lt_of_le hlt hb.size, (hb.cell (p := ⟨b, off + i, none⟩) hlt).trans c0⟩
theorem Ints.at {W wr : World} {ao : Option Addr} {n cap : Nat} {zs : List Int} (h : Ints W (.slice ao n cap) zs) (hb : Below W.heap.size W wr) (k : Nat) (hk : k < zs.length) :
    ∃ b off, ao = some ⟨b, off, none⟩ ∧ wr.cell? ⟨b, off + k, none⟩ = some (.int .i64 zs[k]) ∧ b < W.heap.size := by
  obtain ⟨ao', cap', e, h2, h4⟩ := h
  injection e with e1 e2 e3
  subst e1
  obtain ⟨b, off, e, hlt, c0⟩ := h4 k hk
  exact ⟨b, off, e, (hb.cell (p := ⟨b, off + k, none⟩) hlt).trans c0, hlt⟩
theorem Ints.len {W : World} {x : Value} {zs : List Int} (h : Ints W x zs) : ∃ ao cap, x = .slice ao zs.length cap ∧ zs.length ≤ maxLen := by
  obtain ⟨ao, cap, h1, h2, -⟩ := h; exact ⟨ao, cap, h1, h2⟩
theorem Ints.nil (W : World) : Ints W (.slice none 0 0) [] := ⟨none, 0, rfl, by simp [maxLen], fun i hi => by simp at hi⟩
theorem Ints.one (w : World) (z : Int) : Ints (w.alloc (.cells #[.int .i64 z] 3)) (.slice (some ⟨w.heap.size, 0, none⟩) 1 1) [z] := by
  refine ⟨_, _, rfl, by simp [maxLen], fun i hi => ⟨w.heap.size, 0, rfl, by simp, ?_⟩⟩
  match i, hi with
  | 0, _ => simp
theorem Ints.two (w : World) (z z' : Int) : Ints (w.alloc (.cells #[.int .i64 z, .int .i64 z'] 3)) (.slice (some ⟨w.heap.size, 0, none⟩) 2 2) [z, z'] := by
  refine ⟨_, _, rfl, by simp [maxLen], fun i hi => ⟨w.heap.size, 0, rfl, by simp, ?_⟩⟩
  match i, hi with
  | 0, _ => simp
  | 1, _ => simp
theorem Ints.row {w : World} {B : Nat} {x : Value} {zs : List Int} (h : w.ownsRow B 3 1 x zs.length (zs.map (Value.int .i64))) : Ints w x zs := by
  rcases h.2 with ⟨rfl, hn⟩ | ⟨g, cap, cur, rfl, _, hg, h1, h2, _⟩
  · exact ⟨none, 0, by rw [hn], by rw [hn]; exact Nat.zero_le _, fun i hi => absurd hi (by omega)⟩
  · refine ⟨some ⟨g, 0, none⟩, cap, rfl, by omega, fun i hi => ⟨g, 0, rfl, (Array.getElem?_eq_some_iff.1 hg).1, ?_⟩⟩
    have c := h.cells (g := g) rfl i (.int .i64 zs[i]) (by simp [hi])
    rwa [add_none] at c

/-- A place of a row; the value there. -/
def okZ (vs : List V) (z : Int) : Prop := 0 ≤ z ∧ z < (vs.length : Int)
def atZ (vs : List V) (z : Int) : V := vs.getD z.toNat ⟨false, ⟨#[]⟩, 0⟩
theorem atZ_at {vs : List V} {z : Int} {k : Nat} (h : z = (k : Int)) (hk : k < vs.length) : atZ vs z = vs[k] := by
  subst h; simp [atZ, hk]

set_option maxHeartbeats 3200000 in
theorem project_any {x y : Value} {vs : List V} {zs : List Int} {w : World} (hx : Vals w x vs) (hy : Ints w y zs) (hK : zs.length * 32 ≤ 140737488355328) :
    Calls Tryd.prog 13 #[x, y] w fun e w' => Below w.heap.size w w' ∧
      (((∀ z ∈ zs, okZ vs z) ∧ ∃ x', e = .returned (.tuple #[x', .int .i64 0]) ∧ Own w' w.heap.size x' (zs.map (atZ vs))) ∨
        ((∃ z ∈ zs, ¬ okZ vs z) ∧ e = .returned (.tuple #[.slice none 0 0, .int .i64 1]))) := by
  obtain ⟨ao, cap, rfl, hm⟩ := hx.len
  obtain ⟨bo, bap, rfl, hn⟩ := hy.len
  unfold maxLen at hm hn
  obtain ⟨i0, hi, hz0, hz1, hz2⟩ := info_parts infoVal
  have HX := Lib.hid hx
  have HY := Lib.hid hy
  clear hx hy
  go_enter Tryd.func13, Tryd.ntmps13
  go_wp2_with (at_make; refine wpList_make_own _ rfl _ _ 22 rfl w.heap.size 47 i0 _ 3 Tryd.underlying22 hi hz0 hz1 .i64 .i64 _ zs.length rfl rfl (by omega) (by rw [hz2]; omega) (by unfold maxLen; omega) (Nat.le_refl _) ?_; intro w1 hown1 hg1; have HR1 : Hid (Own w1 w.heap.size (.slice (some ⟨w.heap.size, 0, none⟩) 0 zs.length) []) := ⟨hown1, fun _ h => by simp at h⟩; have HB1 : Hid (Below w.heap.size w w1) := (Below.refl _ _).grown hg1 (Nat.le_refl _) (fun k hk => by cases hk); clear hown1 hg1)
  go_loopw [6, 14] (fun v i wr => ∃ k : Nat, k ≤ zs.length ∧ i = .int .i64 k ∧ Hid (∀ z ∈ zs.take k, okZ vs z) ∧ Hid (Own wr w.heap.size v ((zs.map (atZ vs)).take k)) ∧ Hid (Below w.heap.size w wr)) (fun _ i _ => zs.length - (intOf i).toNat)
  case atStart => exact ⟨0, Nat.zero_le _, rfl, by simp [Hid], HR1, HB1⟩
  case round =>
    clear HR1 HB1
    obtain ⟨k, hk, rfl, HZ, HR, HB⟩ := hrel
    by_cases hlt : k < zs.length
    · have h1I : (k : Int) < (zs.length : Int) := by omega
      obtain ⟨bb, ob, rfl, d0, hbl2⟩ := HY.out.at HB.out k hlt
      by_cases hz : okZ vs zs[k]
      · have HZ2 : Hid (∀ z ∈ zs.take (k + 1), okZ vs z) := fun z hzm => by
          rw [List.take_succ_eq_append_getElem hlt] at hzm
          rcases List.mem_append.1 hzm with h | h
          · exact HZ.out z h
          · rw [List.mem_singleton.1 h]; exact hz
        obtain ⟨hz1', hz2'⟩ := hz
        obtain ⟨j, hj⟩ : ∃ j : Nat, zs[k] = (j : Int) := ⟨zs[k].toNat, by omega⟩
        have hjl : j < vs.length := by omega
        have hjI : (j : Int) < (vs.length : Int) := by omega
        have HS : Hid ((zs.map (atZ vs)).take (k + 1) = (zs.map (atZ vs)).take k ++ [vs[j]]) := by
          rw [Hid, List.take_succ_eq_append_getElem (by simpa using hlt), List.getElem_map, atZ_at hj hjl]
        have hl : ((zs.map (atZ vs)).take k).length = k := by simp; omega
        obtain ⟨b, off, rfl, c0, c1, c2, hok, hbl⟩ := HX.out.at HB.out j hjl
        rw [hj] at d0
        have HV := Lib.hid hok
        have hw2 : w.heap.size ≤ wr.heap.size := HB.out.size
        generalize vs[j] = u at *
        clear hok hz1' hz2' hj HZ
        generalize (zs.map (atZ vs)).take k = L at *
        go_wp2_with (at_builtin; refine wpList_append_own _ rfl _ _ 22 rfl w.heap.size 47 i0 _ 3 32 Tryd.underlying22 hi hz0 hz1 hz2 rfl (by decide) _ L.length (L.flatMap V.cells) rfl (HR.out.own.alloc _) ⟨wr.heap.size, 0, none⟩ 1 1 u.cells rfl rfl (three_new _ _ _ _ _) (cells_one u) (by unfold maxLen; omega) (by omega) (by simp; omega) ?_; intro v3 w3 hown3 hg3 hnil3; have HR3 := Lib.hid (HR.out.app HV.out hown3); have HB3 : Hid (Below w.heap.size w w3) := (HB.out.alloc hw2 _).grown hg3 (by simp; omega) (fun k hk => (HR.out.own.lt k hk).1); rw [← HS.out] at HR3; clear hown3 hg3 hnil3)
        go_roundw
        case rel => exact ⟨k + 1, by omega, by go_num, HZ2, HR3, HB3⟩
        case measure => simp [intOf]; omega
      · have HN : Hid (∃ z ∈ zs, ¬ okZ vs z) := ⟨zs[k], List.getElem_mem hlt, hz⟩
        have hz' : zs[k] < 0 ∨ (¬ zs[k] < 0 ∧ zs[k] ≥ (vs.length : Int)) := by unfold okZ at hz; omega
        generalize zs[k] = z at *
        clear hz HZ
        rcases hz' with hz | ⟨hz, hz3⟩
        all_goals
          go_wp2
          go_ret2
          exact ⟨HB.out, .inr ⟨HN.out, rfl⟩⟩
    · obtain rfl : k = zs.length := by omega
      have HR' := HR.out
      rw [List.take_of_length_le (by simp)] at HR'
      have HZ' := HZ.out
      rw [List.take_of_length_le (by simp)] at HZ'
      clear HZ HR
      have H1 := Lib.hid HZ'
      have H2 := Lib.hid HR'
      clear HZ' HR'
      go_wp2
      go_ret2
      exact ⟨HB.out, .inl ⟨H1.out, _, rfl, H2.out⟩⟩
end Go.Proofs.YtdjappfmjnjibaaDoor
