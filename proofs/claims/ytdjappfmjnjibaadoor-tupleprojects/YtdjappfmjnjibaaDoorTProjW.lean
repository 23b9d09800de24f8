/-
  The walk of TupleProjects: on all places, in turn, a row is itself; on a place twice it has that value twice; on one that is none it is refused: the law returns true; of old memory nothing turns.
-/
import Derived.Test.YtdjappfmjnjibaaDoorTShown
import Derived.Test.YtdjappfmjnjibaaDoorTProj
import Derived.Test.YtdjappfmjnjibaaDoorTRef01
import Derived.Test.YtdjappfmjnjibaaDoorTOrdP
namespace Go.Proofs.YtdjappfmjnjibaaDoor
set_option linter.unusedSimpArgs false
set_option linter.unusedVariables false
set_option linter.unusedSectionVars false
set_option maxRecDepth 100000
open Go.RowKit Go.Maps
variable [DecidableEq V]

/-- The numbers 0, 1, and so on. -/
def upTo (k : Nat) : List Int := (List.range k).map (fun j : Nat => (j : Int))
theorem upTo_len (k : Nat) : (upTo k).length = k := by simp [upTo]
theorem upTo_snoc (k : Nat) : upTo (k + 1) = upTo k ++ [(k : Int)] := by simp [upTo, List.range_succ]
theorem upTo_ok (vs : List V) : ∀ z ∈ upTo vs.length, okZ vs z := by
  intro z hz
  obtain ⟨j, hj, rfl⟩ := List.mem_map.1 hz
  simp at hj
  exact ⟨by omega, by omega⟩
theorem upTo_all (vs : List V) : (upTo vs.length).map (atZ vs) = vs := by
  apply List.ext_getElem
  · simp [upTo]
  · intro i h1 h2
    simp only [List.getElem_map, upTo, List.getElem_range]
    exact atZ_at rfl h2
/-- A list of ints of the call's own. -/
def Nums (w : World) (B : Nat) (x : Value) (zs : List Int) : Prop := w.ownsRow B 3 1 x zs.length (zs.map (Value.int .i64))
theorem Nums.own {w : World} {B : Nat} {x : Value} {zs : List Int} (h : Nums w B x zs) : w.ownsRow B 3 1 x zs.length (zs.map (Value.int .i64)) := h
theorem Nums.nil (w : World) (B : Nat) : Nums w B (.slice none 0 0) (upTo 0) := World.ownsRow_nil _ _ _ _
theorem Nums.snoc {w : World} {B : Nat} {x : Value} {zs : List Int} {z : Int} (h : w.ownsRow B 3 1 x (zs.length + 1) (zs.map (Value.int .i64) ++ [.int .i64 z])) : Nums w B x (zs ++ [z]) := by
  unfold Nums; simpa using h

/-- Three elements' cells, kept. -/
theorem nine_keep {w W w' : World} {b1 o1 b2 o2 b3 o3 : Nat} {a0 a1 a2 c0 c1 c2 d0 d1 d2 : Value}
    (h : W.cell? ⟨b1, o1, none⟩ = some a0 ∧ W.cell? ⟨b1, o1 + 1, none⟩ = some a1 ∧ W.cell? ⟨b1, o1 + 2, none⟩ = some a2 ∧ W.cell? ⟨b2, o2, none⟩ = some c0 ∧ W.cell? ⟨b2, o2 + 1, none⟩ = some c1 ∧ W.cell? ⟨b2, o2 + 2, none⟩ = some c2 ∧ W.cell? ⟨b3, o3, none⟩ = some d0 ∧ W.cell? ⟨b3, o3 + 1, none⟩ = some d1 ∧ W.cell? ⟨b3, o3 + 2, none⟩ = some d2 ∧ b1 < W.heap.size ∧ b2 < W.heap.size ∧ b3 < W.heap.size ∧ Below w.heap.size w W)
    (hb : Below W.heap.size W w') : w'.cell? ⟨b1, o1, none⟩ = some a0 ∧ w'.cell? ⟨b1, o1 + 1, none⟩ = some a1 ∧ w'.cell? ⟨b1, o1 + 2, none⟩ = some a2 ∧ w'.cell? ⟨b2, o2, none⟩ = some c0 ∧ w'.cell? ⟨b2, o2 + 1, none⟩ = some c1 ∧ w'.cell? ⟨b2, o2 + 2, none⟩ = some c2 ∧ w'.cell? ⟨b3, o3, none⟩ = some d0 ∧ w'.cell? ⟨b3, o3 + 1, none⟩ = some d1 ∧ w'.cell? ⟨b3, o3 + 2, none⟩ = some d2 ∧ b1 < w'.heap.size ∧ b2 < w'.heap.size ∧ b3 < w'.heap.size ∧ Below w.heap.size w w' := by
  obtain ⟨h1, h2, h3, h4, h5, h6, g1, g2, g3, h7, h8, g4, h9⟩ := h
  have hs := hb.size
  exact ⟨(hb.cell (p := ⟨b1, o1, none⟩) h7).trans h1, (hb.cell (p := ⟨b1, o1 + 1, none⟩) h7).trans h2, (hb.cell (p := ⟨b1, o1 + 2, none⟩) h7).trans h3, (hb.cell (p := ⟨b2, o2, none⟩) h8).trans h4, (hb.cell (p := ⟨b2, o2 + 1, none⟩) h8).trans h5, (hb.cell (p := ⟨b2, o2 + 2, none⟩) h8).trans h6, (hb.cell (p := ⟨b3, o3, none⟩) g4).trans g1, (hb.cell (p := ⟨b3, o3 + 1, none⟩) g4).trans g2, (hb.cell (p := ⟨b3, o3 + 2, none⟩) g4).trans g3, by omega, by omega, by omega, h9.trans (hb.mono h9.size)⟩

/-- Two values in a row of the call's own. -/
theorem own_two {w : World} {B : Nat} {x : Value} {u v : V} (h : Own w B x [u, v]) : ∃ g cap, x = .slice (some ⟨g, 0, none⟩) 2 cap ∧ g < w.heap.size ∧ w.cell? ⟨g, 0, none⟩ = some (.bool u.k) ∧ w.cell? ⟨g, 1, none⟩ = some (.string u.s) ∧ w.cell? ⟨g, 2, none⟩ = some (.int .i64 u.n) ∧
    w.cell? ⟨g, 3, none⟩ = some (.bool v.k) ∧ w.cell? ⟨g, 3 + 1, none⟩ = some (.string v.s) ∧ w.cell? ⟨g, 3 + 2, none⟩ = some (.int .i64 v.n) := by
  rcases h.own.2 with ⟨-, h0⟩ | ⟨g, cap, cur, rfl, -, hg, -, -, -, -⟩
  · simp at h0
  · have c := h.own.cells (g := g) rfl
    have c0 := c 0 _ rfl
    have c1 := c 1 _ rfl
    have c2 := c 2 _ rfl
    have c3 := c 3 _ rfl
    have c4 := c 4 _ rfl
    have c5 := c 5 _ rfl
    rw [add_none] at c0 c1 c2 c3 c4 c5
    exact ⟨g, cap, rfl, (Array.getElem?_eq_some_iff.1 hg).1, c0, c1, c2, c3, c4, c5⟩

set_option maxHeartbeats 6400000 in
theorem projects_walk {x : Value} {vs : List V} {n : Int} {w : World} (hx : Vals w x vs) (hn0 : 0 ≤ n) (hn1 : n ≤ 255) (hK : vs.length * 32 ≤ 140737488351232) (ht : Tab w) :
    Calls Tryd.prog 9 #[x, .int .u8 n] w fun e w' => e = .returned (.bool true) ∧ Below w.heap.size w w' := by
  obtain ⟨ao, cap, rfl, hm⟩ := hx.len
  unfold maxLen at hm
  obtain ⟨i0, hi, hz0, hz1, hz2⟩ := info_parts infoInt
  have HX := Lib.hid hx
  have HT := Lib.hid ht
  clear hx ht
  go_enter Tryd.func9, Tryd.ntmps9
  go_wp2_with fail
  refine (shown3_any _ HT.out).mono ?_
  rintro e w1 ⟨rfl, hb1⟩
  have HB1 := Lib.hid hb1
  clear hb1 HT
  go_wp2_with fail
  go_loopw [6, 7] (fun v i wr => ∃ (k : Nat), k ≤ vs.length ∧ i = .int .i64 k ∧ Hid (Nums wr w.heap.size v (upTo k)) ∧ Hid (Below w.heap.size w wr)) (fun _ i _ => vs.length - (intOf i).toNat)
  case atStart => exact ⟨0, Nat.zero_le _, rfl, Nums.nil _ _, HB1⟩
  case round =>
    clear HB1
    obtain ⟨k, hk, rfl, HN, HB⟩ := hrel
    by_cases hlt : k < vs.length
    · have h1I : (k : Int) < (vs.length : Int) := by omega
      have hul := upTo_len k
      have HS := Lib.hid (upTo_snoc k)
      have hw2 : w.heap.size ≤ wr.heap.size := HB.out.size
      generalize upTo k = zs at *
      go_wp2_with (at_builtin; refine wpList_append_own _ rfl _ _ 23 rfl w.heap.size 3 i0 (.int .i64 0) 1 8 Tryd.underlying23 hi hz0 hz1 hz2 rfl (by decide) _ zs.length (zs.map (Value.int .i64)) rfl (HN.out.own.alloc _) ⟨wr.heap.size, 0, none⟩ 1 1 [.int .i64 (k : Int)] rfl rfl (cell_one_new _ _ _) (ints_oneCell .i64 [(k : Int)]) (by unfold maxLen; omega) (by omega) (by simp; omega) ?_; intro v3 w3 hown3 hg3 hnil3; have HN3 : Hid (Nums w3 w.heap.size v3 (zs ++ [(k : Int)])) := Nums.snoc hown3; have HB3 : Hid (Below w.heap.size w w3) := (HB.out.alloc hw2 _).grown hg3 (by simp; omega) (fun k hk => (HN.out.own.lt k hk).1); rw [← HS.out] at HN3; clear hown3 hg3 hnil3)
      go_roundw
      case rel => exact ⟨k + 1, by omega, by go_num, HN3, HB3⟩
      case measure => simp [intOf]; omega
    · obtain rfl : k = vs.length := by omega
      clear hlt hk
      have HU := Lib.hid (upTo_len vs.length)
      go_wp2_with fail
      refine (project_any (HX.out.below HB.out) (Ints.row HN.out) (by rw [HU.out]; omega)).mono ?_
      rintro e w2 ⟨hb2, hP⟩
      obtain ⟨-, x2, rfl, hO2⟩ := hP.resolve_right (fun ⟨⟨z, hz, hz'⟩, _⟩ => hz' (upTo_ok vs z hz))
      rw [upTo_all] at hO2
      have HB2 : Hid (Below w.heap.size w w2) := HB.out.trans (hb2.mono HB.out.size)
      have HO2 := Lib.hid hO2.vals
      clear hb2 HB hO2 HN HU
      go_wp2_with fail
      refine (project_any (HX.out.below (HB2.out.alloc HB2.out.size _)) (Ints.one _ _) (by simp)).mono ?_
      rintro e w3 ⟨hb3, hP⟩
      obtain ⟨-, rfl⟩ := hP.resolve_left (fun ⟨hz, _⟩ => absurd (hz _ (List.mem_singleton.2 rfl)).2 (by omega))
      have hb3' := ((Below.refl _ _).alloc (Nat.le_refl _) _).trans (hb3.mono (by simp : w2.heap.size ≤ _))
      have HO3 := Lib.hid (HO2.out.below hb3')
      have HB3 : Hid (Below w.heap.size w w3) := HB2.out.trans (hb3'.mono HB2.out.size)
      clear hb3 hb3' HO2 HB2
      go_wp2_with fail
      refine (project_any (HX.out.below (HB3.out.alloc HB3.out.size _)) (Ints.one _ _) (by simp)).mono ?_
      rintro e w4 ⟨hb4, hP⟩
      obtain ⟨-, rfl⟩ := hP.resolve_left (fun ⟨hz, _⟩ => absurd (hz _ (List.mem_singleton.2 rfl)).1 (by omega))
      have hb4' := ((Below.refl _ _).alloc (Nat.le_refl _) _).trans (hb4.mono (by simp : w3.heap.size ≤ _))
      have HO4 := Lib.hid (HO3.out.below hb4')
      have HB4 : Hid (Below w.heap.size w w4) := HB3.out.trans (hb4'.mono HB3.out.size)
      clear hb4 hb4' HO3 HB3
      go_wp2_with fail
      refine (project_any (HX.out.below HB4.out) (Ints.nil _) (by simp)).mono ?_
      rintro e w5 ⟨hb5, hP⟩
      obtain ⟨-, x5, rfl, hO5⟩ := hP.resolve_right (fun ⟨⟨z, hz, _⟩, _⟩ => absurd hz (by simp))
      obtain ⟨a5, c5, rfl⟩ := hO5.form
      have HO5 := Lib.hid (HO4.out.below hb5)
      have HB5 : Hid (Below w.heap.size w w5) := HB4.out.trans (hb5.mono HB4.out.size)
      simp only [List.map_nil, List.length_nil]
      clear hb5 hO5 HO4 HB4
      by_cases h0 : vs.length = 0
      · have h0I : ((vs.length : Int) == 0) = true := by simp [h0]
        go_wp2
        go_ret
        exact ⟨rfl, HB5.out⟩
      · have h0I : ((vs.length : Int) == 0) = false := by simp [h0]
        obtain ⟨k, hk⟩ : ∃ k : Nat, n.tmod (vs.length : Int) = (k : Int) := ⟨(n % (vs.length : Int)).toNat, by rw [Int.tmod_eq_emod_of_nonneg hn0]; have := Int.emod_nonneg n (b := (vs.length : Int)) (by omega); omega⟩
        have hkl : k < vs.length := by
          rw [Int.tmod_eq_emod_of_nonneg hn0] at hk
          have := Int.emod_lt_of_pos n (b := (vs.length : Int)) (by omega)
          omega
        have hkI : (k : Int) < (vs.length : Int) := by omega
        have hk2 : n % (vs.length : Int) = (k : Int) := by rw [← hk, Int.tmod_eq_emod_of_nonneg hn0]
        clear h0
        go_wp2_with fail
        clear hk hk2
        refine (project_any (HX.out.below (HB5.out.alloc HB5.out.size _)) (Ints.two _ _ _) (by simp)).mono ?_
        rintro e w6 ⟨hb6, hP⟩
        obtain ⟨-, x6, rfl, hO6⟩ := hP.resolve_right (fun ⟨⟨z, hz, hz'⟩, _⟩ => by simp at hz; subst hz; exact hz' ⟨by omega, by omega⟩)
        have ea : atZ vs (k : Int) = vs[k] := atZ_at rfl hkl
        simp only [List.map_cons, List.map_nil, ea] at hO6
        obtain ⟨g, c6, rfl, hg6, a0, a1, a2, a3, a4, a5⟩ := own_two hO6
        have hb6' := ((Below.refl _ _).alloc (Nat.le_refl _) _).trans (hb6.mono (by simp : w5.heap.size ≤ _))
        have HO6 := Lib.hid (HO5.out.below hb6')
        have HB6 : Hid (Below w.heap.size w w6) := HB5.out.trans (hb6'.mono HB5.out.size)
        obtain ⟨b, off, hao, c0, c1, c2, hok, hbl⟩ := HX.out.at HB6.out k hkl
        have hbw : b < w6.heap.size := Nat.lt_of_lt_of_le hbl HB6.out.size
        have C1 : Hid (∀ W, Below w6.heap.size w6 W → Calls Tryd.prog 19 #[x2, .slice ao vs.length cap] W fun e w' => e = .returned (.bool true) ∧ Below W.heap.size W w') := fun W hb => row_same (HO6.out.below hb) (HX.out.below (HB6.out.trans (hb.mono HB6.out.size)))
        have C2 : Hid (∀ W, Calls Tryd.prog 26 #[.agg #[.bool vs[k].k, .string vs[k].s, .int .i64 vs[k].n], .agg #[.bool vs[k].k, .string vs[k].s, .int .i64 vs[k].n]] W fun e w' => e = .returned (.bool true) ∧ Below W.heap.size W w') := fun W => by
          have := ref_same hok hok W
          rwa [V.cmp_self, show ((0 : Int) == 0) = true from rfl] at this
        have heq : ∀ W, _ := fun W => eql_run hok hok W
        simp only [decide_true] at heq
        generalize vs[k] = u at *
        subst hao
        clear hb6 hb6' hP hO6 HO5 HB5 ea hok HO6
        go_wp2_with fail
        go_region_held3 (fun w' => w'.cell? ⟨g, 0, none⟩ = some (.bool u.k) ∧ w'.cell? ⟨g, 1, none⟩ = some (.string u.s) ∧ w'.cell? ⟨g, 2, none⟩ = some (.int .i64 u.n) ∧ w'.cell? ⟨g, 3, none⟩ = some (.bool u.k) ∧ w'.cell? ⟨g, 3 + 1, none⟩ = some (.string u.s) ∧ w'.cell? ⟨g, 3 + 2, none⟩ = some (.int .i64 u.n) ∧ w'.cell? ⟨b, off + k * 3, none⟩ = some (.bool u.k) ∧ w'.cell? ⟨b, off + k * 3 + 1, none⟩ = some (.string u.s) ∧ w'.cell? ⟨b, off + k * 3 + 2, none⟩ = some (.int .i64 u.n) ∧ g < w'.heap.size ∧ g < w'.heap.size ∧ b < w'.heap.size ∧ Below w6.heap.size w6 w')
          (first | assumption | exact nine_keep (o1 := 0) (by assumption) hbN | exact ⟨a0, a1, a2, a3, a4, a5, c0, c1, c2, hg6, hg6, hbw, (Below.refl _ _).drew⟩)
          (first
            | (go_at_call 19; refine (C1.out _ (by go_split_ands; assumption)).mono ?_; rintro e w' ⟨rfl, hbN⟩)
            | (go_at_call 26; refine (C2.out _).mono ?_; rintro e w' ⟨rfl, hbN⟩))
        go_wp2
        go_ret
        go_split_ands
        rename_i y0 y1 y2 y3 y4 y5 y6 y7 y8 y9 ya yb yc
        exact ⟨rfl, HB6.out.trans (yc.mono HB6.out.size)⟩
end Go.Proofs.YtdjappfmjnjibaaDoor
