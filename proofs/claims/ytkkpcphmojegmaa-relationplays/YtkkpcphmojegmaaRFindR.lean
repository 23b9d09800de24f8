/-
  Contracts of a relation's table's find, valuesOf: a row's values' numbers, if all have one; a row's values. Of old memory nothing turns.
-/
import Derived.Test.YtkkpcphmojegmaaRMidR
namespace Go.Proofs.Ytkkpcphmojegmaa
set_option linter.unusedSimpArgs false
set_option linter.unusedVariables false
set_option linter.unusedSectionVars false
set_option maxRecDepth 100000
open Go.RowKit Go.Maps
variable [DecidableEq V]

/-- A list of numbers of the call's own. -/
def NumsN (w : World) (B : Nat) (x : Value) (q : List Nat) : Prop := w.ownsRow B 3 1 x q.length (q.map (fun n : Nat => Value.int .i64 (n : Int)))
theorem NumsN.below {w w' : World} {B : Nat} {x : Value} {q : List Nat} (h : NumsN w B x q) (hb : Below w.heap.size w w') : NumsN w' B x q := ownsRow_block h (fun k hk => hb.block k (World.ownsRow.lt h k hk).2)
theorem NumsN.snoc {w : World} {B : Nat} {x : Value} {q : List Nat} {n : Nat} (h : w.ownsRow B 3 1 x (q.length + 1) (q.map (fun n : Nat => Value.int .i64 (n : Int)) ++ [.int .i64 (n : Int)])) : NumsN w B x (q ++ [n]) := by
  unfold NumsN; simpa using h
theorem one_new (w : World) (x : Value) (t : TypeId) : ∀ j u, [x][j]? = some u → (w.alloc (.cells #[x] t)).cell? ((⟨w.heap.size, 0, none⟩ : Addr).add j) = some u := by
  intro j u hj
  match j, hj with
  | 0, hj => simp at hj; subst hj; simp [Addr.add]
theorem at0_mem {L : List V} {v : V} (h : v ∈ L) : at0 L v = ((L.idxOf v : Nat) : Int) := by simp [at0, h]

theorem nums_snoc (L vs : List V) (v : V) : numsOf L (vs ++ [v]) = numsOf L vs ++ [L.idxOf v.bare] := by simp [numsOf]
/-- What find answers. -/
def FindOut (w : World) (L vs : List V) (e : Ending) (w' : World) : Prop :=
  Below w.heap.size w w' ∧ (((∀ v ∈ vs, v.bare ∈ L) ∧ ∃ x', e = .returned (.tuple #[x', .bool true]) ∧ NumsN w' w.heap.size x' (numsOf L vs)) ∨ ((∃ v ∈ vs, v.bare ∉ L) ∧ e = .returned (.tuple #[.slice none 0 0, .bool false])))

set_option maxHeartbeats 3200000 in
set_option maxRecDepth 100000 in
theorem find_rel {w : World} {B : Nat} {F : Nat → Prop} {tb : Nat} {X : Ex} {L : List V} (hT : Tbl w B F tb X L) {x : Value} {vs : List V} (hx : Vals w x vs) (hm : vs.length ≤ 1000000) :
    Calls Try.prog 27 #[.pointer (some ⟨tb, 0, none⟩), x] w fun e w' => FindOut w L vs e w' := by
  obtain ⟨ao, cap, rfl, -⟩ := hx.len
  obtain ⟨i0, hi, hz0, hz1, hz2⟩ := info_parts infoInt
  have HX := Lib.hid hx
  have HT := Lib.hid hT
  have hlt := hT.lt
  have l9 : (vs.length : Int) ≤ 1000000 := by omega
  clear hx hT
  go_enter Try.func27, Try.ntmps27
  go_wp2_with (at_make; refine wpList_make_own _ rfl _ _ 31 rfl w.heap.size 3 i0 _ 1 Try.underlying31 hi hz0 hz1 .i64 .i64 _ vs.length rfl rfl (by omega) (by rw [hz2]; omega) (by unfold maxLen; omega) (Nat.le_refl _) ?_; intro w1 hown1 hg1; have HR1 : Hid (NumsN w1 w.heap.size (.slice (some ⟨w.heap.size, 0, none⟩) 0 vs.length) []) := hown1; have HB1 : Hid (Below w.heap.size w w1) := (Below.refl _ _).grown hg1 (Nat.le_refl _) (fun k hk => by cases hk); clear hown1 hg1)
  go_loopw [6, 16] (fun v i wr => ∃ k : Nat, k ≤ vs.length ∧ i = .int .i64 k ∧ Hid (∀ u ∈ vs.take k, u.bare ∈ L) ∧ Hid (NumsN wr w.heap.size v (numsOf L (vs.take k))) ∧ Hid (Below w.heap.size w wr)) (fun _ i _ => vs.length - (intOf i).toNat)
  case atStart => exact ⟨0, Nat.zero_le _, rfl, fun u hu => by simp at hu, HR1, HB1⟩
  case round =>
    clear HR1 HB1
    obtain ⟨k, hk, rfl, HI, HR, HB⟩ := hrel
    by_cases hltk : k < vs.length
    · have h1I : (k : Int) < (vs.length : Int) := by omega
      obtain ⟨b, off, rfl, c0, c1, c2, hok, hbl⟩ := HX.out.at HB.out k hltk
      have hw := HB.out.size
      have hF := Lib.hid (fun W (hb : Below wr.heap.size wr W) => find_any ((HT.out.below HB.out).below hb) hok)
      have hl : (numsOf L (vs.take k)).length = k := by simp [numsOf]; omega
      by_cases hin : vs[k].bare ∈ L
      · have HI2 : Hid (∀ u ∈ vs.take (k + 1), u.bare ∈ L) := fun u hu => by
          rw [List.take_succ_eq_append_getElem hltk] at hu
          rcases List.mem_append.1 hu with hu | hu
          · exact HI.out u hu
          · rw [List.mem_singleton.1 hu]; exact hin
        have HS : Hid (numsOf L (vs.take (k + 1)) = numsOf L (vs.take k) ++ [L.idxOf vs[k].bare]) := by
          show numsOf _ _ = _
          rw [List.take_succ_eq_append_getElem hltk, nums_snoc]
        have e1 := at0_mem hin
        have e2 : decide (vs[k].bare ∈ L) = true := decide_eq_true hin
        rw [e1, e2] at hF
        clear hin e1 e2 HI hok
        generalize numsOf L (vs.take k) = Q at *
        generalize L.idxOf vs[k].bare = z at *
        generalize vs[k] = u at *
        go_wp2_with fail
        go_region_held3 (fun w' => w'.cell? ⟨wr.heap.size, 0, none⟩ = some (.bool u.k) ∧ w'.cell? ⟨wr.heap.size, 1, none⟩ = some (.string u.s) ∧ w'.cell? ⟨wr.heap.size, 2, none⟩ = some (.int .i64 u.n) ∧ wr.heap.size < w'.heap.size ∧ Below wr.heap.size wr w')
          (first | assumption | exact held_keep (by assumption) hbN | exact ⟨by simp, by simp, by simp, by simp, ((Below.refl _ _).alloc (Nat.le_refl _) _).drew⟩)
          (first
            | (go_at_call 37; refine (hF.out _ (by go_split_ands; assumption)).mono ?_; rintro e w' ⟨rfl, hbN⟩))
        go_split_ands
        rename_i y0 y1 y2 y3 y4
        obtain ⟨w2, hw2e⟩ : ∃ w2, w2 = w' := ⟨_, rfl⟩
        rw [← hw2e] at y0 y1 y2 y3 y4 ⊢
        clear hw2e
        have HB2 : Hid (Below w.heap.size w w2) := HB.out.trans (y4.mono HB.out.size)
        have hw2 : w.heap.size ≤ w2.heap.size := HB2.out.size
        have HR2 := Lib.hid (HR.out.below y4)
        clear y0 y1 y2 y3 y4 HR HB hF c0 c1 c2
        go_wp2_with (at_builtin; refine wpList_append_own _ rfl _ _ 31 rfl w.heap.size 3 i0 _ 1 8 Try.underlying31 hi hz0 hz1 hz2 rfl (by decide) _ Q.length (Q.map (fun n : Nat => Value.int .i64 (n : Int))) rfl (World.ownsRow.alloc HR2.out _) ⟨w2.heap.size, 0, none⟩ 1 1 [.int .i64 (z : Int)] rfl rfl (one_new _ _ _) (by simp [Value.oneCell']) (by unfold maxLen; omega) (by omega) (by simp; omega) ?_; intro v3 w3 hown3 hg3 hnil3; have HR3 := Lib.hid (NumsN.snoc hown3); have HB3 : Hid (Below w.heap.size w w3) := (HB2.out.alloc hw2 _).grown hg3 (by simp; omega) (fun k hk => (World.ownsRow.lt HR2.out k hk).1); rw [← HS.out] at HR3; clear hown3 hg3 hnil3)
        go_roundw
        case rel => exact ⟨k + 1, by omega, by go_num, HI2, HR3, HB3⟩
        case measure => simp [intOf]; omega
      · have HN : Hid (∃ v ∈ vs, v.bare ∉ L) := ⟨vs[k], List.getElem_mem hltk, hin⟩
        have e2 : decide (vs[k].bare ∈ L) = false := decide_eq_false hin
        rw [e2] at hF
        clear hin e2 HI hok
        generalize at0 L vs[k].bare = z at *
        generalize vs[k] = u at *
        go_wp2_with fail
        go_region_held3 (fun w' => w'.cell? ⟨wr.heap.size, 0, none⟩ = some (.bool u.k) ∧ w'.cell? ⟨wr.heap.size, 1, none⟩ = some (.string u.s) ∧ w'.cell? ⟨wr.heap.size, 2, none⟩ = some (.int .i64 u.n) ∧ wr.heap.size < w'.heap.size ∧ Below wr.heap.size wr w')
          (first | assumption | exact held_keep (by assumption) hbN | exact ⟨by simp, by simp, by simp, by simp, ((Below.refl _ _).alloc (Nat.le_refl _) _).drew⟩)
          (first
            | (go_at_call 37; refine (hF.out _ (by go_split_ands; assumption)).mono ?_; rintro e w' ⟨rfl, hbN⟩))
        go_split_ands
        rename_i y0 y1 y2 y3 y4
        obtain ⟨w2, hw2e⟩ : ∃ w2, w2 = w' := ⟨_, rfl⟩
        rw [← hw2e] at y0 y1 y2 y3 y4 ⊢
        clear hw2e
        have HB2 : Hid (Below w.heap.size w w2) := HB.out.trans (y4.mono HB.out.size)
        have hw2 : w.heap.size ≤ w2.heap.size := HB2.out.size
        clear y0 y1 y2 y3 y4 HR HB hF c0 c1 c2
        go_wp2
        go_ret2
        exact ⟨HB2.out, .inr ⟨HN.out, rfl⟩⟩
    · obtain rfl : k = vs.length := by omega
      have h1I : ¬ (vs.length : Int) < (vs.length : Int) := by omega
      have HI' := HI.out
      have HR' := HR.out
      rw [List.take_of_length_le (Nat.le_refl _)] at HI' HR'
      have H1 := Lib.hid HI'
      have H2 := Lib.hid HR'
      clear HI HR HI' HR'
      go_wp2
      go_ret2
      exact ⟨HB.out, .inl ⟨H1.out, _, rfl, H2.out⟩⟩
end Go.Proofs.Ytkkpcphmojegmaa
