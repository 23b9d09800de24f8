/-
  Contracts of tuple.figures, tuple.parts, tuple.Key: a row's key, for every row whose key isn't too long; of old memory nothing turns.
-/
import Derived.Test.YtfjkfblejfiglaaDoorTCmp
import Derived.Test.YtfjkfblejfiglaaDoorShelf
import Derived.Lib.AppendIntMem
import Derived.Lib.AppendStr
import Derived.Lib.ItoaLen
import Derived.WalkSmall
import Derived.Laws.IdiomStrings
namespace Go.Proofs.YtfjkfblejfiglaaDoor
set_option linter.unusedSimpArgs false
set_option linter.unusedVariables false
set_option linter.unusedSectionVars false
set_option maxRecDepth 100000
open Go.RowKit
variable [DecidableEq V]

/-- The library's table of powers of ten reads as its text lays it. -/
def Tab (w : World) : Prop := Lib.TabIs Tryd.prog w "internal/strconv.uint64pow10" .u64 Lib.pow10Tab
theorem Tab.on {w w' : World} (h : Tab w) (hb : Below w.heap.size w w') : Tab w' := Lib.tabBelow_of_tabIs h w' hb

theorem below_grow (w : World) (k : Nat) (os : Array Obj) : Below w.heap.size w (Sort.grow (w.drewN k) os) :=
  ⟨rfl, rfl, rfl, by simp [Sort.grow, World.drewN], fun i hi => by
    have : i < (w.drewN k).heap.size := hi
    simp only [Sort.grow]; rw [Array.getElem?_append_left this]; rfl⟩

theorem formatInt_any (n : Int) (h0 : -9223372036854775808 ≤ n) (h1 : n ≤ 9223372036854775807) (w : World) (ht : Tab w) :
    Calls Tryd.prog 39 #[.int .i64 n, .int .i64 10] w fun e w' => e = .returned (.string ⟨(Lib.itoa n).toArray⟩) ∧ Below w.heap.size w w' := by
  refine (Tryd.strconv_FormatInt_10 n h0 h1 w ht).mono ?_
  rintro e w' ⟨rfl, k, os, rfl⟩
  exact ⟨rfl, below_grow w k os⟩

set_option maxHeartbeats 400000 in
theorem tfig_any (n : Int) (h0 : -9223372036854775808 ≤ n) (h1 : n ≤ 9223372036854775807) (w : World) (ht : Tab w) :
    Calls Tryd.prog 32 #[.int .i64 n] w fun e w' => e = .returned (.string ⟨(Lib.itoa n).toArray⟩) ∧ Below w.heap.size w w' := by
  have HF := Lib.hid (formatInt_any n h0 h1 w ht)
  clear h0 h1 ht
  go_enter Tryd.func32, Tryd.ntmps32
  go_wp2_with (go_at_call 39; refine (HF.out).mono ?_; rintro e w1 ⟨rfl, hb⟩)
  go_ret
  exact ⟨rfl, hb⟩

/-- What a key says of a value. -/
def V.mark (v : V) : UInt8 := if v.k then 115 else 110
def V.body (v : V) : ByteArray := if v.k then v.s else ⟨(Lib.itoa v.n).toArray⟩
def V.part (v : V) : List UInt8 := v.mark :: (Lib.itoa (v.body.size : Int) ++ 58 :: v.body.data.toList)
def keyL (vs : List V) : List UInt8 := vs.flatMap V.part

theorem body_size (v : V) (h : v.Ok) : v.body.size ≤ v.s.size + 21 := by
  obtain ⟨k, s, n⟩ := v
  cases k
  · have := Lib.itoa_length_le n h.lo h.hi
    show (Lib.itoa n).toArray.size ≤ _
    simp only [List.size_toArray]
    omega
  · show s.size ≤ s.size + 21; omega
theorem body_le (v : V) (h : v.Ok) : v.body.size ≤ maxLen := by
  obtain ⟨k, s, n⟩ := v
  cases k
  · have := Lib.itoa_length_le n h.lo h.hi
    show (Lib.itoa n).toArray.size ≤ _
    simp only [List.size_toArray]
    unfold maxLen
    omega
  · exact h.s
theorem part_len (v : V) (h : v.Ok) : v.part.length ≤ 11 * (v.s.size + 4) := by
  have h1 := body_size v h
  have h2 := body_le v h
  unfold maxLen at h2
  have h3 := Lib.itoa_length_le (v.body.size : Int) (by omega) (by omega)
  have h4 : v.body.data.toList.length = v.body.size := by simp
  simp only [V.part, List.length_cons, List.length_append]
  omega
theorem key_len (vs : List V) (h : ∀ v ∈ vs, v.Ok) : (keyL vs).length ≤ 11 * bulkV vs := by
  induction vs with
  | nil => simp [keyL]
  | cons v l ih =>
    have h1 := part_len v (h v (by simp))
    have h2 := ih (fun u hu => h u (by simp [hu]))
    simp only [keyL, bulkV, List.flatMap_cons, List.length_append, List.map_cons, List.sum_cons] at h2 ⊢
    omega
theorem key_snoc (vs : List V) (k : Nat) (h : k < vs.length) : keyL (vs.take (k + 1)) = keyL (vs.take k) ++ vs[k].part := by
  rw [take_snocV vs k h, keyL, keyL, List.flatMap_append]; simp
theorem key_take (vs : List V) (k : Nat) : (keyL (vs.take k)).length ≤ (keyL vs).length := by
  have : keyL vs = keyL (vs.take k) ++ keyL (vs.drop k) := by
    rw [keyL, keyL, keyL, ← List.flatMap_append, List.take_append_drop]
  rw [this]; simp

set_option maxHeartbeats 800000 in
theorem parts_any {v : V} (hv : v.Ok) (w : World) (ht : Tab w) :
    Calls Tryd.prog 22 #[.agg #[.bool v.k, .string v.s, .int .i64 v.n]] w fun e w' => e = .returned (.tuple #[.int .u8 v.mark.toNat, .string v.body]) ∧ Below w.heap.size w w' := by
  have HF : Hid (∀ w1, Below w.heap.size w w1 → Calls Tryd.prog 32 #[.int .i64 v.n] w1 fun e w' => e = .returned (.string ⟨(Lib.itoa v.n).toArray⟩) ∧ Below w1.heap.size w1 w') := fun w1 hb => tfig_any v.n hv.lo hv.hi w1 (ht.on hb)
  obtain ⟨k, s, n⟩ := v
  clear hv ht
  cases k
  · rw [show (V.mk false s n).mark = 110 from rfl, show (V.mk false s n).body = ⟨(Lib.itoa n).toArray⟩ from rfl]
    go_enter Tryd.func22, Tryd.ntmps22
    go_wp2_with (go_at_call 32; refine (HF.out _ ((Below.refl _ _).alloc (Nat.le_refl _) _)).mono ?_; rintro e w1 ⟨rfl, hb⟩)
    go_ret2
    exact ⟨rfl, ((Below.refl _ _).alloc (Nat.le_refl _) _).trans (hb.mono (by simp))⟩
  · rw [show (V.mk true s n).mark = 115 from rfl, show (V.mk true s n).body = s from rfl]
    go_enter Tryd.func22, Tryd.ntmps22
    go_wp2
    go_quiet (fail)
    go_wp2
    go_ret2
    exact ⟨rfl, below_drewN' ((Below.refl _ _).alloc (Nat.le_refl _) _) _⟩

theorem infoByte : (Tryd.prog.info? 5).map (fun i => (i.zero, i.size, i.bytes)) = some (some (.int .u8 0), 1, 1) := by kernel_rfl
theorem bytes_oneCell (l : List UInt8) : ∀ u ∈ Lib.byteCells l, u.oneCell' = true := by
  intro u hu
  obtain ⟨b, -, rfl⟩ := List.mem_map.1 hu
  rfl
theorem cells_new1 (w : World) (a : Value) (t : TypeId) : ∀ j u, [a][j]? = some u → (w.alloc (.cells #[a] t)).cell? ((⟨w.heap.size, 0, none⟩ : Addr).add j) = some u := by
  intro j u hj
  match j, hj with
  | 0, hj => simp at hj; subst hj; simp [Addr.add]

/-- A list of bytes in a block of the call's own, from B on. -/
def Bts (w : World) (B : Nat) (v : Value) (l : List UInt8) : Prop := w.ownsRow B 5 1 v l.length (Lib.byteCells l)
theorem Bts.below {w w' : World} {B : Nat} {v : Value} {l : List UInt8} (h : Bts w B v l) (hb : Below w.heap.size w w') : Bts w' B v l :=
  ownsRow_block h (fun k hk => hb.block k (h.lt k hk).2)
theorem Bts.app {w : World} {B : Nat} {v : Value} {l m : List UInt8} (h : w.ownsRow B 5 1 v (l.length + m.length) (Lib.byteCells l ++ Lib.byteCells m)) : Bts w B v (l ++ m) := by
  have e1 : Lib.byteCells (l ++ m) = Lib.byteCells l ++ Lib.byteCells m := by simp [Lib.byteCells]
  unfold Bts
  rw [e1, List.length_append]; exact h
theorem Bts.own {w : World} {B : Nat} {v : Value} {l : List UInt8} (h : Bts w B v l) : w.ownsRow B 5 1 v l.length (Lib.byteCells l) := h
theorem Bts.nil (w : World) (B : Nat) : Bts w B (.slice none 0 0) [] := World.ownsRow_nil _ _ _ _
theorem Bts.grown {w0 w w1 : World} {B : Nat} {v : Value} {l : List UInt8} (h : Bts w B v l) (hb : Below B w0 w) (hg : w.grownBy w1 v.ownBlock) (hB : B ≤ w.heap.size) : Below B w0 w1 :=
  hb.grown hg hB (fun k hk => (h.lt k hk).1)

theorem key_ret {a b : List UInt8} (h : a = b) : Ending.returned (.string ⟨a.toArray⟩) = .returned (.string ⟨b.toArray⟩) := by rw [h]

set_option maxHeartbeats 3200000 in
theorem key_any {x : Value} {vs : List V} {w : World} (hx : Vals w x vs) (hK : (keyL vs).length + 100 ≤ 140737488355328) (ht : Tab w) :
    Calls Tryd.prog 12 #[x] w fun e w' => e = .returned (.string ⟨(keyL vs).toArray⟩) ∧ Below w.heap.size w w' := by
  obtain ⟨ao, cap, rfl, hm⟩ := hx.len
  unfold maxLen at hm
  obtain ⟨i0, hi, hz0, hz1, hz2⟩ := info_parts infoByte
  have HX := Lib.hid hx
  have HT := Lib.hid ht
  clear hx ht
  go_enter Tryd.func12, Tryd.ntmps12
  go_wp2_with fail
  go_loopw [3, 10] (fun v i wr => ∃ k : Nat, k ≤ vs.length ∧ i = .int .i64 k ∧ Hid (Bts wr w.heap.size v (keyL (vs.take k))) ∧ Hid (Below w.heap.size w wr)) (fun _ i _ => vs.length - (intOf i).toNat)
  case atStart => exact ⟨0, Nat.zero_le _, rfl, Bts.nil _ _, Below.refl _ _⟩
  case round =>
    obtain ⟨k, hk, rfl, HR, HB⟩ := hrel
    by_cases hlt : k < vs.length
    · have h1I : (k : Int) < (vs.length : Int) := by omega
      obtain ⟨b, off, rfl, c0, c1, c2, hok, hbl⟩ := HX.out.at HB.out k hlt
      have HS := Lib.hid (key_snoc vs k hlt)
      have hl1 := key_take vs (k + 1)
      rw [HS.out] at hl1
      have hbs := body_le vs[k] hok
      unfold maxLen at hbs
      have hP : Hid (∀ W, Below w.heap.size w W → Calls Tryd.prog 22 #[.agg #[.bool vs[k].k, .string vs[k].s, .int .i64 vs[k].n]] W fun e w' => e = .returned (.tuple #[.int .u8 vs[k].mark.toNat, .string vs[k].body]) ∧ Below W.heap.size W w') := fun W hb => parts_any hok W (HT.out.on hb)
      simp only [V.part] at hl1 HS
      generalize vs[k] = u at *
      generalize u.mark = mb at *
      generalize u.body = bd at *
      generalize keyL (vs.take k) = l0 at *
      clear hok
      have hl2 : l0.length + (Lib.itoa (bd.size : Int)).length + bd.size + 102 ≤ 140737488355328 := by
        simp only [List.length_append, List.length_cons] at hl1
        have : bd.data.toList.length = bd.size := by simp
        omega
      clear hl1
      go_wp2_with fail
      refine (hP.out _ (HB.out.alloc HB.out.size _)).mono ?_
      rintro e w1 ⟨rfl, hb1⟩
      have hb1' : Below wr.heap.size wr w1 := ((Below.refl _ _).alloc (Nat.le_refl _) _).trans (hb1.mono (by simp))
      have HR1 := Lib.hid (HR.out.below hb1')
      have HB1 : Hid (Below w.heap.size w w1) := HB.out.trans (hb1'.mono HB.out.size)
      have hw1 : w.heap.size ≤ w1.heap.size := HB1.out.size
      clear hb1 hb1' HR HB hP c0 c1 c2
      go_wp2_with (at_builtin; refine wpList_append_own _ rfl _ _ 41 rfl w.heap.size 5 i0 (.int .u8 0) 1 1 Tryd.underlying41 hi hz0 hz1 hz2 rfl (by decide) _ l0.length (Lib.byteCells l0) rfl (World.ownsRow.alloc HR1.out _) ⟨w1.heap.size, 0, none⟩ 1 1 (Lib.byteCells [mb]) rfl rfl (cells_new1 _ _ _) (bytes_oneCell _) (by unfold maxLen; omega) (by omega) (by simp; omega) ?_; intro v2 w2 hown2 hg2 hnil2; have HR2 : Hid (Bts w2 w.heap.size v2 (l0 ++ [mb])) := Bts.app (m := [mb]) hown2; have HB2 : Hid (Below w.heap.size w w2) := (HB1.out.alloc hw1 _).grown hg2 (by simp; omega) (fun k hk => ((World.ownsRow.lt HR1.out) k hk).1); clear hown2 hg2 hnil2)
      have hw2 : w.heap.size ≤ w2.heap.size := HB2.out.size
      clear HR1 HB1 hw1
      refine (Tryd.strconv_AppendInt_10 w.heap.size (l0 ++ [mb]).length (bd.size : Int) (by omega) (by omega) _ _ _ HR2.out hw2 (by simp; omega) ((Lib.tabBelow_of_tabIs HT.out).on HB2.out)).mono ?_
      rintro e w3 ⟨v3, rfl, hown3, hb3, -⟩
      have HR3 : Hid (Bts w3 w.heap.size v3 (l0 ++ [mb] ++ Lib.itoa (bd.size : Int))) := Bts.app hown3
      have HB3 : Hid (Below w.heap.size w w3) := HB2.out.trans hb3
      have hw3 : w.heap.size ≤ w3.heap.size := HB3.out.size
      clear hown3 hb3 HR2 HB2 hw2
      generalize hl3 : l0 ++ [mb] ++ Lib.itoa (bd.size : Int) = l3 at *
      have hn3 : l3.length + bd.size + 101 ≤ 140737488355328 := by rw [← hl3]; simp; omega
      have HS3 : Hid (keyL (vs.take (k + 1)) = l3 ++ [58] ++ bd.data.toList) := by show keyL (vs.take (k + 1)) = _; rw [HS.out, ← hl3]; simp
      clear hl3 HS hl2
      go_wp2_with (at_builtin; first
        | (refine wpList_append_own _ rfl _ _ 41 rfl w.heap.size 5 i0 (.int .u8 0) 1 1 Tryd.underlying41 hi hz0 hz1 hz2 rfl (by decide) _ l3.length (Lib.byteCells l3) rfl (World.ownsRow.alloc HR3.out _) ⟨w3.heap.size, 0, none⟩ 1 1 (Lib.byteCells [58]) rfl rfl (cells_new1 _ _ _) (bytes_oneCell _) (by unfold maxLen; omega) (by omega) (by simp; omega) ?_; intro v5 w5 hown5 hg5 hnil5; have HR5 : Hid (Bts w5 w.heap.size v5 (l3 ++ [58])) := Bts.app (m := [58]) hown5; have HB5 : Hid (Below w.heap.size w w5) := (HB3.out.alloc hw3 _).grown hg5 (by simp; omega) (fun k hk => ((World.ownsRow.lt HR3.out) k hk).1); clear hown5 hg5 hnil5)
        | (refine Lib.wpList_append_own_string _ rfl _ _ 41 9 rfl w.heap.size 5 i0 Tryd.underlying41 Tryd.underlying9 hi hz0 hz1 hz2 v5 (l3 ++ [58]).length (Lib.byteCells (l3 ++ [58])) rfl HR5.out.own bd rfl (by unfold maxLen; simp; omega) (by simp; omega) HB5.out.size ?_; intro v6 w6 hown6 hg6 hnil6; have HR6 : Hid (Bts w6 w.heap.size v6 (l3 ++ [58] ++ bd.data.toList)) := Bts.app (by rw [data_len]; exact hown6); have HB6 : Hid (Below w.heap.size w w6) := Bts.grown HR5.out HB5.out hg6 HB5.out.size; rw [← HS3.out] at HR6; clear hown6 hg6 hnil6))
      go_roundw
      case rel => exact ⟨k + 1, by omega, by go_num, HR6, HB6⟩
      case measure => simp [intOf]; omega
    · obtain rfl : k = vs.length := by omega
      have HR' := HR.out
      rw [List.take_of_length_le (Nat.le_refl _)] at HR'
      clear HR
      obtain ⟨l, hl⟩ : ∃ l, l = keyL vs := ⟨_, rfl⟩
      rw [← hl] at HR'
      have HL := Lib.hid hl
      clear hl
      rcases HR'.2 with ⟨rfl, h0⟩ | ⟨g, c, cur, rfl, -, -, -, -, -, -⟩
      · have hcv : ∀ w, (convert 41 9 (.slice none 0 0)).run Tryd.prog w = .ok (.string ⟨#[]⟩) w := fun w => by kernel_rfl
        have hl := HL.out
        obtain rfl : l = [] := List.eq_nil_of_length_eq_zero h0
        clear HR' h0
        go_wp2
        go_ret
        exact ⟨by rw [← HL.out]; rfl, HB.out⟩
      · have hcv := run_convert_bytes_back (P := Tryd.prog) wr 41 9 5 ⟨g, 0, none⟩ c l Tryd.underlying41 Tryd.underlying5 Tryd.underlying9 (fun j hj => HR'.cells (g := g) rfl j _ (by simp [Lib.byteCells, hj]))
        clear HR'
        go_wp2
        go_ret
        exact ⟨by rw [← HL.out]; rfl, HB.out⟩
end Go.Proofs.YtfjkfblejfiglaaDoor
