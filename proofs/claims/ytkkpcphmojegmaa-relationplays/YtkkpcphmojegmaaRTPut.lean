/-
  Contract of a relation's table's put: a row's values' numbers; values that weren't there are added; nothing turns but the table's own blocks.
-/
import Derived.Test.YtkkpcphmojegmaaRKey
namespace Go.Proofs.Ytkkpcphmojegmaa
set_option linter.unusedSimpArgs false
set_option linter.unusedVariables false
set_option linter.unusedSectionVars false
set_option maxRecDepth 100000
open Go.RowKit Go.Maps
variable [DecidableEq V]

/-- A list's block isn't among F. -/
def Apart (F : Nat → Prop) (x : Value) : Prop := ∀ a n c, x = .slice (some a) n c → 0 < n → ¬ F a.block
theorem Vals.turns {W w1 : World} {F : Nat → Prop} {x : Value} {vs : List V} (h : Vals W x vs) (ht : Turns F W w1) (ha : Apart F x) : Vals w1 x vs := by
  obtain ⟨ao, cap, h1, h2, h3, h4⟩ := h
  refine ⟨ao, cap, h1, h2, h3, fun i hi => ?_⟩
  obtain ⟨b, off, e, hlt, c0, c1, c2⟩ := h4 i hi
  have hne := ha ⟨b, off, none⟩ _ _ (by rw [h1, e]) (by omega)
  have hb := ht.block b hlt hne
  exact ⟨b, off, e, Nat.lt_of_lt_of_le hlt ht.size, (World.cell?_of_block (a := ⟨b, off + i * 3, none⟩) hb).trans c0, (World.cell?_of_block (a := ⟨b, off + i * 3 + 1, none⟩) hb).trans c1, (World.cell?_of_block (a := ⟨b, off + i * 3 + 2, none⟩) hb).trans c2⟩
/-- The list with all values of a row put. -/
def addAll (L : List V) (vs : List V) : List V := vs.foldl (fun L v => addV L v.bare) L
theorem addAll_snoc (L : List V) (vs : List V) (v : V) : addAll L (vs ++ [v]) = addV (addAll L vs) v.bare := by simp [addAll]
theorem mem_addV {L : List V} {b u : V} : u ∈ addV L b ↔ u ∈ L ∨ u = b := by
  unfold addV
  split
  · rename_i h
    exact ⟨.inl, fun h' => h'.elim id (fun e => e ▸ h)⟩
  · simp
theorem idx_addV {L : List V} {b u : V} (h : u ∈ L) : (addV L b).idxOf u = L.idxOf u := by
  unfold addV
  split
  · rfl
  · rw [List.idxOf_append, if_pos h]
theorem idx_addV_self {L : List V} {b : V} : (addV L b).idxOf b = L.idxOf b := by
  unfold addV
  split
  · rfl
  · rename_i h
    rw [List.idxOf_append, if_neg h, List.idxOf_eq_length h]; simp
theorem addV_len {L : List V} {b : V} : (addV L b).length ≤ L.length + 1 := by unfold addV; split <;> simp
theorem addAll_len (vs : List V) : ∀ (L : List V), (addAll L vs).length ≤ L.length + vs.length := by
  induction vs with
  | nil => intro L; simp [addAll]
  | cons v vs ih => intro L; have := ih (addV L v.bare); have := addV_len (L := L) (b := v.bare); simp [addAll] at *; omega
/-- The numbers of a row's values. -/
def numsOf (L : List V) (vs : List V) : List Nat := vs.map (fun v => L.idxOf v.bare)
theorem six_set {q : List Nat} {k x : Nat} (hk : q.length = k) (h6 : k < 6) : (six q).set k (.int .i64 (x : Int)) = six (q ++ [x]) := by
  subst hk
  match q, h6 with
  | [], _ => rfl
  | [a], _ => rfl
  | [a, b], _ => rfl
  | [a, b, c], _ => rfl
  | [a, b, c, d], _ => rfl
  | [a, b, c, d, e], _ => rfl
  | a :: b :: c :: d :: e :: f :: l, h => simp at h; omega
/-- A block that holds a row's numbers. -/
def SixAt (w : World) (b : Nat) (q : List Nat) : Prop := w.heap[b]? = some (.cells (six q).toArray 72 (0, 0))
theorem SixAt.cells {w : World} {b : Nat} {q : List Nat} (h : SixAt w b q) : w.cell? ⟨b, 0, none⟩ = some (.int .i64 (q.getD 0 0 : Nat)) ∧ w.cell? ⟨b, 1, none⟩ = some (.int .i64 (q.getD 1 0 : Nat)) ∧ w.cell? ⟨b, 2, none⟩ = some (.int .i64 (q.getD 2 0 : Nat)) ∧
    w.cell? ⟨b, 3, none⟩ = some (.int .i64 (q.getD 3 0 : Nat)) ∧ w.cell? ⟨b, 4, none⟩ = some (.int .i64 (q.getD 4 0 : Nat)) ∧ w.cell? ⟨b, 5, none⟩ = some (.int .i64 (q.getD 5 0 : Nat)) := by
  have h' : w.heap[b]? = some (.cells (six q).toArray 72 (0, 0)) := h
  exact ⟨by rw [cell_of_row w b 0 _ _ _ h']; rfl, by rw [cell_of_row w b 1 _ _ _ h']; rfl, by rw [cell_of_row w b 2 _ _ _ h']; rfl, by rw [cell_of_row w b 3 _ _ _ h']; rfl, by rw [cell_of_row w b 4 _ _ _ h']; rfl, by rw [cell_of_row w b 5 _ _ _ h']; rfl⟩
theorem SixAt.lt {w : World} {b : Nat} {q : List Nat} (h : SixAt w b q) : b < w.heap.size := (Array.getElem?_eq_some_iff.1 h).1
theorem SixAt.frozen {w : World} {b : Nat} {q : List Nat} (h : SixAt w b q) (o : Nat) : w.frozen? ⟨b, o, none⟩ = false := by
  have h' : w.heap[b]? = some (.cells (six q).toArray 72 (0, 0)) := h
  simp [World.frozen?, h']
theorem SixAt.some {w : World} {b k : Nat} {q : List Nat} (h : SixAt w b q) (hk : k < 6) : ∃ u, w.cell? ⟨b, k, none⟩ = some u := by
  obtain ⟨c0, c1, c2, c3, c4, c5⟩ := h.cells
  match k, hk with
  | 0, _ => exact ⟨_, c0⟩
  | 1, _ => exact ⟨_, c1⟩
  | 2, _ => exact ⟨_, c2⟩
  | 3, _ => exact ⟨_, c3⟩
  | 4, _ => exact ⟨_, c4⟩
  | 5, _ => exact ⟨_, c5⟩
theorem SixAt.turns {w w' : World} {F : Nat → Prop} {b : Nat} {q : List Nat} (h : SixAt w b q) (ht : Turns F w w') (hF : ¬ F b) : SixAt w' b q := (ht.block b h.lt hF).trans h
theorem SixAt.set {w : World} {b k x : Nat} {q : List Nat} (h : SixAt w b q) (hk : q.length = k) (h6 : k < 6) : SixAt (w.setCell ⟨b, k, none⟩ (.int .i64 (x : Int))) b (q ++ [x]) := by
  have := heap_setCell_same w b k _ _ (.int .i64 (x : Int)) h
  unfold SixAt
  rw [this, ← six_set hk h6]
  simp
end Go.Proofs.Ytkkpcphmojegmaa

/-
  The walk of a relation's table's put.
-/
namespace Go.Proofs.Ytkkpcphmojegmaa
set_option linter.unusedSimpArgs false
set_option linter.unusedVariables false
set_option linter.unusedSectionVars false
set_option maxRecDepth 100000
open Go.RowKit Go.Maps
variable [DecidableEq V]

/-- How far a put has come: the first k values of vs are in the table, their numbers in block rb. -/
structure Puts (w wr : World) (B : Nat) (F : Nat → Prop) (tb : Nat) (X : Ex) (L vs : List V) (k : Nat) : Prop where
  tab : ∃ G : Nat → Prop, Tbl wr B G tb X (addAll L (vs.take k)) ∧ ∀ j, G j → F j ∨ (w.heap.size + 2 ≤ j ∧ j < wr.heap.size)
  turns : Turns F w wr
  row : SixAt wr (w.heap.size + 1) (numsOf (addAll L (vs.take k)) (vs.take k))
  res : SixAt wr w.heap.size []
  low : ∀ j, F j → j < w.heap.size
theorem nums_step {L vs : List V} {v : V} : numsOf (addV (addAll L vs) v.bare) (vs ++ [v]) = numsOf (addAll L vs) vs ++ [(addAll L vs).idxOf v.bare] := by
  have hin : ∀ u ∈ vs, u.bare ∈ addAll L vs := by
    have : ∀ (vs : List V) (L : List V) (u : V), (u.bare ∈ L ∨ u ∈ vs) → u.bare ∈ addAll L vs := by
      intro vs
      induction vs with
      | nil => intro L u h; rcases h with h | h
               · simpa [addAll] using h
               · simp at h
      | cons a vs ih =>
        intro L u h
        show u.bare ∈ addAll (addV L a.bare) vs
        apply ih
        rcases h with h | h
        · exact .inl (mem_addV.2 (.inl h))
        · rcases List.mem_cons.1 h with rfl | h
          · exact .inl (mem_addV.2 (.inr rfl))
          · exact .inr h
    exact fun u hu => this vs L u (.inr hu)
  unfold numsOf
  rw [List.map_append]
  congr 1
  · exact List.map_congr_left fun u hu => idx_addV (hin u hu)
  · simp [idx_addV_self]
theorem Puts.low2 {w wr : World} {B : Nat} {F : Nat → Prop} {tb : Nat} {X : Ex} {L vs : List V} {k : Nat} (h : Puts w wr B F tb X L vs k) : w.heap.size + 2 ≤ wr.heap.size := by have := h.row.lt; omega
theorem Puts.below {w wr W : World} {B : Nat} {F : Nat → Prop} {tb : Nat} {X : Ex} {L vs : List V} {k : Nat} (h : Puts w wr B F tb X L vs k) (hb : Below wr.heap.size wr W) : Puts w W B F tb X L vs k := by
  obtain ⟨G, h1, h2⟩ := h.tab
  have ht : Turns (fun _ => False) wr W := Turns.of_below hb
  exact ⟨⟨G, h1.below hb, fun j hj => (h2 j hj).imp id (fun h => ⟨h.1, Nat.lt_of_lt_of_le h.2 hb.size⟩)⟩, h.turns.trans ht (fun _ h => h.elim), h.row.turns ht (fun h => h), h.res.turns ht (fun h => h), h.low⟩
/-- One value more. -/
theorem Puts.put {w wr w' : World} {B : Nat} {F G : Nat → Prop} {tb : Nat} {X : Ex} {L vs : List V} {k : Nat} (h : Puts w wr B F tb X L vs k) (hG : ∀ j, G j → F j ∨ (w.heap.size + 2 ≤ j ∧ j < wr.heap.size)) (hk : k < vs.length) (ht : Turns G wr w')
    (hT : Tbl w' B (fun j => G j ∨ wr.heap.size ≤ j ∧ j < w'.heap.size) tb X (addV (addAll L (vs.take k)) vs[k].bare)) :
    Tbl w' B (fun j => G j ∨ wr.heap.size ≤ j ∧ j < w'.heap.size) tb X (addAll L (vs.take (k + 1))) ∧ (∀ j, (G j ∨ wr.heap.size ≤ j ∧ j < w'.heap.size) → F j ∨ (w.heap.size + 2 ≤ j ∧ j < w'.heap.size)) ∧ Turns F w w' ∧ SixAt w' (w.heap.size + 1) (numsOf (addAll L (vs.take k)) (vs.take k)) ∧ SixAt w' w.heap.size [] ∧ w.heap.size + 2 ≤ w'.heap.size := by
  have hs := ht.size
  have hl := h.low2
  have n1 : ¬ G (w.heap.size + 1) := fun g => by
    rcases hG _ g with g | g
    · have := h.low _ g; omega
    · omega
  have n0 : ¬ G w.heap.size := fun g => by
    rcases hG _ g with g | g
    · have := h.low _ g; omega
    · omega
  refine ⟨by rw [List.take_succ_eq_append_getElem hk, addAll_snoc]; exact hT, fun j hj => ?_, h.turns.trans ht (fun i gi hi => ?_), h.row.turns ht n1, h.res.turns ht n0, by omega⟩
  · rcases hj with hj | hj
    · exact (hG j hj).imp id (fun h => ⟨h.1, by omega⟩)
    · exact .inr ⟨by omega, hj.2⟩
  · rcases hG i gi with g | g
    · exact g
    · omega
theorem Puts.store {w w' : World} {B : Nat} {F G : Nat → Prop} {tb : Nat} {X : Ex} {L vs : List V} {k : Nat} (hk : k < vs.length) (h6 : vs.length ≤ 6) (low : ∀ j, F j → j < w.heap.size)
    (hT : Tbl w' B G tb X (addAll L (vs.take (k + 1)))) (hG : ∀ j, G j → F j ∨ (w.heap.size + 2 ≤ j ∧ j < w'.heap.size)) (ht : Turns F w w') (hr : SixAt w' (w.heap.size + 1) (numsOf (addAll L (vs.take k)) (vs.take k))) (hz : SixAt w' w.heap.size []) :
    Puts w (w'.setCell ⟨w.heap.size + 1, k, none⟩ (.int .i64 (((addAll L (vs.take k)).idxOf vs[k].bare : Nat) : Int))) B F tb X L vs (k + 1) := by
  have hS : Turns (fun j => j = w.heap.size + 1) w' (w'.setCell ⟨w.heap.size + 1, k, none⟩ (.int .i64 (((addAll L (vs.take k)).idxOf vs[k].bare : Nat) : Int))) := (Turns.refl (fun j => j = w.heap.size + 1) w').setCell (p := ⟨w.heap.size + 1, k, none⟩) (fun _ => rfl) _
  refine ⟨⟨G, hT.turns hS (fun j hj g => ?_), fun j g => ?_⟩, ht.trans hS (fun j hj hlt => by omega), ?_, hz.turns hS (by omega), low⟩
  · rcases hG j g with g | g
    · have := low j g; omega
    · omega
  · have := hG j g; simpa using this
  · rw [List.take_succ_eq_append_getElem hk, addAll_snoc, nums_step]
    exact hr.set (by simp [numsOf]; omega) (by omega)

set_option maxHeartbeats 3200000 in
set_option maxRecDepth 100000 in
theorem tput_any {w : World} {B : Nat} {F : Nat → Prop} {tb : Nat} {X : Ex} {L : List V} (hT : Tbl w B F tb X L) {x : Value} {vs : List V} (hx : Vals w x vs) (ha : Apart F x) (h6 : vs.length ≤ 6) (hL : L.length + 6 < 1000000) :
    Calls Try.prog 24 #[.pointer (some ⟨tb, 0, none⟩), x] w
      fun e w' => e = .returned (.agg (six (numsOf (addAll L vs) vs)).toArray) ∧ Turns F w w' ∧ Tbl w' B (fun k => F k ∨ w.heap.size ≤ k ∧ k < w'.heap.size) tb X (addAll L vs) := by
  obtain ⟨ao, cap, rfl, hm⟩ := hx.len
  have hlow : ∀ j, F j → j < w.heap.size := by obtain ⟨_, _, _, _, _, _, _, _, _, h7, _⟩ := hT; exact fun j hj => (h7 j hj).2
  have hB : B ≤ w.heap.size := by obtain ⟨_, _, _, _, _, _, h4, _, _, h7, _⟩ := hT; have := h7 tb h4; omega
  have h0 : Puts w ((w.alloc (.cells #[.int .i64 0, .int .i64 0, .int .i64 0, .int .i64 0, .int .i64 0, .int .i64 0] 72)).alloc (.cells #[.int .i64 0, .int .i64 0, .int .i64 0, .int .i64 0, .int .i64 0, .int .i64 0] 72)) B F tb X L vs 0 := by
    have hb : Below w.heap.size w ((w.alloc (.cells #[.int .i64 0, .int .i64 0, .int .i64 0, .int .i64 0, .int .i64 0, .int .i64 0] 72)).alloc (.cells #[.int .i64 0, .int .i64 0, .int .i64 0, .int .i64 0, .int .i64 0, .int .i64 0] 72)) := ((Below.refl _ _).alloc (Nat.le_refl _) _).alloc (by simp) _
    refine ⟨⟨F, hT.below hb, fun j hj => .inl hj⟩, Turns.of_below hb, ?_, ?_, hlow⟩
    · have := (MapKept.heap_alloc (w.alloc (.cells #[.int .i64 0, .int .i64 0, .int .i64 0, .int .i64 0, .int .i64 0, .int .i64 0] 72)) (.cells #[.int .i64 0, .int .i64 0, .int .i64 0, .int .i64 0, .int .i64 0, .int .i64 0] 72)).1
      have hs : (w.alloc (.cells #[.int .i64 0, .int .i64 0, .int .i64 0, .int .i64 0, .int .i64 0, .int .i64 0] 72)).heap.size = w.heap.size + 1 := by simp
      rw [hs] at this
      exact this
    · unfold SixAt
      rw [Below.heap_alloc _ _ _ (by simp)]
      exact (MapKept.heap_alloc w _).1
  have HP := Lib.hid h0
  have HX := Lib.hid hx
  have HA := Lib.hid ha
  have HLW := Lib.hid hlow
  have HFB : Hid (∀ j, F j → B ≤ j) := by obtain ⟨_, _, _, _, _, _, _, _, _, h7, _⟩ := hT; exact fun j hj => (h7 j hj).1
  have l9 : (vs.length : Int) ≤ 6 := by omega
  have HLL : Hid (L.length + 6 < 1000000) := hL
  clear hT hx ha h0 hm hlow hL
  go_enter Try.func24, Try.ntmps24
  go_wp2_with fail
  go_loopw [10] (fun i wr => ∃ k : Nat, k ≤ vs.length ∧ i = .int .i64 k ∧ Hid (Puts w wr B F tb X L vs k)) (fun i _ => vs.length - (intOf i).toNat)
  case atStart => exact ⟨0, Nat.zero_le _, rfl, HP⟩
  case round =>
    clear HP
    obtain ⟨k, hk, rfl, HP⟩ := hrel
    by_cases hlt : k < vs.length
    · have h1I : (k : Int) < (vs.length : Int) := by omega
      have h6I : (k : Int) < 6 := by omega
      have hV := HX.out.turns HP.out.turns HA.out
      obtain ⟨b, off, rfl, c0, c1, c2, hok, hbl⟩ := hV.at (Below.refl _ _) k hlt
      obtain ⟨G, hG1, hG2⟩ := HP.out.tab
      have HPT : Hid (∀ W, Below wr.heap.size wr W → Calls Try.prog 35 #[.pointer (some ⟨tb, 0, none⟩), .agg #[.bool vs[k].k, .string vs[k].s, .int .i64 vs[k].n]] W
          fun e w' => e = .returned (.int .i64 (((addAll L (vs.take k)).idxOf vs[k].bare : Nat) : Int)) ∧ (∃ u, w'.cell? ⟨w.heap.size + 1, k, none⟩ = some u) ∧ w'.frozen? ⟨w.heap.size + 1, k, none⟩ = false ∧ w.heap.size + 1 < w'.heap.size ∧ Puts w (w'.setCell ⟨w.heap.size + 1, k, none⟩ (.int .i64 (((addAll L (vs.take k)).idxOf vs[k].bare : Nat) : Int))) B F tb X L vs (k + 1)) := fun W hb => by
        have hPW := HP.out.below hb
        refine (put_any (hG1.below hb) hok (by have h1 := addAll_len (vs.take k) L; have h2 := HLL.out; have h3 : (vs.take k).length ≤ 6 := (by simp; omega); omega)).mono ?_
        rintro e w' ⟨rfl, ht, hT'⟩
        obtain ⟨p1, p2, p3, p4, p5, p6⟩ := hPW.put (fun j hj => (hG2 j hj).imp id (fun h => ⟨h.1, Nat.lt_of_lt_of_le h.2 hb.size⟩)) hlt ht hT'
        exact ⟨rfl, p4.some (by omega), p4.frozen _, by omega, Puts.store hlt h6 HLW.out p1 p2 p3 p4 p5⟩
      generalize (((addAll L (vs.take k)).idxOf vs[k].bare : Nat) : Int) = z at *
      generalize vs[k] = u at *
      have hw2 := HP.out.low2
      clear hV hG1 hG2 hok HP
      go_wp2_with fail
      go_region_with (go_at_call 35; refine (HPT.out _ (by first | exact (Below.drew ((Below.refl _ _).alloc (Nat.le_refl _) _)) | exact ((Below.refl _ _).alloc (Nat.le_refl _) _).drew)).mono ?_; rintro e w' ⟨rfl, ⟨u1, d0⟩, d1, d2, hPn⟩; have HPN := Lib.hid hPn; clear hPn)
      all_goals
        go_wp2
        go_roundw
        case rel => exact ⟨k + 1, by omega, by go_num, HPN⟩
        case measure => simp [intOf]; omega
    · obtain rfl : k = vs.length := by omega
      have h1I : ¬ (vs.length : Int) < (vs.length : Int) := by omega
      have hP := HP.out
      obtain ⟨G, hG1, hG2⟩ := hP.tab
      rw [List.take_of_length_le (Nat.le_refl _)] at hG1
      have hR := hP.row
      rw [List.take_of_length_le (Nat.le_refl _)] at hR
      have hz := hP.res
      have hw2 := hP.low2
      obtain ⟨c0, c1, c2, c3, c4, c5⟩ := hR.cells
      obtain ⟨d0, d1, d2, d3, d4, d5⟩ := hz.cells
      have f0 := hz.frozen
      have HEND : Hid (∀ W, Turns (fun j => j = w.heap.size) wr W → Turns F w W ∧ Tbl W B (fun k => F k ∨ w.heap.size ≤ k ∧ k < W.heap.size) tb X (addAll L vs)) := fun W ht => by
        have hs := ht.size
        refine ⟨hP.turns.trans ht (fun i hi hlt => by omega), (hG1.turns ht (fun j hj g => ?_)).mono (fun j g => ?_) (fun j g => ?_)⟩
        · rcases hG2 j g with g | g
          · have := HLW.out j g; omega
          · omega
        · rcases hG2 j g with g | g
          · exact .inl g
          · exact .inr ⟨by omega, by omega⟩
        · rcases g with g | g
          · obtain ⟨_, _, _, _, _, _, h4, _, _, h7, _⟩ := hG1
            have := HLW.out j g
            exact ⟨HFB.out j g, by omega⟩
          · exact ⟨by omega, g.2⟩
      obtain ⟨q, hq⟩ : ∃ q, numsOf (addAll L vs) vs = q := ⟨_, rfl⟩
      rw [hq] at c0 c1 c2 c3 c4 c5
      have HQ := Lib.hid hq
      have E : Hid (Value.agg (six q).toArray = .agg #[.int .i64 (q.getD 0 0 : Nat), .int .i64 (q.getD 1 0 : Nat), .int .i64 (q.getD 2 0 : Nat), .int .i64 (q.getD 3 0 : Nat), .int .i64 (q.getD 4 0 : Nat), .int .i64 (q.getD 5 0 : Nat)]) := rfl
      clear hP hG1 hG2 hR hz HP hq
      generalize ((q.getD 0 0 : Nat) : Int) = x0 at *
      generalize ((q.getD 1 0 : Nat) : Int) = x1 at *
      generalize ((q.getD 2 0 : Nat) : Int) = x2 at *
      generalize ((q.getD 3 0 : Nat) : Int) = x3 at *
      generalize ((q.getD 4 0 : Nat) : Int) = x4 at *
      generalize ((q.getD 5 0 : Nat) : Int) = x5 at *
      have hlt0 : w.heap.size < wr.heap.size := by omega
      go_wp2
      refine bodyPost_ret (v := .agg #[.int .i64 x0, .int .i64 x1, .int .i64 x2, .int .i64 x3, .int .i64 x4, .int .i64 x5]) (by simp [results, Try.results24, go_sem, d0, d1, d2, d3, d4, d5, hlt0]) rfl ⟨by rw [HQ.out, E.out], ?_⟩
      refine HEND.out _ ?_
      exact ((((((Turns.refl (fun j => j = w.heap.size) wr).setCell (fun _ => rfl) _).setCell (fun _ => rfl) _).setCell (fun _ => rfl) _).setCell (fun _ => rfl) _).setCell (fun _ => rfl) _).setCell (fun _ => rfl) _
end Go.Proofs.Ytkkpcphmojegmaa
