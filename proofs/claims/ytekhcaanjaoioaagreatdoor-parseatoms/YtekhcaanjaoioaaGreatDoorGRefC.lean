/-
  The document's atom (lambrequinref06): what lies in memory while it reads; an atom without terms.
-/
import Derived.Test.YtekhcaanjaoioaaGreatDoorGRefP
namespace Go.Proofs.YtekhcaanjaoioaaGreatDoor
set_option linter.unusedSimpArgs false
set_option linter.unusedVariables false
set_option linter.unusedSectionVars false
set_option maxRecDepth 100000
open Go.RowKit

/-- What the document's atom tells. -/
def RAtomOut (T : List Tk) (en : Int) (r : Rd Am) (w : World) (e : Ending) (w' : World) : Prop :=
  ∃ (p : ByteArray) (o : Option Addr) (n c : Nat) (J : Nat) (pl : Int), e = .returned (.tuple #[.agg #[.string p, .slice o n c], .agg #[.int .i64 (J : Int), .int .i64 (r.bad : Int), .int .i64 pl]]) ∧ Below w.heap.size w w' ∧
    (r.bad = 0 → p = r.val.p ∧ n = r.val.args.length ∧ TmsO w' w.heap.size (.slice o n c) r.val.args ∧ r.rest = T.drop J ∧ J ≤ T.length) ∧ (r.bad ≠ 0 → pl = (atT en r.rest 0).pl)
/-- The text's box, and the two results' blocks, while the atom is read. -/
structure AtW (w W : World) (x : Value) (en : Int) : Prop where
  bel : Below w.heap.size w W
  box : Blk W w.heap.size #[x, .int .i64 en] 60
  ra : Blk W (w.heap.size + 1) #[.string ⟨#[]⟩, .slice none 0 0] 25
  rs : Blk W (w.heap.size + 2) #[.int .i64 0, .int .i64 0, .int .i64 0] 56
theorem AtW.start (w : World) (x : Value) (en : Int) : AtW w (((w.alloc (.cells #[x, .int .i64 en] 60)).alloc (.cells #[.string ⟨#[]⟩, .slice none 0 0] 25)).alloc (.cells #[.int .i64 0, .int .i64 0, .int .i64 0] 56)) x en :=
  ⟨three_al w _ _ _, ((Blk.new w _ _).below (al_below _ _)).below (al_below _ _), Blk.mid w _ _ _ _, Blk.third w _ _ _ _⟩
theorem AtW.past {w W W' : World} {x : Value} {en : Int} (h : AtW w W x en) {B : Nat} (hB : w.heap.size + 3 ≤ B) (hb : Below B W W') : AtW w W' x en :=
  ⟨h.bel.trans (hb.mono (by omega)), (hb.block _ (by omega)).trans h.box, (hb.block _ (by omega)).trans h.ra, (hb.block _ (by omega)).trans h.rs⟩
theorem AtW.size {w W : World} {x : Value} {en : Int} (h : AtW w W x en) : w.heap.size + 3 ≤ W.heap.size := by have := h.rs.lt; omega
theorem AtW.below {w W W' : World} {x : Value} {en : Int} (h : AtW w W x en) (hb : Below W.heap.size W W') : AtW w W' x en := h.past h.size hb
theorem AtW.cells {w W : World} {x : Value} {en : Int} (h : AtW w W x en) : W.cell? ⟨w.heap.size, 0, none⟩ = some x ∧ W.cell? ⟨w.heap.size, 1, none⟩ = some (.int .i64 en) := ⟨h.box.cell 0, h.box.cell 1⟩
theorem AtW.outs {w W : World} {x : Value} {en : Int} (h : AtW w W x en) : W.cell? ⟨w.heap.size + 1, 0, none⟩ = some (.string ⟨#[]⟩) ∧ W.cell? ⟨w.heap.size + 1, 1, none⟩ = some (.slice none 0 0) ∧ W.frozen? ⟨w.heap.size + 1, 0, none⟩ = false ∧ W.frozen? ⟨w.heap.size + 1, 1, none⟩ = false ∧
    W.cell? ⟨w.heap.size + 2, 0, none⟩ = some (.int .i64 0) ∧ W.cell? ⟨w.heap.size + 2, 1, none⟩ = some (.int .i64 0) ∧ W.cell? ⟨w.heap.size + 2, 2, none⟩ = some (.int .i64 0) ∧ W.frozen? ⟨w.heap.size + 2, 0, none⟩ = false ∧ W.frozen? ⟨w.heap.size + 2, 1, none⟩ = false ∧ W.frozen? ⟨w.heap.size + 2, 2, none⟩ = false :=
  ⟨h.ra.cell 0, h.ra.cell 1, h.ra.frozen 0, h.ra.frozen 1, h.rs.cell 0, h.rs.cell 1, h.rs.cell 2, h.rs.frozen 0, h.rs.frozen 1, h.rs.frozen 2⟩
/-- Both results laid, in either order. -/
def layA (W : World) (b : Nat) (p x : Value) : World := (W.setCell ⟨b, 0, none⟩ p).setCell ⟨b, 1, none⟩ x
def layS (W : World) (b : Nat) (i e l : Value) : World := ((W.setCell ⟨b, 0, none⟩ i).setCell ⟨b, 1, none⟩ e).setCell ⟨b, 2, none⟩ l
theorem laid_ab {w W : World} {x : Value} {en : Int} (h : AtW w W x en) (p y i e l : Value) :
    Blk (layS (layA W (w.heap.size + 1) p y) (w.heap.size + 2) i e l) (w.heap.size + 1) #[p, y] 25 ∧ Blk (layS (layA W (w.heap.size + 1) p y) (w.heap.size + 2) i e l) (w.heap.size + 2) #[i, e, l] 56 := by
  have h1 : W.heap[w.heap.size + 1]? = _ := h.ra
  have h2 : W.heap[w.heap.size + 2]? = _ := h.rs
  constructor
  · simp [Blk, layA, layS, World.setCell, Array.getElem?_modify, h1]
  · simp [Blk, layA, layS, World.setCell, Array.getElem?_modify, h2]
theorem laid_ba {w W : World} {x : Value} {en : Int} (h : AtW w W x en) (p y i e l : Value) :
    Blk (layA (layS W (w.heap.size + 2) i e l) (w.heap.size + 1) p y) (w.heap.size + 1) #[p, y] 25 ∧ Blk (layA (layS W (w.heap.size + 2) i e l) (w.heap.size + 1) p y) (w.heap.size + 2) #[i, e, l] 56 := by
  have h1 : W.heap[w.heap.size + 1]? = _ := h.ra
  have h2 : W.heap[w.heap.size + 2]? = _ := h.rs
  constructor
  · simp [Blk, layA, layS, World.setCell, Array.getElem?_modify, h1]
  · simp [Blk, layA, layS, World.setCell, Array.getElem?_modify, h2]
theorem laid_turns (W : World) (a b : Nat) (p y i e l : Value) : Turns (fun k => k = a ∨ k = b) W (layS (layA W a p y) b i e l) ∧ Turns (fun k => k = a ∨ k = b) W (layA (layS W b i e l) a p y) := by
  have t0 : Turns (fun k => k = a ∨ k = b) W W := Turns.refl _ W
  exact ⟨((((t0.setCell (p := ⟨a, 0, none⟩) (fun _ => .inl rfl) _).setCell (p := ⟨a, 1, none⟩) (fun _ => .inl rfl) _).setCell (p := ⟨b, 0, none⟩) (fun _ => .inr rfl) _).setCell (p := ⟨b, 1, none⟩) (fun _ => .inr rfl) _).setCell (p := ⟨b, 2, none⟩) (fun _ => .inr rfl) _,
    ((((t0.setCell (p := ⟨b, 0, none⟩) (fun _ => .inr rfl) _).setCell (p := ⟨b, 1, none⟩) (fun _ => .inr rfl) _).setCell (p := ⟨b, 2, none⟩) (fun _ => .inr rfl) _).setCell (p := ⟨a, 0, none⟩) (fun _ => .inl rfl) _).setCell (p := ⟨a, 1, none⟩) (fun _ => .inl rfl) _⟩
theorem AtW.drewN {w W : World} {x : Value} {en : Int} (h : AtW w W x en) (n : Nat) : AtW w (W.drewN n) x en := h.below ⟨rfl, rfl, rfl, Nat.le_refl _, fun _ _ => rfl⟩
/-- What stands once both results are laid. -/
structure Laid (w W W' : World) (p : ByteArray) (y : Value) (i e l : Int) : Prop where
  a : Blk W' (w.heap.size + 1) #[.string p, y] 25
  s : Blk W' (w.heap.size + 2) #[.int .i64 i, .int .i64 e, .int .i64 l] 56
  bel : Below w.heap.size w W'
  far : ∀ k, w.heap.size + 3 ≤ k → k < W.heap.size → W'.heap[k]? = W.heap[k]?
theorem Laid.ab {w W : World} {x : Value} {en : Int} (h : AtW w W x en) (p : ByteArray) (y : Value) (i e l : Int) : Laid w W (layS (layA W (w.heap.size + 1) (.string p) y) (w.heap.size + 2) (.int .i64 i) (.int .i64 e) (.int .i64 l)) p y i e l := by
  obtain ⟨h1, h2⟩ := laid_ab h (.string p) y (.int .i64 i) (.int .i64 e) (.int .i64 l)
  have t := (laid_turns W (w.heap.size + 1) (w.heap.size + 2) (.string p) y (.int .i64 i) (.int .i64 e) (.int .i64 l)).1
  exact ⟨h1, h2, h.bel.trans (t.below h.bel.size (fun k hk => by rcases hk with rfl | rfl <;> omega)), fun k h1 h2 => t.block k h2 (by omega)⟩
theorem Laid.ba {w W : World} {x : Value} {en : Int} (h : AtW w W x en) (p : ByteArray) (y : Value) (i e l : Int) : Laid w W (layA (layS W (w.heap.size + 2) (.int .i64 i) (.int .i64 e) (.int .i64 l)) (w.heap.size + 1) (.string p) y) p y i e l := by
  obtain ⟨h1, h2⟩ := laid_ba h (.string p) y (.int .i64 i) (.int .i64 e) (.int .i64 l)
  have t := (laid_turns W (w.heap.size + 1) (w.heap.size + 2) (.string p) y (.int .i64 i) (.int .i64 e) (.int .i64 l)).2
  exact ⟨h1, h2, h.bel.trans (t.below h.bel.size (fun k hk => by rcases hk with rfl | rfl <;> omega)), fun k h1 h2 => t.block k h2 (by omega)⟩

theorem Laid.drew {w W W' : World} {p : ByteArray} {y : Value} {i e l : Int} (h : Laid w W W' p y i e l) : Laid w W W'.drew p y i e l := ⟨h.a, h.s, h.bel.trans ⟨rfl, rfl, rfl, Nat.le_refl _, fun _ _ => rfl⟩, h.far⟩

set_option maxHeartbeats 4000000 in
theorem ratom_no {ao : Option Addr} {cap : Nat} {T : List Tk} {w : World} (hx : Tks w (.slice ao T.length cap) T) (hT : T.length ≤ 65536) (hW : Ws T) (i : Nat) (hi : i ≤ 65536) (en : Int) (hn : isNm (atT en T i) = false) :
    Calls Tryz.prog 12 #[.agg #[.slice ao T.length cap, .int .i64 en], .int .i64 (i : Int)] w fun e w' => RAtomOut T en (atomP en (T.drop i)) w e w' := by
  have HNM := Lib.hid (fun W (hb : Below w.heap.size w W) => rname_no (hx.below hb) hT hW i (by omega) en hn)
  have HR : Hid (atomP en (T.drop i) = ⟨2, Am.zero, T.drop i⟩) := atomP_no hn
  have HPL : Hid ((atT en T i).pl = (atT en (T.drop i) 0).pl) := by show _ = _; rw [atT_drop]; rfl
  have HS0 := Lib.hid (AtW.start w (.slice ao T.length cap) en)
  obtain ⟨pl, hpl⟩ : ∃ pl, pl = (atT en T i).pl := ⟨_, rfl⟩
  obtain ⟨r, hr⟩ : ∃ r, r = atomP en (T.drop i) := ⟨_, rfl⟩
  rw [← hpl] at HNM HPL
  rw [← hr] at HR ⊢
  clear hpl hr hx hn hW
  go_enter Tryz.func12, Tryz.ntmps12
  go_wp2_with (go_at_call 24; refine (HNM.out _ (HS0.out.bel)).mono ?_; rintro e w1 ⟨rfl, hb1⟩; have HS1 := Lib.hid (HS0.out.below hb1); have HT1 := Lib.hid (HS1.out.below (al_below w1 (.cells #[.int .i64 0, .int .i64 2, .int .i64 pl] 56))); obtain ⟨r0, r1, k0, k1, s0, s1, s2, q0, q1, q2⟩ := HT1.out.outs; have hz := HS1.out.size; have n1 : ¬ w1.heap.size = w.heap.size + 1 := (by omega); have n2 : ¬ w1.heap.size = w.heap.size + 2 := (by omega); have n3 : ¬ w.heap.size + 1 = w1.heap.size := (by omega); have n4 : ¬ w.heap.size + 2 = w1.heap.size := (by omega); clear hb1 HNM HS0)
  go_region
  all_goals
    go_wp2
    have HL := Lib.hid (Laid.ab HT1.out ⟨#[]⟩ (.slice none 0 0) 0 2 pl).drew
    refine bodyPost_ret (ret_cells2 Tryz.results12 rfl rfl HL.out.a HL.out.s Tryz.underlying25 (by kernel_rfl) Tryz.underlying56 (by kernel_rfl)) rfl ?_
    exact ⟨⟨#[]⟩, none, 0, 0, 0, pl, by rw [HR.out]; rfl, HL.out.bel, fun h => absurd h (by rw [HR.out]; show ¬ (2 : Nat) = 0; omega), fun _ => by rw [HR.out]; exact HPL.out⟩

/-- What a call that knows the tokens may lean on. -/
theorem rat_in {ao : Option Addr} {cap : Nat} {T : List Tk} {w : World} (hx : Tks w (.slice ao T.length cap) T) (hT : T.length ≤ 65536) (en : Int) (i : Nat) (hi : i ≤ 65540) (W : World) (hb : Below w.heap.size w W) :
    Calls Tryz.prog 26 #[.slice ao T.length cap, .int .i64 (i : Int), .int .i64 en] W fun e w' => e = .returned (tokV (atT en T i)) ∧ Below W.heap.size W w' := rat_any (hx.below hb) hT i hi en

set_option maxHeartbeats 4000000 in
theorem ratom_bare {ao : Option Addr} {cap : Nat} {T : List Tk} {w : World} (hx : Tks w (.slice ao T.length cap) T) (hT : T.length ≤ 65536) (hW : Ws T) (i : Nat) (hi : i ≤ 65536) (en : Int) (hn : isNm (atT en T i) = true) (hm : isMk [40] (atT en T (i + 1)) = false) :
    Calls Tryz.prog 12 #[.agg #[.slice ao T.length cap, .int .i64 en], .int .i64 (i : Int)] w fun e w' => RAtomOut T en (atomP en (T.drop i)) w e w' := by
  have HNM := Lib.hid (fun W (hb : Below w.heap.size w W) => rname_yes (hx.below hb) hT hW i (by omega) en hn)
  have HR : Hid (atomP en (T.drop i) = ⟨0, ⟨(atT en T i).s, []⟩, T.drop (i + 1)⟩) := atomP_bare hn hm
  have HLE : Hid (i + 1 ≤ T.length) := nm_lt hn
  have HS0 := Lib.hid (AtW.start w (.slice ao T.length cap) en)
  obtain ⟨i1, hi1⟩ : ∃ i1, i1 = i + 1 := ⟨_, rfl⟩
  have hii : (i : Int) + 1 = (i1 : Int) := by omega
  have HAT := Lib.hid (fun W (hb : Below w.heap.size w W) => rat_in hx hT en i1 (by omega) W hb)
  have HMK := Lib.hid (fun W => rmark_any (atT en T (i + 1)) ⟨#[40]⟩ W)
  have hm' : isMk (⟨#[40]⟩ : ByteArray).data.toList (atT en T (i + 1)) = false := hm
  rw [hm'] at HMK
  obtain ⟨p, hp⟩ : ∃ p, p = (atT en T i).s := ⟨_, rfl⟩
  obtain ⟨r, hr⟩ : ∃ r, r = atomP en (T.drop i) := ⟨_, rfl⟩
  rw [hii, ← hp] at HNM
  rw [← hi1, ← hp] at HR
  rw [← hi1] at HLE HMK
  rw [← hr] at HR ⊢
  have hib : (i1 : Int) ≤ 65537 := by omega
  obtain ⟨t, ht⟩ : ∃ t, t = atT en T i1 := ⟨_, rfl⟩
  rw [← ht] at HAT HMK
  obtain ⟨kd, st, nn, qq, pp⟩ := t
  simp only [tokV] at HAT HMK
  clear hp hr hx hn hW hm hm' hi1 ht
  go_enter Tryz.func12, Tryz.ntmps12
  go_wp2_with (first
    | (go_at_call 24; refine (HNM.out _ (HS0.out.bel)).mono ?_; rintro e w1 ⟨rfl, hb1⟩; have HS1 := Lib.hid (HS0.out.below hb1); have HT1 := Lib.hid (HS1.out.below (al_below w1 (.cells #[.int .i64 (i1 : Int), .int .i64 0, .int .i64 0] 56))); have HN1 := Lib.hid (Blk.new w1 #[.int .i64 (i1 : Int), .int .i64 0, .int .i64 0] 56); obtain ⟨b0, b1⟩ := HT1.out.cells; have hz := HS1.out.size; have n1 : ¬ w1.heap.size = w.heap.size + 1 := (by omega); have n2 : ¬ w1.heap.size = w.heap.size + 2 := (by omega); have n3 : ¬ w.heap.size + 1 = w1.heap.size := (by omega); have n4 : ¬ w.heap.size + 2 = w1.heap.size := (by omega); clear hb1 HNM HS0)
    | (go_at_call 26; refine (HAT.out _ HT1.out.bel).mono ?_; rintro e w2 ⟨rfl, hb2⟩; have HT2 := Lib.hid (HT1.out.below hb2); have HN2 := Lib.hid (HN1.out.below hb2); clear hb2 HAT)
    | (go_at_call 25; refine (HMK.out _).mono ?_; rintro e w3 ⟨rfl, hb3⟩; have HT3 := Lib.hid (HT2.out.below hb3); have HN3 := Lib.hid (HN2.out.below hb3); obtain ⟨r0, r1, k0, k1, s0, s1, s2, q0, q1, q2⟩ := HT3.out.outs; have z0 := HN3.out.cell 0; have z1 := HN3.out.cell 1; have z2 := HN3.out.cell 2; simp at z0 z1 z2; clear hb3 HMK))
  go_region
  all_goals
    go_wp2
    have HL := Lib.hid (Laid.ab HT3.out p (.slice none 0 0) i1 0 0).drew
    refine bodyPost_ret (ret_cells2 Tryz.results12 rfl rfl HL.out.a HL.out.s Tryz.underlying25 (by kernel_rfl) Tryz.underlying56 (by kernel_rfl)) rfl ?_
    exact ⟨p, none, 0, 0, i1, 0, by rw [HR.out]; rfl, HL.out.bel, fun _ => by rw [HR.out]; exact ⟨rfl, rfl, OwnL.nil _ _ _ _ _, rfl, HLE.out⟩, fun h => absurd (by rw [HR.out]) h⟩
end Go.Proofs.YtekhcaanjaoioaaGreatDoor

/-
  The document's atom (lambrequinref06), with terms.
-/
namespace Go.Proofs.YtekhcaanjaoioaaGreatDoor
set_option linter.unusedSimpArgs false
set_option linter.unusedVariables false
set_option linter.unusedSectionVars false
set_option maxRecDepth 100000
open Go.RowKit

/-- The state of atom's loop: the atom so far lies in block g. -/
structure AtL (w W : World) (x : Value) (en : Int) (p : ByteArray) (g : Nat) (v : Value) (A : List Tm) : Prop where
  base : AtW w W x en
  lo : w.heap.size + 3 ≤ g
  a : Blk W g #[.string p, v] 25
  own : OwnL TmR 45 5 W (g + 1) v A
theorem AtL.below {w W W' : World} {x : Value} {en : Int} {p : ByteArray} {g : Nat} {v : Value} {A : List Tm} (h : AtL w W x en p g v A) (hb : Below W.heap.size W W') : AtL w W' x en p g v A :=
  ⟨h.base.below hb, h.lo, h.a.below hb, h.own.below keepTm hb⟩
theorem AtL.cells {w W : World} {x : Value} {en : Int} {p : ByteArray} {g : Nat} {v : Value} {A : List Tm} (h : AtL w W x en p g v A) : W.cell? ⟨g, 0, none⟩ = some (.string p) ∧ W.cell? ⟨g, 1, none⟩ = some v ∧ W.frozen? ⟨g, 0, none⟩ = false ∧ W.frozen? ⟨g, 1, none⟩ = false := ⟨h.a.cell 0, h.a.cell 1, h.a.frozen 0, h.a.frozen 1⟩
/-- One term more. -/
theorem AtL.put {w W W4 : World} {x : Value} {en : Int} {p : ByteArray} {g : Nat} {v v' : Value} {A B : List Tm} (h : AtL w W x en p g v A) (hb : Below (g + 1) W W4) (ho : OwnL TmR 45 5 W4 (g + 1) v' B) : AtL w (W4.setCell ⟨g, 1, none⟩ v') x en p g v' B := by
  have hlt := h.a.lt
  have ha : Blk W4 g #[.string p, v] 25 := (hb.block g (by omega)).trans h.a
  have hset : Below (g : Nat) W4 (W4.setCell ⟨g, 1, none⟩ v') := (Below.refl g W4).setCell (p := ⟨g, 1, none⟩) (Nat.le_refl _) _
  refine ⟨(h.base.past (B := g + 1) (by have := h.lo; omega) hb).past (B := g) h.lo hset, h.lo, heap_set ha v', ho.keep keepTm (Nat.le_refl _) (fun k hk _ => Below.heap_setCell _ _ _ _ (show k ≠ g by omega))⟩
theorem AtL.other {w W W4 : World} {x : Value} {en : Int} {p : ByteArray} {g : Nat} {v : Value} {A : List Tm} (_h : AtL w W x en p g v A) {b : Nat} {cs : Array Value} {ty : TypeId} (hB : Blk W b cs ty) (hk : W4.heap[b]? = W.heap[b]?) (hg : b ≠ g) (v' : Value) : Blk (W4.setCell ⟨g, 1, none⟩ v') b cs ty :=
  (Below.heap_setCell _ _ _ _ hg).trans (hk.trans hB)
theorem notTerm {W : World} {b : Nat} {cs : Array Value} (h : Blk W b cs 56) : ¬ IsTy W 45 b := by
  rintro ⟨cs', fr, e⟩
  have h' : W.heap[b]? = some (.cells cs 56 (0, 0)) := h
  rw [h'] at e
  have := (Obj.cells.injEq .. ▸ (Option.some.inj e))
  exact absurd this.2.1 (by decide)

theorem AtL.step {w W2 W4 : World} {x : Value} {en : Int} {p : ByteArray} {g gn : Nat} {v v' : Value} {A : List Tm} {css : List (List Value)} {cs : Array Value} {t : Tm} {o : Obj} (h : AtL w W2 x en p g v A) (hN : Blk W2 gn cs 56) (hne : gn ≠ g)
    (hAL : AllR (TmR W2 (g + 1)) A css) (hcl : ∀ c ∈ css, c.length = 5) (hrow : W2.ownsRow (g + 1) 45 5 v A.length css.flatten)
    (hown' : W4.ownsRow (g + 1) 45 5 v' (A.length + 1) (css.flatten ++ t.cells)) (hg : (W2.alloc o).grownBy W4 v.ownBlock) :
    ∃ vo' na vc', v' = .slice vo' na vc' ∧ Hid (na = (A ++ [t]).length) ∧ Hid (AtL w (W4.setCell ⟨g, 1, none⟩ v') x en p g v' (A ++ [t])) ∧ Hid (Blk (W4.setCell ⟨g, 1, none⟩ v') gn cs 56) ∧ Blk W4 g #[.string p, v] 25 := by
  have hgl := h.a.lt
  obtain ⟨ho4, hb4, hk4⟩ := own_step (keepNTm _) (by omega) hAL hcl hrow (a := t) (c := t.cells) (show TmR _ _ _ _ from rfl) rfl (Below.refl _ _) hown' hg
  obtain ⟨vo', vc', hv', -, -⟩ := ho4.cells
  exact ⟨vo', _, vc', hv', rfl, h.put hb4 ho4, h.other hN (hk4 _ hN.lt (.inr (notTerm hN))) hne v', (hb4.block g (by omega)).trans h.a⟩

set_option maxHeartbeats 8000000 in
theorem ratom_args {ao : Option Addr} {cap : Nat} {T : List Tk} {w : World} (hx : Tks w (.slice ao T.length cap) T) (hT : T.length ≤ 65536) (hW : Ws T) (i : Nat) (hi : i ≤ 65536) (en : Int) (hn : isNm (atT en T i) = true) (hm : isMk [40] (atT en T (i + 1)) = true) :
    Calls Tryz.prog 12 #[.agg #[.slice ao T.length cap, .int .i64 en], .int .i64 (i : Int)] w fun e w' => RAtomOut T en (atomP en (T.drop i)) w e w' := by
  obtain ⟨i0, hif, hz0, hz1, hz2⟩ := info_parts infoT
  have HNM := Lib.hid (fun W (hb : Below w.heap.size w W) => rname_yes (hx.below hb) hT hW i (by omega) en hn)
  have HR : Hid (atomP en (T.drop i) = argsP en (atT en T i).s (listP (termP en) en 6 [] (T.drop (i + 2)))) := atomP_args hn hm
  have hlt2 : i + 1 < T.length := mk_lt hm
  have HA0 : Hid (ArgAt en T (i + 2) (i + 2) []) := ArgAt.start (by omega)
  have HS0 := Lib.hid (AtW.start w (.slice ao T.length cap) en)
  have HTN := Lib.hid (fun k (hk : k ≤ 65539) (hn : termT (atT en T k) = none) W (hb : Below w.heap.size w W) => rterm_no (hx.below hb) hT hW k hk en hn)
  have HTY := Lib.hid (fun k (hk : k ≤ 65539) x (hn : termT (atT en T k) = some x) W (hb : Below w.heap.size w W) => rterm_yes (hx.below hb) hT hW k hk en hn)
  have HATK := Lib.hid (fun k (hk : k ≤ 65540) W (hb : Below w.heap.size w W) => rat_in hx hT en k hk W hb)
  obtain ⟨i1, hi1⟩ : ∃ i1, i1 = i + 1 := ⟨_, rfl⟩
  obtain ⟨i2, hi2⟩ : ∃ i2, i2 = i + 2 := ⟨_, rfl⟩
  have hii : (i : Int) + 1 = (i1 : Int) := by omega
  have hij : (i1 : Int) + 1 = (i2 : Int) := by omega
  have HAT := Lib.hid (fun W (hb : Below w.heap.size w W) => HATK.out i1 (by omega) W hb)
  have HMK := Lib.hid (fun W => rmark_any (atT en T (i + 1)) ⟨#[40]⟩ W)
  have hm' : isMk (⟨#[40]⟩ : ByteArray).data.toList (atT en T (i + 1)) = true := hm
  rw [hm'] at HMK
  obtain ⟨p, hp⟩ : ∃ p, p = (atT en T i).s := ⟨_, rfl⟩
  obtain ⟨r, hr⟩ : ∃ r, r = atomP en (T.drop i) := ⟨_, rfl⟩
  rw [hii, ← hp] at HNM
  rw [← hp, ← hi2] at HR
  rw [← hi1] at HMK
  rw [← hi2] at HA0
  rw [← hr] at HR ⊢
  have hib : (i1 : Int) ≤ 65537 := by omega
  have hic : (i2 : Int) ≤ 65538 := by omega
  have hTI : (T.length : Int) ≤ 65536 := by omega
  obtain ⟨t, ht⟩ : ∃ t, t = atT en T i1 := ⟨_, rfl⟩
  rw [← ht] at HAT HMK
  obtain ⟨kd, st, nn, qq, pp⟩ := t
  simp only [tokV] at HAT HMK
  have HTL : Hid (T.length ≤ 65536) := hT
  clear hp hr hx hn hW hm hm' hi1 ht hT hlt2
  go_enter Tryz.func12, Tryz.ntmps12
  go_wp2_with (first
    | (go_at_call 24; refine (HNM.out _ (HS0.out.bel)).mono ?_; rintro e w1 ⟨rfl, hb1⟩; have HS1 := Lib.hid (HS0.out.below hb1); have HT1 := Lib.hid (HS1.out.below (al_below w1 (.cells #[.int .i64 (i1 : Int), .int .i64 0, .int .i64 0] 56))); have HN1 := Lib.hid (Blk.new w1 #[.int .i64 (i1 : Int), .int .i64 0, .int .i64 0] 56); obtain ⟨b0, b1⟩ := HT1.out.cells; clear hb1 HNM HS0)
    | (go_at_call 26; refine (HAT.out _ HT1.out.bel).mono ?_; rintro e w2 ⟨rfl, hb2⟩; have HT2 := Lib.hid (HT1.out.below hb2); have HN2 := Lib.hid (HN1.out.below hb2); clear hb2 HAT)
    | (go_at_call 25; refine (HMK.out _).mono ?_; rintro e w3 ⟨rfl, hb3⟩; have HT3 := Lib.hid (HT2.out.below hb3); have HN3 := Lib.hid (HN2.out.below hb3); have z0 := (HN3.out.below (al_below w3 (.cells #[.string p, .slice none 0 0] 25))).cell 0; simp at z0; clear hb3 HMK))
  have HL0 : Hid (AtL w (w3.alloc (.cells #[.string p, .slice none 0 0] 25)) (.slice ao T.length cap) en p w3.heap.size (.slice none 0 0) []) := ⟨HT3.out.below (al_below _ _), HT3.out.size, Blk.new _ _ _, OwnL.nil _ _ _ _ _⟩
  obtain ⟨g, hg⟩ : ∃ g, g = w3.heap.size := ⟨_, rfl⟩
  obtain ⟨W3, hW3⟩ : ∃ W3, W3 = w3.alloc (.cells #[.string p, .slice none 0 0] 25) := ⟨_, rfl⟩
  rw [← hg, ← hW3] at HL0
  rw [← hg, ← hW3]
  clear hg hW3 z0 HT3 HN3 HT2 HN2 HT1 HN1 HS1
  go_loopw [9] (fun kv wr => ∃ (k : Nat) (v : Value) (A : List Tm), (k : Int) ≤ (T.length : Int) ∧ kv = .int .i64 (k : Int) ∧ Hid (AtL w wr (.slice ao T.length cap) en p g v A) ∧ Hid (ArgAt en T i2 k A)) (fun kv _ => T.length - (intOf kv).toNat)
  case atStart => exact ⟨i2, _, [], by have := HA0.out.1; omega, by rw [show (i : Int) + 2 = (i2 : Int) by omega], HL0, HA0⟩
  case round =>
    clear HL0 HA0
    obtain ⟨k, v, A, hk, rfl, HL, HA⟩ := hrel
    obtain ⟨vo, vc, rfl, hcap, -⟩ := HL.out.own.cells
    obtain ⟨b0, b1⟩ := HL.out.base.cells
    obtain ⟨c0, c1, f0, f1⟩ := HL.out.cells
    have hlo := HL.out.lo
    have hgl := HL.out.a.lt
    have n1 : ¬ g = w.heap.size + 1 := by omega
    have n2 : ¬ g = w.heap.size + 2 := by omega
    have n3 : ¬ w.heap.size + 1 = g := by omega
    have n4 : ¬ w.heap.size + 2 = g := by omega
    have n5 : ¬ g = w.heap.size := by omega
    have n6 : ¬ w.heap.size = g := by omega
    have h6I : (A.length : Int) ≤ 6 := by have := HA.out.2.1; omega
    by_cases h6 : A.length < 6
    · have h6B : ((A.length : Int) == 6) = false := by rw [beq_eq_false_iff_ne]; omega
      cases htm : termT (atT en T k) with
      | none =>
        have HTM := Lib.hid (fun W hb => HTN.out k (by omega) htm W hb)
        have HRR : Hid (r = ⟨2, Am.zero, T.drop k⟩) := by show r = _; rw [HR.out]; exact argsP_bad (HA.out.bad h6 htm) (by decide)
        have HPL : Hid ((atT en T k).pl = (atT en (T.drop k) 0).pl) := by show _ = _; rw [atT_drop]; rfl
        obtain ⟨pl, hpl⟩ : ∃ pl, pl = (atT en T k).pl := ⟨_, rfl⟩
        rw [← hpl] at HTM HPL
        clear hpl htm HTY HTN HATK HR HA
        go_wp2_with (go_at_call 28; refine (HTM.out _ HL.out.base.bel).mono ?_; rintro e w1 ⟨rfl, hb1⟩; have HL1 := Lib.hid (HL.out.below hb1); clear hb1)
        obtain ⟨W2, hW2⟩ : ∃ W2, W2 = (w1.alloc (.cells #[.bool false, .string ⟨#[]⟩, .bool false, .string ⟨#[]⟩, .int .i64 0] 45)).alloc (.cells #[.int .i64 0, .int .i64 2, .int .i64 pl] 56) := ⟨_, rfl⟩
        obtain ⟨gn, hgn⟩ : ∃ gn, gn = w1.heap.size + 1 := ⟨_, rfl⟩
        have HL2 : Hid (AtL w W2 (.slice ao T.length cap) en p g (.slice vo A.length vc) A) := by show AtL _ _ _ _ _ _ _ _; rw [hW2]; exact (HL1.out.below (al_below _ _)).below (al_below _ _)
        have HN2 : Hid (Blk W2 gn #[.int .i64 0, .int .i64 2, .int .i64 pl] 56) := by show Blk _ _ _ _; rw [hW2, hgn]; exact Blk.second _ _ _ _
        rw [← hW2, ← hgn]
        have hz := HL1.out.base.size
        have hz2 := HL1.out.a.lt
        have m0 : ¬ gn = w.heap.size := by omega
        have m0' : ¬ w.heap.size = gn := by omega
        have m1 : ¬ gn = w.heap.size + 1 := by omega
        have m1' : ¬ w.heap.size + 1 = gn := by omega
        have m2 : ¬ gn = w.heap.size + 2 := by omega
        have m2' : ¬ w.heap.size + 2 = gn := by omega
        have m9 : ¬ gn = g := by omega
        have m9' : ¬ g = gn := by omega
        have z0 := HN2.out.cell 0
        have z1 := HN2.out.cell 1
        have z2 := HN2.out.cell 2
        simp at z0 z1 z2
        obtain ⟨r0, r1, k0, k1', s0, s1, s2, q0, q1, q2⟩ := HL2.out.base.outs
        clear c0 c1 f0 f1
        obtain ⟨c0, c1, f0, f1⟩ := HL2.out.cells
        clear hW2 hgn b0 b1 HL HL1
        go_region
        all_goals
          go_wp2
          have HE := Lib.hid (Laid.ab HL2.out.base p (.slice vo A.length vc) 0 2 pl).drew
          refine bodyPost_ret (ret_cells2 Tryz.results12 rfl rfl HE.out.a HE.out.s Tryz.underlying25 (by kernel_rfl) Tryz.underlying56 (by kernel_rfl)) rfl ?_
          exact ⟨p, _, _, _, 0, pl, by rw [HRR.out]; rfl, HE.out.bel, fun h => absurd h (by rw [HRR.out]; show ¬ (2 : Nat) = 0; omega), fun _ => by rw [HRR.out]; exact HPL.out⟩
      | some x =>
        obtain ⟨k1, hk1⟩ : ∃ k1, k1 = k + 1 := ⟨_, rfl⟩
        have hkk : (k : Int) + 1 = (k1 : Int) := by omega
        have hklt : k < T.length := tm_lt htm
        have hk1le : (k1 : Int) ≤ (T.length : Int) := by omega
        have HTM := Lib.hid (fun W hb => HTY.out k (by omega) x htm W hb)
        rw [hkk] at HTM
        have HAT1 := Lib.hid (fun W hb => HATK.out k1 (by have := HTL.out; omega) W hb)
        have HM1 := Lib.hid (fun W => rmark_any (atT en T k1) ⟨#[41]⟩ W)
        have HM2 := Lib.hid (fun W => rmark_any (atT en T k1) ⟨#[44]⟩ W)
        have HF2 := Lib.hid (fun W => rfailed_any (atT en T k1) 2 W)
        obtain ⟨m41, h41⟩ : ∃ m, m = isMk [41] (atT en T k1) := ⟨_, rfl⟩
        obtain ⟨m44, h44⟩ : ∃ m, m = isMk [44] (atT en T k1) := ⟨_, rfl⟩
        have e41 : isMk (⟨#[41]⟩ : ByteArray).data.toList (atT en T k1) = m41 := h41.symm
        have e44 : isMk (⟨#[44]⟩ : ByteArray).data.toList (atT en T k1) = m44 := h44.symm
        rw [e41] at HM1
        rw [e44] at HM2
        have HGOOD : Hid (m41 = true → r = ⟨0, ⟨p, A ++ [x]⟩, T.drop (k1 + 1)⟩ ∧ k1 + 1 ≤ T.length) := fun h => by
          have hm1 : isMk [41] (atT en T (k + 1)) = true := by rw [← hk1, ← h41, h]
          refine ⟨?_, by rw [hk1]; exact mk_lt hm1⟩
          rw [HR.out, argsP_end (HA.out.stop h6 htm (mk_both hm1)), if_pos hm1, hk1]
        have HBAD : Hid (m41 = false → m44 = false → r = ⟨2, Am.zero, T.drop k1⟩) := fun h h' => by
          have hm1 : isMk [41] (atT en T (k + 1)) = false := by rw [← hk1, ← h41, h]
          have hm2 : isMk [44] (atT en T (k + 1)) = false := by rw [← hk1, ← h44, h']
          rw [HR.out, argsP_end (HA.out.stop h6 htm hm2), if_neg (by rw [hm1]; decide), hk1]
        have HNXT : Hid (m44 = true → ArgAt en T i2 (k1 + 1) (A ++ [x])) := fun h => by
          have hm2 : isMk [44] (atT en T (k + 1)) = true := by rw [← hk1, ← h44, h]
          have := HA.out.next h6 htm hm2
          rw [hk1]
          exact this
        have HPL : Hid ((atT en T k1).pl = (atT en (T.drop k1) 0).pl) := by show _ = _; rw [atT_drop]; rfl
        obtain ⟨t, ht⟩ : ∃ t, t = atT en T k1 := ⟨_, rfl⟩
        rw [← ht] at HAT1 HM1 HM2 HF2 HPL
        obtain ⟨kd', st', nn', qq', pp'⟩ := t
        simp only [tokV] at HAT1 HM1 HM2 HF2 HPL
        obtain ⟨xv, xname, xk, xs, xn⟩ := x
        simp only at HTM
        obtain ⟨cs, hAL, hcl, hrow⟩ := HL.out.own
        have HCL := Lib.hid hcl
        have hkI : (k1 : Int) ≤ 65536 := by omega
        clear htm HTY HTN HATK HR HA ht h41 h44 e41 e44 hk1 hklt hcl
        cases m41
        · cases m44
          · have HRR := Lib.hid (HBAD.out rfl rfl)
            clear HGOOD HBAD HNXT
            go_wp2_with (first
              | (go_at_call 28; refine (HTM.out _ HL.out.base.bel).mono ?_; rintro e w1 ⟨rfl, hb1⟩; have HL2 := Lib.hid (fun o o' => ((HL.out.below hb1).below (al_below w1 o)).below (al_below _ o')); have HROW := Lib.hid (fun o o' => owns_keep (w' := (w1.alloc o).alloc o') hrow (Nat.le_refl _) (fun j _ hj => ((hb1.trans (((al_below w1 o).alloc (by simp) o').mono hb1.size)).block j hj))); have hw1 : g < w1.heap.size := Nat.lt_of_lt_of_le hgl hb1.size; obtain ⟨e0, e1, e2, e3⟩ := (HL2.out (.cells #[.bool xv, .string xname, .bool xk, .string xs, .int .i64 xn] 45) (.cells #[.int .i64 (k1 : Int), .int .i64 0, .int .i64 0] 56)).cells; clear hb1 HTM)
              | (at_builtin; refine wpList_append_own _ rfl _ _ 23 rfl (g + 1) 45 i0 _ 5 56 Tryz.underlying23 hif hz0 hz1 hz2 rfl (by decide) _ A.length cs.flatten rfl (World.ownsRow.alloc (HROW.out _ _) _) ⟨w1.heap.size + 2, 0, none⟩ 1 1 [.bool xv, .string xname, .bool xk, .string xs, .int .i64 xn] rfl rfl (cells_atT (by simp)) (oneT ⟨xv, xname, xk, xs, xn⟩) (by unfold maxLen; omega) (by omega) (by simp; omega) ?_; intro v' w4 hown4 hg4 hnil4; obtain ⟨vo', na, vc', hv', HNA, HL5, HN5, ha4⟩ := AtL.step (t := ⟨xv, xname, xk, xs, xn⟩) (HL2.out _ _) (Blk.second w1 _ _ _) (by omega) (show AllR (TmR _ _) A cs from hAL) HCL.out (HROW.out _ _) hown4 hg4; subst hv'; have a0 := ha4.cell 0; have a1 := ha4.cell 1; have a2 := ha4.frozen 0; have a3 := ha4.frozen 1; simp at a0 a1; obtain ⟨b0', b1'⟩ := HL5.out.base.cells; have z0 := HN5.out.cell 0; simp at z0; clear hown4 hg4 hnil4 ha4 HROW HL2)
              | (go_at_call 26; refine (HAT1.out _ HL5.out.base.bel).mono ?_; rintro e w6 ⟨rfl, hb6⟩; have HL6 := Lib.hid ((HL5.out.below hb6).below (al_below w6 (.cells #[.int .i64 kd', .string st', .int .i64 nn', .bool qq', .int .i64 pp'] 62))); have HN6 := Lib.hid ((HN5.out.below hb6).below (al_below w6 (.cells #[.int .i64 kd', .string st', .int .i64 nn', .bool qq', .int .i64 pp'] 62))); have HK6 := Lib.hid (Blk.new w6 #[.int .i64 kd', .string st', .int .i64 nn', .bool qq', .int .i64 pp'] 62); clear hb6 HAT1)
              | (go_at_call 25; refine (HM1.out _).mono ?_; rintro e w7 ⟨rfl, hb7⟩; have HL7 := Lib.hid (HL6.out.below hb7); have HN7 := Lib.hid (HN6.out.below hb7); have HK7 := Lib.hid (HK6.out.below hb7); have t0 := HK7.out.cell 0; have t1 := HK7.out.cell 1; have t2 := HK7.out.cell 2; have t3 := HK7.out.cell 3; have t4 := HK7.out.cell 4; simp at t0 t1 t2 t3 t4; clear hb7 HM1)
              | (go_at_call 25; refine (HM2.out _).mono ?_; rintro e w8 ⟨rfl, hb8⟩; have HL8 := Lib.hid (HL7.out.below hb8); have HN8 := Lib.hid (HN7.out.below hb8); have HK8 := Lib.hid (HK7.out.below hb8); obtain ⟨r0, r1, kk0, kk1, s0, s1, s2, q0, q1, q2⟩ := HL8.out.base.outs; obtain ⟨c0', c1', f0', f1'⟩ := HL8.out.cells; have t0' := HK8.out.cell 0; have t1' := HK8.out.cell 1; have t2' := HK8.out.cell 2; have t3' := HK8.out.cell 3; have t4' := HK8.out.cell 4; simp at t0' t1' t2' t3' t4'; clear hb8 HM2))
            have HF := Lib.hid (fun W (_ : Below w8.heap.size w8 W) => HF2.out W)
            clear HF2 z0 b0 b1 b0' b1' c0 c1 f0 f1 a0 a1 a2 a3 t0 t1 t2 t3 t4
            go_region_with (go_at_call 27; refine (HF.out _ (by first | exact Below.refl _ _ | exact (Below.refl _ _).drew | exact below_drewN _ _)).mono ?_; rintro e w9 ⟨rfl, hb9⟩; have HL9 := Lib.hid (HL8.out.below (Below.trans (by first | exact Below.refl _ _ | exact (Below.refl _ _).drew | exact below_drewN _ _) hb9)); clear r0 r1 kk0 kk1 s0 s1 s2 q0 q1 q2 c0' c1' f0' f1'; obtain ⟨r0, r1, kk0, kk1, s0, s1, s2, q0, q1, q2⟩ := HL9.out.base.outs; obtain ⟨c0', c1', f0', f1'⟩ := HL9.out.cells; clear hb9)
            all_goals
              go_wp2
              have HE := Lib.hid (Laid.ab HL9.out.base p (.slice vo' na vc') 0 2 pp')
              refine bodyPost_ret (ret_cells2 Tryz.results12 rfl rfl HE.out.a HE.out.s Tryz.underlying25 (by kernel_rfl) Tryz.underlying56 (by kernel_rfl)) rfl ?_
              exact ⟨p, _, _, _, 0, pp', by rw [HRR.out]; rfl, HE.out.bel, fun h => absurd h (by rw [HRR.out]; show ¬ (2 : Nat) = 0; omega), fun _ => by rw [HRR.out]; exact HPL.out⟩
          · have HNX := Lib.hid (HNXT.out rfl)
            clear HGOOD HBAD HNXT HF2
            go_wp2_with (first
              | (go_at_call 28; refine (HTM.out _ HL.out.base.bel).mono ?_; rintro e w1 ⟨rfl, hb1⟩; have HL2 := Lib.hid (fun o o' => ((HL.out.below hb1).below (al_below w1 o)).below (al_below _ o')); have HROW := Lib.hid (fun o o' => owns_keep (w' := (w1.alloc o).alloc o') hrow (Nat.le_refl _) (fun j _ hj => ((hb1.trans (((al_below w1 o).alloc (by simp) o').mono hb1.size)).block j hj))); have hw1 : g < w1.heap.size := Nat.lt_of_lt_of_le hgl hb1.size; obtain ⟨e0, e1, e2, e3⟩ := (HL2.out (.cells #[.bool xv, .string xname, .bool xk, .string xs, .int .i64 xn] 45) (.cells #[.int .i64 (k1 : Int), .int .i64 0, .int .i64 0] 56)).cells; clear hb1 HTM)
              | (at_builtin; refine wpList_append_own _ rfl _ _ 23 rfl (g + 1) 45 i0 _ 5 56 Tryz.underlying23 hif hz0 hz1 hz2 rfl (by decide) _ A.length cs.flatten rfl (World.ownsRow.alloc (HROW.out _ _) _) ⟨w1.heap.size + 2, 0, none⟩ 1 1 [.bool xv, .string xname, .bool xk, .string xs, .int .i64 xn] rfl rfl (cells_atT (by simp)) (oneT ⟨xv, xname, xk, xs, xn⟩) (by unfold maxLen; omega) (by omega) (by simp; omega) ?_; intro v' w4 hown4 hg4 hnil4; obtain ⟨vo', na, vc', hv', HNA, HL5, HN5, ha4⟩ := AtL.step (t := ⟨xv, xname, xk, xs, xn⟩) (HL2.out _ _) (Blk.second w1 _ _ _) (by omega) (show AllR (TmR _ _) A cs from hAL) HCL.out (HROW.out _ _) hown4 hg4; subst hv'; have a0 := ha4.cell 0; have a1 := ha4.cell 1; have a2 := ha4.frozen 0; have a3 := ha4.frozen 1; simp at a0 a1; obtain ⟨b0', b1'⟩ := HL5.out.base.cells; have z0 := HN5.out.cell 0; simp at z0; clear hown4 hg4 hnil4 ha4 HROW HL2)
              | (go_at_call 26; refine (HAT1.out _ HL5.out.base.bel).mono ?_; rintro e w6 ⟨rfl, hb6⟩; have HL6 := Lib.hid ((HL5.out.below hb6).below (al_below w6 (.cells #[.int .i64 kd', .string st', .int .i64 nn', .bool qq', .int .i64 pp'] 62))); have HN6 := Lib.hid ((HN5.out.below hb6).below (al_below w6 (.cells #[.int .i64 kd', .string st', .int .i64 nn', .bool qq', .int .i64 pp'] 62))); have HK6 := Lib.hid (Blk.new w6 #[.int .i64 kd', .string st', .int .i64 nn', .bool qq', .int .i64 pp'] 62); clear hb6 HAT1)
              | (go_at_call 25; refine (HM1.out _).mono ?_; rintro e w7 ⟨rfl, hb7⟩; have HL7 := Lib.hid (HL6.out.below hb7); have HN7 := Lib.hid (HN6.out.below hb7); have HK7 := Lib.hid (HK6.out.below hb7); have t0 := HK7.out.cell 0; have t1 := HK7.out.cell 1; have t2 := HK7.out.cell 2; have t3 := HK7.out.cell 3; have t4 := HK7.out.cell 4; simp at t0 t1 t2 t3 t4; clear hb7 HM1)
              | (go_at_call 25; refine (HM2.out _).mono ?_; rintro e w8 ⟨rfl, hb8⟩; have HL8 := Lib.hid (HL7.out.below hb8); have HN8 := Lib.hid (HN7.out.below hb8); have HK8 := Lib.hid (HK7.out.below hb8); have y0 := HN8.out.cell 0; simp at y0; clear hb8 HM2))
            go_roundw
            case rel => exact ⟨k1 + 1, _, _, by have := HNX.out.1; omega, by go_num, HL8, HNX⟩
            case measure => simp [intOf]; have := HNX.out.1; omega
        · have HGD := Lib.hid (HGOOD.out rfl)
          clear HGOOD HBAD HNXT HM2 HF2
          go_wp2_with (first
            | (go_at_call 28; refine (HTM.out _ HL.out.base.bel).mono ?_; rintro e w1 ⟨rfl, hb1⟩; have HL2 := Lib.hid (fun o o' => ((HL.out.below hb1).below (al_below w1 o)).below (al_below _ o')); have HROW := Lib.hid (fun o o' => owns_keep (w' := (w1.alloc o).alloc o') hrow (Nat.le_refl _) (fun j _ hj => ((hb1.trans (((al_below w1 o).alloc (by simp) o').mono hb1.size)).block j hj))); have hw1 : g < w1.heap.size := Nat.lt_of_lt_of_le hgl hb1.size; obtain ⟨e0, e1, e2, e3⟩ := (HL2.out (.cells #[.bool xv, .string xname, .bool xk, .string xs, .int .i64 xn] 45) (.cells #[.int .i64 (k1 : Int), .int .i64 0, .int .i64 0] 56)).cells; clear hb1 HTM)
            | (at_builtin; refine wpList_append_own _ rfl _ _ 23 rfl (g + 1) 45 i0 _ 5 56 Tryz.underlying23 hif hz0 hz1 hz2 rfl (by decide) _ A.length cs.flatten rfl (World.ownsRow.alloc (HROW.out _ _) _) ⟨w1.heap.size + 2, 0, none⟩ 1 1 [.bool xv, .string xname, .bool xk, .string xs, .int .i64 xn] rfl rfl (cells_atT (by simp)) (oneT ⟨xv, xname, xk, xs, xn⟩) (by unfold maxLen; omega) (by omega) (by simp; omega) ?_; intro v' w4 hown4 hg4 hnil4; obtain ⟨vo', na, vc', hv', HNA, HL5, HN5, ha4⟩ := AtL.step (t := ⟨xv, xname, xk, xs, xn⟩) (HL2.out _ _) (Blk.second w1 _ _ _) (by omega) (show AllR (TmR _ _) A cs from hAL) HCL.out (HROW.out _ _) hown4 hg4; subst hv'; have a0 := ha4.cell 0; have a1 := ha4.cell 1; have a2 := ha4.frozen 0; have a3 := ha4.frozen 1; simp at a0 a1; obtain ⟨b0', b1'⟩ := HL5.out.base.cells; have z0 := HN5.out.cell 0; simp at z0; clear hown4 hg4 hnil4 ha4 HROW HL2)
            | (go_at_call 26; refine (HAT1.out _ HL5.out.base.bel).mono ?_; rintro e w6 ⟨rfl, hb6⟩; have HL6 := Lib.hid ((HL5.out.below hb6).below (al_below w6 (.cells #[.int .i64 kd', .string st', .int .i64 nn', .bool qq', .int .i64 pp'] 62))); have HN6 := Lib.hid ((HN5.out.below hb6).below (al_below w6 (.cells #[.int .i64 kd', .string st', .int .i64 nn', .bool qq', .int .i64 pp'] 62))); have HK6 := Lib.hid (Blk.new w6 #[.int .i64 kd', .string st', .int .i64 nn', .bool qq', .int .i64 pp'] 62); clear hb6 HAT1)
            | (go_at_call 25; refine (HM1.out _).mono ?_; rintro e w7 ⟨rfl, hb7⟩; have HL7 := Lib.hid (HL6.out.below hb7); have HN7 := Lib.hid (HN6.out.below hb7); have HK7 := Lib.hid (HK6.out.below hb7); have t0 := HK7.out.cell 0; have t1 := HK7.out.cell 1; have t2 := HK7.out.cell 2; have t3 := HK7.out.cell 3; have t4 := HK7.out.cell 4; simp at t0 t1 t2 t3 t4; obtain ⟨r0, r1, kk0, kk1, s0, s1, s2, q0, q1, q2⟩ := HL7.out.base.outs; obtain ⟨c0', c1', f0', f1'⟩ := HL7.out.cells; have y0 := HN7.out.cell 0; have y1 := HN7.out.cell 1; have y2 := HN7.out.cell 2; simp at y0 y1 y2; have hgn := HN7.out.lt; clear hb7 HM1))
          obtain ⟨gn, hgn'⟩ : ∃ gn, gn = w1.heap.size + 1 := ⟨_, rfl⟩
          rw [← hgn'] at y0 y1 y2
          rw [← hgn']
          have m0 : ¬ gn = w.heap.size := by omega
          have m0' : ¬ w.heap.size = gn := by omega
          have m1 : ¬ gn = w.heap.size + 1 := by omega
          have m1' : ¬ w.heap.size + 1 = gn := by omega
          have m2 : ¬ gn = w.heap.size + 2 := by omega
          have m2' : ¬ w.heap.size + 2 = gn := by omega
          have m9 : ¬ gn = g := by omega
          have m9' : ¬ g = gn := by omega
          clear hgn' z0 b0 b1 b0' b1' c0 c1 f0 f1 a0 a1 a2 a3 t0 t1 t2 t3 t4
          go_region
          all_goals
            go_wp2
            have HE := Lib.hid (Laid.ab HL7.out.base p (.slice vo' na vc') (((k1 + 1 : Nat) : Nat) : Int) 0 0).drew
            refine bodyPost_ret (ret_cells2 Tryz.results12 rfl rfl HE.out.a HE.out.s Tryz.underlying25 (by kernel_rfl) Tryz.underlying56 (by kernel_rfl)) rfl ?_
            exact ⟨p, _, _, _, k1 + 1, 0, by rw [HGD.out.1]; rfl, HE.out.bel, fun _ => by rw [HGD.out.1]; exact ⟨rfl, HNA.out, (HL7.out.own.keep keepTm (by have := HL7.out.lo; omega) (fun j hj hj2 => HE.out.far j (by have := HL7.out.lo; omega) hj2)), rfl, HGD.out.2⟩, fun h => absurd (by rw [HGD.out.1]) h⟩
    · have h6B : ((A.length : Int) == 6) = true := by rw [beq_iff_eq]; omega
      have HRR : Hid (r = ⟨4, Am.zero, T.drop k⟩) := by show r = _; rw [HR.out]; exact argsP_bad (HA.out.full h6) (by decide)
      have HPL : Hid ((atT en T k).pl = (atT en (T.drop k) 0).pl) := by show _ = _; rw [atT_drop]; rfl
      have HAT1 := Lib.hid (fun W hb => HATK.out k (by have := HTL.out; omega) W hb)
      have HF2 := Lib.hid (fun W => rfailed_any (atT en T k) 4 W)
      obtain ⟨t, ht⟩ : ∃ t, t = atT en T k := ⟨_, rfl⟩
      rw [← ht] at HAT1 HF2 HPL
      obtain ⟨kd', st', nn', qq', pp'⟩ := t
      simp only [tokV] at HAT1 HF2 HPL
      obtain ⟨r0, r1, kk0, kk1, s0, s1, s2, q0, q1, q2⟩ := HL.out.base.outs
      clear ht HTY HTN HATK HR HA
      go_wp2_with fail
      go_region_with (first
        | (go_at_call 26; refine (HAT1.out _ (HL.out.base.bel.trans (Below.mono (by first | exact Below.refl _ _ | exact (Below.refl _ _).drew | exact below_drewN _ _) HL.out.base.bel.size))).mono ?_; rintro e w6 ⟨rfl, hb6⟩; have HL6 := Lib.hid (HL.out.below (Below.trans (by first | exact Below.refl _ _ | exact (Below.refl _ _).drew | exact below_drewN _ _) hb6)); obtain ⟨g0, g1, -, -⟩ := HL6.out.cells; clear hb6)
        | (go_at_call 27; refine (HF2.out _).mono ?_; rintro e w9 ⟨rfl, hb9⟩; have HL9 := Lib.hid (HL6.out.below (Below.trans (by first | exact Below.refl _ _ | exact (Below.refl _ _).drew | exact below_drewN _ _) hb9)); clear r0 r1 kk0 kk1 s0 s1 s2 q0 q1 q2; obtain ⟨r0, r1, kk0, kk1, s0, s1, s2, q0, q1, q2⟩ := HL9.out.base.outs; obtain ⟨c0', c1', f0', f1'⟩ := HL9.out.cells; clear hb9))
      all_goals
        go_wp2
        have HE := Lib.hid (Laid.ab HL9.out.base p (.slice vo A.length vc) 0 4 pp')
        refine bodyPost_ret (ret_cells2 Tryz.results12 rfl rfl HE.out.a HE.out.s Tryz.underlying25 (by kernel_rfl) Tryz.underlying56 (by kernel_rfl)) rfl ?_
        exact ⟨p, _, _, _, 0, pp', by rw [HRR.out]; rfl, HE.out.bel, fun h => absurd h (by rw [HRR.out]; show ¬ (4 : Nat) = 0; omega), fun _ => by rw [HRR.out]; exact HPL.out⟩
end Go.Proofs.YtekhcaanjaoioaaGreatDoor
