/-
  A list of deeds that came in: what it holds. Contract of the fourth law's few.
-/
import Derived.Test.YtkkpcphmojegmaaRMatch
import Derived.Lib.SmallJoins
namespace Go.Proofs.Ytkkpcphmojegmaa
set_option linter.unusedSimpArgs false
set_option linter.unusedVariables false
set_option linter.unusedSectionVars false
set_option maxRecDepth 100000
open Go.RowKit Go.Maps Go.Deep Go.WideShapes Go.Joins
variable [DecidableEq V]

/-- A deed: its kind, its row, its places, whether of delta alone. -/
structure Dd where
  kind : Int
  tv : Value
  vs : List V
  cv : Value
  cols : List Int
  only : Bool
def Dd.cells (d : Dd) : List Value := [.int .i64 d.kind, d.tv, d.cv, .bool d.only]
/-- What a deed's lists hold. -/
structure Dd.In (W : World) (d : Dd) : Prop where
  vals : Vals W d.tv d.vs
  ints : Ints W d.cv d.cols
  lo : -9223372036854775808 ≤ d.kind
  hi : d.kind ≤ 9223372036854775807
theorem Dd.In.below {W w1 : World} {d : Dd} (h : d.In W) (hb : Below W.heap.size W w1) : d.In w1 := ⟨h.vals.below hb, h.ints.below hb, h.lo, h.hi⟩
/-- x is a list of the deeds ds, in memory that is there. -/
def Deeds (W : World) (x : Value) (ds : List Dd) : Prop :=
  ∃ (ao : Option Addr) (cap : Nat), x = .slice ao ds.length cap ∧ ds.length ≤ maxLen ∧
    ∀ i (hi : i < ds.length), ds[i].In W ∧ ∃ b off, ao = some ⟨b, off, none⟩ ∧ b < W.heap.size ∧ W.cell? ⟨b, off + i * 4, none⟩ = some (.int .i64 ds[i].kind) ∧ W.cell? ⟨b, off + i * 4 + 1, none⟩ = some ds[i].tv ∧ W.cell? ⟨b, off + i * 4 + 2, none⟩ = some ds[i].cv ∧ W.cell? ⟨b, off + i * 4 + 3, none⟩ = some (.bool ds[i].only)
theorem Deeds.len {W : World} {x : Value} {ds : List Dd} (h : Deeds W x ds) : ∃ ao cap, x = .slice ao ds.length cap ∧ ds.length ≤ maxLen := by
  obtain ⟨ao, cap, h1, h2, -⟩ := h; exact ⟨ao, cap, h1, h2⟩
theorem Deeds.below {W w1 : World} {x : Value} {ds : List Dd} (h : Deeds W x ds) (hb : Below W.heap.size W w1) : Deeds w1 x ds := by
  obtain ⟨ao, cap, h1, h2, h4⟩ := h
  refine ⟨ao, cap, h1, h2, fun i hi => ?_⟩
  obtain ⟨hin, b, off, e, hlt, c0, c1, c2, c3⟩ := h4 i hi
  exact ⟨hin.below hb, b, off, e, Nat.lt_of_lt_of_le hlt hb.size, (hb.cell (p := ⟨b, off + i * 4, none⟩) hlt).trans c0, (hb.cell (p := ⟨b, off + i * 4 + 1, none⟩) hlt).trans c1, (hb.cell (p := ⟨b, off + i * 4 + 2, none⟩) hlt).trans c2, (hb.cell (p := ⟨b, off + i * 4 + 3, none⟩) hlt).trans c3⟩
theorem Deeds.at {W : World} {ao : Option Addr} {n cap : Nat} {ds : List Dd} (h : Deeds W (.slice ao n cap) ds) (k : Nat) (hk : k < ds.length) :
    ∃ b off, ao = some ⟨b, off, none⟩ ∧ b < W.heap.size ∧ ds[k].In W ∧ W.cell? ⟨b, off + k * 4, none⟩ = some (.int .i64 ds[k].kind) ∧ W.cell? ⟨b, off + k * 4 + 1, none⟩ = some ds[k].tv ∧ W.cell? ⟨b, off + k * 4 + 2, none⟩ = some ds[k].cv ∧ W.cell? ⟨b, off + k * 4 + 3, none⟩ = some (.bool ds[k].only) := by
  obtain ⟨ao', cap', e, h2, h4⟩ := h
  injection e with e1
  subst e1
  obtain ⟨hin, b, off, e, hlt, c0, c1, c2, c3⟩ := h4 k hk
  exact ⟨b, off, e, hlt, hin, c0, c1, c2, c3⟩
theorem cellsDeed : Try.prog.cellsOf 33 = 4 := by kernel_rfl
theorem cellsInts : Try.prog.cellsOf 31 = 1 := by kernel_rfl
theorem ints_trod {H : Type} {enc : TypeId × Value → H} {W : World} {sp : Nat → Bool} {hd : Bool} {base fuel : Nat} {cs : List Value} {y : DataW H × List MemPlace}
    (hf : DataW.trod enc Try.prog W base sp hd fuel 31 cs = some y) : ∃ (hv : Value) (zs : List Int), cs = [hv] ∧ Ints W hv zs := by
  rcases open_slice Try.underlying31 hf with ⟨rfl, -⟩ | ⟨a, len, cap, m, n, D, Pl, rfl, hb, hl, hm, hmm, hdat, hx⟩
  · exact ⟨_, [], rfl, Ints.nil _⟩
  · have hlm : len ≤ m := by rw [hmm]; split <;> omega
    have each : ∀ i, i < len → ∃ z : Int, W.cell? (a.add i) = some (.int .i64 z) := fun i hi => by
      obtain ⟨cs', h1, h2⟩ := hx i (by omega)
      rw [cellsInt] at h1
      obtain ⟨_, hlen, hcell⟩ := World.cells?_some h1
      obtain ⟨z, e2, -, -⟩ := DataW.trod_int Try.underlying3 h2
      have q0 := hcell 0 (by omega)
      rw [add_add] at q0
      subst e2
      exact ⟨z, by simpa using q0⟩
    obtain ⟨f, hfx⟩ := choose_lt each
    refine ⟨_, (List.range len).map f, rfl, some a, cap, by simp, by simp; omega, fun i hi => ?_⟩
    simp at hi
    have e0 := hfx i hi
    have hsp : a.spot = none := by
      have := World.cell?_spot (hfx 0 (by omega))
      simpa [Addr.add] using this
    obtain ⟨b, off, sp'⟩ := a
    simp at hsp
    subst hsp
    rw [add_none] at e0
    exact ⟨b, off, rfl, lt_of_cell e0, by simpa using e0⟩
theorem trod_deed {H : Type} {enc : TypeId × Value → H} {W : World} {sp : Nat → Bool} {hd : Bool} {base fuel : Nat} {c0 c1 c2 c3 : Value} {y : DataW H × List MemPlace}
    (hf : DataW.trod enc Try.prog W base sp hd fuel 33 [c0, c1, c2, c3] = some y) : ∃ d : Dd, d.In W ∧ c0 = .int .i64 d.kind ∧ c1 = d.tv ∧ c2 = d.cv ∧ c3 = .bool d.only := by
  obtain ⟨y0, y1, y2, y3, k, -, -, g0, g1, g2, g3⟩ := trod_struct4 Try.underlying33 hf
  simp [cellsInt, cellsRow, cellsInts, cellsB] at g0 g1 g2 g3
  obtain ⟨x0, e0, -, wn⟩ := DataW.trod_int Try.underlying3 g0
  obtain ⟨hv, vs, e1, hV, -⟩ := vals_trod g1
  obtain ⟨iv, zs, e2, hI⟩ := ints_trod g2
  obtain ⟨x3, e3, -⟩ := DataW.trod_bool Try.underlying4 g3
  simp at e0 e1 e2 e3
  subst e1 e2
  have hb' := bounds_i64 wn
  exact ⟨⟨x0, c1, vs, c2, zs, x3⟩, ⟨hV, hI, hb'.1, by have := hb'.2; omega⟩, e0, rfl, rfl, e3⟩
/-- A list of deeds that came in. -/
theorem open_deeds {H : Type} {enc : TypeId × Value → H} {W : World} {r : Reach} {b0 : Nat} {x : Value} {d : DataW H} {p : List MemPlace} {sp : Nat → Bool} {hd : Bool} {base : Nat}
    (hv : Value.okWide Try.prog W r b0 22 x) (h : DataW.Trod enc Try.prog W base sp hd 22 x d p) :
    ∃ ds : List Dd, Deeds W x ds := by
  obtain ⟨a0, len, cap, rfl⟩ := okWide_slice Try.underlying22 hv
  obtain ⟨fuel, hf⟩ := h
  rcases open_slice Try.underlying22 hf with ⟨hc, -⟩ | ⟨a, len', cap', m, n, D, Pl, hc, hb, hl, hm, hmm, hdat, hx⟩
  · simp [Value.cells] at hc
    obtain ⟨rfl, rfl, rfl⟩ := hc
    exact ⟨[], none, 0, rfl, by simp [maxLen], fun i hi => by simp at hi⟩
  · simp [Value.cells] at hc
    obtain ⟨rfl, rfl, rfl⟩ := hc
    have hlm : len ≤ m := by rw [hmm]; split <;> omega
    have each : ∀ i, i < len → ∃ q : Dd, q.In W ∧ W.cell? (a.add (i * 4)) = some (.int .i64 q.kind) ∧ W.cell? (a.add (i * 4 + 1)) = some q.tv ∧ W.cell? (a.add (i * 4 + 2)) = some q.cv ∧ W.cell? (a.add (i * 4 + 3)) = some (.bool q.only) := fun i hi => by
      obtain ⟨cs', h1, h2⟩ := hx i (by omega)
      rw [cellsDeed] at h1
      obtain ⟨_, hlen, hcell⟩ := World.cells?_some h1
      match cs', hlen with
      | [c0, c1, c2, c3], _ =>
        obtain ⟨q, hq, rfl, rfl, rfl, rfl⟩ := trod_deed h2
        have q0 := hcell 0 (by omega)
        have q1 := hcell 1 (by omega)
        have q2 := hcell 2 (by omega)
        have q3 := hcell 3 (by omega)
        rw [add_add] at q0 q1 q2 q3
        exact ⟨q, hq, by simpa using q0, by simpa using q1, by simpa using q2, by simpa using q3⟩
    have : Inhabited Dd := ⟨⟨0, .slice none 0 0, [], .slice none 0 0, [], false⟩⟩
    obtain ⟨f, hfx⟩ := choose_lt each
    refine ⟨(List.range len).map f, some a, cap, by simp, by simp; omega, ?_⟩
    intro i hi
    simp at hi
    obtain ⟨hin, e0, e1, e2, e3⟩ := hfx i hi
    have hsp : a.spot = none := by
      have := World.cell?_spot (hfx 0 (by omega)).2.1
      simpa [Addr.add] using this
    obtain ⟨b, off, sp'⟩ := a
    simp at hsp
    subst hsp
    rw [add_none] at e0 e1 e2 e3
    exact ⟨by simpa using hin, b, off, rfl, lt_of_cell e0, by simpa using e0, by simpa [Nat.add_assoc] using e1, by simpa [Nat.add_assoc] using e2, by simpa [Nat.add_assoc] using e3⟩

theorem infoDeed : (Try.prog.info? 33).map (fun i => (i.zero, i.size, i.bytes)) = some (some (.agg #[.int .i64 0, .slice none 0 0, .slice none 0 0, .bool false]), 4, 64) := by kernel_rfl
theorem dflat_at {ds : List Dd} : ∀ {i : Nat} (hi : i < ds.length) {j : Nat} {u : Value}, (Dd.cells ds[i])[j]? = some u → (ds.flatMap Dd.cells)[i * 4 + j]? = some u := by
  have hl : ∀ d : Dd, d.cells.length = 4 := fun _ => rfl
  induction ds with
  | nil => intro i hi; simp at hi
  | cons q ds ih =>
    intro i hi j u h
    have hj : j < 4 := by have := (List.getElem?_eq_some_iff.1 h).1; rwa [hl] at this
    cases i with
    | zero =>
      rw [List.flatMap_cons, Nat.zero_mul, Nat.zero_add, List.getElem?_append_left (by rw [hl]; exact hj)]
      exact h
    | succ i =>
      have e : (i + 1) * 4 + j = i * 4 + j + 4 := by omega
      rw [List.flatMap_cons, List.getElem?_append_right (by rw [hl]; omega), hl, e, Nat.add_sub_cancel]
      exact ih (by simpa using hi) h
/-- A list of deeds in a block of the call's own. -/
def OwnD (w : World) (B : Nat) (x : Value) (ds : List Dd) : Prop := w.ownsRow B 33 4 x ds.length (ds.flatMap Dd.cells)
theorem OwnD.deeds {w : World} {B : Nat} {x : Value} {ds : List Dd} (h : OwnD w B x ds) (hin : ∀ d ∈ ds, d.In w) : Deeds w x ds := by
  have hr : w.ownsRow B 33 4 x ds.length (ds.flatMap Dd.cells) := h
  rcases hr.2 with ⟨h1, h2⟩ | ⟨g, cap, cur, h1, h2, h3, h4, h5, h6, h7⟩
  · exact ⟨none, 0, by rw [h1, h2], by rw [h2]; exact Nat.zero_le _, fun i hi => absurd hi (by omega)⟩
  · subst h1
    refine ⟨some ⟨g, 0, none⟩, cap, rfl, by omega, fun i hi => ⟨hin _ (List.getElem_mem hi), g, 0, rfl, (Array.getElem?_eq_some_iff.1 h3).1, ?_⟩⟩
    have c : ∀ j u, (Dd.cells ds[i])[j]? = some u → w.cell? ⟨g, 0 + i * 4 + j, none⟩ = some u := fun j u hj => by
      have := hr.cells (g := g) rfl _ _ (dflat_at hi hj)
      rw [add_none] at this
      rw [Nat.zero_add] at this ⊢
      exact this
    exact ⟨c 0 _ rfl, c 1 _ rfl, c 2 _ rfl, c 3 _ rfl⟩
theorem OwnD.form {w : World} {B : Nat} {x : Value} {ds : List Dd} (h : OwnD w B x ds) : ∃ ao cap, x = .slice ao ds.length cap := by
  have hr : w.ownsRow B 33 4 x ds.length (ds.flatMap Dd.cells) := h
  rcases hr.2 with ⟨h1, h2⟩ | ⟨g, cap, cur, h1, -⟩
  · exact ⟨none, 0, by rw [h1, h2]⟩
  · exact ⟨_, cap, h1⟩
theorem four_new (w : World) (c : Array Value) (t : TypeId) : ∀ j u, c.toList[j]? = some u → (w.alloc (.cells c t)).cell? ((⟨w.heap.size, 0, none⟩ : Addr).add j) = some u := by
  intro j u hj
  rw [add_none, Nat.zero_add, World.cell?_alloc_at _ _ _ _ rfl]
  simpa using hj
/-- Few deeds, each small. -/
def Small (w : World) (es : List Dd) : Prop := es.length ≤ 80 ∧ ∀ d ∈ es, d.In w ∧ d.vs.length ≤ 8 ∧ d.cols.length ≤ 8
/-- What few answers. -/
def FewD (w : World) (e : Ending) (w' : World) : Prop := ∃ x' es, e = .returned x' ∧ Below w.heap.size w w' ∧ Deeds w' x' es ∧ Small w es

set_option maxHeartbeats 1600000 in
theorem fewD_any {w : World} {x : Value} {ds : List Dd} (hx : Deeds w x ds) : Calls Try.prog 6 #[x] w fun e w' => FewD w e w' := by
  obtain ⟨ao, cap, rfl, hm⟩ := hx.len
  unfold maxLen at hm
  obtain ⟨i0, hi, hz0, hz1, hz2⟩ := info_parts infoDeed
  have HX := Lib.hid hx
  clear hx
  go_enter Try.func6, Try.ntmps6
  go_wp2_with fail
  go_loopw [3, 4] (fun v i wr => ∃ (k : Nat) (es : List Dd), k ≤ ds.length ∧ i = .int .i64 (k : Int) ∧ Hid (OwnD wr w.heap.size v es) ∧ Hid (Small w es) ∧ Hid (Below w.heap.size w wr)) (fun _ i _ => ds.length - (intOf i).toNat)
  case atStart => exact ⟨0, [], Nat.zero_le _, rfl, World.ownsRow_nil _ _ _ _, ⟨by simp, fun _ h => by simp at h⟩, Below.refl _ _⟩
  case round =>
    obtain ⟨k, es, hk, rfl, HO, HS, HB⟩ := hrel
    have hwr := HB.out.size
    obtain ⟨so, sc, rfl⟩ := HO.out.form
    have e80 := HS.out.1
    have HOD := HO
    have HEND : Hid (FewD w (.returned (.slice so es.length sc)) wr) := ⟨_, es, rfl, HB.out, HO.out.deeds (fun d hd => (HS.out.2 d hd).1.below HB.out), HS.out⟩
    by_cases hlt : k < ds.length
    · have h1I : (k : Int) < (ds.length : Int) := by omega
      by_cases h80 : es.length < 80
      · have h80I : (es.length : Int) < 80 := by omega
        obtain ⟨b, off, rfl, hbl, hin, c0, c1, c2, c3⟩ := (HX.out.below HB.out).at k hlt
        have hinw : ds[k].In w := by
          obtain ⟨_, _, _, _, hh⟩ := HX.out
          exact (hh k hlt).1
        obtain ⟨ta, tc, ht, -⟩ := hin.vals.len
        obtain ⟨ca, cc, hc, -⟩ := hin.ints.len
        have HNX : Hid (ds[k].vs.length ≤ 8 → ds[k].cols.length ≤ 8 → Small w (es ++ [ds[k]])) := fun h1 h2 => ⟨by simp; omega, fun d hd => by
          rcases List.mem_append.1 hd with hd | hd
          · exact HS.out.2 d hd
          · rw [List.mem_singleton.1 hd]; exact ⟨hinw, h1, h2⟩⟩
        have HSN : Hid (∀ w3 v3, w3.ownsRow w.heap.size 33 4 v3 (es.length + 1) (es.flatMap Dd.cells ++ [.int .i64 ds[k].kind, ds[k].tv, ds[k].cv, .bool ds[k].only]) → OwnD w3 w.heap.size v3 (es ++ [ds[k]])) := fun w3 v3 h => by
          unfold OwnD
          rw [List.length_append, List.flatMap_append]
          simpa [Dd.cells] using h
        have HOC : Hid (wr.ownsRow w.heap.size 33 4 (.slice so es.length sc) es.length (es.flatMap Dd.cells)) := HO.out
        rw [ht, hc] at HSN
        rw [ht] at c1
        rw [hc] at c2
        generalize ds[k].vs.length = n1 at *
        generalize ds[k].cols.length = n2 at *
        generalize hkd : ds[k].kind = kd at *
        generalize hod : ds[k].only = od at *
        generalize es.flatMap Dd.cells = ecs at *
        clear hin hinw ht hc hkd hod HO
        by_cases hn1 : n1 ≤ 8
        · have hn1I : (n1 : Int) ≤ 8 := by omega
          by_cases hn2 : n2 ≤ 8
          · have hn2I : (n2 : Int) ≤ 8 := by omega
            have HS2 := Lib.hid (HNX.out hn1 hn2)
            clear HNX
            go_wp2_with (at_builtin; refine wpList_append_own _ rfl _ _ 22 rfl w.heap.size 33 i0 _ 4 64 Try.underlying22 hi hz0 hz1 hz2 rfl (by decide) _ es.length ecs rfl (World.ownsRow.alloc HOC.out _) ⟨wr.heap.size, 0, none⟩ 1 1 [.int .i64 kd, .slice ta n1 tc, .slice ca n2 cc, .bool od] rfl rfl (four_new wr #[.int .i64 kd, .slice ta n1 tc, .slice ca n2 cc, .bool od] _) (by simp [Value.oneCell']) (by unfold maxLen; omega) (by omega) (by simp; omega) ?_; intro v3 w3 hown3 hg3 hnil3; have HR3 := Lib.hid (HSN.out w3 v3 hown3); have HB3 : Hid (Below w.heap.size w w3) := (HB.out.alloc hwr _).grown hg3 (by simp; omega) (fun k hk => (World.ownsRow.lt HOC.out k hk).1); clear hown3 hg3 hnil3)
            go_roundw
            case rel => exact ⟨k + 1, _, by omega, by go_num, HR3, HS2, HB3⟩
            case measure => simp [intOf]; omega
          · have hn2I : ¬ (n2 : Int) ≤ 8 := by omega
            go_wp2
            go_roundw
            case rel => exact ⟨k + 1, es, by omega, by go_num, HOD, HS, HB⟩
            case measure => simp [intOf]; omega
        · have hn1I : ¬ (n1 : Int) ≤ 8 := by omega
          go_wp2
          go_roundw
          case rel => exact ⟨k + 1, es, by omega, by go_num, HOD, HS, HB⟩
          case measure => simp [intOf]; omega
      · have h80I : ¬ (es.length : Int) < 80 := by omega
        go_wp2
        go_ret
        exact HEND.out
    · have h1I : ¬ (k : Int) < (ds.length : Int) := by omega
      go_wp2
      go_ret
      exact HEND.out
end Go.Proofs.Ytkkpcphmojegmaa
