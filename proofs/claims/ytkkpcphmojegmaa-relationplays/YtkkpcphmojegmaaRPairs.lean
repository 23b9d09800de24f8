/-
  A list of pairs of values that came in: what it holds. Contract of the fourth law's filled.
-/
import Derived.Test.YtkkpcphmojegmaaRLaw0
import Derived.OpenShut
import Derived.Deep.RegionWith
namespace Go.Proofs.Ytkkpcphmojegmaa
set_option linter.unusedSimpArgs false
set_option linter.unusedVariables false
set_option linter.unusedSectionVars false
set_option maxRecDepth 100000
open Go.RowKit Go.Maps Go.Deep Go.WideShapes
variable [DecidableEq V]

/-- x is a list of the pairs ps, in memory that is there. -/
def Pairs (W : World) (x : Value) (ps : List (V × V)) : Prop :=
  ∃ (ao : Option Addr) (cap : Nat), x = .slice ao ps.length cap ∧ ps.length ≤ maxLen ∧ (∀ p ∈ ps, p.1.Ok ∧ p.2.Ok) ∧
    ∀ i (hi : i < ps.length), ∃ b off, ao = some ⟨b, off, none⟩ ∧ b < W.heap.size ∧ W.cell? ⟨b, off + i * 6, none⟩ = some (.bool ps[i].1.k) ∧ W.cell? ⟨b, off + i * 6 + 1, none⟩ = some (.string ps[i].1.s) ∧ W.cell? ⟨b, off + i * 6 + 2, none⟩ = some (.int .i64 ps[i].1.n) ∧
      W.cell? ⟨b, off + i * 6 + 3, none⟩ = some (.bool ps[i].2.k) ∧ W.cell? ⟨b, off + i * 6 + 4, none⟩ = some (.string ps[i].2.s) ∧ W.cell? ⟨b, off + i * 6 + 5, none⟩ = some (.int .i64 ps[i].2.n)
theorem Pairs.len {W : World} {x : Value} {ps : List (V × V)} (h : Pairs W x ps) : ∃ ao cap, x = .slice ao ps.length cap ∧ ps.length ≤ maxLen := by
  obtain ⟨ao, cap, h1, h2, -⟩ := h; exact ⟨ao, cap, h1, h2⟩
theorem Pairs.below {W w1 : World} {x : Value} {ps : List (V × V)} (h : Pairs W x ps) (hb : Below W.heap.size W w1) : Pairs w1 x ps := by
  obtain ⟨ao, cap, h1, h2, h3, h4⟩ := h
  refine ⟨ao, cap, h1, h2, h3, fun i hi => ?_⟩
  obtain ⟨b, off, e, hlt, c0, c1, c2, c3, c4, c5⟩ := h4 i hi
  exact ⟨b, off, e, Nat.lt_of_lt_of_le hlt hb.size, (hb.cell (p := ⟨b, off + i * 6, none⟩) hlt).trans c0, (hb.cell (p := ⟨b, off + i * 6 + 1, none⟩) hlt).trans c1, (hb.cell (p := ⟨b, off + i * 6 + 2, none⟩) hlt).trans c2, (hb.cell (p := ⟨b, off + i * 6 + 3, none⟩) hlt).trans c3, (hb.cell (p := ⟨b, off + i * 6 + 4, none⟩) hlt).trans c4, (hb.cell (p := ⟨b, off + i * 6 + 5, none⟩) hlt).trans c5⟩
theorem Pairs.at {W : World} {ao : Option Addr} {n cap : Nat} {ps : List (V × V)} (h : Pairs W (.slice ao n cap) ps) (k : Nat) (hk : k < ps.length) :
    ∃ b off, ao = some ⟨b, off, none⟩ ∧ b < W.heap.size ∧ ps[k].1.Ok ∧ ps[k].2.Ok ∧ W.cell? ⟨b, off + k * 6, none⟩ = some (.bool ps[k].1.k) ∧ W.cell? ⟨b, off + k * 6 + 1, none⟩ = some (.string ps[k].1.s) ∧ W.cell? ⟨b, off + k * 6 + 2, none⟩ = some (.int .i64 ps[k].1.n) ∧
      W.cell? ⟨b, off + k * 6 + 3, none⟩ = some (.bool ps[k].2.k) ∧ W.cell? ⟨b, off + k * 6 + 3 + 1, none⟩ = some (.string ps[k].2.s) ∧ W.cell? ⟨b, off + k * 6 + 3 + 2, none⟩ = some (.int .i64 ps[k].2.n) := by
  obtain ⟨ao', cap', e, h2, h3, h4⟩ := h
  injection e with e1
  subst e1
  obtain ⟨b, off, e, hlt, c0, c1, c2, c3, c4, c5⟩ := h4 k hk
  have := h3 _ (List.getElem_mem hk)
  exact ⟨b, off, e, hlt, this.1, this.2, c0, c1, c2, c3, c4, c5⟩
theorem cellsPair : Try.prog.cellsOf 56 = 6 := by kernel_rfl
theorem trod_v {H : Type} {enc : TypeId × Value → H} {W : World} {sp : Nat → Bool} {hd : Bool} {base fuel : Nat} {c0 c1 c2 : Value} {y : DataW H × List MemPlace}
    (hf : DataW.trod enc Try.prog W base sp hd fuel 55 [c0, c1, c2] = some y) : ∃ v : V, v.Ok ∧ c0 = .bool v.k ∧ c1 = .string v.s ∧ c2 = .int .i64 v.n := by
  obtain ⟨y0, y1, y2, k, -, -, g0, g1, g2⟩ := trod_struct3 Try.underlying55 hf
  simp [cellsB, cellsS, cellsI] at g0 g1 g2
  obtain ⟨x0, e0, -⟩ := DataW.trod_bool Try.underlying4 g0
  obtain ⟨x1, e1, -, hs⟩ := DataW.trod_string Try.underlying9 g1
  obtain ⟨x2, e2, -, wn⟩ := DataW.trod_int Try.underlying2 g2
  simp at e0 e1 e2
  have hb' := bounds_i64 wn
  exact ⟨⟨x0, x1, x2⟩, ⟨hs, hb'.1, hb'.2⟩, e0, e1, e2⟩
/-- A list of pairs that came in. -/
theorem open_pairs {H : Type} {enc : TypeId × Value → H} {W : World} {r : Reach} {b0 : Nat} {x : Value} {d : DataW H} {p : List MemPlace} {sp : Nat → Bool} {hd : Bool} {base : Nat}
    (hv : Value.okWide Try.prog W r b0 53 x) (h : DataW.Trod enc Try.prog W base sp hd 53 x d p) :
    ∃ ps : List (V × V), Pairs W x ps := by
  obtain ⟨a0, len, cap, rfl⟩ := okWide_slice Try.underlying53 hv
  obtain ⟨fuel, hf⟩ := h
  rcases open_slice Try.underlying53 hf with ⟨hc, -⟩ | ⟨a, len', cap', m, n, D, Pl, hc, hb, hl, hm, hmm, hdat, hx⟩
  · simp [Value.cells] at hc
    obtain ⟨rfl, rfl, rfl⟩ := hc
    exact ⟨[], none, 0, rfl, by simp [maxLen], fun _ h => by simp at h, fun i hi => by simp at hi⟩
  · simp [Value.cells] at hc
    obtain ⟨rfl, rfl, rfl⟩ := hc
    have hlm : len ≤ m := by rw [hmm]; split <;> omega
    have each : ∀ i, i < len → ∃ q : V × V, q.1.Ok ∧ q.2.Ok ∧ W.cell? (a.add (i * 6)) = some (.bool q.1.k) ∧ W.cell? (a.add (i * 6 + 1)) = some (.string q.1.s) ∧ W.cell? (a.add (i * 6 + 2)) = some (.int .i64 q.1.n) ∧
        W.cell? (a.add (i * 6 + 3)) = some (.bool q.2.k) ∧ W.cell? (a.add (i * 6 + 4)) = some (.string q.2.s) ∧ W.cell? (a.add (i * 6 + 5)) = some (.int .i64 q.2.n) := fun i hi => by
      obtain ⟨cs', h1, h2⟩ := hx i (by omega)
      rw [cellsPair] at h1
      obtain ⟨_, hlen, hcell⟩ := World.cells?_some h1
      obtain ⟨xs, mm, -, -, hl2, hxs, hf2⟩ := DataW.trod_array Try.underlying56 h2
      match cs', hlen, xs, hxs with
      | [c0, c1, c2, c3, c4, c5], _, [y0, y1], _ =>
        have g0 := hf2 0 (by decide)
        have g1 := hf2 1 (by decide)
        rw [cellsVal] at g0 g1
        simp at g0 g1
        obtain ⟨u, hu, rfl, rfl, rfl⟩ := trod_v g0
        obtain ⟨v, hv2, rfl, rfl, rfl⟩ := trod_v g1
        have q0 := hcell 0 (by omega)
        have q1 := hcell 1 (by omega)
        have q2 := hcell 2 (by omega)
        have q3 := hcell 3 (by omega)
        have q4 := hcell 4 (by omega)
        have q5 := hcell 5 (by omega)
        rw [add_add] at q0 q1 q2 q3 q4 q5
        exact ⟨(u, v), hu, hv2, by simpa using q0, by simpa using q1, by simpa using q2, by simpa using q3, by simpa using q4, by simpa using q5⟩
    have : Inhabited (V × V) := ⟨(⟨false, ⟨#[]⟩, 0⟩, ⟨false, ⟨#[]⟩, 0⟩)⟩
    obtain ⟨f, hfx⟩ := choose_lt each
    refine ⟨(List.range len).map f, some a, cap, by simp, by simp; omega, ?_, ?_⟩
    · intro v hv'
      obtain ⟨i, hi, rfl⟩ := List.mem_map.1 hv'
      have := hfx i (by simpa using hi)
      exact ⟨this.1, this.2.1⟩
    · intro i hi
      simp at hi
      obtain ⟨-, -, e0, e1, e2, e3, e4, e5⟩ := hfx i hi
      have hsp : a.spot = none := by
        have := World.cell?_spot (hfx 0 (by omega)).2.2.1
        simpa [Addr.add] using this
      obtain ⟨b, off, sp'⟩ := a
      simp at hsp
      subst hsp
      rw [add_none] at e0 e1 e2 e3 e4 e5
      exact ⟨b, off, rfl, lt_of_cell e0, by simpa using e0, by simpa [Nat.add_assoc] using e1, by simpa [Nat.add_assoc] using e2, by simpa [Nat.add_assoc] using e3, by simpa [Nat.add_assoc] using e4, by simpa [Nat.add_assoc] using e5⟩

/-- Rows with one more, if it isn't there. -/
def addRow (M : List (List V)) (r : List V) : List (List V) := if r ∈ M then M else M ++ [r]
/-- A pair as a row. -/
def prow (p : V × V) : List V := [p.1.bare, p.2.bare]
/-- The rows of pairs, as they come, each once. -/
def fillM (M : List (List V)) (ps : List (V × V)) : List (List V) := ps.foldl (fun M p => addRow M (prow p)) M
theorem fillM_snoc (M : List (List V)) (ps : List (V × V)) (p : V × V) : fillM M (ps ++ [p]) = addRow (fillM M ps) (prow p) := by simp [fillM]
theorem mem_addRow {M : List (List V)} {r u : List V} : u ∈ addRow M r ↔ u ∈ M ∨ u = r := by
  unfold addRow
  split
  · rename_i h
    exact ⟨.inl, fun h' => h'.elim id (fun e => e ▸ h)⟩
  · simp
theorem mem_fillM (ps : List (V × V)) : ∀ {M : List (List V)} {u : List V}, u ∈ fillM M ps ↔ u ∈ M ∨ ∃ p ∈ ps, u = prow p := by
  induction ps with
  | nil => intro M u; simp [fillM]
  | cons p ps ih =>
    intro M u
    show u ∈ fillM (addRow M (prow p)) ps ↔ _
    rw [ih, mem_addRow]
    simp only [List.mem_cons, exists_eq_or_imp, or_assoc]
theorem AddTold.row {w w' : World} {B : Nat} {F : Nat → Prop} {rb ar c : Nat} {M : List (List V)} {s1 s2 : Nat} {r : List V} {e : Ending} (h : AddTold w B F rb ar c M s1 s2 r e w') :
    ∃ F', e = .returned (.tuple #[.bool (decide (r ∉ M)), .int .i64 0]) ∧ Turns F w w' ∧ (∀ k, F' k → F k ∨ w.heap.size ≤ k ∧ k < w'.heap.size) ∧ Rln w' B F' rb ar (c + 1) (addRow M r) s1 s2 := by
  obtain ⟨F', b, M', rfl, ht, hF, hR, ⟨rfl, hm, rfl⟩ | ⟨rfl, hm, rfl⟩⟩ := h
  · exact ⟨F', by simp [hm], ht, hF, by rw [addRow, if_pos hm]; exact hR⟩
  · exact ⟨F', by simp [hm], ht, hF, by rw [addRow, if_neg hm]; exact hR⟩

/-- What filling answers. -/
def FillOut (w : World) (ps : List (V × V)) (e : Ending) (w' : World) : Prop :=
  ∃ F c, e = .returned (.pointer (some ⟨w.heap.size, 0, none⟩)) ∧ c ≤ 40 ∧ Below w.heap.size w w' ∧ Rln w' w.heap.size F w.heap.size 2 c (fillM [] (ps.take 40)) 0 0

/-- One pair more, made as a row for the call. -/
theorem add_pair {w0 wr : World} {B : Nat} {F : Nat → Prop} {rb c : Nat} {M : List (List V)} {s1 s2 : Nat} (hR : Rln wr B F rb 2 c M s1 s2) (hb0 : Below w0.heap.size w0 wr) (hB : w0.heap.size ≤ B) (hc : c < 9000) {p : V × V} (hu : p.1.Ok) (hv : p.2.Ok) {W : World} {q : Nat} (hq : wr.heap.size ≤ q) (hV : Vals W (.slice (some ⟨q, 0, none⟩) 2 2) [p.1, p.2]) (hb : Below wr.heap.size wr W) :
    Calls Try.prog 8 #[.pointer (some ⟨rb, 0, none⟩), .slice (some ⟨q, 0, none⟩) 2 2] W fun e w' => ∃ F', e = .returned (.tuple #[.bool (decide (prow p ∉ M)), .int .i64 0]) ∧ Below w0.heap.size w0 w' ∧ Rln w' B F' rb 2 (c + 1) (addRow M (prow p)) s1 s2 := by
  have hRW := hR.below hb
  refine (add_rln hRW hV (Apart.at (fun g => ?_)) rfl (by omega)).mono ?_
  · have := (hR.low.1 _ g).2
    simp at this; omega
  · intro e w' h
    obtain ⟨F', he, ht, -, hR'⟩ := h.row
    exact ⟨F', he, hRW.step ht (hb0.trans (hb.mono hb0.size)) hB, hR'⟩

set_option maxHeartbeats 1600000 in
theorem filled_any {w : World} {x : Value} {ps : List (V × V)} (hx : Pairs w x ps) :
    Calls Try.prog 23 #[x] w fun e w' => FillOut w ps e w' := by
  obtain ⟨ao, cap, rfl, hm⟩ := hx.len
  unfold maxLen at hm
  have HX := Lib.hid hx
  have hN := Lib.hid (new_rel w 2 (by decide))
  clear hx
  go_enter Try.func23, Try.ntmps23
  go_wp2_with fail
  refine (hN.out).mono ?_
  rintro e w1 ⟨rfl, hb1, hR1⟩
  have HB1 := Lib.hid hb1
  have HR1 := Lib.hid hR1
  clear hb1 hR1 hN
  go_wp2_with fail
  go_loopw [4] (fun i wr => ∃ (k : Nat) (F : Nat → Prop), k ≤ ps.length ∧ k ≤ 40 ∧ i = .int .i64 k ∧ Hid (Rln wr w.heap.size F w.heap.size 2 k (fillM [] (ps.take k)) 0 0) ∧ Hid (Below w.heap.size w wr)) (fun i _ => 50 - (intOf i).toNat)
  case atStart => exact ⟨0, _, Nat.zero_le _, by omega, rfl, HR1, HB1⟩
  case round =>
    clear HR1 HB1
    obtain ⟨k, F, hk, hk4, rfl, HR, HB⟩ := hrel
    by_cases hlt : k < ps.length
    · by_cases h4 : k < 40
      · have h1I : (k : Int) < (ps.length : Int) := by omega
        have h4I : (k : Int) < 40 := by omega
        obtain ⟨b, off, rfl, hbl, hu, hv, c0, c1, c2, c3, c4, c5⟩ := (HX.out.below HB.out).at k hlt
        have HNX : Hid (fillM [] (ps.take (k + 1)) = addRow (fillM [] (ps.take k)) (prow ps[k])) := by
          show fillM _ _ = _
          rw [List.take_succ_eq_append_getElem hlt, fillM_snoc]
        have hA := Lib.hid (fun W q => add_pair (W := W) (q := q) HR.out HB.out (Nat.le_refl _) (by omega) hu hv)
        rw [← HNX.out] at hA
        generalize decide (prow ps[k] ∉ fillM [] (ps.take k)) = z at *
        generalize hpe : ps[k] = p at *
        clear hpe HNX HR hk hm
        obtain ⟨u, v⟩ := p
        simp only at *
        have HUV : Hid (u.Ok ∧ v.Ok) := ⟨hu, hv⟩
        clear hu hv
        go_wp2_with fail
        go_region_with (go_at_call 8; refine (hA.out _ wr.heap.size (Nat.le_refl _) (by first | exact vals_new2 wr HUV.out.1 HUV.out.2 | exact (vals_new2 wr HUV.out.1 HUV.out.2).below ((Below.refl _ _).drew) | exact vals_new2 wr.drew HUV.out.1 HUV.out.2) (by first | exact ((Below.refl _ _).alloc (Nat.le_refl _) _) | exact ((Below.refl _ _).alloc (Nat.le_refl _) _).drew | exact ((Below.refl _ _).drew).alloc (by simp) _)).mono ?_; rintro e w' ⟨F', rfl, hbN, hRN⟩; have HRN := Lib.hid hRN; have HBN := Lib.hid hbN; clear hRN hbN)
        all_goals
          go_wp2
          go_roundw
          case rel => exact ⟨k + 1, F', by omega, by omega, by go_num, HRN, HBN⟩
          case measure => simp [intOf]; omega
      · have h1I : (k : Int) < (ps.length : Int) := by omega
        have h4I : ¬ (k : Int) < 40 := by omega
        obtain rfl : k = 40 := by omega
        go_wp2
        go_ret
        exact ⟨F, 40, rfl, Nat.le_refl _, HB.out, HR.out⟩
    · have h1I : ¬ (k : Int) < (ps.length : Int) := by omega
      have e : ps.take 40 = ps.take k := by rw [List.take_of_length_le (by omega), List.take_of_length_le (by omega)]
      have HE := Lib.hid e
      clear e
      go_wp2
      go_ret
      exact ⟨F, k, rfl, hk4, HB.out, by rw [HE.out]; exact HR.out⟩
end Go.Proofs.Ytkkpcphmojegmaa
