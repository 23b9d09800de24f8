/-
  Programs, rules, literals, atoms that came in: what they hold, how much, and that each name is as short as a text can be. Plain facts; no walk.
-/
import Derived.Test.YtcpdikhiodbdjaaSfMem
import Derived.Test.YtcpdikhiodbdjaaLift
import Derived.Test.YtcpdikhiodbdjaaRows
import Derived.Deep.Strs
import Derived.Maps.OwnSet
import Derived.Maps.AppendAt
import Derived.Lib.SmallJoins
import Derived.SizedLaws
namespace Go.Proofs.Ytcpdikhiodbdjaa
set_option linter.unusedSimpArgs false
set_option linter.unusedVariables false
set_option linter.unusedSectionVars false
set_option maxRecDepth 100000
open Go.RowKit Go.Maps Go.Deep Go.WideShapes Go.Joins

theorem bulkAllP {H : Type} (l : List (DataW H)) : Rows.uptoBulkAll l = (l.map Rows.uptoBulk).sum := by
  induction l with
  | nil => simp [Rows.uptoBulkAll]
  | cons a l ih => simp [Rows.uptoBulkAll, ih]
theorem trod_list {H : Type} {enc : TypeId × Value → H} {W : World} {sp : Nat → Bool} {hd : Bool} {base fuel : Nat} {t e : TypeId} {cs : List Value} {y : DataW H × List MemPlace} {α : Type} [Inhabited α] {R : RelW α} {Q : α → Prop} {sz : α → Nat} {k : Nat}
    (ht : Try.prog.underlying t = some (.slice e)) (hk : Try.prog.cellsOf e = k) (hk0 : 0 < k)
    (hel : ∀ n cs' (y : DataW H × List MemPlace), DataW.trod enc Try.prog W base sp hd n e cs' = some y → cs'.length = k → ∃ a : α, R W a cs' ∧ Q a ∧ sz a ≤ Rows.uptoBulk y.1)
    (hf : DataW.trod enc Try.prog W base sp hd fuel t cs = some y) : ∃ x L, cs = [x] ∧ RdL R k W x L ∧ (∀ a ∈ L, Q a) ∧ (L.map sz).sum ≤ Rows.uptoBulk y.1 := by
  rcases open_slice ht hf with ⟨rfl, -⟩ | ⟨a, len, cap, m, n, D, Pl, rfl, hb, hl, hm, hmm, hdat, hx⟩
  · exact ⟨_, [], rfl, RdL.nil _ _ _, by simp, by simp⟩
  · have hlm : len ≤ m := by rw [hmm]; split <;> omega
    have each : ∀ i, i < len → ∃ q : α × List Value, (R W q.1 q.2 ∧ Q q.1 ∧ sz q.1 ≤ Rows.uptoBulk (D i)) ∧ q.2.length = k ∧ ∀ j u, q.2[j]? = some u → W.cell? (a.add (i * k + j)) = some u := fun i hi => by
      obtain ⟨cs', h1, h2⟩ := hx i (by omega)
      rw [hk] at h1
      obtain ⟨_, hlen, hcell⟩ := World.cells?_some h1
      obtain ⟨q, hq⟩ := hel n cs' _ h2 hlen
      refine ⟨(q, cs'), hq, hlen, fun j u hj => ?_⟩
      have hjk : j < k := by have := (List.getElem?_eq_some_iff.1 hj).1; simp only at this; omega
      have := hcell j hjk
      rw [add_add] at this
      rw [this]
      exact hj
    obtain ⟨f, hfx⟩ := choose_lt each
    have hdd : y.1 = .slice ((List.range len).map D) ((List.range (m - len)).map fun j => D (len + j)) := congrArg Prod.fst hdat
    refine ⟨_, (List.range len).map (fun i => (f i).1), rfl, ⟨some a, cap, by simp, ⟨by simp; omega, fun e => by cases e⟩, by simp; omega, ?_⟩, ?_, ?_⟩
    · intro i hi
      simp at hi
      obtain ⟨⟨h1, -⟩, h2, h3⟩ := hfx i hi
      obtain ⟨u0, hu0⟩ : ∃ u, (f i).2[0]? = some u := ⟨_, List.getElem?_eq_getElem (by omega)⟩
      have hc0 := h3 0 u0 hu0
      have hsp : a.spot = none := by
        obtain ⟨-, h2', h3'⟩ := hfx 0 (by omega)
        obtain ⟨v0, hv0⟩ : ∃ u, (f 0).2[0]? = some u := ⟨_, List.getElem?_eq_getElem (by omega)⟩
        have := World.cell?_spot (h3' 0 v0 hv0)
        simpa [Addr.add] using this
      obtain ⟨b, off, sp'⟩ := a
      simp at hsp
      subst hsp
      rw [add_noneK] at hc0
      refine ⟨b, off, (f i).2, rfl, lt_of_cell hc0, by simpa using h1, fun j u hj => ?_⟩
      have := h3 j u hj
      rw [add_noneK] at this
      simpa [Nat.add_assoc] using this
    · intro q hq
      obtain ⟨i, hi, rfl⟩ := List.mem_map.1 hq
      exact (hfx i (by simpa using hi)).1.2.1
    · rw [hdd]
      have h2 : (((List.range len).map (fun i => (f i).1)).map sz).sum ≤ Rows.uptoBulkAll ((List.range len).map D) := by
        rw [bulkAllP, List.map_map, List.map_map]
        have aux : ∀ l : List Nat, (∀ i ∈ l, sz (f i).1 ≤ Rows.uptoBulk (D i)) → (l.map (sz ∘ fun i => (f i).1)).sum ≤ (l.map (Rows.uptoBulk ∘ D)).sum := by
          intro l
          induction l with
          | nil => simp
          | cons a l ih =>
            intro h
            have h1 := h a (by simp)
            have h2 := ih (fun i hi => h i (by simp [hi]))
            simp only [List.map_cons, List.sum_cons, Function.comp_apply] at h2 ⊢
            omega
        exact aux _ (fun i hi => (hfx i (by simpa using hi)).1.2.2)
      simp only [Rows.uptoBulk]
      omega

theorem cellsTmP : Try.prog.cellsOf 51 = 5 := by kernel_rfl
theorem cellsVlP : Try.prog.cellsOf 49 = 3 := by kernel_rfl
theorem cellsAmP : Try.prog.cellsOf 24 = 2 := by kernel_rfl
theorem cellsLtP : Try.prog.cellsOf 53 = 14 := by kernel_rfl
theorem cellsRuP : Try.prog.cellsOf 27 = 3 := by kernel_rfl
theorem cellsDeP : Try.prog.cellsOf 113 = 2 := by kernel_rfl
theorem cellsBP : Try.prog.cellsOf 4 = 1 := by kernel_rfl
theorem cellsSP : Try.prog.cellsOf 9 = 1 := by kernel_rfl
theorem cellsNP : Try.prog.cellsOf 3 = 1 := by kernel_rfl
theorem cellsIP : Try.prog.cellsOf 2 = 1 := by kernel_rfl
theorem cellsLT : Try.prog.cellsOf 22 = 1 := by kernel_rfl
theorem cellsLL : Try.prog.cellsOf 25 = 1 := by kernel_rfl
theorem cellsLR : Try.prog.cellsOf 29 = 1 := by kernel_rfl
theorem cellsLD : Try.prog.cellsOf 28 = 1 := by kernel_rfl

variable {H : Type} {enc : TypeId × Value → H} {W : World} {sp : Nat → Bool} {hd : Bool} {base : Nat}

theorem trod_valP {fuel : Nat} {cs : List Value} {y : DataW H × List MemPlace} (hf : DataW.trod enc Try.prog W base sp hd fuel 49 cs = some y) :
    ∃ (k : Bool) (s : ByteArray) (n : Int), cs = [.bool k, .string s, .int .i64 n] ∧ InR n ∧ s.size + 4 ≤ Rows.uptoBulk y.1 := by
  obtain ⟨xs, n, _, rfl, hl, hlen, hf⟩ := DataW.trod_struct Try.underlying49 hf
  rw [cellsVlP] at hl
  match xs, hlen, cs, hl with
  | [y0, y1, y2], _, [c0, c1, c2], _ =>
    have g0 := hf 0 _ rfl
    have g1 := hf 1 _ rfl
    have g2 := hf 2 _ rfl
    simp [cellsBP, cellsSP, cellsIP] at g0 g1 g2
    obtain ⟨x0, e0, f0⟩ := DataW.trod_bool Try.underlying4 g0
    obtain ⟨x1, e1, f1, hs⟩ := DataW.trod_string Try.underlying9 g1
    obtain ⟨x2, e2, f2, wn⟩ := DataW.trod_int Try.underlying2 g2
    simp at e0 e1 e2
    have hb' := bounds_i64 wn
    refine ⟨x0, x1, x2, by rw [e0, e1, e2], ⟨hb'.1, by have := hb'.2; omega⟩, ?_⟩
    simp [f0, f1, f2, Rows.uptoBulk, Rows.uptoBulkAll]
    omega
theorem trod_tm {fuel : Nat} {cs : List Value} {y : DataW H × List MemPlace} (hf : DataW.trod enc Try.prog W base sp hd fuel 51 cs = some y) :
    ∃ t : Tm, cs = t.cells ∧ OkTm t ∧ szTm t ≤ Rows.uptoBulk y.1 := by
  obtain ⟨xs, n, _, rfl, hl, hlen, hf⟩ := DataW.trod_struct Try.underlying51 hf
  rw [cellsTmP] at hl
  match xs, hlen, cs, hl with
  | [y0, y1, y2], _, [c0, c1, c2, c3, c4], _ =>
    have g0 := hf 0 _ rfl
    have g1 := hf 1 _ rfl
    have g2 := hf 2 _ rfl
    simp [cellsBP, cellsSP, cellsVlP] at g0 g1 g2
    obtain ⟨x0, e0, f0⟩ := DataW.trod_bool Try.underlying4 g0
    obtain ⟨x1, e1, f1, hs⟩ := DataW.trod_string Try.underlying9 g1
    obtain ⟨k, s, n, e2, hn, hb⟩ := trod_valP g2
    simp at e0 e1 e2
    obtain ⟨e2, e3, e4⟩ := e2
    refine ⟨⟨x0, x1, k, s, n⟩, by rw [e0, e1, e2, e3, e4]; rfl, ⟨hn, hs⟩, ?_⟩
    simp [f0, f1, Rows.uptoBulk, Rows.uptoBulkAll, szTm] at hb ⊢
    omega
theorem trod_tms {fuel : Nat} {cs : List Value} {y : DataW H × List MemPlace} (hf : DataW.trod enc Try.prog W base sp hd fuel 22 cs = some y) :
    ∃ x L, cs = [x] ∧ Tms W x L ∧ (∀ a ∈ L, OkTm a) ∧ szTms L ≤ Rows.uptoBulk y.1 :=
  have : Inhabited Tm := ⟨Tm.zero⟩
  trod_list Try.underlying22 cellsTmP (by omega) (fun n cs' y h hl => by obtain ⟨t, h1, h2, h3⟩ := trod_tm h; exact ⟨t, h1, h2, h3⟩) hf
theorem trod_am {fuel : Nat} {cs : List Value} {y : DataW H × List MemPlace} (hf : DataW.trod enc Try.prog W base sp hd fuel 24 cs = some y) :
    ∃ (a : Am) (x : Value), cs = [.string a.p, x] ∧ Tms W x a.args ∧ OkAm a ∧ szAm a ≤ Rows.uptoBulk y.1 := by
  obtain ⟨xs, n, _, rfl, hl, hlen, hf⟩ := DataW.trod_struct Try.underlying24 hf
  rw [cellsAmP] at hl
  match xs, hlen, cs, hl with
  | [y0, y1], _, [c0, c1], _ =>
    have g0 := hf 0 _ rfl
    have g1 := hf 1 _ rfl
    simp [cellsSP, cellsLT] at g0 g1
    obtain ⟨x0, e0, f0, -⟩ := DataW.trod_string Try.underlying9 g0
    obtain ⟨x, L, e1, hx, hI, hb⟩ := trod_tms g1
    simp at e0 e1
    refine ⟨⟨x0, L⟩, x, by rw [e0, e1], hx, hI, ?_⟩
    simp [f0, Rows.uptoBulk, Rows.uptoBulkAll, szAm] at hb ⊢
    omega
theorem trod_lt {fuel : Nat} {cs : List Value} {y : DataW H × List MemPlace} (hf : DataW.trod enc Try.prog W base sp hd fuel 53 cs = some y) :
    ∃ l : Lt, LtI W l cs ∧ OkLt l ∧ szLt l ≤ Rows.uptoBulk y.1 := by
  obtain ⟨xs, n, _, rfl, hl, hlen, hf⟩ := DataW.trod_struct Try.underlying53 hf
  rw [cellsLtP] at hl
  match xs, hlen, cs, hl with
  | [y0, y1, y2, y3, y4], _, [c0, c1, c2, c3, c4, c5, c6, c7, c8, c9, c10, c11, c12, c13], _ =>
    have g0 := hf 0 _ rfl
    have g1 := hf 1 _ rfl
    have g2 := hf 2 _ rfl
    have g3 := hf 3 _ rfl
    have g4 := hf 4 _ rfl
    simp [cellsNP, cellsAmP, cellsSP, cellsTmP] at g0 g1 g2 g3 g4
    obtain ⟨x0, e0, f0, -⟩ := DataW.trod_int Try.underlying3 g0
    obtain ⟨a, x, e1, hx, hI, hb⟩ := trod_am g1
    obtain ⟨x2, e2, f2, -⟩ := DataW.trod_string Try.underlying9 g2
    obtain ⟨t, e3, hI1, hb1⟩ := trod_tm g3
    obtain ⟨u, e4, hI2, hb2⟩ := trod_tm g4
    simp [Tm.cells] at e0 e1 e2 e3 e4
    obtain ⟨e1, e1'⟩ := e1
    obtain ⟨a1, a2, a3, a4, a5⟩ := e3
    obtain ⟨b1, b2, b3, b4, b5⟩ := e4
    refine ⟨⟨x0, a, x2, t, u⟩, ⟨x, by rw [e0, e1, e1', e2, a1, a2, a3, a4, a5, b1, b2, b3, b4, b5]; rfl, hx⟩, ⟨hI, hI1, hI2⟩, ?_⟩
    simp [f0, f2, Rows.uptoBulk, Rows.uptoBulkAll, szLt] at hb hb1 hb2 ⊢
    omega
theorem trod_lts {fuel : Nat} {cs : List Value} {y : DataW H × List MemPlace} (hf : DataW.trod enc Try.prog W base sp hd fuel 25 cs = some y) :
    ∃ x L, cs = [x] ∧ Lts W x L ∧ (∀ a ∈ L, OkLt a) ∧ szLts L ≤ Rows.uptoBulk y.1 :=
  have : Inhabited Lt := ⟨Lt.zero⟩
  trod_list Try.underlying25 cellsLtP (by omega) (fun n cs' y h hl => trod_lt h) hf
theorem trod_ru {fuel : Nat} {cs : List Value} {y : DataW H × List MemPlace} (hf : DataW.trod enc Try.prog W base sp hd fuel 27 cs = some y) :
    ∃ r : Ru, RuI W r cs ∧ OkRu r ∧ szRu r ≤ Rows.uptoBulk y.1 := by
  obtain ⟨xs, n, _, rfl, hl, hlen, hf⟩ := DataW.trod_struct Try.underlying27 hf
  rw [cellsRuP] at hl
  match xs, hlen, cs, hl with
  | [y0, y1], _, [c0, c1, c2], _ =>
    have g0 := hf 0 _ rfl
    have g1 := hf 1 _ rfl
    simp [cellsAmP, cellsLL] at g0 g1
    obtain ⟨a, x, e1, hx, hI, hb⟩ := trod_am g0
    obtain ⟨z, L, e2, hz, hI2, hb2⟩ := trod_lts g1
    simp at e1 e2
    obtain ⟨e1, e1'⟩ := e1
    refine ⟨⟨a, L⟩, ⟨x, z, by rw [e1, e1', e2], hx, hz⟩, ⟨hI, hI2⟩, ?_⟩
    simp [Rows.uptoBulk, Rows.uptoBulkAll, szRu] at hb hb2 ⊢
    omega
theorem trod_rus {fuel : Nat} {cs : List Value} {y : DataW H × List MemPlace} (hf : DataW.trod enc Try.prog W base sp hd fuel 29 cs = some y) :
    ∃ x L, cs = [x] ∧ Rus W x L ∧ (∀ a ∈ L, OkRu a) ∧ szRus L ≤ Rows.uptoBulk y.1 :=
  have : Inhabited Ru := ⟨Ru.zero⟩
  trod_list Try.underlying29 cellsRuP (by omega) (fun n cs' y h hl => trod_ru h) hf
theorem trod_de {fuel : Nat} {cs : List Value} {y : DataW H × List MemPlace} (hf : DataW.trod enc Try.prog W base sp hd fuel 113 cs = some y) :
    ∃ d : De, cs = d.cells ∧ InDe d ∧ szDe d ≤ Rows.uptoBulk y.1 := by
  obtain ⟨xs, n, _, rfl, hl, hlen, hf⟩ := DataW.trod_struct Try.underlying113 hf
  rw [cellsDeP] at hl
  match xs, hlen, cs, hl with
  | [y0, y1], _, [c0, c1], _ =>
    have g0 := hf 0 _ rfl
    have g1 := hf 1 _ rfl
    simp [cellsSP, cellsNP] at g0 g1
    obtain ⟨x0, e0, f0, -⟩ := DataW.trod_string Try.underlying9 g0
    obtain ⟨x1, e1, f1, wn⟩ := DataW.trod_int Try.underlying3 g1
    simp at e0 e1
    have hb' := bounds_i64 wn
    refine ⟨⟨x0, x1⟩, by rw [e0, e1]; rfl, ⟨hb'.1, by have := hb'.2; omega⟩, ?_⟩
    simp [f0, f1, Rows.uptoBulk, Rows.uptoBulkAll, szDe]
theorem trod_des {fuel : Nat} {cs : List Value} {y : DataW H × List MemPlace} (hf : DataW.trod enc Try.prog W base sp hd fuel 28 cs = some y) :
    ∃ x L, cs = [x] ∧ Des W x L ∧ (∀ a ∈ L, InDe a) ∧ szDes L ≤ Rows.uptoBulk y.1 :=
  have : Inhabited De := ⟨De.zero⟩
  trod_list Try.underlying28 cellsDeP (by omega) (fun n cs' y h hl => by obtain ⟨t, h1, h2, h3⟩ := trod_de h; exact ⟨t, h1, h2, h3⟩) hf

/-- What came in as a program. -/
theorem open_prog {r : Reach} {b0 : Nat} {v : Value} {d : DataW H} {p : List MemPlace} (hv : Value.okWide Try.prog W r b0 31 v) (h : DataW.Trod enc Try.prog W base sp hd 31 v d p) :
    ∃ (g : Pr) (x y : Value), v = .agg #[x, y] ∧ Des W x g.decls ∧ Rus W y g.rules ∧ OkPr g ∧ szPr g ≤ Rows.uptoBulk d := by
  obtain ⟨fuel, hf⟩ := h
  obtain ⟨cs, rfl, hsz⟩ := okWide_struct Try.underlying31 hv
  obtain ⟨xs, n, _, he, hl, hlen, hf⟩ := DataW.trod_struct Try.underlying31 hf
  have hl2 : cs.toList.length = 2 := by rw [Array.length_toList, hsz]; kernel_rfl
  obtain ⟨cs⟩ := cs
  simp only [Value.cells] at hl2 hf
  match xs, hlen, cs, hl2 with
  | [y0, y1], _, [c0, c1], _ =>
    have g0 := hf 0 _ rfl
    have g1 := hf 1 _ rfl
    simp [cellsLD, cellsLR] at g0 g1
    obtain ⟨x, L, e1, hx, hI, hb⟩ := trod_des g0
    obtain ⟨z, M, e2, hz, hI2, hb2⟩ := trod_rus g1
    simp at e1 e2
    subst e1 e2
    refine ⟨⟨L, M⟩, c0, c1, rfl, hx, hz, ⟨hI, hI2⟩, ?_⟩
    have := congrArg Prod.fst he
    simp only at this
    rw [this]
    simp [Rows.uptoBulk, Rows.uptoBulkAll, szPr] at hb hb2 ⊢
    omega
/-- What came in as a list of declarations. -/
theorem open_des {r : Reach} {b0 : Nat} {v : Value} {d : DataW H} {p : List MemPlace} (hv : Value.okWide Try.prog W r b0 28 v) (h : DataW.Trod enc Try.prog W base sp hd 28 v d p) :
    ∃ (L : List De), Des W v L ∧ (∀ a ∈ L, InDe a) ∧ szDes L ≤ Rows.uptoBulk d := by
  obtain ⟨a0, len, cap, rfl⟩ := okWide_slice Try.underlying28 hv
  obtain ⟨fuel, hf⟩ := h
  obtain ⟨x, L, e, hx, hI, hb⟩ := trod_des hf
  simp [Value.cells] at e
  subst e
  exact ⟨L, hx, hI, hb⟩
theorem arr_of {cs : Array Value} {l : List Value} (h : cs.toList = l) : cs = l.toArray := by rw [← h]
theorem open_ru {r : Reach} {b0 : Nat} {v : Value} {d : DataW H} {p : List MemPlace} (hv : Value.okWide Try.prog W r b0 27 v) (h : DataW.Trod enc Try.prog W base sp hd 27 v d p) :
    ∃ (q : Ru) (x y : Value), v = .agg #[.string q.head.p, x, y] ∧ Tms W x q.head.args ∧ Lts W y q.body ∧ OkRu q ∧ szRu q ≤ Rows.uptoBulk d := by
  obtain ⟨fuel, hf⟩ := h
  obtain ⟨cs, rfl, -⟩ := okWide_struct Try.underlying27 hv
  obtain ⟨q, ⟨x, y, e, hx, hy⟩, hI, hb⟩ := trod_ru hf
  exact ⟨q, x, y, by rw [arr_of (cs := cs) e], hx, hy, hI, hb⟩
theorem open_lt {r : Reach} {b0 : Nat} {v : Value} {d : DataW H} {p : List MemPlace} (hv : Value.okWide Try.prog W r b0 53 v) (h : DataW.Trod enc Try.prog W base sp hd 53 v d p) :
    ∃ (q : Lt) (x : Value), v = .agg (LtC q x).toArray ∧ Tms W x q.atom.args ∧ OkLt q ∧ szLt q ≤ Rows.uptoBulk d := by
  obtain ⟨fuel, hf⟩ := h
  obtain ⟨cs, rfl, -⟩ := okWide_struct Try.underlying53 hv
  obtain ⟨q, ⟨x, e, hx⟩, hI, hb⟩ := trod_lt hf
  exact ⟨q, x, by rw [arr_of (cs := cs) e], hx, hI, hb⟩
theorem open_am {r : Reach} {b0 : Nat} {v : Value} {d : DataW H} {p : List MemPlace} (hv : Value.okWide Try.prog W r b0 24 v) (h : DataW.Trod enc Try.prog W base sp hd 24 v d p) :
    ∃ (q : Am) (x : Value), v = .agg #[.string q.p, x] ∧ Tms W x q.args ∧ OkAm q ∧ szAm q ≤ Rows.uptoBulk d := by
  obtain ⟨fuel, hf⟩ := h
  obtain ⟨cs, rfl, -⟩ := okWide_struct Try.underlying24 hv
  obtain ⟨q, x, e, hx, hI, hb⟩ := trod_am hf
  exact ⟨q, x, by rw [arr_of (cs := cs) e], hx, hI, hb⟩
end Go.Proofs.Ytcpdikhiodbdjaa
