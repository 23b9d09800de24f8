/-
  Programs, rules, literals, atoms, facts that came in: what they hold, and how much. Plain facts; no walk.
-/
import Derived.Test.YtddioikfhabjpaaGreatDoorPA
import Derived.Test.YtddioikfhabjpaaGreatDoorLift
import Derived.Test.YtddioikfhabjpaaGreatDoorRows
import Derived.Deep.Strs
import Derived.Maps.OwnSet
import Derived.Maps.AppendAt
import Derived.Lib.SmallJoins
import Derived.SizedLaws
import Derived.Test.YtddioikfhabjpaaGreatDoorPD
import Derived.Test.YtddioikfhabjpaaGreatDoorPB
import Derived.Deep.RegionHeld3
namespace Go.Proofs.YtddioikfhabjpaaGreatDoor
set_option linter.unusedSimpArgs false
set_option linter.unusedVariables false
set_option linter.unusedSectionVars false
set_option maxRecDepth 100000
open Go.RowKit Go.Maps Go.Deep Go.WideShapes Go.Joins

theorem bulkAllP {H : Type} (l : List (DataW H)) : Rows.uptoBulkAll l = (l.map Rows.uptoBulk).sum := by
  induction l with
  | nil => simp [Rows.uptoBulkAll]
  | cons a l ih => simp [Rows.uptoBulkAll, ih]
theorem trod_list {H : Type} {enc : TypeId × Value → H} {W : World} {sp : Nat → Bool} {hd : Bool} {base fuel : Nat} {t e : TypeId} {cs : List Value} {y : DataW H × List MemPlace} {α : Type} [Inhabited α] {R : RelW α} {Q : α → Prop} {sz : α → Nat} {k : Nat}
    (ht : Tryz.prog.underlying t = some (.slice e)) (hk : Tryz.prog.cellsOf e = k) (hk0 : 0 < k)
    (hel : ∀ n cs' (y : DataW H × List MemPlace), DataW.trod enc Tryz.prog W base sp hd n e cs' = some y → cs'.length = k → ∃ a : α, R W a cs' ∧ Q a ∧ sz a ≤ Rows.uptoBulk y.1)
    (hf : DataW.trod enc Tryz.prog W base sp hd fuel t cs = some y) : ∃ x L, cs = [x] ∧ RdL R k W x L ∧ (∀ a ∈ L, Q a) ∧ (L.map sz).sum ≤ Rows.uptoBulk y.1 := by
  rcases open_slice ht hf with ⟨rfl, -⟩ | ⟨a, len, cap, m, n, D, Pl, rfl, hb, hl, hm, hmm, hdat, hx⟩
  · exact ⟨_, [], rfl, RdL.nil _ _ _ _ _, by simp, by simp⟩
  · have hlm : len ≤ m := by rw [hmm]; split <;> omega
    have each : ∀ i, i < len → ∃ q : α × List Value, (R W q.1 q.2 ∧ Q q.1 ∧ sz q.1 ≤ Rows.uptoBulk (D i)) ∧ q.2.length = k ∧ ∀ j u, q.2[j]? = some u → W.cell? (a.add (i * k + j)) = some u := fun i hi => by
      obtain ⟨cs', h1, h2⟩ := hx i (by omega)
      rw [hk] at h1
      obtain ⟨_, hlen, hcell⟩ := World.cells?_some h1
      obtain ⟨q, hq⟩ := hel n cs' _ h2 hlen
      refine ⟨(q, cs'), hq, hlen, fun j u hj => ?_⟩
      have hjk : j < k := by have := (List.getElem?_eq_some_iff.1 hj).1; simp only at this; omega
      have := hcell j hjk
      rw [add_add] at this
      rw [this]
      exact hj
    obtain ⟨f, hfx⟩ := choose_lt each
    have hdd : y.1 = .slice ((List.range len).map D) ((List.range (m - len)).map fun j => D (len + j)) := congrArg Prod.fst hdat
    refine ⟨_, (List.range len).map (fun i => (f i).1), rfl, ⟨some a, cap, by simp, by simp; omega, by simp; omega, ?_⟩, ?_, ?_⟩
    · intro i hi
      simp at hi
      obtain ⟨⟨h1, -⟩, h2, h3⟩ := hfx i hi
      obtain ⟨u0, hu0⟩ : ∃ u, (f i).2[0]? = some u := ⟨_, List.getElem?_eq_getElem (by omega)⟩
      have hc0 := h3 0 u0 hu0
      have hsp : a.spot = none := by
        obtain ⟨-, h2', h3'⟩ := hfx 0 (by omega)
        obtain ⟨v0, hv0⟩ : ∃ u, (f 0).2[0]? = some u := ⟨_, List.getElem?_eq_getElem (by omega)⟩
        have := World.cell?_spot (h3' 0 v0 hv0)
        simpa [Addr.add] using this
      obtain ⟨b, off, sp'⟩ := a
      simp at hsp
      subst hsp
      rw [add_noneK] at hc0
      refine ⟨b, off, (f i).2, rfl, lt_of_cell hc0, by simpa using h1, fun j u hj => ?_⟩
      have := h3 j u hj
      rw [add_noneK] at this
      simpa [Nat.add_assoc] using this
    · intro q hq
      obtain ⟨i, hi, rfl⟩ := List.mem_map.1 hq
      exact (hfx i (by simpa using hi)).1.2.1
    · rw [hdd]
      have h2 : (((List.range len).map (fun i => (f i).1)).map sz).sum ≤ Rows.uptoBulkAll ((List.range len).map D) := by
        rw [bulkAllP, List.map_map, List.map_map]
        have aux : ∀ l : List Nat, (∀ i ∈ l, sz (f i).1 ≤ Rows.uptoBulk (D i)) → (l.map (sz ∘ fun i => (f i).1)).sum ≤ (l.map (Rows.uptoBulk ∘ D)).sum := by
          intro l
          induction l with
          | nil => simp
          | cons a l ih =>
            intro h
            have h1 := h a (by simp)
            have h2 := ih (fun i hi => h i (by simp [hi]))
            simp only [List.map_cons, List.sum_cons, Function.comp_apply] at h2 ⊢
            omega
        exact aux _ (fun i hi => (hfx i (by simpa using hi)).1.2.2)
      simp only [Rows.uptoBulk]
      omega

theorem cellsTmP : Tryz.prog.cellsOf 35 = 5 := by kernel_rfl
theorem cellsVlP : Tryz.prog.cellsOf 33 = 3 := by kernel_rfl
theorem cellsAmP : Tryz.prog.cellsOf 31 = 2 := by kernel_rfl
theorem cellsLtP : Tryz.prog.cellsOf 37 = 14 := by kernel_rfl
theorem cellsRuP : Tryz.prog.cellsOf 40 = 3 := by kernel_rfl
theorem cellsDeP : Tryz.prog.cellsOf 63 = 2 := by kernel_rfl
theorem cellsBP : Tryz.prog.cellsOf 4 = 1 := by kernel_rfl
theorem cellsSP : Tryz.prog.cellsOf 9 = 1 := by kernel_rfl
theorem cellsNP : Tryz.prog.cellsOf 3 = 1 := by kernel_rfl
theorem cellsIP : Tryz.prog.cellsOf 2 = 1 := by kernel_rfl
theorem cellsLT : Tryz.prog.cellsOf 29 = 1 := by kernel_rfl
theorem cellsLL : Tryz.prog.cellsOf 38 = 1 := by kernel_rfl
theorem cellsLR : Tryz.prog.cellsOf 23 = 1 := by kernel_rfl
theorem cellsLD : Tryz.prog.cellsOf 22 = 1 := by kernel_rfl
theorem cellsLV : Tryz.prog.cellsOf 41 = 1 := by kernel_rfl

variable {H : Type} {enc : TypeId × Value → H} {W : World} {sp : Nat → Bool} {hd : Bool} {base : Nat}

theorem trod_valP {fuel : Nat} {cs : List Value} {y : DataW H × List MemPlace} (hf : DataW.trod enc Tryz.prog W base sp hd fuel 33 cs = some y) :
    ∃ (k : Bool) (s : ByteArray) (n : Int), cs = [.bool k, .string s, .int .i64 n] ∧ InR n ∧ s.size + 4 ≤ Rows.uptoBulk y.1 := by
  obtain ⟨xs, n, _, rfl, hl, hlen, hf⟩ := DataW.trod_struct Tryz.underlying33 hf
  rw [cellsVlP] at hl
  match xs, hlen, cs, hl with
  | [y0, y1, y2], _, [c0, c1, c2], _ =>
    have g0 := hf 0 _ rfl
    have g1 := hf 1 _ rfl
    have g2 := hf 2 _ rfl
    simp [cellsBP, cellsSP, cellsIP] at g0 g1 g2
    obtain ⟨x0, e0, f0⟩ := DataW.trod_bool Tryz.underlying4 g0
    obtain ⟨x1, e1, f1, hs⟩ := DataW.trod_string Tryz.underlying9 g1
    obtain ⟨x2, e2, f2, wn⟩ := DataW.trod_int Tryz.underlying2 g2
    simp at e0 e1 e2
    have hb' := bounds_i64 wn
    refine ⟨x0, x1, x2, by rw [e0, e1, e2], ⟨hb'.1, by have := hb'.2; omega⟩, ?_⟩
    simp [f0, f1, f2, Rows.uptoBulk, Rows.uptoBulkAll]
    omega
theorem trod_tm {fuel : Nat} {cs : List Value} {y : DataW H × List MemPlace} (hf : DataW.trod enc Tryz.prog W base sp hd fuel 35 cs = some y) :
    ∃ t : Tm, cs = t.cells ∧ InTm t ∧ szTm t ≤ Rows.uptoBulk y.1 := by
  obtain ⟨xs, n, _, rfl, hl, hlen, hf⟩ := DataW.trod_struct Tryz.underlying35 hf
  rw [cellsTmP] at hl
  match xs, hlen, cs, hl with
  | [y0, y1, y2], _, [c0, c1, c2, c3, c4], _ =>
    have g0 := hf 0 _ rfl
    have g1 := hf 1 _ rfl
    have g2 := hf 2 _ rfl
    simp [cellsBP, cellsSP, cellsVlP] at g0 g1 g2
    obtain ⟨x0, e0, f0⟩ := DataW.trod_bool Tryz.underlying4 g0
    obtain ⟨x1, e1, f1, hs⟩ := DataW.trod_string Tryz.underlying9 g1
    obtain ⟨k, s, n, e2, hn, hb⟩ := trod_valP g2
    simp at e0 e1 e2
    obtain ⟨e2, e3, e4⟩ := e2
    refine ⟨⟨x0, x1, k, s, n⟩, by rw [e0, e1, e2, e3, e4]; rfl, hn, ?_⟩
    simp [f0, f1, Rows.uptoBulk, Rows.uptoBulkAll, szTm] at hb ⊢
    omega
theorem trod_tms {fuel : Nat} {cs : List Value} {y : DataW H × List MemPlace} (hf : DataW.trod enc Tryz.prog W base sp hd fuel 29 cs = some y) :
    ∃ x L, cs = [x] ∧ Tms W x L ∧ (∀ a ∈ L, InTm a) ∧ szTms L ≤ Rows.uptoBulk y.1 :=
  have : Inhabited Tm := ⟨Tm.zero⟩
  trod_list Tryz.underlying29 cellsTmP (by omega) (fun n cs' y h hl => by obtain ⟨t, h1, h2, h3⟩ := trod_tm h; exact ⟨t, h1, h2, h3⟩) hf
theorem trod_am {fuel : Nat} {cs : List Value} {y : DataW H × List MemPlace} (hf : DataW.trod enc Tryz.prog W base sp hd fuel 31 cs = some y) :
    ∃ (a : Am) (x : Value), cs = [.string a.p, x] ∧ Tms W x a.args ∧ InAm a ∧ szAm a ≤ Rows.uptoBulk y.1 := by
  obtain ⟨xs, n, _, rfl, hl, hlen, hf⟩ := DataW.trod_struct Tryz.underlying31 hf
  rw [cellsAmP] at hl
  match xs, hlen, cs, hl with
  | [y0, y1], _, [c0, c1], _ =>
    have g0 := hf 0 _ rfl
    have g1 := hf 1 _ rfl
    simp [cellsSP, cellsLT] at g0 g1
    obtain ⟨x0, e0, f0, -⟩ := DataW.trod_string Tryz.underlying9 g0
    obtain ⟨x, L, e1, hx, hI, hb⟩ := trod_tms g1
    simp at e0 e1
    refine ⟨⟨x0, L⟩, x, by rw [e0, e1], hx, hI, ?_⟩
    simp [f0, Rows.uptoBulk, Rows.uptoBulkAll, szAm] at hb ⊢
    omega
theorem trod_lt {fuel : Nat} {cs : List Value} {y : DataW H × List MemPlace} (hf : DataW.trod enc Tryz.prog W base sp hd fuel 37 cs = some y) :
    ∃ l : Lt, LtI W l cs ∧ InLt l ∧ szLt l ≤ Rows.uptoBulk y.1 := by
  obtain ⟨xs, n, _, rfl, hl, hlen, hf⟩ := DataW.trod_struct Tryz.underlying37 hf
  rw [cellsLtP] at hl
  match xs, hlen, cs, hl with
  | [y0, y1, y2, y3, y4], _, [c0, c1, c2, c3, c4, c5, c6, c7, c8, c9, c10, c11, c12, c13], _ =>
    have g0 := hf 0 _ rfl
    have g1 := hf 1 _ rfl
    have g2 := hf 2 _ rfl
    have g3 := hf 3 _ rfl
    have g4 := hf 4 _ rfl
    simp [cellsNP, cellsAmP, cellsSP, cellsTmP] at g0 g1 g2 g3 g4
    obtain ⟨x0, e0, f0, -⟩ := DataW.trod_int Tryz.underlying3 g0
    obtain ⟨a, x, e1, hx, hI, hb⟩ := trod_am g1
    obtain ⟨x2, e2, f2, -⟩ := DataW.trod_string Tryz.underlying9 g2
    obtain ⟨t, e3, hI1, hb1⟩ := trod_tm g3
    obtain ⟨u, e4, hI2, hb2⟩ := trod_tm g4
    simp [Tm.cells] at e0 e1 e2 e3 e4
    obtain ⟨e1, e1'⟩ := e1
    obtain ⟨a1, a2, a3, a4, a5⟩ := e3
    obtain ⟨b1, b2, b3, b4, b5⟩ := e4
    refine ⟨⟨x0, a, x2, t, u⟩, ⟨x, by rw [e0, e1, e1', e2, a1, a2, a3, a4, a5, b1, b2, b3, b4, b5]; rfl, hx⟩, ⟨hI, hI1, hI2⟩, ?_⟩
    simp [f0, f2, Rows.uptoBulk, Rows.uptoBulkAll, szLt] at hb hb1 hb2 ⊢
    omega
theorem trod_lts {fuel : Nat} {cs : List Value} {y : DataW H × List MemPlace} (hf : DataW.trod enc Tryz.prog W base sp hd fuel 38 cs = some y) :
    ∃ x L, cs = [x] ∧ Lts W x L ∧ (∀ a ∈ L, InLt a) ∧ szLts L ≤ Rows.uptoBulk y.1 :=
  have : Inhabited Lt := ⟨Lt.zero⟩
  trod_list Tryz.underlying38 cellsLtP (by omega) (fun n cs' y h hl => trod_lt h) hf
theorem trod_ru {fuel : Nat} {cs : List Value} {y : DataW H × List MemPlace} (hf : DataW.trod enc Tryz.prog W base sp hd fuel 40 cs = some y) :
    ∃ r : Ru, RuI W r cs ∧ InRu r ∧ szRu r ≤ Rows.uptoBulk y.1 := by
  obtain ⟨xs, n, _, rfl, hl, hlen, hf⟩ := DataW.trod_struct Tryz.underlying40 hf
  rw [cellsRuP] at hl
  match xs, hlen, cs, hl with
  | [y0, y1], _, [c0, c1, c2], _ =>
    have g0 := hf 0 _ rfl
    have g1 := hf 1 _ rfl
    simp [cellsAmP, cellsLL] at g0 g1
    obtain ⟨a, x, e1, hx, hI, hb⟩ := trod_am g0
    obtain ⟨z, L, e2, hz, hI2, hb2⟩ := trod_lts g1
    simp at e1 e2
    obtain ⟨e1, e1'⟩ := e1
    refine ⟨⟨a, L⟩, ⟨x, z, by rw [e1, e1', e2], hx, hz⟩, ⟨hI, hI2⟩, ?_⟩
    simp [Rows.uptoBulk, Rows.uptoBulkAll, szRu] at hb hb2 ⊢
    omega
theorem trod_rus {fuel : Nat} {cs : List Value} {y : DataW H × List MemPlace} (hf : DataW.trod enc Tryz.prog W base sp hd fuel 23 cs = some y) :
    ∃ x L, cs = [x] ∧ Rus W x L ∧ (∀ a ∈ L, InRu a) ∧ szRus L ≤ Rows.uptoBulk y.1 :=
  have : Inhabited Ru := ⟨Ru.zero⟩
  trod_list Tryz.underlying23 cellsRuP (by omega) (fun n cs' y h hl => trod_ru h) hf
theorem trod_de {fuel : Nat} {cs : List Value} {y : DataW H × List MemPlace} (hf : DataW.trod enc Tryz.prog W base sp hd fuel 63 cs = some y) :
    ∃ d : De, cs = d.cells ∧ InDe d ∧ szDe d ≤ Rows.uptoBulk y.1 := by
  obtain ⟨xs, n, _, rfl, hl, hlen, hf⟩ := DataW.trod_struct Tryz.underlying63 hf
  rw [cellsDeP] at hl
  match xs, hlen, cs, hl with
  | [y0, y1], _, [c0, c1], _ =>
    have g0 := hf 0 _ rfl
    have g1 := hf 1 _ rfl
    simp [cellsSP, cellsNP] at g0 g1
    obtain ⟨x0, e0, f0, -⟩ := DataW.trod_string Tryz.underlying9 g0
    obtain ⟨x1, e1, f1, wn⟩ := DataW.trod_int Tryz.underlying3 g1
    simp at e0 e1
    have hb' := bounds_i64 wn
    refine ⟨⟨x0, x1⟩, by rw [e0, e1]; rfl, ⟨hb'.1, by have := hb'.2; omega⟩, ?_⟩
    simp [f0, f1, Rows.uptoBulk, Rows.uptoBulkAll, szDe]
theorem trod_des {fuel : Nat} {cs : List Value} {y : DataW H × List MemPlace} (hf : DataW.trod enc Tryz.prog W base sp hd fuel 22 cs = some y) :
    ∃ x L, cs = [x] ∧ Des W x L ∧ (∀ a ∈ L, InDe a) ∧ szDes L ≤ Rows.uptoBulk y.1 :=
  have : Inhabited De := ⟨De.zero⟩
  trod_list Tryz.underlying22 cellsDeP (by omega) (fun n cs' y h hl => by obtain ⟨t, h1, h2, h3⟩ := trod_de h; exact ⟨t, h1, h2, h3⟩) hf

/-- A value, as a term's. -/
def ValI : RelW Tm := fun _ t c => c = [.bool t.k, .string t.s, .int .i64 t.n]
def IsVal (t : Tm) : Prop := t.v = false ∧ t.name = ⟨#[]⟩
abbrev Vls (W : World) (x : Value) (L : List Tm) : Prop := RdL ValI 3 W x L
theorem stayVal : StayR ValI := fun _ _ _ _ _ h => h
theorem trod_vls {fuel : Nat} {cs : List Value} {y : DataW H × List MemPlace} (hf : DataW.trod enc Tryz.prog W base sp hd fuel 41 cs = some y) :
    ∃ x L, cs = [x] ∧ Vls W x L ∧ (∀ a ∈ L, InTm a ∧ IsVal a) ∧ (L.map (fun t => t.s.size + 4)).sum ≤ Rows.uptoBulk y.1 :=
  have : Inhabited Tm := ⟨Tm.zero⟩
  trod_list Tryz.underlying41 cellsVlP (by omega) (fun n cs' y h hl => by obtain ⟨k, s, n, h1, h2, h3⟩ := trod_valP h; exact ⟨⟨false, ⟨#[]⟩, k, s, n⟩, h1, ⟨h2, rfl, rfl⟩, h3⟩) hf

/-- What came in as a program. -/
theorem open_prog {r : Reach} {b0 : Nat} {v : Value} {d : DataW H} {p : List MemPlace} (hv : Value.okWide Tryz.prog W r b0 25 v) (h : DataW.Trod enc Tryz.prog W base sp hd 25 v d p) :
    ∃ (g : Pr) (x y : Value), v = .agg #[x, y] ∧ Des W x g.decls ∧ Rus W y g.rules ∧ InPr g ∧ szPr g ≤ Rows.uptoBulk d := by
  obtain ⟨fuel, hf⟩ := h
  obtain ⟨cs, rfl, hsz⟩ := okWide_struct Tryz.underlying25 hv
  obtain ⟨xs, n, _, he, hl, hlen, hf⟩ := DataW.trod_struct Tryz.underlying25 hf
  have hl2 : cs.toList.length = 2 := by rw [Array.length_toList, hsz]; kernel_rfl
  obtain ⟨cs⟩ := cs
  simp only [Value.cells] at hl2 hf
  match xs, hlen, cs, hl2 with
  | [y0, y1], _, [c0, c1], _ =>
    have g0 := hf 0 _ rfl
    have g1 := hf 1 _ rfl
    simp [cellsLD, cellsLR] at g0 g1
    obtain ⟨x, L, e1, hx, hI, hb⟩ := trod_des g0
    obtain ⟨z, M, e2, hz, hI2, hb2⟩ := trod_rus g1
    simp at e1 e2
    subst e1 e2
    refine ⟨⟨L, M⟩, c0, c1, rfl, hx, hz, ⟨hI, hI2⟩, ?_⟩
    have := congrArg Prod.fst he
    simp only at this
    rw [this]
    simp [Rows.uptoBulk, Rows.uptoBulkAll, szPr] at hb hb2 ⊢
    omega
theorem arr_of {cs : Array Value} {l : List Value} (h : cs.toList = l) : cs = l.toArray := by rw [← h]
theorem open_ru {r : Reach} {b0 : Nat} {v : Value} {d : DataW H} {p : List MemPlace} (hv : Value.okWide Tryz.prog W r b0 40 v) (h : DataW.Trod enc Tryz.prog W base sp hd 40 v d p) :
    ∃ (q : Ru) (x y : Value), v = .agg #[.string q.head.p, x, y] ∧ Tms W x q.head.args ∧ Lts W y q.body ∧ InRu q ∧ szRu q ≤ Rows.uptoBulk d := by
  obtain ⟨fuel, hf⟩ := h
  obtain ⟨cs, rfl, -⟩ := okWide_struct Tryz.underlying40 hv
  obtain ⟨q, ⟨x, y, e, hx, hy⟩, hI, hb⟩ := trod_ru hf
  exact ⟨q, x, y, by rw [arr_of (cs := cs) e], hx, hy, hI, hb⟩
theorem open_lt {r : Reach} {b0 : Nat} {v : Value} {d : DataW H} {p : List MemPlace} (hv : Value.okWide Tryz.prog W r b0 37 v) (h : DataW.Trod enc Tryz.prog W base sp hd 37 v d p) :
    ∃ (q : Lt) (x : Value), v = .agg (LtC q x).toArray ∧ Tms W x q.atom.args ∧ InLt q ∧ szLt q ≤ Rows.uptoBulk d := by
  obtain ⟨fuel, hf⟩ := h
  obtain ⟨cs, rfl, -⟩ := okWide_struct Tryz.underlying37 hv
  obtain ⟨q, ⟨x, e, hx⟩, hI, hb⟩ := trod_lt hf
  exact ⟨q, x, by rw [arr_of (cs := cs) e], hx, hI, hb⟩
theorem open_am {r : Reach} {b0 : Nat} {v : Value} {d : DataW H} {p : List MemPlace} (hv : Value.okWide Tryz.prog W r b0 31 v) (h : DataW.Trod enc Tryz.prog W base sp hd 31 v d p) :
    ∃ (q : Am) (x : Value), v = .agg #[.string q.p, x] ∧ Tms W x q.args ∧ InAm q ∧ szAm q ≤ Rows.uptoBulk d := by
  obtain ⟨fuel, hf⟩ := h
  obtain ⟨cs, rfl, -⟩ := okWide_struct Tryz.underlying31 hv
  obtain ⟨q, x, e, hx, hI, hb⟩ := trod_am hf
  exact ⟨q, x, by rw [arr_of (cs := cs) e], hx, hI, hb⟩
theorem open_fa {r : Reach} {b0 : Nat} {v : Value} {d : DataW H} {p : List MemPlace} (hv : Value.okWide Tryz.prog W r b0 43 v) (h : DataW.Trod enc Tryz.prog W base sp hd 43 v d p) :
    ∃ (q : Am) (x : Value), v = .agg #[.string q.p, x] ∧ Vls W x q.args ∧ (∀ t ∈ q.args, InTm t ∧ IsVal t) ∧ q.p.size + (q.args.map (fun t => t.s.size + 4)).sum ≤ Rows.uptoBulk d := by
  obtain ⟨fuel, hf⟩ := h
  obtain ⟨cs, rfl, hsz⟩ := okWide_struct Tryz.underlying43 hv
  obtain ⟨xs, n, _, he, hl, hlen, hf⟩ := DataW.trod_struct Tryz.underlying43 hf
  have hl2 : cs.toList.length = 2 := by rw [Array.length_toList, hsz]; kernel_rfl
  obtain ⟨cs⟩ := cs
  simp only [Value.cells] at hl2 hf
  match xs, hlen, cs, hl2 with
  | [y0, y1], _, [c0, c1], _ =>
    have g0 := hf 0 _ rfl
    have g1 := hf 1 _ rfl
    simp [cellsSP, cellsLV] at g0 g1
    obtain ⟨x0, e0, f0, -⟩ := DataW.trod_string Tryz.underlying9 g0
    obtain ⟨x, L, e1, hx, hI, hb⟩ := trod_vls g1
    simp at e0 e1
    refine ⟨⟨x0, L⟩, x, by rw [e0, e1], hx, hI, ?_⟩
    have := congrArg Prod.fst he
    simp only at this
    rw [this]
    simp [f0, Rows.uptoBulk, Rows.uptoBulkAll] at hb ⊢
    omega
end Go.Proofs.YtddioikfhabjpaaGreatDoor

/-
  A program's text as lines: each ends in a point, and no line's end stands elsewhere. Plain facts; no walk.
-/
namespace Go.Proofs.YtddioikfhabjpaaGreatDoor
set_option linter.unusedSimpArgs false
set_option linter.unusedVariables false
set_option linter.unusedSectionVars false
set_option maxRecDepth 100000
open Go.RowKit

/-- No line's end. -/
def NoNl (l : List UInt8) : Prop := ∀ c ∈ l, c ≠ 10
theorem NoNl.nil : NoNl [] := fun _ h => by simp at h
theorem NoNl.app {a b : List UInt8} (h : NoNl a) (k : NoNl b) : NoNl (a ++ b) := fun c hc => by
  rcases List.mem_append.1 hc with hc | hc
  · exact h c hc
  · exact k c hc
theorem nl_inner {c : UInt8} (h : innerQ c = true) : c ≠ 10 := fun e => by subst e; revert h; decide
theorem nl_figure {c : UInt8} (h : figureQ c = true) : c ≠ 10 := fun e => by subst e; revert h; decide
theorem nl_itoa (n : Int) : NoNl (Lib.itoa n) := by
  obtain ⟨c, t, e, h1, h2⟩ := itoa_form n
  rw [e]
  intro x hx
  rcases List.mem_cons.1 hx with rfl | hx
  · rcases h2 with h2 | ⟨h2, -⟩
    · exact nl_figure h2
    · rw [h2]; decide
  · exact nl_figure (h1 x hx)
theorem nl_esc (l : List UInt8) : NoNl (escL l) := fun c hc => by
  obtain ⟨b, -, hb⟩ := List.mem_flatMap.1 hc
  rcases escC_cases b with ⟨-, e⟩ | ⟨h, -, e⟩ | ⟨h, -, -, e⟩
  · rw [e] at hb; simp at hb; rcases hb with rfl | rfl <;> decide
  · rw [e] at hb; simp at hb; rcases hb with rfl | rfl
    · decide
    · exact h
  · rw [e] at hb; simp at hb; rw [hb]; exact h
theorem nl_plain {l : List UInt8} (h : shortPlain l = true) : NoNl l := by
  obtain ⟨⟨c, u, e, h1, h2, -⟩, -⟩ := small_plain h
  rw [e]
  intro x hx
  rcases List.mem_cons.1 hx with rfl | hx
  · exact nl_inner (by unfold innerQ; rw [h1]; rfl)
  · exact nl_inner (h2 x hx)
theorem nl_great {l : List UInt8} (h : GreatNm l) : NoNl l := by
  obtain ⟨c, u, e, h1, h2, -⟩ := h
  rw [e]
  intro x hx
  rcases List.mem_cons.1 hx with rfl | hx
  · exact nl_inner (by unfold innerQ; rw [h1]; simp)
  · exact nl_inner (h2 x hx)
theorem nl_lit {l : List UInt8} (h : decide (∀ c ∈ l, c ≠ (10 : UInt8)) = true) : NoNl l := fun c hc => (of_decide_eq_true h : ∀ c ∈ l, c ≠ (10 : UInt8)) c hc
theorem nl_term {t : Tm} (h : MayTm t) : NoNl (termTx t) := by
  obtain ⟨-, h⟩ := h
  unfold termTx
  rcases h with ⟨hv, hg, -⟩ | ⟨hv, -⟩
  · rw [hv]; exact nl_great hg
  · rw [hv]
    simp only [Bool.false_eq_true, if_false]
    unfold textL
    split
    · split
      · rename_i hp; exact nl_plain hp
      · unfold quoteL
        intro c hc
        rcases List.mem_cons.1 hc with rfl | hc
        · decide
        · exact ((nl_esc _).app (nl_lit (by decide))) c hc
    · exact nl_itoa _
theorem nl_sep {α : Type} {f : α → List UInt8} : ∀ {X : List α}, (∀ a ∈ X, NoNl (f a)) → NoNl (sepTx f X)
  | [], _ => NoNl.nil
  | [a], h => h a (by simp)
  | a :: b :: r, h => (h a (by simp)).app ((nl_lit (by decide)).app ((nl_lit (by decide)).app (nl_sep (X := b :: r) (fun x hx => h x (by simp at hx ⊢; exact .inr hx)))))
theorem nl_atom {a : Am} (h : MayAm a) : NoNl (atomTx a) := by
  obtain ⟨h1, -, h3⟩ := h
  unfold atomTx argsTx
  refine (nl_plain h1).app ?_
  split
  · exact NoNl.nil
  · exact (nl_lit (by decide)).app ((nl_sep (fun t ht => nl_term (h3 t ht))).app (nl_lit (by decide)))
theorem nl_op {o : ByteArray} (h : o.data.toList ∈ opsL) : NoNl o.data.toList := by
  unfold opsL at h
  simp only [List.mem_cons, List.not_mem_nil, or_false] at h
  rcases h with h | h | h | h | h | h <;> rw [h] <;> exact nl_lit (by decide)
theorem nl_litT {l : Lt} (h : MayLt l) : NoNl (litTx l) := by
  unfold litTx
  rcases h with ⟨hk | hk, -, -, -, ha⟩ | ⟨hk, ho, -, h1, h2⟩
  · rw [if_pos hk]; exact nl_atom ha
  · rw [if_neg (by omega), if_pos hk]; exact (nl_lit (by decide)).app ((nl_lit (by decide)).app (nl_atom ha))
  · rw [if_neg (by omega), if_neg (by omega), if_pos hk]
    exact (nl_term h1).app ((nl_lit (by decide)).app (((nl_op ho).app (nl_lit (by decide))).app (nl_term h2)))
/-- A clause's text ahead of its point. -/
theorem nl_rule {r : Ru} (h : MayRu r) : ∃ x, NoNl x ∧ ruleTx r ++ [10] = x ++ [46, 10] := by
  obtain ⟨h1, -, h3⟩ := h
  refine ⟨atomTx r.head ++ bodyTx r.body, (nl_atom h1).app ?_, by unfold ruleTx; simp⟩
  unfold bodyTx
  split
  · exact NoNl.nil
  · exact (nl_lit (by decide)).app (((nl_lit (by decide)).app (nl_lit (by decide))).app (nl_sep (fun l hl => nl_litT (h3 l hl))))
theorem nl_decl {d : De} (h : MayDe d) : ∃ x, NoNl x ∧ declTx d ++ [10] = x ++ [46, 10] :=
  ⟨d.p.data.toList ++ ([47] ++ Lib.itoa d.ar), (nl_plain h.1).app ((nl_lit (by decide)).app (nl_itoa _)), by unfold declTx; simp⟩

/-- So many lines, each with a point at its end. -/
def Lined (l : List UInt8) (n : Nat) : Prop := ∃ X : List (List UInt8), l = X.flatMap (fun x => x ++ [46, 10]) ∧ (∀ x ∈ X, NoNl x) ∧ X.length = n
theorem Lined.app {a b : List UInt8} {n m : Nat} (h : Lined a n) (k : Lined b m) : Lined (a ++ b) (n + m) := by
  obtain ⟨X, rfl, h1, rfl⟩ := h
  obtain ⟨Y, rfl, k1, rfl⟩ := k
  refine ⟨X ++ Y, by rw [List.flatMap_append], fun x hx => ?_, by simp⟩
  rcases List.mem_append.1 hx with hx | hx
  · exact h1 x hx
  · exact k1 x hx
theorem lined_all {α : Type} {f : α → List UInt8} : ∀ {L : List α}, (∀ a ∈ L, ∃ x, NoNl x ∧ f a ++ [10] = x ++ [46, 10]) → Lined (L.flatMap (fun a => f a ++ [10])) L.length
  | [], _ => ⟨[], rfl, fun _ h => by simp at h, rfl⟩
  | a :: L, h => by
    obtain ⟨x, h1, h2⟩ := h a (by simp)
    have h3 : Lined (f a ++ [10]) 1 := ⟨[x], by simp [h2], fun y hy => by simp at hy; rw [hy]; exact h1, rfl⟩
    have h4 := h3.app (lined_all (L := L) (fun y hy => h y (by simp [hy])))
    rw [List.flatMap_cons, List.length_cons, Nat.add_comm]
    exact h4
theorem lined_prog {g : Pr} (h : MayPr g) : Lined (progTx g) (g.decls.length + g.rules.length) :=
  (lined_all (fun d hd => nl_decl (h.2.2.1 d hd))).app (lined_all (fun r hr => nl_rule (h.2.2.2 r hr)))
/-- How many line ends. -/
def nls (l : List UInt8) : Nat := (l.filter (· == 10)).length
theorem nls_app (a b : List UInt8) : nls (a ++ b) = nls a + nls b := by unfold nls; rw [List.filter_append, List.length_append]
theorem nls_no {l : List UInt8} (h : NoNl l) : nls l = 0 := by
  unfold nls
  rw [List.length_eq_zero_iff, List.filter_eq_nil_iff]
  intro c hc
  simpa using h c hc
theorem Lined.count {l : List UInt8} {n : Nat} (h : Lined l n) : nls l = n := by
  obtain ⟨X, rfl, h1, rfl⟩ := h
  induction X with
  | nil => rfl
  | cons x X ih =>
    have e : nls [46, 10] = 1 := by decide
    rw [List.flatMap_cons, nls_app, nls_app, nls_no (h1 x (by simp)), ih (fun y hy => h1 y (by simp [hy])), e, List.length_cons]
    omega
theorem lined_ends (X : List (List UInt8)) (h1 : ∀ x ∈ X, NoNl x) : ∀ k : Nat, (X.flatMap (fun x => x ++ [46, 10]))[k]? = some 10 → ∃ m, k = m + 1 ∧ (X.flatMap (fun x => x ++ [46, 10]))[m]? = some 46 := by
  induction X with
  | nil => intro k hk; simp at hk
  | cons x X ih =>
    intro k hk
    have hx := h1 x (by simp)
    rw [List.flatMap_cons] at hk ⊢
    have hl : (x ++ [46, 10]).length = x.length + 2 := by simp
    by_cases h0 : k < x.length
    · rw [List.getElem?_append_left (by omega), List.getElem?_append_left h0] at hk
      exact absurd rfl (hx 10 (List.mem_of_getElem? hk))
    by_cases h2 : k < x.length + 2
    · rw [List.getElem?_append_left (by omega), List.getElem?_append_right (by omega)] at hk
      have hk1 : k = x.length + 1 := by
        by_cases h3 : k = x.length
        · rw [h3, Nat.sub_self] at hk; simp at hk
        · omega
      refine ⟨x.length, hk1, ?_⟩
      rw [List.getElem?_append_left (by omega), List.getElem?_append_right (Nat.le_refl _), Nat.sub_self]
      rfl
    · rw [List.getElem?_append_right (by omega), hl] at hk
      obtain ⟨m, e1, e2⟩ := ih (fun y hy => h1 y (by simp [hy])) _ hk
      refine ⟨m + (x.length + 2), by omega, ?_⟩
      rw [List.getElem?_append_right (by omega), hl, Nat.add_sub_cancel]
      exact e2
theorem Lined.ends {l : List UInt8} {n : Nat} (h : Lined l n) (k : Nat) (hk : l[k]? = some 10) : ∃ m, k = m + 1 ∧ l[m]? = some 46 := by
  obtain ⟨X, rfl, h1, -⟩ := h
  exact lined_ends X h1 k hk
theorem nls_take {l : List UInt8} {k : Nat} (hk : k < l.length) : nls (l.take (k + 1)) = nls (l.take k) + (if l[k] = 10 then 1 else 0) := by
  rw [List.take_succ_eq_append_getElem hk, nls_app]
  congr 1
  unfold nls
  by_cases h : l[k] = 10
  · rw [if_pos h]; simp [h]
  · rw [if_neg h]; simp [h]
/-- A program behind a program. -/
theorem prog_behind (g h : Pr) : progTx ⟨g.decls, g.rules ++ h.rules⟩ = progTx g ++ progTx ⟨[], h.rules⟩ := by
  unfold progTx
  simp
end Go.Proofs.YtddioikfhabjpaaGreatDoor

/-
  PrinterLines' walk.
-/
namespace Go.Proofs.YtddioikfhabjpaaGreatDoor
set_option linter.unusedSimpArgs false
set_option linter.unusedVariables false
set_option linter.unusedSectionVars false
set_option maxRecDepth 100000
open Go.RowKit Go.Maps

/-- Rules that came in, put to a list of the call's own: their own lists lie in memory that was there. -/
def RuC (w0 : World) (r : Ru) (c : List Value) : Prop := c.length = 3 ∧ RuI w0 r c
def OwnRu (w0 W : World) (B : Nat) (v : Value) (L : List Ru) : Prop := ∃ cs, AllR (RuC w0) L cs ∧ W.ownsRow B 40 3 v L.length cs.flatten
theorem AllR.mem {α : Type} {R : α → List Value → Prop} {P : List Value → Prop} (h : ∀ a c, R a c → P c) : ∀ {L : List α} {cs : List (List Value)}, AllR R L cs → ∀ c ∈ cs, P c
  | [], [], _, c, hc => by simp at hc
  | a :: L, c :: cs, ⟨h1, h2⟩, d, hd => by
    rcases List.mem_cons.1 hd with rfl | hd
    · exact h a _ h1
    · exact AllR.mem h h2 d hd
  | [], _ :: _, k, _, _ => k.elim
  | _ :: _, [], k, _, _ => k.elim
theorem AllR.cat {α : Type} {R : α → List Value → Prop} : ∀ {L M : List α} {cs ds : List (List Value)}, AllR R L cs → AllR R M ds → AllR R (L ++ M) (cs ++ ds)
  | [], _, [], _, _, k => k
  | _ :: _, _, _ :: _, _, ⟨h1, h2⟩, k => ⟨h1, AllR.cat h2 k⟩
  | [], _, _ :: _, _, h, _ => h.elim
  | _ :: _, _, [], _, h, _ => h.elim
theorem OwnRu.rus {w0 W : World} {B : Nat} {v : Value} {L : List Ru} (h : OwnRu w0 W B v L) (hb : Below w0.heap.size w0 W) (hm : L.length ≤ maxLen) : Rus W v L := by
  obtain ⟨cs, h1, h2⟩ := h
  have h2' := h2
  obtain ⟨h3, h4⟩ := h2
  rcases h4 with ⟨e, h0⟩ | ⟨g, cap, cur, e, hB, hg, hc⟩
  · have : L = [] := List.length_eq_zero_iff.1 h0
    subst this e
    exact RdL.nil _ _ _ _ _
  · subst e
    refine ⟨some ⟨g, 0, none⟩, cap, rfl, ?_, hm, fun i hi => ?_⟩
    · first | exact hc.1 | exact hc.2.1 | omega
    · obtain ⟨c, hci, hl, hR⟩ := h1.at i hi
      refine ⟨g, 0, c, rfl, (Array.getElem?_eq_some_iff.1 hg).1, stayRu _ _ _ _ hb hR, fun j u hj => ?_⟩
      have := World.ownsRow.cells h2' (g := g) rfl _ u (flat_at (h1.mem (P := fun c => c.length = 3) (fun _ _ h => h.1)) i c hci j u hj)
      rw [add_noneK] at this
      rw [Nat.zero_add]
      simpa using this
/-- The cells of rules that came in. -/
theorem rus_cells {w0 : World} {ad : Addr} {n cap : Nat} {L : List Ru} (h : Rus w0 (.slice (some ad) n cap) L) : ∃ cs, AllR (RuC w0) L cs ∧ ∀ j u, cs.flatten[j]? = some u → w0.cell? (ad.add j) = some u := by
  obtain ⟨ao, cap', e, h1, h2, h3⟩ := h
  cases e
  have key : ∀ (M : List Ru) (o : Nat), (∀ (i : Nat) (hi : i < M.length), ∃ b off c, (some ad : Option Addr) = some ⟨b, off, none⟩ ∧ RuC w0 M[i] c ∧ ∀ j u, c[j]? = some u → w0.cell? ⟨b, off + (o + i) * 3 + j, none⟩ = some u) →
      ∃ cs, AllR (RuC w0) M cs ∧ ∀ j u, cs.flatten[j]? = some u → w0.cell? (ad.add (o * 3 + j)) = some u := by
    intro M
    induction M with
    | nil => intro o _; exact ⟨[], trivial, fun j u hj => by simp at hj⟩
    | cons a M ih =>
      intro o hM
      obtain ⟨b, off, c, e, hc, hcell⟩ := hM 0 (by simp)
      cases e
      obtain ⟨cs, k1, k2⟩ := ih (o + 1) (fun i hi => by
        obtain ⟨b', off', c', e', hc', hcell'⟩ := hM (i + 1) (by simpa using hi)
        refine ⟨b', off', c', e', hc', fun j u hj => ?_⟩
        have := hcell' j u hj
        have e3 : o + (i + 1) = o + 1 + i := by omega
        rw [e3] at this
        exact this)
      refine ⟨c :: cs, ⟨hc, k1⟩, fun j u hj => ?_⟩
      rw [List.flatten_cons] at hj
      rw [add_noneK]
      by_cases hj3 : j < 3
      · rw [List.getElem?_append_left (by rw [hc.1]; exact hj3)] at hj
        have := hcell j u hj
        simpa [Nat.add_assoc] using this
      · rw [List.getElem?_append_right (by rw [hc.1]; omega), hc.1] at hj
        have := k2 (j - 3) u hj
        rw [add_noneK] at this
        have e4 : off + ((o + 1) * 3 + (j - 3)) = off + (o * 3 + j) := by omega
        rw [e4] at this
        exact this
  obtain ⟨cs, k1, k2⟩ := key L 0 (fun i hi => by
    obtain ⟨b, off, c, e, hl, hr, hc⟩ := h3 i hi
    refine ⟨b, off, c, e, ⟨?_, hr⟩, fun j u hj => by rw [Nat.zero_add]; exact hc j u hj⟩
    obtain ⟨x, y, rfl, -⟩ := hr
    rfl)
  exact ⟨cs, k1, fun j u hj => by have := k2 j u hj; simpa using this⟩
/-- A list that is nil has no room. -/
def NilC (x : Value) : Prop := ∀ n c, x = .slice none n c → c = 0
theorem rul_one {w0 : World} {L : List Ru} {cs : List (List Value)} (h : AllR (RuC w0) L cs) : ∀ u ∈ cs.flatten, u.oneCell' = true := by
  intro u hu
  obtain ⟨c, hc, hu⟩ := List.mem_flatten.1 hu
  refine h.mem (P := fun c => ∀ u ∈ c, u.oneCell' = true) (fun a c hR => ?_) c hc u hu
  obtain ⟨-, x, y, rfl, hx, hy⟩ := hR
  obtain ⟨_, _, rfl, -⟩ := hx.form
  obtain ⟨_, _, rfl, -⟩ := hy.form
  intro u hu
  simp at hu
  rcases hu with rfl | rfl | rfl <;> rfl
theorem rul_len {w0 : World} {L : List Ru} {cs : List (List Value)} (h : AllR (RuC w0) L cs) : cs.flatten.length = L.length * 3 := by
  have hl := h.length
  have h3 := h.mem (P := fun c => c.length = 3) (fun _ _ h => h.1)
  have : ∀ ds : List (List Value), (∀ c ∈ ds, c.length = 3) → ds.flatten.length = ds.length * 3 := by
    intro ds
    induction ds with
    | nil => simp
    | cons d ds ih =>
      intro hd
      have h1 := hd d (by simp)
      have h2 := ih (fun c hc => hd c (by simp [hc]))
      rw [List.flatten_cons, List.length_append, List.length_cons, h1, h2]
      omega
  rw [this cs h3, hl]
theorem infoRuL : (Tryz.prog.info? 40).map (fun i => (i.zero, i.size, i.bytes)) = some (some (.agg #[.string ⟨#[]⟩, .slice none 0 0, .slice none 0 0]), 3, 64) := by kernel_rfl
theorem lt_cellP {w : World} {a : Addr} {u : Value} (h : w.cell? a = some u) : a.block < w.heap.size := by
  cases hh : w.heap[a.block]? with
  | none => simp [World.cell?, hh] at h
  | some o => exact (Array.getElem?_eq_some_iff.1 hh).1
theorem app_far {W W' : World} {v v' : Value} (hg : W.grownBy W' v.ownBlock) (hl : v'.ownBlock = v.ownBlock ∨ v'.ownBlock = some W.heap.size) : ∀ (b : Nat) (o : Obj), W.heap[b]? = some o → v.ownBlock ≠ some b → W'.heap[b]? = some o ∧ v'.ownBlock ≠ some b := by
  intro b o h hne
  have hlt : b < W.heap.size := (Array.getElem?_eq_some_iff.1 h).1
  refine ⟨(hg.block b hlt (fun e => hne e.symm)).trans h, ?_⟩
  rcases hl with hl | hl
  · rw [hl]; exact hne
  · rw [hl]; intro e; cases e; omega
/-- append of rules that came in, as one step of a region that draws. -/
theorem step_append_ru {ops : Array Oper} {o : Oper} {a : Act} {w : World} {K : Act → World → Prop} {Q : Exit → Act → World → Prop} {EE : Prop} {w0 : World}
    (hg : o.guard = none) (s x : Operand) (hop : o.op = Op.call { callee := Callee.builtin Builtin.append, args := #[s, x], argTypes := #[23, 23] })
    (B : Nat) (v : Value) (E : List Ru) (hs : a.eval s = v) (hown : OwnRu w0 w B v E) (xv : Value) (M : List Ru) (hx : a.eval x = xv) (hV : Rus w0 xv M) (hN : NilC xv)
    (hb : Below w0.heap.size w0 w) (hbytes : E.length + M.length ≤ 2000000) (hB : B ≤ w.heap.size)
    (hK : ∀ v' w', OwnRu w0 w' B v' (E ++ M) → Below B w w' → (∀ b o, w.heap[b]? = some o → v.ownBlock ≠ some b → w'.heap[b]? = some o ∧ v'.ownBlock ≠ some b) → K (a.put o.dst v') w') :
    if Region.wanted o (yielded ops a.tmps) = true then Oper.wp Tryz.prog o a w K Q else EE := by
  have hw : Region.wanted o (yielded ops a.tmps) = true := by simp [Region.wanted, hg]
  rw [if_pos hw]
  obtain ⟨i0, hi, hz0, hz1, hz2⟩ := info_parts infoRuL
  obtain ⟨cs, hA, hrow⟩ := hown
  obtain ⟨ao, c, rfl, h1, h2⟩ := hV.form
  cases ao with
  | none =>
    have hM : M = [] := by
      cases M with
      | nil => rfl
      | cons r M =>
        obtain ⟨ao', cap', e, -, -, h3⟩ := hV
        cases e
        obtain ⟨b, off, c, e, -⟩ := h3 0 (by simp)
        cases e
    subst hM
    have hc : c = 0 := hN _ _ rfl
    subst hc
    have hr := run_append_owned_none (P := Tryz.prog) w B 23 o.type 40 i0 3 Tryz.underlying23 hi v E.length cs.flatten hrow
    unfold Oper.wp
    simp only [List.length_nil] at hx
    simp [execOp, hop, resolve, invoke, builtin, hs, hx, hr, Result.andThen]
    exact hK v w (by rw [List.append_nil]; exact ⟨cs, hA, hrow⟩) (Below.refl _ _) (fun _ _ h1 h2 => ⟨h1, h2⟩)
  | some ad =>
    obtain ⟨ds, hD, hcell⟩ := rus_cells hV
    have hcell' : ∀ j u, ds.flatten[j]? = some u → w.cell? (ad.add j) = some u := fun j u hj => by
      have h0 := hcell j u hj
      exact (hb.cell (p := ad.add j) (lt_cellP h0)).trans h0
    obtain ⟨v', w', hr, r2, r3, r4, r5⟩ := run_append_own_at (P := Tryz.prog) w B 23 o.type 40 i0 _ 3 64 Tryz.underlying23 hi hz0 hz1 hz2 rfl (by decide) v E.length cs.flatten hrow ad M.length c ds.flatten (rul_len hD) hcell' (rul_one hD) (by unfold maxLen; omega) (by omega) hB
    unfold Oper.wp
    simp [execOp, hop, resolve, invoke, builtin, hs, hx, hr, Result.andThen]
    refine hK v' w' ⟨cs ++ ds, hA.cat hD, ?_⟩ ((Below.refl _ _).grown r3 hB (fun k hk => (hrow.lt k hk).1)) (app_far r3 r5)
    rw [List.length_append, List.flatten_append]
    exact r2
theorem OwnRu.empty {w0 w : World} {B : Nat} (hB : B ≤ w.heap.size) : OwnRu w0 (w.alloc (.cells #[] 40)) B (.slice (some ⟨w.heap.size, 0, none⟩) 0 0) [] :=
  ⟨[], trivial, rfl, Or.inr ⟨w.heap.size, 0, #[], rfl, hB, (MapKept.heap_alloc w _).1, Nat.le_refl _, Nat.zero_le _, rfl, rfl⟩⟩
theorem OwnRu.below {w0 W W' : World} {B : Nat} {v : Value} {L : List Ru} (h : OwnRu w0 W B v L) (hb : Below W.heap.size W W') : OwnRu w0 W' B v L := by
  obtain ⟨cs, h1, h2⟩ := h
  exact ⟨cs, h1, owns_keep h2 (Nat.le_refl _) (fun i _ hi => hb.block i hi)⟩
theorem own_empty_ru {w0 w : World} {B b : Nat} (hB : B ≤ b) (h : w.heap[b]? = some (.cells #[] 40 (0, 0))) : OwnRu w0 w B (.slice (some ⟨b, 0, none⟩) 0 0) [] :=
  ⟨[], trivial, rfl, Or.inr ⟨b, 0, #[], rfl, hB, h, Nat.le_refl _, Nat.zero_le _, rfl, rfl⟩⟩
theorem OwnRu.form {w0 W : World} {B : Nat} {v : Value} {L : List Ru} (h : OwnRu w0 W B v L) : ∃ o c, v = .slice o L.length c := by
  obtain ⟨cs, h1, h2, h3⟩ := h
  rcases h3 with ⟨rfl, h0⟩ | ⟨g, cap, cur, rfl, -⟩
  · exact ⟨none, 0, by rw [h0]⟩
  · exact ⟨_, _, rfl⟩
theorem OwnRu.lt {w0 W : World} {B : Nat} {v : Value} {L : List Ru} (h : OwnRu w0 W B v L) : ∀ g, v.ownBlock = some g → g < W.heap.size := by
  obtain ⟨cs, h1, h2⟩ := h
  intro g hg
  exact (h2.lt g hg).2
/-- The call's own list stays where its block stays. -/
theorem OwnRu.far {w0 W W' : World} {B : Nat} {v : Value} {L : List Ru} (h : OwnRu w0 W B v L) (hb : ∀ g, v.ownBlock = some g → W'.heap[g]? = W.heap[g]?) : OwnRu w0 W' B v L := by
  obtain ⟨cs, h1, h2, h3⟩ := h
  refine ⟨cs, h1, h2, ?_⟩
  rcases h3 with h3 | ⟨g, cap, cur, e, e1, e2, e3⟩
  · exact .inl h3
  · exact .inr ⟨g, cap, cur, e, e1, (hb g (by rw [e]; rfl)).trans e2, e3⟩
theorem heap1L (w : World) (a : Obj) : (w.alloc a).heap[w.heap.size]? = some a := (MapKept.heap_alloc w a).1
theorem heap2L (w : World) (a b : Obj) : ((w.alloc a).alloc b).heap[w.heap.size + 1]? = some b := by
  have := (MapKept.heap_alloc (w.alloc a) b).1
  rwa [World.size_alloc] at this
theorem heap1oL (w : World) (a b : Obj) : ((w.alloc a).alloc b).heap[w.heap.size]? = some a := by
  rw [Below.heap_alloc _ _ _ (by simp)]; exact heap1L w a
theorem box9 {w : World} {b : Nat} {x y : Value} {t : TypeId} (h : w.heap[b]? = some (.cells #[x, y] t (0, 0))) : w.cell? ⟨b, 0, none⟩ = some x ∧ w.cell? ⟨b, 1, none⟩ = some y ∧ w.frozen? ⟨b, 0, none⟩ = false ∧ w.frozen? ⟨b, 1, none⟩ = false ∧ b < w.heap.size := by
  refine ⟨by simp [World.cell?, h], by simp [World.cell?, h], by simp [World.frozen?, h], by simp [World.frozen?, h], (Array.getElem?_eq_some_iff.1 h).1⟩
end Go.Proofs.YtddioikfhabjpaaGreatDoor

/-
  A list of rules that came in and is nil has no room.
-/
namespace Go.Proofs.YtddioikfhabjpaaGreatDoor
set_option linter.unusedSimpArgs false
set_option linter.unusedVariables false
set_option linter.unusedSectionVars false
set_option maxRecDepth 100000
open Go.RowKit Go.Maps Go.Deep Go.WideShapes Go.Joins

theorem trod_nilc {H : Type} {enc : TypeId × Value → H} {W : World} {sp : Nat → Bool} {hd : Bool} {base fuel : Nat} {cs : List Value} {y : DataW H × List MemPlace} (hf : DataW.trod enc Tryz.prog W base sp hd fuel 23 cs = some y) : ∀ x, cs = [x] → NilC x := by
  rcases open_slice Tryz.underlying23 hf with ⟨rfl, -⟩ | ⟨a, len, cap, m, n, D, Pl, rfl, -⟩
  · intro x e n c e'
    cases e
    cases e'
    rfl
  · intro x e n c e'
    cases e
    cases e'
theorem nilc_prog {H : Type} {enc : TypeId × Value → H} {W : World} {sp : Nat → Bool} {hd : Bool} {base : Nat} {x y : Value} {d : DataW H} {p : List MemPlace} (h : DataW.Trod enc Tryz.prog W base sp hd 25 (.agg #[x, y]) d p) : NilC y := by
  obtain ⟨fuel, hf⟩ := h
  obtain ⟨xs, n, _, he, hl, hlen, hf⟩ := DataW.trod_struct Tryz.underlying25 hf
  simp only [Value.cells] at hf
  match xs, hlen with
  | [y0, y1], _ =>
    have g1 := hf 1 _ rfl
    simp [cellsLD, cellsLR] at g1
    exact trod_nilc g1 _ rfl
end Go.Proofs.YtddioikfhabjpaaGreatDoor

/-
  PrinterLines' walk: the loop, and the two programs one behind the other.
-/
namespace Go.Proofs.YtddioikfhabjpaaGreatDoor
set_option linter.unusedSimpArgs false
set_option linter.unusedVariables false
set_option linter.unusedSectionVars false
set_option maxRecDepth 100000
open Go.RowKit Go.Maps

theorem lines_keep {w W w' : World} {n b0 b1 : Nat} {e0 e1 f1 : Value} (l0 : b0 < n) (l1 : b1 < n) (hn : w.heap.size ≤ n)
    (h : W.cell? ⟨b0, 0, none⟩ = some e0 ∧ W.cell? ⟨b0, 1, none⟩ = some e1 ∧ W.cell? ⟨b1, 1, none⟩ = some f1 ∧ n ≤ W.heap.size ∧ Below w.heap.size w W) (hb : Below n W w') :
    w'.cell? ⟨b0, 0, none⟩ = some e0 ∧ w'.cell? ⟨b0, 1, none⟩ = some e1 ∧ w'.cell? ⟨b1, 1, none⟩ = some f1 ∧ n ≤ w'.heap.size ∧ Below w.heap.size w w' := by
  obtain ⟨h0, h1, h2, h3, h4⟩ := h
  exact ⟨(hb.cell (p := ⟨b0, _, none⟩) l0).trans h0, (hb.cell (p := ⟨b0, _, none⟩) l0).trans h1, (hb.cell (p := ⟨b1, _, none⟩) l1).trans h2, Nat.le_trans h3 hb.size, h4.trans (hb.mono hn)⟩

theorem lines_first {w W : World} {n b0 b1 : Nat} {e0 e1 f1 : Value} (h0 : W.cell? ⟨b0, 0, none⟩ = some e0) (h1 : W.cell? ⟨b0, 1, none⟩ = some e1) (h2 : W.cell? ⟨b1, 1, none⟩ = some f1) (h3 : n ≤ W.heap.size) (h4 : Below w.heap.size w W) :
    W.cell? ⟨b0, 0, none⟩ = some e0 ∧ W.cell? ⟨b0, 1, none⟩ = some e1 ∧ W.cell? ⟨b1, 1, none⟩ = some f1 ∧ n ≤ W.heap.size ∧ Below w.heap.size w W := ⟨h0, h1, h2, h3, h4⟩
theorem lines_drew {w W : World} {n b0 b1 : Nat} {e0 e1 f1 : Value}
    (h : W.cell? ⟨b0, 0, none⟩ = some e0 ∧ W.cell? ⟨b0, 1, none⟩ = some e1 ∧ W.cell? ⟨b1, 1, none⟩ = some f1 ∧ n ≤ W.heap.size ∧ Below w.heap.size w W) :
    W.drew.cell? ⟨b0, 0, none⟩ = some e0 ∧ W.drew.cell? ⟨b0, 1, none⟩ = some e1 ∧ W.drew.cell? ⟨b1, 1, none⟩ = some f1 ∧ n ≤ W.drew.heap.size ∧ Below w.heap.size w W.drew := ⟨h.1, h.2.1, h.2.2.1, h.2.2.2.1, h.2.2.2.2.drew⟩
theorem lines_alloc {w W : World} {n b0 b1 : Nat} {e0 e1 f1 : Value} (l0 : b0 < n) (l1 : b1 < n) (hn : w.heap.size ≤ n)
    (h : W.cell? ⟨b0, 0, none⟩ = some e0 ∧ W.cell? ⟨b0, 1, none⟩ = some e1 ∧ W.cell? ⟨b1, 1, none⟩ = some f1 ∧ n ≤ W.heap.size ∧ Below w.heap.size w W) (o : Obj) :
    (W.alloc o).cell? ⟨b0, 0, none⟩ = some e0 ∧ (W.alloc o).cell? ⟨b0, 1, none⟩ = some e1 ∧ (W.alloc o).cell? ⟨b1, 1, none⟩ = some f1 ∧ n ≤ (W.alloc o).heap.size ∧ Below w.heap.size w (W.alloc o) :=
  lines_keep l0 l1 hn h ((Below.refl _ _).alloc h.2.2.2.1 _)
theorem lines_set {w W : World} {n b0 b1 b9 : Nat} {e0 e1 f1 : Value} (l0 : b0 < n) (l1 : b1 < n) (hn : w.heap.size ≤ n)
    (h : W.cell? ⟨b0, 0, none⟩ = some e0 ∧ W.cell? ⟨b0, 1, none⟩ = some e1 ∧ W.cell? ⟨b1, 1, none⟩ = some f1 ∧ n ≤ W.heap.size ∧ Below w.heap.size w W) (h9 : n ≤ b9) (x y : Value) :
    ((W.setCell ⟨b9, 0, none⟩ x).setCell ⟨b9, 1, none⟩ y).cell? ⟨b0, 0, none⟩ = some e0 ∧ ((W.setCell ⟨b9, 0, none⟩ x).setCell ⟨b9, 1, none⟩ y).cell? ⟨b0, 1, none⟩ = some e1 ∧ ((W.setCell ⟨b9, 0, none⟩ x).setCell ⟨b9, 1, none⟩ y).cell? ⟨b1, 1, none⟩ = some f1 ∧ n ≤ ((W.setCell ⟨b9, 0, none⟩ x).setCell ⟨b9, 1, none⟩ y).heap.size ∧ Below w.heap.size w ((W.setCell ⟨b9, 0, none⟩ x).setCell ⟨b9, 1, none⟩ y) :=
  lines_keep l0 l1 hn h (((Below.refl _ _).setCell (p := ⟨b9, 0, none⟩) h9 x).setCell (p := ⟨b9, 1, none⟩) h9 y)

theorem below_step {X W W' : World} (h : Below X.heap.size X W) (hb : Below W.heap.size W W') : Below X.heap.size X W' := h.trans (hb.mono h.size)
theorem below_w {w X W : World} (hw : Below w.heap.size w X) (h : Below X.heap.size X W) : Below w.heap.size w W := hw.trans (h.mono hw.size)
/-- The program with more rules in a box of its own, which was laid behind them. -/
theorem pack_alloc {w w3 : World} {B m vc : Nat} {v x : Value} {vo : Option Addr} {L : List Ru} (hO : OwnRu w w3 B v L) (hv : v = .slice vo m vc) (hb : Below w.heap.size w w3) (hm : L.length ≤ maxLen) :
    (w3.alloc (.cells #[x, .slice vo m vc] 25)).cell? ⟨w3.heap.size, 0, none⟩ = some x ∧ (w3.alloc (.cells #[x, .slice vo m vc] 25)).cell? ⟨w3.heap.size, 1, none⟩ = some (.slice vo m vc) ∧ w3.heap.size < (w3.alloc (.cells #[x, .slice vo m vc] 25)).heap.size ∧ Rus (w3.alloc (.cells #[x, .slice vo m vc] 25)) (.slice vo m vc) L ∧ Below w.heap.size w (w3.alloc (.cells #[x, .slice vo m vc] 25)) := by
  subst hv
  obtain ⟨h1, h2, -, -, h3⟩ := box9 (heap1L w3 (.cells #[x, .slice vo m vc] 25))
  have h4 := hb.trans ((al_below w3 (.cells #[x, .slice vo m vc] 25)).mono hb.size)
  exact ⟨h1, h2, h3, (hO.below (al_below _ _)).rus h4 hm, h4⟩
/-- The same where the box was laid ahead, and stored into. -/
theorem pack_set {w w3 : World} {B m vc b9 : Nat} {v x z0 z1 : Value} {vo : Option Addr} {L : List Ru} {ty : TypeId} (hO : OwnRu w w3 B v L) (hv : v = .slice vo m vc) (hb : Below w.heap.size w w3) (hm : L.length ≤ maxLen)
    (h9 : w3.heap[b9]? = some (.cells #[z0, z1] ty (0, 0))) (hne : v.ownBlock ≠ some b9) (hn : w.heap.size ≤ b9) :
    ((w3.setCell ⟨b9, 0, none⟩ x).setCell ⟨b9, 1, none⟩ (.slice vo m vc)).cell? ⟨b9, 0, none⟩ = some x ∧ ((w3.setCell ⟨b9, 0, none⟩ x).setCell ⟨b9, 1, none⟩ (.slice vo m vc)).cell? ⟨b9, 1, none⟩ = some (.slice vo m vc) ∧ b9 < ((w3.setCell ⟨b9, 0, none⟩ x).setCell ⟨b9, 1, none⟩ (.slice vo m vc)).heap.size ∧ Rus ((w3.setCell ⟨b9, 0, none⟩ x).setCell ⟨b9, 1, none⟩ (.slice vo m vc)) (.slice vo m vc) L ∧ Below w.heap.size w ((w3.setCell ⟨b9, 0, none⟩ x).setCell ⟨b9, 1, none⟩ (.slice vo m vc)) := by
  subst hv
  have h8 := heap_set (o := 1) (heap_set (o := 0) h9 x) (.slice vo m vc)
  obtain ⟨h1, h2, -, -, h3⟩ := box9 (x := x) (y := .slice vo m vc) (by rw [h8]; rfl)
  have h4 := (hb.setCell (p := ⟨b9, 0, none⟩) hn x).setCell (p := ⟨b9, 1, none⟩) hn (.slice vo m vc)
  refine ⟨h1, h2, h3, (hO.far (fun g hg => ?_)).rus h4 hm, h4⟩
  have hg9 : g ≠ b9 := fun e => hne (by rw [hg, e])
  exact (Below.heap_setCell _ ⟨b9, 1, none⟩ _ g hg9).trans (Below.heap_setCell _ ⟨b9, 0, none⟩ _ g hg9)

theorem pack_keep {w X W' : World} {n b0 b1 b9 : Nat} {e0 e1 f1 z0 z1 : Value} (l0 : b0 < n) (l1 : b1 < n)
    (h : X.cell? ⟨b0, 0, none⟩ = some e0 ∧ X.cell? ⟨b0, 1, none⟩ = some e1 ∧ X.cell? ⟨b1, 1, none⟩ = some f1 ∧ n ≤ X.heap.size ∧ Below w.heap.size w X)
    (k0 : X.cell? ⟨b9, 0, none⟩ = some z0) (k1 : X.cell? ⟨b9, 1, none⟩ = some z1) (k2 : b9 < X.heap.size) (hb : Below X.heap.size X W') :
    W'.cell? ⟨b0, 0, none⟩ = some e0 ∧ W'.cell? ⟨b0, 1, none⟩ = some e1 ∧ W'.cell? ⟨b1, 1, none⟩ = some f1 ∧ W'.cell? ⟨b9, 0, none⟩ = some z0 ∧ W'.cell? ⟨b9, 1, none⟩ = some z1 ∧ Below X.heap.size X W' := by
  obtain ⟨h0, h1, h2, h3, -⟩ := h
  have l0' : b0 < X.heap.size := Nat.lt_of_lt_of_le l0 h3
  have l1' : b1 < X.heap.size := Nat.lt_of_lt_of_le l1 h3
  exact ⟨(hb.cell (p := ⟨b0, _, none⟩) l0').trans h0, (hb.cell (p := ⟨b0, _, none⟩) l0').trans h1, (hb.cell (p := ⟨b1, _, none⟩) l1').trans h2, (hb.cell (p := ⟨b9, _, none⟩) k2).trans k0, (hb.cell (p := ⟨b9, _, none⟩) k2).trans k1, hb⟩

set_option maxHeartbeats 32000000 in
set_option maxRecDepth 100000 in
theorem lines_walk (g h : Pr) (x y x2 y2 : Value) (w : World) (hx : Des w x g.decls) (hy : Rus w y g.rules) (kx : Des w x2 h.decls) (ky : Rus w y2 h.rules) (hI : InPr g) (kI : InPr h) (hs : szPr g ≤ 1048576) (ks : szPr h ≤ 1048576) (hN : NilC y) (kN : NilC y2) (hE : PEnv w) (hT : Tab w) :
    Calls Tryz.prog 8 #[.agg #[x, y], .agg #[x2, y2]] w fun e w' => e = .returned (.bool true) ∧ Below w.heap.size w w' := by
  obtain ⟨xo, xc, rfl, -⟩ := hx.form
  obtain ⟨yo, yc, rfl, -⟩ := hy.form
  obtain ⟨xo2, xc2, rfl, -⟩ := kx.form
  obtain ⟨yo2, yc2, rfl, -⟩ := ky.form
  have hle := progTx_le hI
  have hld : 3 * g.decls.length ≤ szDes g.decls := sum_len szDe 3 (fun t => by unfold szDe; omega) _
  have hlr : 2 * g.rules.length ≤ szRus g.rules := sum_len szRu 2 (fun t => by unfold szRu szAm; omega) _
  have klr : 2 * h.rules.length ≤ szRus h.rules := sum_len szRu 2 (fun t => by unfold szRu szAm; omega) _
  have hgd : g.decls.length ≤ 1000000 := by unfold szPr at hs; omega
  have hgr : g.rules.length ≤ 1000000 := by unfold szPr at hs; omega
  have khr : h.rules.length ≤ 1000000 := by unfold szPr at ks; omega
  have HSH := Lib.hid (fun W (hb : Below w.heap.size w W) => shownP_any W (hE.below hb) (hT.on hb))
  have HF1 := Lib.hid (fun W (hb : Below w.heap.size w W) => few_any g _ _ W (hx.below stayDe hb) (hy.below stayRu hb) (by omega))
  have HF2 := Lib.hid (fun W (hb : Below w.heap.size w W) => few_any h _ _ W (kx.below stayDe hb) (ky.below stayRu hb) (by omega))
  have HM1 := Lib.hid (fun W (hb : Below w.heap.size w W) => pmay_any g _ _ W (hx.below stayDe hb) (hy.below stayRu hb) hI (by omega))
  have HM2 := Lib.hid (fun W (hb : Below w.heap.size w W) => pmay_any h _ _ W (kx.below stayDe hb) (ky.below stayRu hb) kI (by omega))
  have HPG := Lib.hid (fun W (hb : Below w.heap.size w W) => pprog_any g _ _ W (hx.below stayDe hb) (hy.below stayRu hb) hI (by omega) (hT.on hb))
  obtain ⟨S, hS⟩ : ∃ S : ByteArray, S = ⟨(progTx g).toArray⟩ := ⟨_, rfl⟩
  have hSd : S.data.toList = progTx g := by rw [hS]
  have hSl : S.data.toList.length = S.size := by simp
  obtain ⟨T, hT2⟩ : ∃ T : ByteArray, T = ⟨(progTx ⟨[], h.rules⟩).toArray⟩ := ⟨_, rfl⟩
  have hTd : T.data.toList = progTx ⟨[], h.rules⟩ := by rw [hT2]
  have hI2 : InPr ⟨[], h.rules⟩ := ⟨by simp, kI.2⟩
  have hI3 : InPr ⟨g.decls, g.rules ++ h.rules⟩ := ⟨hI.1, fun r hr => by
    rcases List.mem_append.1 hr with hr | hr
    · exact hI.2 r hr
    · exact kI.2 r hr⟩
  have hz2 : szPr ⟨[], h.rules⟩ ≤ 1048576 := by unfold szPr szDes at *; simp at *; omega
  have hz3 : szPr ⟨g.decls, g.rules ++ h.rules⟩ ≤ 2097152 := by unfold szPr szRus szDes at *; simp at *; omega
  have hTle : T.size ≤ 100000000 := by
    have h1 := progTx_le hI2
    have h2 : T.data.toList.length = T.size := by simp
    rw [hTd] at h2
    omega
  have HP2 : Hid (∀ W, Below w.heap.size w W → Calls Tryz.prog 11 #[.agg #[.slice none 0 0, .slice yo2 h.rules.length yc2]] W fun e w' => e = .returned (.string T) ∧ Below W.heap.size W w') := fun W hb => by
    rw [hT2]
    exact pprog_any ⟨[], h.rules⟩ _ _ W (RdL.nil _ _ _ _ _) (ky.below stayRu hb) hI2 (by omega) (hT.on hb)
  have HP3 : Hid (∀ W v, Below w.heap.size w W → Rus W v (g.rules ++ h.rules) → Calls Tryz.prog 11 #[.agg #[.slice xo g.decls.length xc, v]] W fun e w' => e = .returned (.string (S ++ T)) ∧ Below W.heap.size W w') := fun W v hb hv => by
    have := pprog_any ⟨g.decls, g.rules ++ h.rules⟩ _ v W (hx.below stayDe hb) hv hI3 (by omega) (hT.on hb)
    rw [prog_behind] at this
    have e : (⟨(progTx g ++ progTx ⟨[], h.rules⟩).toArray⟩ : ByteArray) = S ++ T := by
      apply Go.WideShapes.bytes_inj
      rw [Go.Joins.data_append, hSd, hTd]
    rw [e] at this
    exact this
  rw [← hS] at HPG
  have hSle : S.size ≤ 100000000 := by rw [← hSl, hSd]; omega
  obtain ⟨mb, hmb⟩ : ∃ mb, mb = mayPrB g := ⟨_, rfl⟩
  obtain ⟨mc, hmc⟩ : ∃ mb, mb = mayPrB h := ⟨_, rfl⟩
  have HLN : Hid (mb = true → Lined S.data.toList (g.decls.length + g.rules.length)) := fun hm => by
    rw [hSd]; exact lined_prog ((mayPr_iff hI).1 (hmb.symm.trans hm))
  rw [← hmb] at HM1
  rw [← hmc] at HM2
  have HRG := Lib.hid hy
  have HRH := Lib.hid ky
  have HNG := Lib.hid hN
  have HNH := Lib.hid kN
  obtain ⟨GD, GR⟩ := g
  obtain ⟨KD, KR⟩ := h
  simp only at HF1 HF2 HM1 HM2 HPG HP2 HP3 HLN HRG HRH HNG HNH hgd hgr khr
  obtain ⟨W, hW⟩ : ∃ W, W = (w.alloc (.cells #[.slice xo GD.length xc, .slice yo GR.length yc] 25)).alloc (.cells #[.slice xo2 KD.length xc2, .slice yo2 KR.length yc2] 25) := ⟨_, rfl⟩
  have hbW : Below w.heap.size w W := by rw [hW]; exact (al_below w _).alloc (by simp) _
  have HB0 := Lib.hid hbW
  have HK : Hid (∀ W', Below W.heap.size W W' → W'.cell? ⟨w.heap.size, 0, none⟩ = some (.slice xo GD.length xc) ∧ W'.cell? ⟨w.heap.size, 1, none⟩ = some (.slice yo GR.length yc) ∧ W'.cell? ⟨w.heap.size + 1, 0, none⟩ = some (.slice xo2 KD.length xc2) ∧ W'.cell? ⟨w.heap.size + 1, 1, none⟩ = some (.slice yo2 KR.length yc2) ∧ w.heap.size < W'.heap.size ∧ w.heap.size + 1 < W'.heap.size ∧ Below w.heap.size w W') := fun W' hb => by
    have hB : Blk W w.heap.size #[.slice xo GD.length xc, .slice yo GR.length yc] 25 := by rw [hW]; exact (Blk.new w _ _).below (al_below _ _)
    have hC : Blk W (w.heap.size + 1) #[.slice xo2 KD.length xc2, .slice yo2 KR.length yc2] 25 := by rw [hW]; exact blk2 _ _ _ _ _
    exact ⟨(hB.below hb).cell 0, (hB.below hb).cell 1, (hC.below hb).cell 0, (hC.below hb).cell 1, (hB.below hb).lt, (hC.below hb).lt, hbW.trans (hb.mono hbW.size)⟩
  have HW := Lib.hid hW
  have hSI : (S.size : Int) ≤ 100000000 := by omega
  have HSL := Lib.hid hSl
  clear hx hy kx ky hI kI hs ks hN kN hE hT hle hld hlr klr hS hSd hSl hT2 hTd hI2 hI3 hz2 hz3 hmb hmc hbW hW hSle
  go_enter Tryz.func8, Tryz.ntmps8
  go_wp2_with (go_at_call 9; rw [← HW.out]; refine (HSH.out _ HB0.out).mono ?_; rintro e w1 ⟨rfl, hb1⟩; have HB1 : Hid (Below W.heap.size W w1) := hb1; clear hb1; obtain ⟨p0, p1, p2, p3, p4, p5, p6⟩ := HK.out _ HB1.out)
  refine (HF1.out _ p6).mono ?_
  rintro e w2 ⟨fb, rfl, hb2⟩
  have HB2 : Hid (Below W.heap.size W w2) := HB1.out.trans (hb2.mono HB1.out.size)
  clear hb2 p0 p1 p2 p3 p4 p5 p6
  cases fb
  · go_wp2
    go_ret
    exact ⟨rfl, (HK.out _ HB2.out).2.2.2.2.2.2⟩
  obtain ⟨p0, p1, p2, p3, p4, p5, p6⟩ := HK.out _ HB2.out
  go_wp2_with fail
  refine (HF2.out _ p6).mono ?_
  rintro e w3 ⟨fc, rfl, hb3⟩
  have HB3 : Hid (Below W.heap.size W w3) := HB2.out.trans (hb3.mono HB2.out.size)
  clear hb3 p0 p1 p2 p3 p4 p5 p6
  cases fc
  · go_wp2
    go_ret
    exact ⟨rfl, (HK.out _ HB3.out).2.2.2.2.2.2⟩
  obtain ⟨p0, p1, p2, p3, p4, p5, p6⟩ := HK.out _ HB3.out
  cases mb
  · go_wp2_with (go_at_call 13; refine (HM1.out _ p6).mono ?_; rintro e w4 ⟨rfl, hb4⟩; have HB4 : Hid (Below W.heap.size W w4) := HB3.out.trans (hb4.mono HB3.out.size); clear hb4)
    go_ret
    exact ⟨rfl, (HK.out _ HB4.out).2.2.2.2.2.2⟩
  cases mc
  · go_wp2_with (first
      | (go_at_call 13; refine (HM1.out _ p6).mono ?_; rintro e w4 ⟨rfl, hb4⟩; have HB4 : Hid (Below W.heap.size W w4) := HB3.out.trans (hb4.mono HB3.out.size); clear hb4 HM1; obtain ⟨q0, q1, q2, q3, q4, q5, q6⟩ := HK.out _ HB4.out)
      | (go_at_call 13; refine (HM2.out _ q6).mono ?_; rintro e w5 ⟨rfl, hb5⟩; have HB5 : Hid (Below W.heap.size W w5) := HB4.out.trans (hb5.mono HB4.out.size); clear hb5))
    go_ret
    exact ⟨rfl, (HK.out _ HB5.out).2.2.2.2.2.2⟩
  have HL := Lib.hid (HLN.out rfl)
  clear HLN
  go_wp2_with (first
    | (go_at_call 13; refine (HM1.out _ p6).mono ?_; rintro e w4 ⟨rfl, hb4⟩; have HB4 : Hid (Below W.heap.size W w4) := HB3.out.trans (hb4.mono HB3.out.size); clear hb4 HM1; obtain ⟨q0, q1, q2, q3, q4, q5, q6⟩ := HK.out _ HB4.out)
    | (go_at_call 13; refine (HM2.out _ q6).mono ?_; rintro e w5 ⟨rfl, hb5⟩; have HB5 : Hid (Below W.heap.size W w5) := HB4.out.trans (hb5.mono HB4.out.size); clear hb5 HM2; obtain ⟨r0, r1, r2, r3, r4, r5, r6⟩ := HK.out _ HB5.out)
    | (go_at_call 11; refine (HPG.out _ r6).mono ?_; rintro e w6 ⟨rfl, hb6⟩; have HB6 : Hid (Below W.heap.size W w6) := HB5.out.trans (hb6.mono HB5.out.size); clear hb6))
  clear p0 p1 p2 p3 p4 p5 p6 q0 q1 q2 q3 q4 q5 q6 r0 r1 r2 r3 r4 r5 r6 HB5 HB4 HB3 HB2 HB1
  go_loopw [7, 8] (fun n i wr => ∃ k : Nat, (k : Int) ≤ (S.size : Int) ∧ i = .int .i64 k ∧ n = .int .i64 ((nls (S.data.toList.take k) : Nat) : Int) ∧ Hid (Below W.heap.size W wr)) (fun _ i _ => S.size - (intOf i).toNat)
  case atStart => exact ⟨0, by omega, rfl, rfl, HB6.out⟩
  case round =>
    clear HB6
    obtain ⟨k, hk, rfl, rfl, HB⟩ := hrel
    by_cases hlt : k < S.size
    · have hltI : (k : Int) < (S.size : Int) := by omega
      have hk0 : (0 : Int) ≤ (k : Int) := by omega
      have HLT : Hid (k + 1 ≤ S.size) := hlt
      have hkl : k < S.data.toList.length := by rw [HSL.out]; exact hlt
      have hbyte : S.data.toList[k]'hkl = S[k]'hlt := by simp [ByteArray.getElem_eq_getElem_data]
      have hnt := nls_take hkl
      rw [hbyte] at hnt
      have hnb : nls (S.data.toList.take k) ≤ k := by
        unfold nls
        exact Nat.le_trans (List.length_filter_le _ _) (by rw [List.length_take]; omega)
      obtain ⟨c, hc⟩ : ∃ c, c = S[k]'hlt := ⟨_, rfl⟩
      by_cases h10 : c = 10
      · have h46 : ∃ m, k = m + 1 ∧ S.data.toList[m]? = some 46 := HL.out.ends k (by rw [List.getElem?_eq_getElem hkl, hbyte, ← hc, h10])
        rw [← hc, if_pos h10] at hnt
        obtain ⟨m, rfl, hm⟩ := h46
        obtain ⟨hm1, hm2⟩ := List.getElem?_eq_some_iff.1 hm
        have hmS : m < S.size := by omega
        have hmb : (S[m]'hmS) = 46 := by rw [← hm2]; simp [ByteArray.getElem_eq_getElem_data]
        have hcb : (S[m + 1]'hlt) = 10 := hc.symm.trans h10
        have hmI : (m : Int) < (S.size : Int) := by omega
        have hm0 : (0 : Int) ≤ (m : Int) := by omega
        obtain ⟨q, hq⟩ : ∃ q, q = nls (S.data.toList.take (m + 1)) := ⟨_, rfl⟩
        rw [← hq] at hnt hnb ⊢
        have hqI : (q : Int) ≤ 100000001 := by omega
        have HNT := Lib.hid hnt
        clear hbyte hnt hnb hc h10 hm hm1 hm2 hq hkl
        go_wp2
        go_roundw
        case rel => exact ⟨m + 1 + 1, by have := HLT.out; omega, by go_num, by rw [HNT.out]; exact congrArg (Value.int .i64) (by omega), HB.out⟩
        case measure => simp [intOf]; have := HLT.out; omega
      · have hcb : (S[k]'hlt) = c := hc.symm
        have hcB : ((c.toNat : Int) == 10) = false := by
          simp only [beq_eq_false_iff_ne]
          intro e
          exact h10 (UInt8.toNat_inj.1 (by simp; omega))
        rw [← hc, if_neg h10, Nat.add_zero] at hnt
        have HNT := Lib.hid hnt
        clear hbyte hnt hnb hc h10 hkl
        go_wp2
        go_roundw
        case rel => exact ⟨k + 1, by have := HLT.out; omega, by go_num, by rw [HNT.out]; exact congrArg (Value.int .i64) (by omega), HB.out⟩
        case measure => simp [intOf]; have := HLT.out; omega
    · have hltI : ¬ (k : Int) < (S.size : Int) := by omega
      have hcnt : nls (S.data.toList.take k) = GD.length + GR.length := by
        rw [List.take_of_length_le (by rw [HSL.out]; omega)]
        exact HL.out.count
      rw [hcnt]
      clear hcnt
      obtain ⟨nn, hnn⟩ : ∃ nn : Nat, nn = GD.length + GR.length := ⟨_, rfl⟩
      rw [← hnn]
      have hsum : (GD.length : Int) + (GR.length : Int) = (nn : Int) := by omega
      have hnI : (nn : Int) ≤ 2000000 := by omega
      have hwn : IntKind.i64.wrap (nn : Int) = (nn : Int) := by rw [IntKind.wrap_i64]; omega
      clear hnn
      obtain ⟨p0, p1, p2, p3, p4, p5, p6⟩ := HK.out _ HB.out
      have hdI : (GD.length : Int) ≤ 1000000 := by omega
      have hrI : (GR.length : Int) ≤ 1000000 := by omega
      have l0 : w.heap.size < W.heap.size := by have := HW.out; rw [this]; simp; omega
      have l1 : w.heap.size + 1 < W.heap.size := by have := HW.out; rw [this]; simp
      have hn : w.heap.size ≤ W.heap.size := by omega
      have HBr := Lib.hid (lines_first p0 p1 p3 HB.out.size p6)
      have HL0 := Lib.hid l0
      have HL1 := Lib.hid l1
      have HHN := Lib.hid hn
      have HSZ := Lib.hid HB.out.size
      have hn2 : W.heap.size ≤ wr.heap.size := HB.out.size
      clear l0 l1 hn p0 p1 p2 p3 p4 p5 p6
      have e3 : ((S ++ T).toList == (S ++ T).toList) = true := by simp
      have hst : ¬ 9223372036854775807 < S.size + T.size := by omega
      go_wp2_with fail
      go_region_held3 (fun w' => w'.cell? ⟨w.heap.size, 0, none⟩ = some (.slice xo GD.length xc) ∧ w'.cell? ⟨w.heap.size, 1, none⟩ = some (.slice yo GR.length yc) ∧ w'.cell? ⟨w.heap.size + 1, 1, none⟩ = some (.slice yo2 KR.length yc2) ∧ W.heap.size ≤ w'.heap.size ∧ Below w.heap.size w w')
        (first | assumption | exact lines_drew HBr.out | exact HBr.out | exact lines_alloc HL0.out HL1.out HHN.out (by assumption) _ | exact lines_set HL0.out HL1.out HHN.out (by assumption) (by omega) _ _)
        (first
          | (refine step_append_ru (w0 := w) rfl (.tmp 55) (.tmp 57) rfl wr.heap.size (.slice (some ⟨_, 0, none⟩) 0 0) [] rfl (own_empty_ru (by simp) (by first | exact heap1L _ _ | exact heap2L _ _ _ | exact heap1oL _ _ _)) (.slice yo GR.length yc) GR rfl HRG.out HNG.out (by go_split_ands; assumption) (by simp; omega) (by first | omega | (simp; omega) | simp) ?_; intro v1 w2 ho1 hb1 hz1; have hw2 : wr.heap.size ≤ w2.heap.size := Nat.le_trans (by first | omega | (simp; omega) | simp) hb1.size; have hS2 := lines_keep HL0.out HL1.out HHN.out (by assumption) (hb1.mono hn2); have HO1 := Lib.hid ho1; have HZ1 := Lib.hid hz1; clear ho1 hb1 hz1)
          | (refine step_append_ru (w0 := w) rfl (.tmp 58) (.tmp 60) rfl wr.heap.size v1 ([] ++ GR) rfl (by first | exact HO1.out | exact HO1.out.below (al_below _ _)) (.slice yo2 KR.length yc2) KR rfl HRH.out HNH.out (by go_split_ands; assumption) (by simp; omega) (by first | omega | (simp; omega)) ?_; intro v2 w3 ho2 hb2 hz2; have hS3 := lines_keep HL0.out HL1.out HHN.out (by assumption) (hb2.mono hn2); obtain ⟨vo, vc, hv2⟩ := ho2.form; subst hv2; have HO2 := Lib.hid ho2; have HZ2 := Lib.hid hz2; clear ho2 hb2 hz2;
              (first
                | (have h8 := HZ1.out _ (.cells #[.slice none 0 0, .slice none 0 0] 25 (0, 0)) (by first | exact heap1oL _ _ _ | exact heap2L _ _ _) (by simp [Value.ownBlock]); have h9 := HZ2.out _ _ h8.1 h8.2; obtain ⟨c0, c1, f0, f1, lt9⟩ := box9 h9.1; have HV9 := Lib.hid h9.2; have HC9 := Lib.hid h9.1; clear h8 h9)
                | (have h9 := HZ2.out w2.heap.size (.cells #[.slice none 0 0, .slice none 0 0] 25 (0, 0)) (heap1L _ _) (fun e => Nat.lt_irrefl _ (HO1.out.lt _ e)); obtain ⟨c0, c1, f0, f1, lt9⟩ := box9 h9.1; have HV9 := Lib.hid h9.2; have HC9 := Lib.hid h9.1; clear h9)
                | skip)))
      · have hs9 := lines_alloc HL0.out HL1.out HHN.out hS3 (Obj.cells #[Value.slice xo GD.length xc, Value.slice vo (GR.length + KR.length) vc] 25)
        have hp9 := pack_alloc (x := .slice xo GD.length xc) (m := GR.length + KR.length) (vo := vo) (vc := vc) HO2.out (by simp) hS3.2.2.2.2 (by simp; unfold maxLen; omega)
        generalize w3.alloc (Obj.cells #[Value.slice xo GD.length xc, Value.slice vo (GR.length + KR.length) vc] 25) = X at hp9 hs9 ⊢
        obtain ⟨k0, k1, k2, k3, k4⟩ := hp9
        have HXW := Lib.hid k4
        have HQ3 := Lib.hid (fun W' (hb : Below X.heap.size X W') => HP3.out W' _ (below_w HXW.out hb) (k3.below stayRu hb))
        have HQ2 := Lib.hid (fun W' (hb : Below X.heap.size X W') => HP2.out W' (below_w HXW.out hb))
        have HK9 : Hid (∀ W', Below X.heap.size X W' → W'.cell? ⟨w.heap.size, 0, none⟩ = some (.slice xo GD.length xc) ∧ W'.cell? ⟨w.heap.size, 1, none⟩ = some (.slice yo GR.length yc) ∧ W'.cell? ⟨w.heap.size + 1, 1, none⟩ = some (.slice yo2 KR.length yc2) ∧ W'.cell? ⟨w3.heap.size, 0, none⟩ = some (.slice xo GD.length xc) ∧ W'.cell? ⟨w3.heap.size, 1, none⟩ = some (.slice vo (GR.length + KR.length) vc) ∧ Below X.heap.size X W') := fun W' hb => pack_keep HL0.out HL1.out hs9 k0 k1 k2 hb
        clear k0 k1 k2 k3 k4 hs9 HZ1 HZ2 HO1 HO2 hS2 hS3
        go_wp2_with fail
        go_region_held3 (fun w' => w'.cell? ⟨w.heap.size, 0, none⟩ = some (.slice xo GD.length xc) ∧ w'.cell? ⟨w.heap.size, 1, none⟩ = some (.slice yo GR.length yc) ∧ w'.cell? ⟨w.heap.size + 1, 1, none⟩ = some (.slice yo2 KR.length yc2) ∧ w'.cell? ⟨w3.heap.size, 0, none⟩ = some (.slice xo GD.length xc) ∧ w'.cell? ⟨w3.heap.size, 1, none⟩ = some (.slice vo (GR.length + KR.length) vc) ∧ Below X.heap.size X w')
          (first | assumption | exact HK9.out _ (below_step (by go_split_ands; assumption) hbN) | exact HK9.out _ ((Below.refl _ _).drew) | exact HK9.out _ (Below.refl _ _))
          (first
            | (go_at_call 11; with_reducible refine (HQ3.out _ (by go_split_ands; assumption)).mono ?_; rintro e w' ⟨rfl, hbN⟩)
            | (go_at_call 11; with_reducible refine (HQ2.out _ (by go_split_ands; assumption)).mono ?_; rintro e w' ⟨rfl, hbN⟩))
        all_goals
          go_wp2
          go_ret
          go_split_ands
          exact ⟨by first | rfl | simp, below_w HXW.out (by assumption)⟩
      · have hs9 := lines_set (b9 := w2.heap.size) HL0.out HL1.out HHN.out hS3 (by omega) (Value.slice xo GD.length xc) (Value.slice vo (GR.length + KR.length) vc)
        have hp9 := pack_set (x := .slice xo GD.length xc) (m := GR.length + KR.length) (vo := vo) (vc := vc) HO2.out (by simp) hS3.2.2.2.2 (by simp; unfold maxLen; omega) HC9.out HV9.out (by have := HHN.out; omega)
        generalize (w3.setCell ⟨w2.heap.size, 0, none⟩ (Value.slice xo GD.length xc)).setCell ⟨w2.heap.size, 1, none⟩ (Value.slice vo (GR.length + KR.length) vc) = X at hp9 hs9 ⊢
        obtain ⟨k0, k1, k2, k3, k4⟩ := hp9
        have HXW := Lib.hid k4
        have HQ3 := Lib.hid (fun W' (hb : Below X.heap.size X W') => HP3.out W' _ (below_w HXW.out hb) (k3.below stayRu hb))
        have HQ2 := Lib.hid (fun W' (hb : Below X.heap.size X W') => HP2.out W' (below_w HXW.out hb))
        have HK9 : Hid (∀ W', Below X.heap.size X W' → W'.cell? ⟨w.heap.size, 0, none⟩ = some (.slice xo GD.length xc) ∧ W'.cell? ⟨w.heap.size, 1, none⟩ = some (.slice yo GR.length yc) ∧ W'.cell? ⟨w.heap.size + 1, 1, none⟩ = some (.slice yo2 KR.length yc2) ∧ W'.cell? ⟨w2.heap.size, 0, none⟩ = some (.slice xo GD.length xc) ∧ W'.cell? ⟨w2.heap.size, 1, none⟩ = some (.slice vo (GR.length + KR.length) vc) ∧ Below X.heap.size X W') := fun W' hb => pack_keep HL0.out HL1.out hs9 k0 k1 k2 hb
        clear k0 k1 k2 k3 k4 hs9 HZ1 HZ2 HO1 HO2 hS2 hS3
        go_wp2_with fail
        go_region_held3 (fun w' => w'.cell? ⟨w.heap.size, 0, none⟩ = some (.slice xo GD.length xc) ∧ w'.cell? ⟨w.heap.size, 1, none⟩ = some (.slice yo GR.length yc) ∧ w'.cell? ⟨w.heap.size + 1, 1, none⟩ = some (.slice yo2 KR.length yc2) ∧ w'.cell? ⟨w2.heap.size, 0, none⟩ = some (.slice xo GD.length xc) ∧ w'.cell? ⟨w2.heap.size, 1, none⟩ = some (.slice vo (GR.length + KR.length) vc) ∧ Below X.heap.size X w')
          (first | assumption | exact HK9.out _ (below_step (by go_split_ands; assumption) hbN) | exact HK9.out _ ((Below.refl _ _).drew) | exact HK9.out _ (Below.refl _ _))
          (first
            | (go_at_call 11; with_reducible refine (HQ3.out _ (by go_split_ands; assumption)).mono ?_; rintro e w' ⟨rfl, hbN⟩)
            | (go_at_call 11; with_reducible refine (HQ2.out _ (by go_split_ands; assumption)).mono ?_; rintro e w' ⟨rfl, hbN⟩))
        all_goals
          go_wp2
          go_ret
          go_split_ands
          exact ⟨by first | rfl | simp, below_w HXW.out (by assumption)⟩
      · have hs9 := lines_set (b9 := wr.heap.size + 1) HL0.out HL1.out HHN.out hS3 (by omega) (Value.slice xo GD.length xc) (Value.slice vo (GR.length + KR.length) vc)
        have hp9 := pack_set (x := .slice xo GD.length xc) (m := GR.length + KR.length) (vo := vo) (vc := vc) HO2.out (by simp) hS3.2.2.2.2 (by simp; unfold maxLen; omega) HC9.out HV9.out (by have := HHN.out; omega)
        generalize (w3.setCell ⟨wr.heap.size + 1, 0, none⟩ (Value.slice xo GD.length xc)).setCell ⟨wr.heap.size + 1, 1, none⟩ (Value.slice vo (GR.length + KR.length) vc) = X at hp9 hs9 ⊢
        obtain ⟨k0, k1, k2, k3, k4⟩ := hp9
        have HXW := Lib.hid k4
        have HQ3 := Lib.hid (fun W' (hb : Below X.heap.size X W') => HP3.out W' _ (below_w HXW.out hb) (k3.below stayRu hb))
        have HQ2 := Lib.hid (fun W' (hb : Below X.heap.size X W') => HP2.out W' (below_w HXW.out hb))
        have HK9 : Hid (∀ W', Below X.heap.size X W' → W'.cell? ⟨w.heap.size, 0, none⟩ = some (.slice xo GD.length xc) ∧ W'.cell? ⟨w.heap.size, 1, none⟩ = some (.slice yo GR.length yc) ∧ W'.cell? ⟨w.heap.size + 1, 1, none⟩ = some (.slice yo2 KR.length yc2) ∧ W'.cell? ⟨wr.heap.size + 1, 0, none⟩ = some (.slice xo GD.length xc) ∧ W'.cell? ⟨wr.heap.size + 1, 1, none⟩ = some (.slice vo (GR.length + KR.length) vc) ∧ Below X.heap.size X W') := fun W' hb => pack_keep HL0.out HL1.out hs9 k0 k1 k2 hb
        clear k0 k1 k2 k3 k4 hs9 HZ1 HZ2 HO1 HO2 hS2 hS3
        go_wp2_with fail
        go_region_held3 (fun w' => w'.cell? ⟨w.heap.size, 0, none⟩ = some (.slice xo GD.length xc) ∧ w'.cell? ⟨w.heap.size, 1, none⟩ = some (.slice yo GR.length yc) ∧ w'.cell? ⟨w.heap.size + 1, 1, none⟩ = some (.slice yo2 KR.length yc2) ∧ w'.cell? ⟨wr.heap.size + 1, 0, none⟩ = some (.slice xo GD.length xc) ∧ w'.cell? ⟨wr.heap.size + 1, 1, none⟩ = some (.slice vo (GR.length + KR.length) vc) ∧ Below X.heap.size X w')
          (first | assumption | exact HK9.out _ (below_step (by go_split_ands; assumption) hbN) | exact HK9.out _ ((Below.refl _ _).drew) | exact HK9.out _ (Below.refl _ _))
          (first
            | (go_at_call 11; with_reducible refine (HQ3.out _ (by go_split_ands; assumption)).mono ?_; rintro e w' ⟨rfl, hbN⟩)
            | (go_at_call 11; with_reducible refine (HQ2.out _ (by go_split_ands; assumption)).mono ?_; rintro e w' ⟨rfl, hbN⟩))
        all_goals
          go_wp2
          go_ret
          go_split_ands
          exact ⟨by first | rfl | simp, below_w HXW.out (by assumption)⟩
      · have hs9 := lines_set (b9 := wr.heap.size) HL0.out HL1.out HHN.out hS3 (by omega) (Value.slice xo GD.length xc) (Value.slice vo (GR.length + KR.length) vc)
        have hp9 := pack_set (x := .slice xo GD.length xc) (m := GR.length + KR.length) (vo := vo) (vc := vc) HO2.out (by simp) hS3.2.2.2.2 (by simp; unfold maxLen; omega) HC9.out HV9.out (by have := HHN.out; omega)
        generalize (w3.setCell ⟨wr.heap.size, 0, none⟩ (Value.slice xo GD.length xc)).setCell ⟨wr.heap.size, 1, none⟩ (Value.slice vo (GR.length + KR.length) vc) = X at hp9 hs9 ⊢
        obtain ⟨k0, k1, k2, k3, k4⟩ := hp9
        have HXW := Lib.hid k4
        have HQ3 := Lib.hid (fun W' (hb : Below X.heap.size X W') => HP3.out W' _ (below_w HXW.out hb) (k3.below stayRu hb))
        have HQ2 := Lib.hid (fun W' (hb : Below X.heap.size X W') => HP2.out W' (below_w HXW.out hb))
        have HK9 : Hid (∀ W', Below X.heap.size X W' → W'.cell? ⟨w.heap.size, 0, none⟩ = some (.slice xo GD.length xc) ∧ W'.cell? ⟨w.heap.size, 1, none⟩ = some (.slice yo GR.length yc) ∧ W'.cell? ⟨w.heap.size + 1, 1, none⟩ = some (.slice yo2 KR.length yc2) ∧ W'.cell? ⟨wr.heap.size, 0, none⟩ = some (.slice xo GD.length xc) ∧ W'.cell? ⟨wr.heap.size, 1, none⟩ = some (.slice vo (GR.length + KR.length) vc) ∧ Below X.heap.size X W') := fun W' hb => pack_keep HL0.out HL1.out hs9 k0 k1 k2 hb
        clear k0 k1 k2 k3 k4 hs9 HZ1 HZ2 HO1 HO2 hS2 hS3
        go_wp2_with fail
        go_region_held3 (fun w' => w'.cell? ⟨w.heap.size, 0, none⟩ = some (.slice xo GD.length xc) ∧ w'.cell? ⟨w.heap.size, 1, none⟩ = some (.slice yo GR.length yc) ∧ w'.cell? ⟨w.heap.size + 1, 1, none⟩ = some (.slice yo2 KR.length yc2) ∧ w'.cell? ⟨wr.heap.size, 0, none⟩ = some (.slice xo GD.length xc) ∧ w'.cell? ⟨wr.heap.size, 1, none⟩ = some (.slice vo (GR.length + KR.length) vc) ∧ Below X.heap.size X w')
          (first | assumption | exact HK9.out _ (below_step (by go_split_ands; assumption) hbN) | exact HK9.out _ ((Below.refl _ _).drew) | exact HK9.out _ (Below.refl _ _))
          (first
            | (go_at_call 11; with_reducible refine (HQ3.out _ (by go_split_ands; assumption)).mono ?_; rintro e w' ⟨rfl, hbN⟩)
            | (go_at_call 11; with_reducible refine (HQ2.out _ (by go_split_ands; assumption)).mono ?_; rintro e w' ⟨rfl, hbN⟩))
        all_goals
          go_wp2
          go_ret
          go_split_ands
          exact ⟨by first | rfl | simp, below_w HXW.out (by assumption)⟩
end Go.Proofs.YtddioikfhabjpaaGreatDoor
