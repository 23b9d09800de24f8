/-
  Contracts of safe.names and safe.Vars: the names of the variables among some terms, in turn, each once.
-/
import Derived.Test.YtcpdikhiodbdjaaSfPlain
import Derived.Test.YtcpdikhiodbdjaaSfMem
import Derived.Maps.OwnSet
import Derived.Maps.AppendAt
import Derived.WalkKit
namespace Go.Proofs.Ytcpdikhiodbdjaa
set_option linter.unusedSimpArgs false
set_option linter.unusedVariables false
set_option linter.unusedSectionVars false
set_option maxRecDepth 100000
open Go.RowKit Go.Maps

theorem lawS : Keyed Try.prog 9 := string_keyed Try.underlying9
theorem zeroU (w : World) : (zeroValue 70).run Try.prog w = .ok (.agg #[]) w := by kernel_rfl
/-- What a set of names holds. -/
def HasN (D : DataW Unit) (L : List ByteArray) : Prop := ∀ s : ByteArray, s.size ≤ maxLen → Maps.has D (.string s.data.toList) = inN L s
theorem hasN_nil : HasN (.map []) [] := fun s _ => by simp [Maps.has, inN]
theorem keyS {s : ByteArray} (h : s.size ≤ maxLen) : keyOf Try.prog 9 (.string s) = some (.string s.data.toList) := WideMaps.keyOf_string_mk Try.underlying9 h
theorem hasN_put {D : DataW Unit} {L : List ByteArray} (h : HasN D L) (hD : IsMap D) {s : ByteArray} (hs : s.size ≤ maxLen) (d : DataW Unit) : HasN (D.put (.string s.data.toList) d) (L ++ [s]) := fun u hu => by
  by_cases e : u = s
  · subst e
    rw [Maps.has_put_same hD (lawS.key (keyS hs))]
    exact ((inN_iff _ _).2 (by simp)).symm
  · have hne : (Lit.string u.data.toList) ≠ .string s.data.toList := fun h => by
      have h2 : u.data.toList = s.data.toList := by simpa using h
      exact e (ByteArray.ext (Array.ext' h2))
    rw [Maps.has_put_other hne, h u hu]
    cases hi : inN L u with
    | true => exact ((inN_iff _ _).2 (by simp [(inN_iff _ _).1 hi])).symm
    | false => exact ((inN_no _ _).2 (by simp [(inN_no _ _).1 hi, e])).symm
/-- A list of the call's own stays while a map turns. -/
theorem OwnNm.map {w0 W W' : World} {B b : Nat} {v : Value} {L : List ByteArray} (h : OwnNm w0 W B v L) (ht : W.mapTurned W' b) (hb : b < B) : OwnNm w0 W' B v L :=
  h.far (fun g hg => ht.grown.block g (h.lt g hg).2 (fun e => by have := (h.lt g hg).1; cases e; omega))
/-- A list of names of the call's own speaks of no memory but its own. -/
theorem OwnNm.base {w0 w1 W : World} {B B' : Nat} {v : Value} {L : List ByteArray} (h : OwnNm w0 W B v L) (hB : B' ≤ B) : OwnNm w1 W B' v L := by
  obtain ⟨cs, h1, h2⟩ := h
  exact ⟨cs, h1.imp (fun _ _ h => h), owns_keep h2 hB (fun _ _ _ => rfl)⟩
theorem map_keeps {W W' : World} {b p off : Nat} {x : Value} (ht : W.mapTurned W' b) (hne : p ≠ b) (hc : W.cell? ⟨p, off, none⟩ = some x) : W'.cell? ⟨p, off, none⟩ = some x :=
  (World.cell?_of_block (a := ⟨p, off, none⟩) (ht.grown.block p (lt_of_cell hc) (fun e => hne (by cases e; rfl)))).trans hc
theorem boxed_at (w : World) (cs : Array Value) (t : TypeId) (o : Obj) (j : Nat) : ((w.alloc (.cells cs t)).alloc o).cell? ⟨w.heap.size, j, none⟩ = cs[j]? := by
  have h : ((w.alloc (.cells cs t)).alloc o).heap[w.heap.size]? = some (.cells cs t (0, 0)) := by rw [Below.heap_alloc _ _ _ (by simp)]; exact (MapKept.heap_alloc w _).1
  exact cell_of_row _ _ _ _ _ _ h
theorem vars_take {A : List Tm} {k : Nat} (hk : k < A.length) : varsA (A.take (k + 1)) = if (A[k]'hk).v = true ∧ inN (varsA (A.take k)) (A[k]'hk).name = false then varsA (A.take k) ++ [(A[k]'hk).name] else varsA (A.take k) := by
  rw [List.take_succ_eq_append_getElem hk, vars_snoc]
theorem vars_take_len (A : List Tm) (k : Nat) : (varsA (A.take k)).length ≤ A.length := Nat.le_trans (vars_len _) (by simp; omega)

/-- The set and the list, as the loop has them. -/
def NamS (w wr : World) (v : Value) (k : Nat) (L : List ByteArray) : Prop :=
  OwnNm w wr (w.heap.size + 1) v L ∧ Below w.heap.size w wr ∧ ∃ D : DataW Unit, wr.ownsMap Try.prog 9 unitElem w.heap.size k D ∧ HasN D L
theorem NamS.lt {w wr : World} {v : Value} {k : Nat} {L : List ByteArray} (h : NamS w wr v k L) : w.heap.size + 1 ≤ wr.heap.size := by
  obtain ⟨-, -, D, h, -⟩ := h
  exact h.lt
theorem NamS.alloc {w wr : World} {v : Value} {k : Nat} {L : List ByteArray} (h : NamS w wr v k L) (o : Obj) : NamS w (wr.alloc o) v k L := by
  obtain ⟨h1, h2, D, h3, h4⟩ := h
  exact ⟨h1.below (al_bel _ _), h2.alloc h2.size _, D, h3.alloc _, h4⟩
theorem NamS.old {w wr : World} {v : Value} {k : Nat} {L : List ByteArray} (h : NamS w wr v k L) : NamS w wr v (k + 1) L := by
  obtain ⟨h1, h2, D, h3, h4⟩ := h
  exact ⟨h1, h2, D, h3.mono (Nat.le_succ _), h4⟩
/-- Behind the store in the set, and behind append. -/
theorem NamS.more {w wr w1 w2 : World} {v v2 : Value} {k : Nat} {L : List ByteArray} {s : ByteArray} {D1 : DataW Unit} {o : Obj} (h : NamS w wr v k L) (hD : HasN D1 (L ++ [s])) (hm : w1.ownsMap Try.prog 9 unitElem w.heap.size (k + 1) D1)
    (ht : wr.mapTurned w1 w.heap.size) (ho : OwnNm w w2 (w.heap.size + 1) v2 (L ++ [s])) (hg : (w1.alloc o).grownBy w2 v.ownBlock) : NamS w w2 v2 (k + 1) (L ++ [s]) := by
  have hlt := h.lt
  obtain ⟨h1, h2, D, h3, h4⟩ := h
  have hs := ht.grown.size
  have hne : some w.heap.size ≠ v.ownBlock := fun e => by have := (h1.lt _ e.symm).1; omega
  refine ⟨ho, ?_, D1, ?_, hD⟩
  · exact ((h2.grown ht.grown h2.size (fun k e => by cases e; exact Nat.le_refl _)).alloc (by have := h2.size; omega) o).grown hg (by have := h2.size; simp; omega) (fun k e => by have := (h1.lt k e).1; omega)
  · exact (hm.alloc _).kept hg hne

set_option maxHeartbeats 2000000 in
theorem names_any {x : Value} {A : List Tm} {w : World} (hx : Tms w x A) (hl : A.length ≤ 10000000) (hs : ∀ t ∈ A, t.name.size ≤ maxLen) :
    Calls Try.prog 26 #[x] w fun e w' => ∃ v, e = .returned v ∧ OwnNm w w' (w.heap.size + 1) v (varsA A) ∧ Below w.heap.size w w' := by
  obtain ⟨xo, xc, rfl, -⟩ := hx.form
  have hmm := @run_makeMap Try.prog
  have HX := Lib.hid hx
  have HSZ := Lib.hid hs
  clear hx hs
  go_enter Try.func26, Try.ntmps26
  go_wp2
  go_loopw [3, 12] (fun v i wr => ∃ (k n : Nat) (o : Option Addr) (c : Nat), k ≤ A.length ∧ i = .int .i64 (k : Int) ∧ v = .slice o n c ∧ Hid (n = (varsA (A.take k)).length) ∧ Hid (NamS w wr (.slice o n c) k (varsA (A.take k))))
    (fun _ i _ => A.length - (intOf i).toNat)
  case atStart => exact ⟨0, 0, none, 0, Nat.zero_le _, rfl, rfl, rfl, OwnW.nil _ _ _, al_bel _ _, _, World.ownsMap_made _ _ _ _, hasN_nil⟩
  case round =>
    obtain ⟨k, n, o, c, hk, rfl, rfl, HN, HS⟩ := hrel
    by_cases hlt : k < A.length
    · have hltI : (k : Int) < (A.length : Int) := by omega
      obtain ⟨b, off, cs, rfl, hbl, hR, hcell⟩ := HX.out.at k hlt
      obtain rfl : cs = _ := hR
      have q0 := (HS.out.2.1.cell (p := ⟨b, _, none⟩) hbl).trans (hcell 0 _ rfl)
      have q1 := (HS.out.2.1.cell (p := ⟨b, _, none⟩) hbl).trans (hcell 1 _ rfl)
      have q2 := (HS.out.2.1.cell (p := ⟨b, _, none⟩) hbl).trans (hcell 2 _ rfl)
      have q3 := (HS.out.2.1.cell (p := ⟨b, _, none⟩) hbl).trans (hcell 3 _ rfl)
      have q4 := (HS.out.2.1.cell (p := ⟨b, _, none⟩) hbl).trans (hcell 4 _ rfl)
      simp only [Nat.add_zero] at q0
      have HT := Lib.hid (vars_take hlt)
      have hts := HSZ.out _ (List.getElem_mem hlt)
      have HLEN := Lib.hid (vars_take_len A k)
      clear hcell
      obtain ⟨t, ht⟩ : ∃ t, t = A[k]'hlt := ⟨_, rfl⟩
      rw [← ht] at q0 q1 q2 q3 q4 HT hts
      clear ht
      obtain ⟨tv, tn, tk, ts, tN⟩ := t
      obtain ⟨L, hL⟩ : ∃ L, L = varsA (A.take k) := ⟨_, rfl⟩
      rw [← hL] at HT HLEN HS HN
      clear hL
      have hkey := keyS hts
      have HKEY := Lib.hid hts
      clear hts
      cases tv
      · have HT2 : Hid (varsA (A.take (k + 1)) = L) := by show _ = _; rw [HT.out]; simp
        go_wp2
        go_roundw
        case rel => exact ⟨k + 1, n, o, c, by omega, by simp, rfl, by rw [HT2.out]; exact HN, by rw [HT2.out]; exact (HS.out.alloc _).old⟩
        case measure => simp [intOf]; omega
      · cases hi : inN L tn
        · have HT2 : Hid (varsA (A.take (k + 1)) = L ++ [tn]) := by show _ = _; rw [HT.out]; simp [hi]
          obtain ⟨D, hown, hD⟩ := HS.out.2.2
          have hhas : Maps.has D (.string tn.data.toList) = false := (hD tn HKEY.out).trans hi
          have HD := Lib.hid (hasN_put hD hown.isMap HKEY.out (.agg []))
          have HOWN := Lib.hid hown
          clear hown hD HT hi
          go_wp2_with (first
            | (at_lookup; refine wpList_lookup_own_unit _ rfl _ _ 69 rfl 9 70 lawS Try.underlying69 (zeroU _) w.heap.size k D rfl (HOWN.out.alloc _) _ _ rfl hkey ?_; rw [hhas])
            | (at_mapUpdate; refine wpList_mapUpdate_in _ rfl _ _ _ 69 rfl 9 70 lawS Try.underlying69 (unitElem (H := Unit)) w.heap.size k D rfl ((HOWN.out.alloc _).alloc _) (by unfold maxLen; omega) _ _ _ rfl rfl hkey _ [] unitElem_mk ?_; intro w1 hown1 hturn1; have hc1 : w1.cell? ⟨wr.heap.size, 1, none⟩ = some (.string tn) := map_keeps hturn1 (by have := HS.out.lt; omega) (boxed_at _ _ _ _ 1); have hlt1 := lt_of_cell hc1; have HO1 := Lib.hid hown1; have HT1 := Lib.hid hturn1; clear hown1 hturn1)
            | (at_builtin; refine wpList_append_one rfl _ _ 44 rfl elNm (w.heap.size + 1) (.slice o n c) L rfl ((OwnNm.map (((HS.out.1.below (al_bel _ _)).below (al_bel _ _))) HT1.out (Nat.lt_succ_self _)).below (al_bel _ _)) (b := w1.heap.size) (cap := 1) rfl tn _ (cellW_nm _ _) (Blk.new _ _ _) rfl (by have := HLEN.out; unfold maxLen; omega) (by have := HLEN.out; omega) (by have h1 := HS.out.lt; have h2 := HT1.out.grown.size; simp at h2 ⊢; omega) ?_; intro v2 w2 h2 hb2 hg2 hl2; obtain ⟨o2, n2, c2, rfl, hn2⟩ := h2.formN; have HN2 := Lib.hid hn2; have HO2 := Lib.hid h2; have HG2 := Lib.hid hg2; clear h2 hb2 hg2 hl2 hn2))
          go_roundw
          case rel => exact ⟨k + 1, n2, o2, c2, by omega, by simp, rfl, by rw [HT2.out]; exact HN2, by rw [HT2.out]; exact ((HS.out.alloc _).alloc _).more HD.out HO1.out HT1.out HO2.out HG2.out⟩
          case measure => simp [intOf]; omega
        · have HT2 : Hid (varsA (A.take (k + 1)) = L) := by show _ = _; rw [HT.out]; simp [hi]
          obtain ⟨D, hown, hD⟩ := HS.out.2.2
          have hhas : Maps.has D (.string tn.data.toList) = true := (hD tn HKEY.out).trans hi
          have HOWN := Lib.hid hown
          clear hown hD HT hi
          go_wp2_with (at_lookup; refine wpList_lookup_own_unit _ rfl _ _ 69 rfl 9 70 lawS Try.underlying69 (zeroU _) w.heap.size k D rfl (HOWN.out.alloc _) _ _ rfl hkey ?_; rw [hhas])
          go_roundw
          case rel => exact ⟨k + 1, n, o, c, by omega, by simp, rfl, by rw [HT2.out]; exact HN, by rw [HT2.out]; exact ((HS.out.alloc _).alloc _).old⟩
          case measure => simp [intOf]; omega
    · have hltI : ¬ (k : Int) < (A.length : Int) := by omega
      obtain rfl : k = A.length := by omega
      go_wp2
      go_ret
      have := HS.out
      rw [List.take_length] at this
      exact ⟨_, rfl, this.1, this.2.1⟩

set_option maxHeartbeats 1000000 in
theorem vars_any {a : Am} {x : Value} {w : World} (hx : Tms w x a.args) (hl : a.args.length ≤ 10000000) (hs : OkAm a) :
    Calls Try.prog 16 #[.agg #[.string a.p, x]] w fun e w' => ∃ v, e = .returned v ∧ OwnNm w w' w.heap.size v (varsA a.args) ∧ Below w.heap.size w w' := by
  obtain ⟨xo, xc, rfl, -⟩ := hx.form
  have HQ := Lib.hid (names_any (hx.below stayTm (al_bel w (.cells #[.string a.p, .slice xo a.args.length xc] 24))) hl (fun t ht => (hs t ht).2))
  have HB := Lib.hid (al_bel w (.cells #[.string a.p, .slice xo a.args.length xc] 24))
  clear hx hs
  go_enter Try.func16, Try.ntmps16
  go_wp2_with (go_at_call 26; refine HQ.out.mono ?_; clear HQ; rintro e w1 ⟨v, rfl, h1, hb1⟩; obtain ⟨o, c, rfl⟩ := h1.form)
  go_ret
  exact ⟨_, rfl, h1.base (by simp; omega), HB.out.trans (hb1.mono (by simp))⟩
end Go.Proofs.Ytcpdikhiodbdjaa
