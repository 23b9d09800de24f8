/-
  Lists of texts in memory, joined: strings.Join at them, printer.put.
  Contract of printer.Term.
  Contract of printer.each[lambrequin/api.Term].
  Contracts of printer's applied, Atom.
  Contract of printer.Literal.
  Contract of printer.each[lambrequin/api.Literal].
  Contracts of printer.Rule, ruleLine.
  Contract of printer.each[lambrequin/api.Rule].
  Contract of printer.declLine.
  Contract of printer.each[lambrequin/api.Decl].
  Contract of printer.Program.
-/
import Derived.Test.YtbbmihojfcofdaaGreatDoorPA
import Derived.Test.YtbbmihojfcofdaaGreatDoorShelf
import Derived.Test.YtbbmihojfcofdaaGreatDoorKText
import Derived.Lib.Join
import Derived.Test.YtbbmihojfcofdaaGreatDoorGTerm
import Derived.Deep.Matrix
import Derived.Deep.RegionHeld3
import Derived.Deep.DrawnRows
import Derived.Maps.AppendAt
namespace Go.Proofs.YtbbmihojfcofdaaGreatDoor
set_option linter.unusedSimpArgs false
set_option linter.unusedVariables false
set_option linter.unusedSectionVars false
set_option maxRecDepth 100000
open Go.RowKit

/-- x is a list of texts, in memory that is there. -/
def Sts (w : World) (x : Value) (L : List ByteArray) : Prop :=
  ∃ g o c, x = .slice (some ⟨g, o, none⟩) L.length c ∧ L.length ≤ c ∧ g < w.heap.size ∧ ∀ (j : Nat) s, L[j]? = some s → w.cell? ⟨g, o + j, none⟩ = some (.string s)
theorem Sts.below {w w' : World} {x : Value} {L : List ByteArray} (h : Sts w x L) (hb : Below w.heap.size w w') : Sts w' x L := by
  obtain ⟨g, o, c, e, h1, h2, h3⟩ := h
  exact ⟨g, o, c, e, h1, Nat.lt_of_lt_of_le h2 hb.size, fun j s hj => (hb.cell (p := ⟨g, _, none⟩) h2).trans (h3 j s hj)⟩
def StR : RelM ByteArray := fun _ _ s c => c = [.string s]
abbrev StsO (w : World) (B : Nat) (x : Value) (L : List ByteArray) : Prop := OwnL StR 9 1 w B x L
theorem keepSt : KeepR StR := fun _ _ _ _ _ _ _ _ h => h
theorem keepNSt (ty : TypeId) : KeepN StR ty := fun _ _ _ _ _ _ h => h
theorem StsO.sts {w : World} {B g c : Nat} {n : Nat} {L : List ByteArray} (h : StsO w B (.slice (some ⟨g, 0, none⟩) n c) L) (hg : g < w.heap.size) : Sts w (.slice (some ⟨g, 0, none⟩) n c) L := by
  obtain ⟨ao, cap, e, h1, h2⟩ := h.cells
  cases e
  refine ⟨g, 0, c, rfl, h1, hg, fun j s hj => ?_⟩
  obtain ⟨hlt, rfl⟩ := List.getElem?_eq_some_iff.1 hj
  obtain ⟨g', c, e, -, -, hr, hc⟩ := h2 j hlt
  cases e
  have hr' : c = [.string L[j]] := hr
  subst hr'
  have := hc 0 _ rfl
  simpa using this
theorem infoStr : (Tryz.prog.info? 9).map (fun i => (i.zero, i.size, i.bytes)) = some (some (.string ⟨#[]⟩), 1, 16) := by kernel_rfl
theorem st_new (W : World) (L : List ByteArray) (cs : Array Value) (hc : cs.toList = L.map .string) (ty : TypeId) (c : Nat) (h : L.length ≤ c) : Sts (W.alloc (.cells cs ty)) (.slice (some ⟨W.heap.size, 0, none⟩) L.length c) L :=
  ⟨W.heap.size, 0, c, rfl, h, by simp, fun j s hj => by
    rw [Nat.zero_add, (Blk.new W cs ty).cell, ← Array.getElem?_toList, hc, List.getElem?_map, hj]; rfl⟩
theorem st2 (W : World) (a b : ByteArray) (ty : TypeId) : Sts (W.alloc (.cells #[.string a, .string b] ty)) (.slice (some ⟨W.heap.size, 0, none⟩) 2 2) [a, b] := st_new W [a, b] _ rfl ty 2 (Nat.le_refl _)
theorem st4 (W : World) (a b c d : ByteArray) (ty : TypeId) : Sts (W.alloc (.cells #[.string a, .string b, .string c, .string d] ty)) (.slice (some ⟨W.heap.size, 0, none⟩) 4 4) [a, b, c, d] := st_new W [a, b, c, d] _ rfl ty 4 (Nat.le_refl _)
theorem st5 (W : World) (a b c d e : ByteArray) (ty : TypeId) : Sts (W.alloc (.cells #[.string a, .string b, .string c, .string d, .string e] ty)) (.slice (some ⟨W.heap.size, 0, none⟩) 5 5) [a, b, c, d, e] := st_new W [a, b, c, d, e] _ rfl ty 5 (Nat.le_refl _)
theorem cell_one (W : World) (v : Value) (ty : TypeId) : ∀ j u, ([v] : List Value)[j]? = some u → (W.alloc (.cells #[v] ty)).cell? ((⟨W.heap.size, 0, none⟩ : Addr).add j) = some u := by
  intro j u hj
  rw [add_noneK, (Blk.new W _ ty).cell]
  simpa using hj

/-- What texts are one behind the other, and with something between. -/
theorem joinTail_nil (L : List (List UInt8)) : Lib.joinTail [] L = L.flatten := by
  unfold Lib.joinTail
  simp
theorem join_flat (L : List (List UInt8)) : Lib.join L [] = L.flatten := by
  cases L with
  | nil => rfl
  | cons x r => rw [Lib.join_cons, joinTail_nil]; rfl
theorem join_sep {α : Type} (f : α → List UInt8) : ∀ L : List α, Lib.join (L.map f) [44, 32] = sepTx f L
  | [] => rfl
  | [a] => Lib.join_one _ _
  | a :: b :: r => by
    have h := join_sep f (b :: r)
    rw [List.map_cons, Lib.join_cons] at h ⊢
    unfold sepTx
    rw [← h]
    simp [Lib.joinTail]

/-- strings.Join. -/
theorem join_sts {w : World} {x : Value} {L : List ByteArray} (h : Sts w x L) (sep : ByteArray) (hN : L.length ≤ 1000000000000) (hlen : (Lib.join (L.map (·.data.toList)) sep.data.toList).length ≤ 100000000000000) :
    Calls Tryz.prog 46 #[x, .string sep] w fun e w' => e = .returned (.string ⟨(Lib.join (L.map (·.data.toList)) sep.data.toList).toArray⟩) ∧ Below w.heap.size w w' := by
  obtain ⟨g, o, c, rfl, h1, h2, h3⟩ := h
  exact Tryz.strings_Join g o c L sep w h3 h2 (by omega) h1 (by omega)

set_option maxHeartbeats 1000000 in
/-- printer.put. -/
theorem pput_any {w : World} {x : Value} {L : List ByteArray} (h : Sts w x L) (hN : L.length ≤ 1000000000000) (hlen : (L.map (·.data.toList)).flatten.length ≤ 100000000000000) :
    Calls Tryz.prog 29 #[x] w fun e w' => e = .returned (.string ⟨(L.map (·.data.toList)).flatten.toArray⟩) ∧ Below w.heap.size w w' := by
  have HJ := Lib.hid (join_sts h ⟨#[]⟩ hN (by rw [show (⟨#[]⟩ : ByteArray).data.toList = [] from rfl, join_flat]; exact hlen))
  rw [show (⟨#[]⟩ : ByteArray).data.toList = [] from rfl, join_flat] at HJ
  obtain ⟨ao, cap, c, rfl, -⟩ := h
  clear hlen hN
  go_enter Tryz.func29, Tryz.ntmps29
  go_wp2_with (go_at_call 46; refine (HJ.out).mono ?_; rintro e w1 ⟨rfl, hb1⟩)
  go_ret
  exact ⟨rfl, hb1⟩
end Go.Proofs.YtbbmihojfcofdaaGreatDoor

namespace Go.Proofs.YtbbmihojfcofdaaGreatDoor
set_option linter.unusedSimpArgs false
set_option linter.unusedVariables false
set_option linter.unusedSectionVars false
set_option maxRecDepth 100000
open Go.RowKit

set_option maxHeartbeats 1000000 in
theorem pterm_any (t : Tm) (w : World) (hI : InTm t) (hs : szTm t ≤ 1000000000000) (hT : Tab w) :
    Calls Tryz.prog 17 #[.agg #[.bool t.v, .string t.name, .bool t.k, .string t.s, .int .i64 t.n]] w fun e w' => e = .returned (.string ⟨(termTx t).toArray⟩) ∧ Below w.heap.size w w' := by
  obtain ⟨v, name, k, s, n⟩ := t
  have hb := al_below w (.cells #[.bool v, .string name, .bool k, .string s, .int .i64 n] 35)
  unfold szTm at hs
  unfold InTm at hI
  simp only at hs hI
  have HT := Lib.hid (text_any k s n hI.1 hI.2 (w.alloc (.cells #[.bool v, .string name, .bool k, .string s, .int .i64 n] 35)) (by omega) (hT.on hb))
  have HB := Lib.hid hb
  clear hI hs hT hb
  cases v
  · go_enter Tryz.func17, Tryz.ntmps17
    go_wp2_with (go_at_call 42; refine (HT.out).mono ?_; rintro e w1 ⟨rfl, hb1⟩)
    go_ret
    exact ⟨rfl, HB.out.trans (hb1.mono HB.out.size)⟩
  · clear HT
    go_enter Tryz.func17, Tryz.ntmps17
    go_wp2
    go_ret
    exact ⟨by simp [termTx], HB.out⟩
end Go.Proofs.YtbbmihojfcofdaaGreatDoor

namespace Go.Proofs.YtbbmihojfcofdaaGreatDoor
set_option linter.unusedSimpArgs false
set_option linter.unusedVariables false
set_option linter.unusedSectionVars false
set_option maxRecDepth 100000
open Go.RowKit

set_option maxHeartbeats 4000000 in
theorem eachT_any {w : World} {x : Value} {L : List Tm} (hx : Tms w x L) (hI : ∀ t ∈ L, InTm t) (hs : szTms L ≤ 1000000000000) (hT : Tab w) :
    Calls Tryz.prog 45 #[x, .func (.func 17) #[] #[]] w fun e w' => ∃ y, e = .returned y ∧ Below w.heap.size w w' ∧ Sts w' y (L.map fun t => ⟨(termTx t).toArray⟩) := by
  obtain ⟨ao, cap, rfl, hcap, hm⟩ := hx.form
  obtain ⟨i0, hi, hz0, hz1, hz2⟩ := info_parts infoStr
  have hl : 6 * L.length ≤ szTms L := sum_len szTm 6 (fun t => by first | omega | (unfold szTm; omega)) L
  have hl12 : L.length ≤ 1000000000000 := by omega
  have hl12I : (L.length : Int) ≤ 1000000000000 := by omega
  have HX := Lib.hid hx
  have HC : Hid (∀ t ∈ L, ∀ W, Below w.heap.size w W → Calls Tryz.prog 17 #[.agg #[.bool t.v, .string t.name, .bool t.k, .string t.s, .int .i64 t.n]] W fun e w' => e = .returned (.string ⟨(termTx t).toArray⟩) ∧ Below W.heap.size W w') := fun t ht W hb  => pterm_any t W (hI t ht) (Nat.le_trans (sum_mem szTm ht) hs) (hT.on hb)
  obtain ⟨F, hF⟩ : ∃ F : Tm → ByteArray, F = fun t => ⟨(termTx t).toArray⟩ := ⟨_, rfl⟩
  rw [← hF]
  have HC2 : Hid (∀ t ∈ L, ∀ W, Below w.heap.size w W → Calls Tryz.prog 17 #[.agg #[.bool t.v, .string t.name, .bool t.k, .string t.s, .int .i64 t.n]] W fun e w' => e = .returned (.string (F t)) ∧ Below W.heap.size W w') := by
    subst hF; exact HC
  clear hx hI hs hT hl hcap hm HC hF
  go_enter Tryz.func45, Tryz.ntmps45
  go_wp2_with (at_make; refine wpList_make_own _ rfl _ _ 60 rfl w.heap.size 9 i0 _ 1 Tryz.underlying60 hi hz0 hz1 .i64 .i64 _ L.length rfl rfl (by omega) (by rw [hz2]; omega) (by unfold maxLen; omega) (Nat.le_refl _) ?_; intro w1 hown1 hg1; have HR1 : Hid (StsO w1 w.heap.size (.slice (some ⟨w.heap.size, 0, none⟩) 0 L.length) []) := ⟨[], trivial, fun _ h => by simp at h, hown1⟩; have HB1 : Hid (Below w.heap.size w w1) := (Below.refl _ _).grown hg1 (Nat.le_refl _) (fun k hk => by cases hk); have HG1 : Hid (w.heap.size < w1.heap.size) := (World.ownsRow.lt hown1 w.heap.size rfl).2; clear hown1 hg1)
  go_loopw [5, 13] (fun v i wr => ∃ (k g c : Nat), k ≤ L.length ∧ i = .int .i64 k ∧ v = .slice (some ⟨g, 0, none⟩) k c ∧ Hid (g < wr.heap.size) ∧ Hid (StsO wr w.heap.size (.slice (some ⟨g, 0, none⟩) k c) ((L.take k).map F)) ∧ Hid (Below w.heap.size w wr)) (fun _ i _ => L.length - (intOf i).toNat)
  case atStart => exact ⟨0, w.heap.size, L.length, Nat.zero_le _, rfl, rfl, HG1, HR1, HB1⟩
  case round =>
    clear HR1 HB1 HG1
    obtain ⟨k, g, c, hk, rfl, rfl, HG, HR, HB⟩ := hrel
    by_cases hlt : k < L.length
    · have hltI : (k : Int) < (L.length : Int) := by omega
      have HLK : Hid (((L.take k).map F).length = k) := by show _ = _; rw [List.length_map, List.length_take]; omega
      have HTK : Hid ((L.take (k + 1)).map F = (L.take k).map F ++ [F L[k]]) := by show _ = _; rw [List.take_succ_eq_append_getElem hlt, List.map_append]; rfl
      obtain ⟨b, off, cs, rfl, hbl, hR, hc⟩ := (HX.out.below stayTm HB.out).at k hlt
      obtain rfl : cs = _ := hR
      have HCK := Lib.hid (fun W (hb : Below wr.heap.size wr W) => HC2.out _ (List.getElem_mem hlt) W (HB.out.trans (hb.mono HB.out.size)))
      have q0 := hc 0 _ rfl
      have q1 := hc 1 _ rfl
      have q2 := hc 2 _ rfl
      have q3 := hc 3 _ rfl
      have q4 := hc 4 _ rfl
      simp only [Nat.add_zero] at q0
      obtain ⟨Fk, hFk⟩ : ∃ q, q = F L[k] := ⟨_, rfl⟩
      rw [← hFk] at HCK HTK
      clear hFk hc
      obtain ⟨A, hA⟩ : ∃ A, A = (L.take k).map F := ⟨_, rfl⟩
      rw [← hA] at HR HLK HTK
      clear hA
      obtain ⟨cs, hAll, hcl, hrow⟩ := HR.out
      have HALL := Lib.hid hAll
      have HCL := Lib.hid hcl
      have HROW := Lib.hid hrow
      rw [HLK.out] at HROW
      obtain ⟨t, ht⟩ : ∃ t, t = L[k] := ⟨_, rfl⟩
      
      rw [← ht] at HCK q0 q1 q2 q3 q4
      clear ht hAll hcl hrow HR
      obtain ⟨tv, tname, tk, ts, tn⟩ := t
      simp only at HCK q0 q1 q2 q3 q4
      go_wp2_with (first
        | (go_at_call 17; refine (HCK.out _ (al_below wr _)).mono ?_; rintro e w2 ⟨rfl, hb2⟩; have HB2 : Hid (Below wr.heap.size wr w2) := (al_below wr _).trans (hb2.mono (by simp)); have HROW2 : Hid (w2.ownsRow w.heap.size 9 1 (.slice (some ⟨g, 0, none⟩) k c) k cs.flatten) := owns_keep HROW.out (Nat.le_refl _) (fun j _ hj => HB2.out.block j hj); have hsz2 : w.heap.size ≤ w2.heap.size := Nat.le_trans HB.out.size HB2.out.size; clear hb2)
        | (at_builtin; refine wpList_append_own _ rfl _ _ 60 rfl w.heap.size 9 i0 _ 1 16 Tryz.underlying60 hi hz0 hz1 hz2 rfl (by decide) _ k cs.flatten rfl (World.ownsRow.alloc HROW2.out _) ⟨w2.heap.size, 0, none⟩ 1 1 [.string Fk] rfl rfl (cell_one _ _ _) (by simp [Value.oneCell']) (by unfold maxLen; omega) (by omega) (by simp; omega) ?_; intro v' w4 hown4 hg4 hnil4; obtain ⟨ho4, hb4, -⟩ := own_step (keepNSt _) hsz2 (show AllR (StR w2 w.heap.size) A cs from HALL.out) HCL.out (by rw [HLK.out]; exact HROW2.out) (a := Fk) (show StR _ _ _ _ from rfl) rfl (Below.refl _ w2) (by rw [HLK.out]; exact hown4) hg4; have HO4 := Lib.hid ho4; have HB4 : Hid (Below w.heap.size w w4) := (HB.out.trans (HB2.out.mono HB.out.size)).trans hb4; clear hown4 hg4 hnil4 ho4 hb4))
      obtain ⟨k1, hk1⟩ : ∃ q : Nat, q = k + 1 := ⟨_, rfl⟩
      have hl1 : (A ++ [Fk]).length = k1 := by simp [HLK.out, hk1]
      obtain ⟨g3, c3, e3, hg3⟩ : ∃ g3 c3, v' = .slice (some ⟨g3, 0, none⟩) k1 c3 ∧ g3 < w4.heap.size := by
        obtain ⟨ao, cap, e, -, h2⟩ := HO4.out.cells
        obtain ⟨g3, _, e2, -, h3, -⟩ := h2 k (by rw [hl1]; omega)
        exact ⟨g3, cap, by rw [e, e2, hl1], h3⟩
      subst e3
      rw [← HTK.out] at HO4
      have HG3 := Lib.hid hg3
      have hk1I : (k : Int) + 1 = (k1 : Int) := by omega
      have HK1 := Lib.hid hk1
      clear hl1 hg3 hk1
      go_wp2
      go_roundw
      case rel => exact ⟨k1, g3, c3, by have := HK1.out; omega, by first | rfl | go_num, rfl, HG3, by rw [HK1.out] at HO4 ⊢; exact HO4, HB4⟩
      case measure => simp [intOf]; have := HK1.out; omega
    · have hltI : ¬ (k : Int) < (L.length : Int) := by omega
      obtain rfl : k = L.length := by omega
      have HE : Hid (Sts wr (.slice (some ⟨g, 0, none⟩) L.length c) (L.map F)) := by
        have := StsO.sts HR.out HG.out
        rw [List.take_of_length_le (Nat.le_refl _)] at this
        exact this
      go_wp2
      go_ret
      exact ⟨_, rfl, HB.out, HE.out⟩
end Go.Proofs.YtbbmihojfcofdaaGreatDoor

namespace Go.Proofs.YtbbmihojfcofdaaGreatDoor
set_option linter.unusedSimpArgs false
set_option linter.unusedVariables false
set_option linter.unusedSectionVars false
set_option maxRecDepth 100000
open Go.RowKit

/-- A predicate with the texts of what it is said of. -/
def appTx (p : ByteArray) (L : List ByteArray) : List UInt8 := if L = [] then p.data.toList else p.data.toList ++ ([40] ++ (Lib.join (L.map (·.data.toList)) [44, 32] ++ [41]))

set_option maxHeartbeats 2000000 in
theorem applied_any {w : World} {x : Value} (p : ByteArray) {L : List ByteArray} (h : Sts w x L) (hN : L.length ≤ 1000000000000) (hlen : (appTx p L).length ≤ 100000000000000) :
    Calls Tryz.prog 44 #[.string p, x] w fun e w' => e = .returned (.string ⟨(appTx p L).toArray⟩) ∧ Below w.heap.size w w' := by
  unfold appTx at hlen ⊢
  by_cases h0 : L = []
  · subst h0
    obtain ⟨g, o, c, rfl, -⟩ := h
    go_enter Tryz.func44, Tryz.ntmps44
    go_wp2
    go_ret
    exact ⟨by simp, Below.refl _ _⟩
  · rw [if_neg h0] at hlen ⊢
    have hl : L.length ≠ 0 := fun e => h0 (List.length_eq_zero_iff.1 e)
    have hlI : ¬ (L.length : Int) = 0 := by omega
    have hlB : ((L.length : Int) == 0) = false := by simpa using hlI
    have HJ := Lib.hid (join_sts h ⟨#[44, 32]⟩ hN (by simp at hlen ⊢; omega))
    rw [show (⟨#[44, 32]⟩ : ByteArray).data.toList = [44, 32] from rfl] at HJ
    obtain ⟨J, hJ⟩ : ∃ J, J = Lib.join (L.map (·.data.toList)) [44, 32] := ⟨_, rfl⟩
    rw [← hJ] at hlen HJ ⊢
    have HPT : Hid (∀ W y, Sts W y [p, ⟨#[40]⟩, ⟨J.toArray⟩, ⟨#[41]⟩] → Calls Tryz.prog 29 #[y] W fun e w' => e = .returned (.string ⟨(p.data.toList ++ ([40] ++ (J ++ [41]))).toArray⟩) ∧ Below W.heap.size W w') := fun W y hy => by
      have := pput_any hy (by simp) (by simp at hlen ⊢; omega)
      simpa using this
    obtain ⟨Z, hZ⟩ : ∃ Z, Z = p.data.toList ++ ([40] ++ (J ++ [41])) := ⟨_, rfl⟩
    rw [← hZ] at HPT ⊢
    obtain ⟨g, o, c, rfl, -⟩ := h
    clear hlen hN h0 hl hJ hZ
    go_enter Tryz.func44, Tryz.ntmps44
    go_wp2_with (first
      | (go_at_call 46; refine (HJ.out).mono ?_; rintro e w1 ⟨rfl, hb1⟩; have HB1 := Lib.hid hb1; clear hb1 HJ)
      | (go_at_call 29; refine (HPT.out _ _ (st4 w1 _ _ _ _ _)).mono ?_; rintro e w2 ⟨rfl, hb2⟩; have HB2 : Hid (Below w.heap.size w w2) := HB1.out.trans ((al_below w1 _).mono HB1.out.size |>.trans (hb2.mono (by have := HB1.out.size; simp; omega))); clear hb2 HPT))
    go_ret
    exact ⟨rfl, HB2.out⟩

theorem app_atom (a : Am) : appTx a.p (a.args.map fun t => ⟨(termTx t).toArray⟩) = atomTx a := by
  unfold appTx atomTx argsTx
  by_cases h : a.args = []
  · simp [h]
  · rw [if_neg (by simpa using h), if_neg h]
    have e : (a.args.map fun t => (⟨(termTx t).toArray⟩ : ByteArray)).map (·.data.toList) = a.args.map termTx := by simp
    rw [e, join_sep]
/-- Two cells of a box, and what has been since. -/
theorem box2_keep {w W w' : World} {b : Nat} {c0 c1 : Value} (h : W.cell? ⟨b, 0, none⟩ = some c0 ∧ W.cell? ⟨b, 1, none⟩ = some c1 ∧ b < W.heap.size ∧ Below w.heap.size w W) (hb : Below W.heap.size W w') :
    w'.cell? ⟨b, 0, none⟩ = some c0 ∧ w'.cell? ⟨b, 1, none⟩ = some c1 ∧ b < w'.heap.size ∧ Below w.heap.size w w' := by
  obtain ⟨h0, h1, h2, h3⟩ := h
  have hs := hb.size
  exact ⟨(hb.cell (p := ⟨b, 0, none⟩) h2).trans h0, (hb.cell (p := ⟨b, 1, none⟩) h2).trans h1, by omega, h3.trans (hb.mono h3.size)⟩

set_option maxHeartbeats 4000000 in
theorem patom_any (a : Am) (x : Value) (w : World) (hx : Tms w x a.args) (hI : InAm a) (hs : szAm a ≤ 1000000000000) (hT : Tab w) :
    Calls Tryz.prog 19 #[.agg #[.string a.p, x]] w fun e w' => e = .returned (.string ⟨(atomTx a).toArray⟩) ∧ Below w.heap.size w w' := by
  have hal := al_below w (.cells #[.string a.p, x] 31)
  have hle := atomTx_le hI
  have hst : szTms a.args ≤ 1000000000000 := by unfold szAm at hs; omega
  have hl6 : 6 * a.args.length ≤ szTms a.args := sum_len szTm 6 (fun t => by unfold szTm; omega) _
  have HE : Hid (∀ W, Below w.heap.size w W → Calls Tryz.prog 45 #[x, .func (.func 17) #[] #[]] W fun e w' => ∃ y, e = .returned y ∧ Below W.heap.size W w' ∧ Sts w' y (a.args.map fun t => ⟨(termTx t).toArray⟩)) := fun W hb => eachT_any (hx.below stayTm hb) hI hst (hT.on hb)
  have HA : Hid (∀ W y, Sts W y (a.args.map fun t => ⟨(termTx t).toArray⟩) → Calls Tryz.prog 44 #[.string a.p, y] W fun e w' => e = .returned (.string ⟨(atomTx a).toArray⟩) ∧ Below W.heap.size W w') := fun W y hy => by
    have := applied_any a.p hy (by simp; omega) (by rw [app_atom]; omega)
    rw [app_atom] at this
    exact this
  obtain ⟨ao, cap, rfl, hcap, hm⟩ := hx.form
  have HAL := Lib.hid hal
  obtain ⟨Z, hZ⟩ : ∃ Z, Z = atomTx a := ⟨_, rfl⟩
  obtain ⟨M, hM⟩ : ∃ M : List ByteArray, M = a.args.map fun t => ⟨(termTx t).toArray⟩ := ⟨_, rfl⟩
  rw [← hZ] at HA ⊢
  rw [← hM] at HA HE
  obtain ⟨p, A⟩ := a
  simp only at HA HE HAL
  clear hx hI hs hT hle hst hl6 hZ hM hal hcap hm
  go_enter Tryz.func19, Tryz.ntmps19
  go_wp2_with fail
  go_region_held3 (fun w' => w'.cell? ⟨w.heap.size, 0, none⟩ = some (.string p) ∧ w'.cell? ⟨w.heap.size, 1, none⟩ = some (.slice ao A.length cap) ∧ w.heap.size < w'.heap.size ∧ Below w.heap.size w w')
    (first | assumption | exact box2_keep (by assumption) hbN | exact ⟨by simp, by simp, by simp, HAL.out.drew⟩)
    (first
      | (go_at_call 45; refine (HE.out _ (by go_split_ands; assumption)).mono ?_; rintro e w' ⟨y, rfl, hbN, hst⟩; have HST := Lib.hid hst; clear hst)
      | (go_at_call 44; refine (HA.out _ _ HST.out).mono ?_; rintro e w' ⟨rfl, hbN⟩))
  go_wp2
  go_ret
  go_split_ands
  exact ⟨rfl, by assumption⟩
end Go.Proofs.YtbbmihojfcofdaaGreatDoor

namespace Go.Proofs.YtbbmihojfcofdaaGreatDoor
set_option linter.unusedSimpArgs false
set_option linter.unusedVariables false
set_option linter.unusedSectionVars false
set_option maxRecDepth 100000
open Go.RowKit

/-- What a comparison's box holds, and what has been since. -/
theorem lit_keep {w W w' : World} {b : Nat} {a3 a4 a5 a6 a7 a8 a9 a10 a11 a12 a13 : Value}
    (h : W.cell? ⟨b, 3, none⟩ = some a3 ∧ W.cell? ⟨b, 4, none⟩ = some a4 ∧ W.cell? ⟨b, 5, none⟩ = some a5 ∧ W.cell? ⟨b, 6, none⟩ = some a6 ∧ W.cell? ⟨b, 7, none⟩ = some a7 ∧ W.cell? ⟨b, 8, none⟩ = some a8 ∧ W.cell? ⟨b, 9, none⟩ = some a9 ∧ W.cell? ⟨b, 10, none⟩ = some a10 ∧ W.cell? ⟨b, 11, none⟩ = some a11 ∧ W.cell? ⟨b, 12, none⟩ = some a12 ∧ W.cell? ⟨b, 13, none⟩ = some a13 ∧ b < W.heap.size ∧ Below w.heap.size w W) (hb : Below W.heap.size W w') :
    w'.cell? ⟨b, 3, none⟩ = some a3 ∧ w'.cell? ⟨b, 4, none⟩ = some a4 ∧ w'.cell? ⟨b, 5, none⟩ = some a5 ∧ w'.cell? ⟨b, 6, none⟩ = some a6 ∧ w'.cell? ⟨b, 7, none⟩ = some a7 ∧ w'.cell? ⟨b, 8, none⟩ = some a8 ∧ w'.cell? ⟨b, 9, none⟩ = some a9 ∧ w'.cell? ⟨b, 10, none⟩ = some a10 ∧ w'.cell? ⟨b, 11, none⟩ = some a11 ∧ w'.cell? ⟨b, 12, none⟩ = some a12 ∧ w'.cell? ⟨b, 13, none⟩ = some a13 ∧ b < w'.heap.size ∧ Below w.heap.size w w' := by
  obtain ⟨h3, h4, h5, h6, h7, h8, h9, h10, h11, h12, h13, hl, hB⟩ := h
  have hs := hb.size
  have c := fun o => hb.cell (p := ⟨b, o, none⟩) hl
  exact ⟨(c 3).trans h3, (c 4).trans h4, (c 5).trans h5, (c 6).trans h6, (c 7).trans h7, (c 8).trans h8, (c 9).trans h9, (c 10).trans h10, (c 11).trans h11, (c 12).trans h12, (c 13).trans h13, by omega, hB.trans (hb.mono hB.size)⟩

set_option maxHeartbeats 8000000 in
theorem plit_any (l : Lt) (x : Value) (w : World) (hx : Tms w x l.atom.args) (hI : InLt l) (hs : szLt l ≤ 1000000000000) (hT : Tab w) :
    Calls Tryz.prog 15 #[.agg #[.int .i64 l.kind, .string l.atom.p, x, .string l.op, .bool l.l.v, .string l.l.name, .bool l.l.k, .string l.l.s, .int .i64 l.l.n, .bool l.r.v, .string l.r.name, .bool l.r.k, .string l.r.s, .int .i64 l.r.n]] w
      fun e w' => e = .returned (.string ⟨(litTx l).toArray⟩) ∧ Below w.heap.size w w' := by
  have hle := litTx_le hI
  have hA1 := atomTx_le hI.1
  obtain ⟨ao, cap, rfl, hcap, hm⟩ := hx.form
  have HAL := Lib.hid (al_below w (.cells #[.int .i64 l.kind, .string l.atom.p, .slice ao l.atom.args.length cap, .string l.op, .bool l.l.v, .string l.l.name, .bool l.l.k, .string l.l.s, .int .i64 l.l.n, .bool l.r.v, .string l.r.name, .bool l.r.k, .string l.r.s, .int .i64 l.r.n] 37))
  have HA : Hid (∀ W, Below w.heap.size w W → Calls Tryz.prog 19 #[.agg #[.string l.atom.p, .slice ao l.atom.args.length cap]] W fun e w' => e = .returned (.string ⟨(atomTx l.atom).toArray⟩) ∧ Below W.heap.size W w') := fun W hb => patom_any l.atom _ W (hx.below stayTm hb) hI.1 (by unfold szLt at hs; omega) (hT.on hb)
  have HL : Hid (∀ W, Below w.heap.size w W → Calls Tryz.prog 17 #[.agg #[.bool l.l.v, .string l.l.name, .bool l.l.k, .string l.l.s, .int .i64 l.l.n]] W fun e w' => e = .returned (.string ⟨(termTx l.l).toArray⟩) ∧ Below W.heap.size W w') := fun W hb => pterm_any l.l W hI.2.1 (by unfold szLt at hs; omega) (hT.on hb)
  have HR : Hid (∀ W, Below w.heap.size w W → Calls Tryz.prog 17 #[.agg #[.bool l.r.v, .string l.r.name, .bool l.r.k, .string l.r.s, .int .i64 l.r.n]] W fun e w' => e = .returned (.string ⟨(termTx l.r).toArray⟩) ∧ Below W.heap.size W w') := fun W hb => pterm_any l.r W hI.2.2 (by unfold szLt at hs; omega) (hT.on hb)
  have HP2 : Hid (l.kind = 2 → ∀ W y, Sts W y [⟨#[110, 111, 116, 32]⟩, ⟨(atomTx l.atom).toArray⟩] → Calls Tryz.prog 29 #[y] W fun e w' => e = .returned (.string ⟨(litTx l).toArray⟩) ∧ Below W.heap.size W w') := fun hk W y hy => by
    have hz : litTx l = [110, 111, 116, 32] ++ atomTx l.atom := by unfold litTx; rw [if_neg (by omega), if_pos hk]; rfl
    have := pput_any hy (by simp) (by rw [hz] at hle; simp at hle ⊢; omega)
    rw [hz]
    simpa using this
  have HP3 : Hid (l.kind = 3 → ∀ W y, Sts W y [⟨(termTx l.l).toArray⟩, ⟨#[32]⟩, l.op, ⟨#[32]⟩, ⟨(termTx l.r).toArray⟩] → Calls Tryz.prog 29 #[y] W fun e w' => e = .returned (.string ⟨(litTx l).toArray⟩) ∧ Below W.heap.size W w') := fun hk W y hy => by
    have hz : litTx l = termTx l.l ++ ([32] ++ ((l.op.data.toList ++ [32]) ++ termTx l.r)) := by unfold litTx; rw [if_neg (by omega), if_neg (by omega), if_pos hk]
    have := pput_any hy (by simp) (by rw [hz] at hle; simp at hle ⊢; omega)
    rw [hz]
    simpa using this
  have h1 : l.kind = 1 → litTx l = atomTx l.atom := fun hk => by unfold litTx; rw [if_pos hk]
  have h0 : l.kind ≠ 1 → l.kind ≠ 2 → l.kind ≠ 3 → litTx l = [] := fun a b c => by unfold litTx; rw [if_neg a, if_neg b, if_neg c]
  obtain ⟨Z, hZ⟩ : ∃ Z, Z = litTx l := ⟨_, rfl⟩
  rw [← hZ] at HP2 HP3 h1 h0 ⊢
  obtain ⟨kd, ⟨p, A⟩, op, ⟨lv, ln, lk, ls, li⟩, ⟨rv, rn, rk, rs, ri⟩⟩ := l
  simp only at HA HL HR HP2 HP3 HAL h1 h0
  obtain ⟨ZA, hZA⟩ : ∃ ZA, ZA = atomTx ⟨p, A⟩ := ⟨_, rfl⟩
  obtain ⟨ZL, hZL⟩ : ∃ ZL, ZL = termTx ⟨lv, ln, lk, ls, li⟩ := ⟨_, rfl⟩
  obtain ⟨ZR, hZR⟩ : ∃ ZR, ZR = termTx ⟨rv, rn, rk, rs, ri⟩ := ⟨_, rfl⟩
  rw [← hZA] at HA HP2 h1
  rw [← hZL] at HL HP3
  rw [← hZR] at HR HP3
  clear hx hI hs hT hle hA1 hZ hZA hZL hZR hcap hm
  by_cases k1 : kd = 1
  · subst k1
    obtain rfl := h1 rfl
    clear HL HR HP2 HP3 h0 h1
    go_enter Tryz.func15, Tryz.ntmps15
    go_wp2_with (go_at_call 19; refine (HA.out _ HAL.out).mono ?_; rintro e w1 ⟨rfl, hb1⟩)
    go_ret
    exact ⟨rfl, HAL.out.trans (hb1.mono HAL.out.size)⟩
  by_cases k2 : kd = 2
  · subst k2
    have HQ := Lib.hid (HP2.out rfl)
    clear HL HR HP2 HP3 h0 h1
    go_enter Tryz.func15, Tryz.ntmps15
    go_wp2_with (first
      | (go_at_call 19; refine (HA.out _ HAL.out).mono ?_; rintro e w1 ⟨rfl, hb1⟩; have HB1 : Hid (Below w.heap.size w w1) := HAL.out.trans (hb1.mono HAL.out.size); clear hb1)
      | (go_at_call 29; refine (HQ.out _ _ (st2 w1 _ _ _)).mono ?_; rintro e w2 ⟨rfl, hb2⟩; have HB2 : Hid (Below w.heap.size w w2) := HB1.out.trans ((al_below w1 _).mono HB1.out.size |>.trans (hb2.mono (by have := HB1.out.size; simp; omega))); clear hb2))
    go_ret
    exact ⟨rfl, HB2.out⟩
  by_cases k3 : kd = 3
  · subst k3
    have HQ := Lib.hid (HP3.out rfl)
    clear HA HP2 HP3 h0 h1
    go_enter Tryz.func15, Tryz.ntmps15
    go_wp2_with fail
    go_region_held3 (fun w' => w'.cell? ⟨w.heap.size, 3, none⟩ = some (.string op) ∧ w'.cell? ⟨w.heap.size, 4, none⟩ = some (.bool lv) ∧ w'.cell? ⟨w.heap.size, 5, none⟩ = some (.string ln) ∧ w'.cell? ⟨w.heap.size, 6, none⟩ = some (.bool lk) ∧ w'.cell? ⟨w.heap.size, 7, none⟩ = some (.string ls) ∧ w'.cell? ⟨w.heap.size, 8, none⟩ = some (.int .i64 li) ∧ w'.cell? ⟨w.heap.size, 9, none⟩ = some (.bool rv) ∧ w'.cell? ⟨w.heap.size, 10, none⟩ = some (.string rn) ∧ w'.cell? ⟨w.heap.size, 11, none⟩ = some (.bool rk) ∧ w'.cell? ⟨w.heap.size, 12, none⟩ = some (.string rs) ∧ w'.cell? ⟨w.heap.size, 13, none⟩ = some (.int .i64 ri) ∧ w.heap.size < w'.heap.size ∧ Below w.heap.size w w')
      (first | assumption | exact lit_keep (by assumption) hbN | exact lit_keep (by assumption) ((Below.refl _ _).alloc (Nat.le_refl _) _) | exact ⟨by simp, by simp, by simp, by simp, by simp, by simp, by simp, by simp, by simp, by simp, by simp, by simp, HAL.out.drew⟩)
      (first
        | (go_at_call 17; refine (HL.out _ (by go_split_ands; assumption)).mono ?_; rintro e w' ⟨rfl, hbN⟩)
        | (go_at_call 17; refine (HR.out _ (by go_split_ands; assumption)).mono ?_; rintro e w' ⟨rfl, hbN⟩)
        | (go_at_call 29; refine (HQ.out _ _ (st5 _ _ _ _ _ _ _)).mono ?_; rintro e w' ⟨rfl, hbN⟩))
    go_wp2
    go_ret
    go_split_ands
    exact ⟨rfl, by assumption⟩
  · obtain rfl := h0 k1 k2 k3
    clear HA HL HR HP2 HP3 h0 h1
    go_enter Tryz.func15, Tryz.ntmps15
    go_wp2
    go_ret
    exact ⟨rfl, HAL.out⟩
end Go.Proofs.YtbbmihojfcofdaaGreatDoor

namespace Go.Proofs.YtbbmihojfcofdaaGreatDoor
set_option linter.unusedSimpArgs false
set_option linter.unusedVariables false
set_option linter.unusedSectionVars false
set_option maxRecDepth 100000
open Go.RowKit

set_option maxHeartbeats 4000000 in
theorem eachL_any {w : World} {x : Value} {L : List Lt} (hx : Lts w x L) (hI : ∀ t ∈ L, InLt t) (hs : szLts L ≤ 1000000000000) (hT : Tab w) :
    Calls Tryz.prog 47 #[x, .func (.func 15) #[] #[]] w fun e w' => ∃ y, e = .returned y ∧ Below w.heap.size w w' ∧ Sts w' y (L.map fun t => ⟨(litTx t).toArray⟩) := by
  obtain ⟨ao, cap, rfl, hcap, hm⟩ := hx.form
  obtain ⟨i0, hi, hz0, hz1, hz2⟩ := info_parts infoStr
  have hl : 2 * L.length ≤ szLts L := sum_len szLt 2 (fun t => by first | omega | (unfold szLt; omega)) L
  have hl12 : L.length ≤ 1000000000000 := by omega
  have hl12I : (L.length : Int) ≤ 1000000000000 := by omega
  have HX := Lib.hid hx
  have HC : Hid (∀ t ∈ L, ∀ W, Below w.heap.size w W → ∀ xa, Tms W xa t.atom.args → Calls Tryz.prog 15 #[.agg #[.int .i64 t.kind, .string t.atom.p, xa, .string t.op, .bool t.l.v, .string t.l.name, .bool t.l.k, .string t.l.s, .int .i64 t.l.n, .bool t.r.v, .string t.r.name, .bool t.r.k, .string t.r.s, .int .i64 t.r.n]] W fun e w' => e = .returned (.string ⟨(litTx t).toArray⟩) ∧ Below W.heap.size W w') := fun t ht W hb xa hx => plit_any t xa W hx (hI t ht) (Nat.le_trans (sum_mem szLt ht) hs) (hT.on hb)
  obtain ⟨F, hF⟩ : ∃ F : Lt → ByteArray, F = fun t => ⟨(litTx t).toArray⟩ := ⟨_, rfl⟩
  rw [← hF]
  have HC2 : Hid (∀ t ∈ L, ∀ W, Below w.heap.size w W → ∀ xa, Tms W xa t.atom.args → Calls Tryz.prog 15 #[.agg #[.int .i64 t.kind, .string t.atom.p, xa, .string t.op, .bool t.l.v, .string t.l.name, .bool t.l.k, .string t.l.s, .int .i64 t.l.n, .bool t.r.v, .string t.r.name, .bool t.r.k, .string t.r.s, .int .i64 t.r.n]] W fun e w' => e = .returned (.string (F t)) ∧ Below W.heap.size W w') := by
    subst hF; exact HC
  clear hx hI hs hT hl hcap hm HC hF
  go_enter Tryz.func47, Tryz.ntmps47
  go_wp2_with (at_make; refine wpList_make_own _ rfl _ _ 60 rfl w.heap.size 9 i0 _ 1 Tryz.underlying60 hi hz0 hz1 .i64 .i64 _ L.length rfl rfl (by omega) (by rw [hz2]; omega) (by unfold maxLen; omega) (Nat.le_refl _) ?_; intro w1 hown1 hg1; have HR1 : Hid (StsO w1 w.heap.size (.slice (some ⟨w.heap.size, 0, none⟩) 0 L.length) []) := ⟨[], trivial, fun _ h => by simp at h, hown1⟩; have HB1 : Hid (Below w.heap.size w w1) := (Below.refl _ _).grown hg1 (Nat.le_refl _) (fun k hk => by cases hk); have HG1 : Hid (w.heap.size < w1.heap.size) := (World.ownsRow.lt hown1 w.heap.size rfl).2; clear hown1 hg1)
  go_loopw [5, 13] (fun v i wr => ∃ (k g c : Nat), k ≤ L.length ∧ i = .int .i64 k ∧ v = .slice (some ⟨g, 0, none⟩) k c ∧ Hid (g < wr.heap.size) ∧ Hid (StsO wr w.heap.size (.slice (some ⟨g, 0, none⟩) k c) ((L.take k).map F)) ∧ Hid (Below w.heap.size w wr)) (fun _ i _ => L.length - (intOf i).toNat)
  case atStart => exact ⟨0, w.heap.size, L.length, Nat.zero_le _, rfl, rfl, HG1, HR1, HB1⟩
  case round =>
    clear HR1 HB1 HG1
    obtain ⟨k, g, c, hk, rfl, rfl, HG, HR, HB⟩ := hrel
    by_cases hlt : k < L.length
    · have hltI : (k : Int) < (L.length : Int) := by omega
      have HLK : Hid (((L.take k).map F).length = k) := by show _ = _; rw [List.length_map, List.length_take]; omega
      have HTK : Hid ((L.take (k + 1)).map F = (L.take k).map F ++ [F L[k]]) := by show _ = _; rw [List.take_succ_eq_append_getElem hlt, List.map_append]; rfl
      obtain ⟨b, off, cs, rfl, hbl, hR, hc⟩ := (HX.out.below stayLt HB.out).at k hlt
      obtain ⟨xa, rfl, hxa⟩ := hR
      have HCK := Lib.hid (fun W (hb : Below wr.heap.size wr W) => HC2.out _ (List.getElem_mem hlt) W (HB.out.trans (hb.mono HB.out.size)) xa (hxa.below stayTm hb))
      obtain ⟨xo, xcap, rfl, -⟩ := hxa.form
      have q0 := hc 0 _ rfl
      have q1 := hc 1 _ rfl
      have q2 := hc 2 _ rfl
      have q3 := hc 3 _ rfl
      have q4 := hc 4 _ rfl
      have q5 := hc 5 _ rfl
      have q6 := hc 6 _ rfl
      have q7 := hc 7 _ rfl
      have q8 := hc 8 _ rfl
      have q9 := hc 9 _ rfl
      have q10 := hc 10 _ rfl
      have q11 := hc 11 _ rfl
      have q12 := hc 12 _ rfl
      have q13 := hc 13 _ rfl
      simp only [Nat.add_zero] at q0
      obtain ⟨Fk, hFk⟩ : ∃ q, q = F L[k] := ⟨_, rfl⟩
      rw [← hFk] at HCK HTK
      clear hFk hc
      obtain ⟨A, hA⟩ : ∃ A, A = (L.take k).map F := ⟨_, rfl⟩
      rw [← hA] at HR HLK HTK
      clear hA
      obtain ⟨cs, hAll, hcl, hrow⟩ := HR.out
      have HALL := Lib.hid hAll
      have HCL := Lib.hid hcl
      have HROW := Lib.hid hrow
      rw [HLK.out] at HROW
      obtain ⟨t, ht⟩ : ∃ t, t = L[k] := ⟨_, rfl⟩
      
      rw [← ht] at HCK q0 q1 q2 q3 q4 q5 q6 q7 q8 q9 q10 q11 q12 q13
      clear ht hAll hcl hrow HR hxa
      obtain ⟨tkind, ⟨tp, targs⟩, top, ⟨lv, lname, lk, ls, ln⟩, ⟨rv, rname, rk, rs, rn⟩⟩ := t
      simp only at HCK q0 q1 q2 q3 q4 q5 q6 q7 q8 q9 q10 q11 q12 q13
      go_wp2_with (first
        | (go_at_call 15; refine (HCK.out _ (al_below wr _)).mono ?_; rintro e w2 ⟨rfl, hb2⟩; have HB2 : Hid (Below wr.heap.size wr w2) := (al_below wr _).trans (hb2.mono (by simp)); have HROW2 : Hid (w2.ownsRow w.heap.size 9 1 (.slice (some ⟨g, 0, none⟩) k c) k cs.flatten) := owns_keep HROW.out (Nat.le_refl _) (fun j _ hj => HB2.out.block j hj); have hsz2 : w.heap.size ≤ w2.heap.size := Nat.le_trans HB.out.size HB2.out.size; clear hb2)
        | (at_builtin; refine wpList_append_own _ rfl _ _ 60 rfl w.heap.size 9 i0 _ 1 16 Tryz.underlying60 hi hz0 hz1 hz2 rfl (by decide) _ k cs.flatten rfl (World.ownsRow.alloc HROW2.out _) ⟨w2.heap.size, 0, none⟩ 1 1 [.string Fk] rfl rfl (cell_one _ _ _) (by simp [Value.oneCell']) (by unfold maxLen; omega) (by omega) (by simp; omega) ?_; intro v' w4 hown4 hg4 hnil4; obtain ⟨ho4, hb4, -⟩ := own_step (keepNSt _) hsz2 (show AllR (StR w2 w.heap.size) A cs from HALL.out) HCL.out (by rw [HLK.out]; exact HROW2.out) (a := Fk) (show StR _ _ _ _ from rfl) rfl (Below.refl _ w2) (by rw [HLK.out]; exact hown4) hg4; have HO4 := Lib.hid ho4; have HB4 : Hid (Below w.heap.size w w4) := (HB.out.trans (HB2.out.mono HB.out.size)).trans hb4; clear hown4 hg4 hnil4 ho4 hb4))
      obtain ⟨k1, hk1⟩ : ∃ q : Nat, q = k + 1 := ⟨_, rfl⟩
      have hl1 : (A ++ [Fk]).length = k1 := by simp [HLK.out, hk1]
      obtain ⟨g3, c3, e3, hg3⟩ : ∃ g3 c3, v' = .slice (some ⟨g3, 0, none⟩) k1 c3 ∧ g3 < w4.heap.size := by
        obtain ⟨ao, cap, e, -, h2⟩ := HO4.out.cells
        obtain ⟨g3, _, e2, -, h3, -⟩ := h2 k (by rw [hl1]; omega)
        exact ⟨g3, cap, by rw [e, e2, hl1], h3⟩
      subst e3
      rw [← HTK.out] at HO4
      have HG3 := Lib.hid hg3
      have hk1I : (k : Int) + 1 = (k1 : Int) := by omega
      have HK1 := Lib.hid hk1
      clear hl1 hg3 hk1
      go_wp2
      go_roundw
      case rel => exact ⟨k1, g3, c3, by have := HK1.out; omega, by first | rfl | go_num, rfl, HG3, by rw [HK1.out] at HO4 ⊢; exact HO4, HB4⟩
      case measure => simp [intOf]; have := HK1.out; omega
    · have hltI : ¬ (k : Int) < (L.length : Int) := by omega
      obtain rfl : k = L.length := by omega
      have HE : Hid (Sts wr (.slice (some ⟨g, 0, none⟩) L.length c) (L.map F)) := by
        have := StsO.sts HR.out HG.out
        rw [List.take_of_length_le (Nat.le_refl _)] at this
        exact this
      go_wp2
      go_ret
      exact ⟨_, rfl, HB.out, HE.out⟩
end Go.Proofs.YtbbmihojfcofdaaGreatDoor

namespace Go.Proofs.YtbbmihojfcofdaaGreatDoor
set_option linter.unusedSimpArgs false
set_option linter.unusedVariables false
set_option linter.unusedSectionVars false
set_option maxRecDepth 100000
open Go.RowKit

/-- Three cells of a box, and what has been since. -/
theorem box3_keep {w W w' : World} {b : Nat} {c0 c1 c2 : Value} (h : W.cell? ⟨b, 0, none⟩ = some c0 ∧ W.cell? ⟨b, 1, none⟩ = some c1 ∧ W.cell? ⟨b, 2, none⟩ = some c2 ∧ b < W.heap.size ∧ Below w.heap.size w W) (hb : Below W.heap.size W w') :
    w'.cell? ⟨b, 0, none⟩ = some c0 ∧ w'.cell? ⟨b, 1, none⟩ = some c1 ∧ w'.cell? ⟨b, 2, none⟩ = some c2 ∧ b < w'.heap.size ∧ Below w.heap.size w w' := by
  obtain ⟨h0, h1, h1', h2, h3⟩ := h
  have hs := hb.size
  exact ⟨(hb.cell (p := ⟨b, 0, none⟩) h2).trans h0, (hb.cell (p := ⟨b, 1, none⟩) h2).trans h1, (hb.cell (p := ⟨b, 2, none⟩) h2).trans h1', by omega, h3.trans (hb.mono h3.size)⟩

set_option maxHeartbeats 8000000 in
theorem prule_any (r : Ru) (x y : Value) (w : World) (hx : Tms w x r.head.args) (hy : Lts w y r.body) (hI : InRu r) (hs : szRu r ≤ 1000000000000) (hT : Tab w) :
    Calls Tryz.prog 21 #[.agg #[.string r.head.p, x, y]] w fun e w' => e = .returned (.string ⟨(ruleTx r).toArray⟩) ∧ Below w.heap.size w w' := by
  have hle := ruleTx_le hI
  obtain ⟨ao, cap, rfl, hcap, hm⟩ := hx.form
  obtain ⟨bo, bcap, rfl, hbcap, hbm⟩ := hy.form
  have hsl : szLts r.body ≤ 1000000000000 := by unfold szRu at hs; omega
  have hl2 : 2 * r.body.length ≤ szLts r.body := sum_len szLt 2 (fun t => by unfold szLt; omega) _
  have HAL := Lib.hid (al_below w (.cells #[.string r.head.p, .slice ao r.head.args.length cap, .slice bo r.body.length bcap] 40))
  have HA : Hid (∀ W, Below w.heap.size w W → Calls Tryz.prog 19 #[.agg #[.string r.head.p, .slice ao r.head.args.length cap]] W fun e w' => e = .returned (.string ⟨(atomTx r.head).toArray⟩) ∧ Below W.heap.size W w') := fun W hb => patom_any r.head _ W (hx.below stayTm hb) hI.1 (by unfold szRu at hs; omega) (hT.on hb)
  have HE : Hid (∀ W, Below w.heap.size w W → Calls Tryz.prog 47 #[.slice bo r.body.length bcap, .func (.func 15) #[] #[]] W fun e w' => ∃ y, e = .returned y ∧ Below W.heap.size W w' ∧ Sts w' y (r.body.map fun t => ⟨(litTx t).toArray⟩)) := fun W hb => eachL_any (hy.below stayLt hb) hI.2 hsl (hT.on hb)
  have hnm : (sepTx litTx r.body).length ≤ (ruleTx r).length := by
    unfold ruleTx bodyTx
    split
    · rename_i h; rw [h]; simp [sepTx]
    · simp; omega
  have HJ : Hid (∀ W y, Sts W y (r.body.map fun t => ⟨(litTx t).toArray⟩) → Calls Tryz.prog 46 #[y, .string ⟨#[44, 32]⟩] W fun e w' => e = .returned (.string ⟨(sepTx litTx r.body).toArray⟩) ∧ Below W.heap.size W w') := fun W y hy => by
    have e : Lib.join ((r.body.map fun t => (⟨(litTx t).toArray⟩ : ByteArray)).map (·.data.toList)) (⟨#[44, 32]⟩ : ByteArray).data.toList = sepTx litTx r.body := by
      have e1 : (r.body.map fun t => (⟨(litTx t).toArray⟩ : ByteArray)).map (·.data.toList) = r.body.map litTx := by simp
      rw [e1]
      exact join_sep litTx r.body
    have := join_sts hy ⟨#[44, 32]⟩ (by simp; omega) (by rw [e]; omega)
    rw [e] at this
    exact this
  have HP2 : Hid (r.body.length = 0 → ∀ W y, Sts W y [⟨(atomTx r.head).toArray⟩, ⟨#[46]⟩] → Calls Tryz.prog 29 #[y] W fun e w' => e = .returned (.string ⟨(ruleTx r).toArray⟩) ∧ Below W.heap.size W w') := fun hk W y hy => by
    have hz : ruleTx r = atomTx r.head ++ [46] := by unfold ruleTx bodyTx; rw [if_pos (List.length_eq_zero_iff.1 hk)]; rfl
    have := pput_any hy (by simp) (by rw [hz] at hle; simp at hle ⊢; omega)
    rw [hz]
    simpa using this
  have HP4 : Hid (r.body.length ≠ 0 → ∀ W y, Sts W y [⟨(atomTx r.head).toArray⟩, ⟨#[32, 58, 45, 32]⟩, ⟨(sepTx litTx r.body).toArray⟩, ⟨#[46]⟩] → Calls Tryz.prog 29 #[y] W fun e w' => e = .returned (.string ⟨(ruleTx r).toArray⟩) ∧ Below W.heap.size W w') := fun hk W y hy => by
    have hz : ruleTx r = atomTx r.head ++ ([32, 58, 45, 32] ++ (sepTx litTx r.body ++ [46])) := by
      unfold ruleTx bodyTx
      rw [if_neg (fun h => hk (by rw [h]; rfl))]
      simp
    have := pput_any hy (by simp) (by rw [hz] at hle; simp at hle ⊢; omega)
    rw [hz]
    simpa using this
  obtain ⟨Z, hZ⟩ : ∃ Z, Z = ruleTx r := ⟨_, rfl⟩
  obtain ⟨M, hM⟩ : ∃ M : List ByteArray, M = r.body.map fun t => ⟨(litTx t).toArray⟩ := ⟨_, rfl⟩
  obtain ⟨SJ, hSJ⟩ : ∃ SJ, SJ = sepTx litTx r.body := ⟨_, rfl⟩
  obtain ⟨ZA, hZA⟩ : ∃ ZA, ZA = atomTx r.head := ⟨_, rfl⟩
  rw [← hZ] at HP2 HP4 ⊢
  rw [← hM] at HE HJ
  rw [← hSJ] at HJ HP4
  rw [← hZA] at HA HP2 HP4
  obtain ⟨⟨p, A⟩, bd⟩ := r
  simp only at HA HE HP2 HP4 HAL
  obtain ⟨nb, hnb⟩ : ∃ nb, nb = bd.length := ⟨_, rfl⟩
  rw [← hnb] at HE HP2 HP4 HAL
  simp only [← hnb]
  clear hx hy hI hs hT hle hsl hl2 hnm hZ hM hSJ hZA hcap hm hbcap hbm hnb
  by_cases h0 : nb = 0
  · subst h0
    have HQ := Lib.hid (HP2.out rfl)
    clear HE HJ HP2 HP4
    go_enter Tryz.func21, Tryz.ntmps21
    go_wp2_with (first
      | (go_at_call 19; refine (HA.out _ HAL.out).mono ?_; rintro e w1 ⟨rfl, hb1⟩; have HB1 : Hid (Below w.heap.size w w1) := HAL.out.trans (hb1.mono HAL.out.size); clear hb1)
      | (go_at_call 29; refine (HQ.out _ _ (st2 w1 _ _ _)).mono ?_; rintro e w2 ⟨rfl, hb2⟩; have HB2 : Hid (Below w.heap.size w w2) := HB1.out.trans ((al_below w1 _).mono HB1.out.size |>.trans (hb2.mono (by have := HB1.out.size; simp; omega))); clear hb2))
    go_ret
    exact ⟨rfl, HB2.out⟩
  · have hI0 : ¬ (nb : Int) = 0 := by omega
    have hB0 : ((nb : Int) == 0) = false := by simpa using hI0
    have HQ := Lib.hid (HP4.out h0)
    clear HP2 HP4 h0
    go_enter Tryz.func21, Tryz.ntmps21
    go_wp2_with fail
    go_region_held3 (fun w' => w'.cell? ⟨w.heap.size, 0, none⟩ = some (.string p) ∧ w'.cell? ⟨w.heap.size, 1, none⟩ = some (.slice ao A.length cap) ∧ w'.cell? ⟨w.heap.size, 2, none⟩ = some (.slice bo nb bcap) ∧ w.heap.size < w'.heap.size ∧ Below w.heap.size w w')
      (first | assumption | exact box3_keep (by assumption) hbN | exact box3_keep (by assumption) ((Below.refl _ _).alloc (Nat.le_refl _) _) | exact ⟨by simp, by simp, by simp, by simp, HAL.out.drew⟩)
      (first
        | (go_at_call 19; refine (HA.out _ (by go_split_ands; assumption)).mono ?_; rintro e w' ⟨rfl, hbN⟩; try have HST := Lib.hid (Sts.below HST.out hbN))
        | (go_at_call 47; refine (HE.out _ (by go_split_ands; assumption)).mono ?_; rintro e w' ⟨y, rfl, hbN, hst⟩; have HST := Lib.hid hst; clear hst)
        | (go_at_call 46; refine (HJ.out _ _ HST.out).mono ?_; rintro e w' ⟨rfl, hbN⟩)
        | (go_at_call 29; refine (HQ.out _ _ (st4 _ _ _ _ _ _)).mono ?_; rintro e w' ⟨rfl, hbN⟩))
    all_goals
      go_wp2
      go_ret
      go_split_ands
      exact ⟨rfl, by assumption⟩

set_option maxHeartbeats 2000000 in
theorem pruleLine_any (r : Ru) (x y : Value) (w : World) (hx : Tms w x r.head.args) (hy : Lts w y r.body) (hI : InRu r) (hs : szRu r ≤ 1000000000000) (hT : Tab w) :
    Calls Tryz.prog 33 #[.agg #[.string r.head.p, x, y]] w fun e w' => e = .returned (.string ⟨(ruleTx r ++ [10]).toArray⟩) ∧ Below w.heap.size w w' := by
  have hle := ruleTx_le hI
  obtain ⟨ao, cap, rfl, hcap, hm⟩ := hx.form
  obtain ⟨bo, bcap, rfl, hbcap, hbm⟩ := hy.form
  have HAL := Lib.hid (al_below w (.cells #[.string r.head.p, .slice ao r.head.args.length cap, .slice bo r.body.length bcap] 40))
  have HR := Lib.hid (prule_any r _ _ _ (hx.below stayTm HAL.out) (hy.below stayLt HAL.out) hI hs (hT.on HAL.out))
  have HP : Hid (∀ W y, Sts W y [⟨(ruleTx r).toArray⟩, ⟨#[10]⟩] → Calls Tryz.prog 29 #[y] W fun e w' => e = .returned (.string ⟨(ruleTx r ++ [10]).toArray⟩) ∧ Below W.heap.size W w') := fun W y hy => by
    have := pput_any hy (by simp) (by simp at hle ⊢; omega)
    simpa using this
  obtain ⟨Z, hZ⟩ : ∃ Z, Z = ruleTx r := ⟨_, rfl⟩
  rw [← hZ] at HR HP ⊢
  obtain ⟨⟨p, A⟩, bd⟩ := r
  simp only at HR HAL
  clear hx hy hI hs hT hle hZ hcap hm hbcap hbm
  go_enter Tryz.func33, Tryz.ntmps33
  go_wp2_with (first
    | (go_at_call 21; refine (HR.out).mono ?_; rintro e w1 ⟨rfl, hb1⟩; have HB1 : Hid (Below w.heap.size w w1) := HAL.out.trans (hb1.mono HAL.out.size); clear hb1)
    | (go_at_call 29; refine (HP.out _ _ (st2 w1 _ _ _)).mono ?_; rintro e w2 ⟨rfl, hb2⟩; have HB2 : Hid (Below w.heap.size w w2) := HB1.out.trans ((al_below w1 _).mono HB1.out.size |>.trans (hb2.mono (by have := HB1.out.size; simp; omega))); clear hb2))
  go_ret
  exact ⟨rfl, HB2.out⟩
end Go.Proofs.YtbbmihojfcofdaaGreatDoor

namespace Go.Proofs.YtbbmihojfcofdaaGreatDoor
set_option linter.unusedSimpArgs false
set_option linter.unusedVariables false
set_option linter.unusedSectionVars false
set_option maxRecDepth 100000
open Go.RowKit

set_option maxHeartbeats 4000000 in
theorem eachR_any {w : World} {x : Value} {L : List Ru} (hx : Rus w x L) (hI : ∀ t ∈ L, InRu t) (hs : szRus L ≤ 1000000000000) (hT : Tab w) :
    Calls Tryz.prog 32 #[x, .func (.func 33) #[] #[]] w fun e w' => ∃ y, e = .returned y ∧ Below w.heap.size w w' ∧ Sts w' y (L.map fun t => ⟨(ruleTx t ++ [10]).toArray⟩) ∧ StsO w' w.heap.size y (L.map fun t => ⟨(ruleTx t ++ [10]).toArray⟩) := by
  obtain ⟨ao, cap, rfl, hcap, hm⟩ := hx.form
  obtain ⟨i0, hi, hz0, hz1, hz2⟩ := info_parts infoStr
  have hl : 2 * L.length ≤ szRus L := sum_len szRu 2 (fun t => by first | omega | (unfold szRu szAm; omega)) L
  have hl12 : L.length ≤ 1000000000000 := by omega
  have hl12I : (L.length : Int) ≤ 1000000000000 := by omega
  have HX := Lib.hid hx
  have HC : Hid (∀ t ∈ L, ∀ W, Below w.heap.size w W → ∀ xa ya, Tms W xa t.head.args → Lts W ya t.body → Calls Tryz.prog 33 #[.agg #[.string t.head.p, xa, ya]] W fun e w' => e = .returned (.string ⟨(ruleTx t ++ [10]).toArray⟩) ∧ Below W.heap.size W w') := fun t ht W hb xa ya hx hy => pruleLine_any t xa ya W hx hy (hI t ht) (Nat.le_trans (sum_mem szRu ht) hs) (hT.on hb)
  obtain ⟨F, hF⟩ : ∃ F : Ru → ByteArray, F = fun t => ⟨(ruleTx t ++ [10]).toArray⟩ := ⟨_, rfl⟩
  rw [← hF]
  have HC2 : Hid (∀ t ∈ L, ∀ W, Below w.heap.size w W → ∀ xa ya, Tms W xa t.head.args → Lts W ya t.body → Calls Tryz.prog 33 #[.agg #[.string t.head.p, xa, ya]] W fun e w' => e = .returned (.string (F t)) ∧ Below W.heap.size W w') := by
    subst hF; exact HC
  clear hx hI hs hT hl hcap hm HC hF
  go_enter Tryz.func32, Tryz.ntmps32
  go_wp2_with (at_make; refine wpList_make_own _ rfl _ _ 60 rfl w.heap.size 9 i0 _ 1 Tryz.underlying60 hi hz0 hz1 .i64 .i64 _ L.length rfl rfl (by omega) (by rw [hz2]; omega) (by unfold maxLen; omega) (Nat.le_refl _) ?_; intro w1 hown1 hg1; have HR1 : Hid (StsO w1 w.heap.size (.slice (some ⟨w.heap.size, 0, none⟩) 0 L.length) []) := ⟨[], trivial, fun _ h => by simp at h, hown1⟩; have HB1 : Hid (Below w.heap.size w w1) := (Below.refl _ _).grown hg1 (Nat.le_refl _) (fun k hk => by cases hk); have HG1 : Hid (w.heap.size < w1.heap.size) := (World.ownsRow.lt hown1 w.heap.size rfl).2; clear hown1 hg1)
  go_loopw [5, 13] (fun v i wr => ∃ (k g c : Nat), k ≤ L.length ∧ i = .int .i64 k ∧ v = .slice (some ⟨g, 0, none⟩) k c ∧ Hid (g < wr.heap.size) ∧ Hid (StsO wr w.heap.size (.slice (some ⟨g, 0, none⟩) k c) ((L.take k).map F)) ∧ Hid (Below w.heap.size w wr)) (fun _ i _ => L.length - (intOf i).toNat)
  case atStart => exact ⟨0, w.heap.size, L.length, Nat.zero_le _, rfl, rfl, HG1, HR1, HB1⟩
  case round =>
    clear HR1 HB1 HG1
    obtain ⟨k, g, c, hk, rfl, rfl, HG, HR, HB⟩ := hrel
    by_cases hlt : k < L.length
    · have hltI : (k : Int) < (L.length : Int) := by omega
      have HLK : Hid (((L.take k).map F).length = k) := by show _ = _; rw [List.length_map, List.length_take]; omega
      have HTK : Hid ((L.take (k + 1)).map F = (L.take k).map F ++ [F L[k]]) := by show _ = _; rw [List.take_succ_eq_append_getElem hlt, List.map_append]; rfl
      obtain ⟨b, off, cs, rfl, hbl, hR, hc⟩ := (HX.out.below stayRu HB.out).at k hlt
      obtain ⟨xa, ya, rfl, hxa, hya⟩ := hR
      have HCK := Lib.hid (fun W (hb : Below wr.heap.size wr W) => HC2.out _ (List.getElem_mem hlt) W (HB.out.trans (hb.mono HB.out.size)) xa ya (hxa.below stayTm hb) (hya.below stayLt hb))
      obtain ⟨xo, xcap, rfl, -⟩ := hxa.form
      obtain ⟨yo, ycap, rfl, -⟩ := hya.form
      have q0 := hc 0 _ rfl
      have q1 := hc 1 _ rfl
      have q2 := hc 2 _ rfl
      simp only [Nat.add_zero] at q0
      obtain ⟨Fk, hFk⟩ : ∃ q, q = F L[k] := ⟨_, rfl⟩
      rw [← hFk] at HCK HTK
      clear hFk hc
      obtain ⟨A, hA⟩ : ∃ A, A = (L.take k).map F := ⟨_, rfl⟩
      rw [← hA] at HR HLK HTK
      clear hA
      obtain ⟨cs, hAll, hcl, hrow⟩ := HR.out
      have HALL := Lib.hid hAll
      have HCL := Lib.hid hcl
      have HROW := Lib.hid hrow
      rw [HLK.out] at HROW
      obtain ⟨t, ht⟩ : ∃ t, t = L[k] := ⟨_, rfl⟩
      
      rw [← ht] at HCK q0 q1 q2
      clear ht hAll hcl hrow HR hxa hya
      obtain ⟨⟨tp, targs⟩, tbody⟩ := t
      simp only at HCK q0 q1 q2
      go_wp2_with (first
        | (go_at_call 33; refine (HCK.out _ (al_below wr _)).mono ?_; rintro e w2 ⟨rfl, hb2⟩; have HB2 : Hid (Below wr.heap.size wr w2) := (al_below wr _).trans (hb2.mono (by simp)); have HROW2 : Hid (w2.ownsRow w.heap.size 9 1 (.slice (some ⟨g, 0, none⟩) k c) k cs.flatten) := owns_keep HROW.out (Nat.le_refl _) (fun j _ hj => HB2.out.block j hj); have hsz2 : w.heap.size ≤ w2.heap.size := Nat.le_trans HB.out.size HB2.out.size; clear hb2)
        | (at_builtin; refine wpList_append_own _ rfl _ _ 60 rfl w.heap.size 9 i0 _ 1 16 Tryz.underlying60 hi hz0 hz1 hz2 rfl (by decide) _ k cs.flatten rfl (World.ownsRow.alloc HROW2.out _) ⟨w2.heap.size, 0, none⟩ 1 1 [.string Fk] rfl rfl (cell_one _ _ _) (by simp [Value.oneCell']) (by unfold maxLen; omega) (by omega) (by simp; omega) ?_; intro v' w4 hown4 hg4 hnil4; obtain ⟨ho4, hb4, -⟩ := own_step (keepNSt _) hsz2 (show AllR (StR w2 w.heap.size) A cs from HALL.out) HCL.out (by rw [HLK.out]; exact HROW2.out) (a := Fk) (show StR _ _ _ _ from rfl) rfl (Below.refl _ w2) (by rw [HLK.out]; exact hown4) hg4; have HO4 := Lib.hid ho4; have HB4 : Hid (Below w.heap.size w w4) := (HB.out.trans (HB2.out.mono HB.out.size)).trans hb4; clear hown4 hg4 hnil4 ho4 hb4))
      obtain ⟨k1, hk1⟩ : ∃ q : Nat, q = k + 1 := ⟨_, rfl⟩
      have hl1 : (A ++ [Fk]).length = k1 := by simp [HLK.out, hk1]
      obtain ⟨g3, c3, e3, hg3⟩ : ∃ g3 c3, v' = .slice (some ⟨g3, 0, none⟩) k1 c3 ∧ g3 < w4.heap.size := by
        obtain ⟨ao, cap, e, -, h2⟩ := HO4.out.cells
        obtain ⟨g3, _, e2, -, h3, -⟩ := h2 k (by rw [hl1]; omega)
        exact ⟨g3, cap, by rw [e, e2, hl1], h3⟩
      subst e3
      rw [← HTK.out] at HO4
      have HG3 := Lib.hid hg3
      have hk1I : (k : Int) + 1 = (k1 : Int) := by omega
      have HK1 := Lib.hid hk1
      clear hl1 hg3 hk1
      go_wp2
      go_roundw
      case rel => exact ⟨k1, g3, c3, by have := HK1.out; omega, by first | rfl | go_num, rfl, HG3, by rw [HK1.out] at HO4 ⊢; exact HO4, HB4⟩
      case measure => simp [intOf]; have := HK1.out; omega
    · have hltI : ¬ (k : Int) < (L.length : Int) := by omega
      obtain rfl : k = L.length := by omega
      have HE : Hid (Sts wr (.slice (some ⟨g, 0, none⟩) L.length c) (L.map F)) := by
        have := StsO.sts HR.out HG.out
        rw [List.take_of_length_le (Nat.le_refl _)] at this
        exact this
      have HOE : Hid (StsO wr w.heap.size (.slice (some ⟨g, 0, none⟩) L.length c) (L.map F)) := by
        have := HR.out
        rw [List.take_of_length_le (Nat.le_refl _)] at this
        exact this
      go_wp2
      go_ret
      exact ⟨_, rfl, HB.out, HE.out, HOE.out⟩
end Go.Proofs.YtbbmihojfcofdaaGreatDoor

namespace Go.Proofs.YtbbmihojfcofdaaGreatDoor
set_option linter.unusedSimpArgs false
set_option linter.unusedVariables false
set_option linter.unusedSectionVars false
set_option maxRecDepth 100000
open Go.RowKit

theorem itoaS_any (n : Int) (h : InR n) (w : World) (ht : Tab w) :
    Calls Tryz.prog 54 #[.int .i64 n] w fun e w' => e = .returned (.string ⟨(Lib.itoa n).toArray⟩) ∧ Below w.heap.size w w' :=
  (Tryz.strconv_Itoa n h.1 h.2 w ht).mono fun e w' ⟨he, k, os, hw⟩ => ⟨he, by rw [hw]; exact below_grow w k os⟩

set_option maxHeartbeats 4000000 in
theorem pdecl_any (d : De) (w : World) (hI : InDe d) (hs : szDe d ≤ 1000000000000) (hT : Tab w) :
    Calls Tryz.prog 31 #[.agg #[.string d.p, .int .i64 d.ar]] w fun e w' => e = .returned (.string ⟨(declTx d ++ [10]).toArray⟩) ∧ Below w.heap.size w w' := by
  have hle := declTx_le hI
  have HAL := Lib.hid (al_below w (.cells #[.string d.p, .int .i64 d.ar] 63))
  have HN : Hid (∀ W, Below w.heap.size w W → Calls Tryz.prog 54 #[.int .i64 d.ar] W fun e w' => e = .returned (.string ⟨(Lib.itoa d.ar).toArray⟩) ∧ Below W.heap.size W w') := fun W hb => itoaS_any d.ar hI W (hT.on hb)
  have HP : Hid (∀ W y, Sts W y [d.p, ⟨#[47]⟩, ⟨(Lib.itoa d.ar).toArray⟩, ⟨#[46, 10]⟩] → Calls Tryz.prog 29 #[y] W fun e w' => e = .returned (.string ⟨(declTx d ++ [10]).toArray⟩) ∧ Below W.heap.size W w') := fun W y hy => by
    have hz : declTx d ++ [10] = d.p.data.toList ++ ([47] ++ (Lib.itoa d.ar ++ [46, 10])) := by unfold declTx; simp
    have hle' : (d.p.data.toList ++ ([47] ++ (Lib.itoa d.ar ++ [46, 10]))).length ≤ 8 * szDe d := by rw [← hz]; simp; omega
    have := pput_any hy (by simp) (by simp at hle' ⊢; omega)
    rw [hz]
    simpa using this
  obtain ⟨Z, hZ⟩ : ∃ Z, Z = declTx d ++ [10] := ⟨_, rfl⟩
  rw [← hZ] at HP ⊢
  obtain ⟨p, n⟩ := d
  simp only at HN HP HAL
  clear hI hs hT hle hZ
  go_enter Tryz.func31, Tryz.ntmps31
  go_wp2_with fail
  go_region_held3 (fun w' => w'.cell? ⟨w.heap.size, 0, none⟩ = some (.string p) ∧ w'.cell? ⟨w.heap.size, 1, none⟩ = some (.int .i64 n) ∧ w.heap.size < w'.heap.size ∧ Below w.heap.size w w')
    (first | assumption | exact box2_keep (by assumption) hbN | exact box2_keep (by assumption) ((Below.refl _ _).alloc (Nat.le_refl _) _) | exact ⟨by simp, by simp, by simp, HAL.out.drew⟩)
    (first
      | (go_at_call 54; refine (HN.out _ (by go_split_ands; assumption)).mono ?_; rintro e w' ⟨rfl, hbN⟩)
      | (go_at_call 29; refine (HP.out _ _ (st4 _ _ _ _ _ _)).mono ?_; rintro e w' ⟨rfl, hbN⟩))
  all_goals
    go_wp2
    go_ret
    go_split_ands
    exact ⟨rfl, by assumption⟩
end Go.Proofs.YtbbmihojfcofdaaGreatDoor

namespace Go.Proofs.YtbbmihojfcofdaaGreatDoor
set_option linter.unusedSimpArgs false
set_option linter.unusedVariables false
set_option linter.unusedSectionVars false
set_option maxRecDepth 100000
open Go.RowKit

set_option maxHeartbeats 4000000 in
theorem eachD_any {w : World} {x : Value} {L : List De} (hx : Des w x L) (hI : ∀ t ∈ L, InDe t) (hs : szDes L ≤ 1000000000000) (hT : Tab w) :
    Calls Tryz.prog 30 #[x, .func (.func 31) #[] #[]] w fun e w' => ∃ y, e = .returned y ∧ Below w.heap.size w w' ∧ Sts w' y (L.map fun t => ⟨(declTx t ++ [10]).toArray⟩) ∧ StsO w' w.heap.size y (L.map fun t => ⟨(declTx t ++ [10]).toArray⟩) := by
  obtain ⟨ao, cap, rfl, hcap, hm⟩ := hx.form
  obtain ⟨i0, hi, hz0, hz1, hz2⟩ := info_parts infoStr
  have hl : 3 * L.length ≤ szDes L := sum_len szDe 3 (fun t => by first | omega | (unfold szDe; omega)) L
  have hl12 : L.length ≤ 1000000000000 := by omega
  have hl12I : (L.length : Int) ≤ 1000000000000 := by omega
  have HX := Lib.hid hx
  have HC : Hid (∀ t ∈ L, ∀ W, Below w.heap.size w W → Calls Tryz.prog 31 #[.agg #[.string t.p, .int .i64 t.ar]] W fun e w' => e = .returned (.string ⟨(declTx t ++ [10]).toArray⟩) ∧ Below W.heap.size W w') := fun t ht W hb  => pdecl_any t W (hI t ht) (Nat.le_trans (sum_mem szDe ht) hs) (hT.on hb)
  obtain ⟨F, hF⟩ : ∃ F : De → ByteArray, F = fun t => ⟨(declTx t ++ [10]).toArray⟩ := ⟨_, rfl⟩
  rw [← hF]
  have HC2 : Hid (∀ t ∈ L, ∀ W, Below w.heap.size w W → Calls Tryz.prog 31 #[.agg #[.string t.p, .int .i64 t.ar]] W fun e w' => e = .returned (.string (F t)) ∧ Below W.heap.size W w') := by
    subst hF; exact HC
  clear hx hI hs hT hl hcap hm HC hF
  go_enter Tryz.func30, Tryz.ntmps30
  go_wp2_with (at_make; refine wpList_make_own _ rfl _ _ 60 rfl w.heap.size 9 i0 _ 1 Tryz.underlying60 hi hz0 hz1 .i64 .i64 _ L.length rfl rfl (by omega) (by rw [hz2]; omega) (by unfold maxLen; omega) (Nat.le_refl _) ?_; intro w1 hown1 hg1; have HR1 : Hid (StsO w1 w.heap.size (.slice (some ⟨w.heap.size, 0, none⟩) 0 L.length) []) := ⟨[], trivial, fun _ h => by simp at h, hown1⟩; have HB1 : Hid (Below w.heap.size w w1) := (Below.refl _ _).grown hg1 (Nat.le_refl _) (fun k hk => by cases hk); have HG1 : Hid (w.heap.size < w1.heap.size) := (World.ownsRow.lt hown1 w.heap.size rfl).2; clear hown1 hg1)
  go_loopw [5, 13] (fun v i wr => ∃ (k g c : Nat), k ≤ L.length ∧ i = .int .i64 k ∧ v = .slice (some ⟨g, 0, none⟩) k c ∧ Hid (g < wr.heap.size) ∧ Hid (StsO wr w.heap.size (.slice (some ⟨g, 0, none⟩) k c) ((L.take k).map F)) ∧ Hid (Below w.heap.size w wr)) (fun _ i _ => L.length - (intOf i).toNat)
  case atStart => exact ⟨0, w.heap.size, L.length, Nat.zero_le _, rfl, rfl, HG1, HR1, HB1⟩
  case round =>
    clear HR1 HB1 HG1
    obtain ⟨k, g, c, hk, rfl, rfl, HG, HR, HB⟩ := hrel
    by_cases hlt : k < L.length
    · have hltI : (k : Int) < (L.length : Int) := by omega
      have HLK : Hid (((L.take k).map F).length = k) := by show _ = _; rw [List.length_map, List.length_take]; omega
      have HTK : Hid ((L.take (k + 1)).map F = (L.take k).map F ++ [F L[k]]) := by show _ = _; rw [List.take_succ_eq_append_getElem hlt, List.map_append]; rfl
      obtain ⟨b, off, cs, rfl, hbl, hR, hc⟩ := (HX.out.below stayDe HB.out).at k hlt
      obtain rfl : cs = _ := hR
      have HCK := Lib.hid (fun W (hb : Below wr.heap.size wr W) => HC2.out _ (List.getElem_mem hlt) W (HB.out.trans (hb.mono HB.out.size)))
      have q0 := hc 0 _ rfl
      have q1 := hc 1 _ rfl
      simp only [Nat.add_zero] at q0
      obtain ⟨Fk, hFk⟩ : ∃ q, q = F L[k] := ⟨_, rfl⟩
      rw [← hFk] at HCK HTK
      clear hFk hc
      obtain ⟨A, hA⟩ : ∃ A, A = (L.take k).map F := ⟨_, rfl⟩
      rw [← hA] at HR HLK HTK
      clear hA
      obtain ⟨cs, hAll, hcl, hrow⟩ := HR.out
      have HALL := Lib.hid hAll
      have HCL := Lib.hid hcl
      have HROW := Lib.hid hrow
      rw [HLK.out] at HROW
      obtain ⟨t, ht⟩ : ∃ t, t = L[k] := ⟨_, rfl⟩
      
      rw [← ht] at HCK q0 q1
      clear ht hAll hcl hrow HR
      obtain ⟨tp, tar⟩ := t
      simp only at HCK q0 q1
      go_wp2_with (first
        | (go_at_call 31; refine (HCK.out _ (al_below wr _)).mono ?_; rintro e w2 ⟨rfl, hb2⟩; have HB2 : Hid (Below wr.heap.size wr w2) := (al_below wr _).trans (hb2.mono (by simp)); have HROW2 : Hid (w2.ownsRow w.heap.size 9 1 (.slice (some ⟨g, 0, none⟩) k c) k cs.flatten) := owns_keep HROW.out (Nat.le_refl _) (fun j _ hj => HB2.out.block j hj); have hsz2 : w.heap.size ≤ w2.heap.size := Nat.le_trans HB.out.size HB2.out.size; clear hb2)
        | (at_builtin; refine wpList_append_own _ rfl _ _ 60 rfl w.heap.size 9 i0 _ 1 16 Tryz.underlying60 hi hz0 hz1 hz2 rfl (by decide) _ k cs.flatten rfl (World.ownsRow.alloc HROW2.out _) ⟨w2.heap.size, 0, none⟩ 1 1 [.string Fk] rfl rfl (cell_one _ _ _) (by simp [Value.oneCell']) (by unfold maxLen; omega) (by omega) (by simp; omega) ?_; intro v' w4 hown4 hg4 hnil4; obtain ⟨ho4, hb4, -⟩ := own_step (keepNSt _) hsz2 (show AllR (StR w2 w.heap.size) A cs from HALL.out) HCL.out (by rw [HLK.out]; exact HROW2.out) (a := Fk) (show StR _ _ _ _ from rfl) rfl (Below.refl _ w2) (by rw [HLK.out]; exact hown4) hg4; have HO4 := Lib.hid ho4; have HB4 : Hid (Below w.heap.size w w4) := (HB.out.trans (HB2.out.mono HB.out.size)).trans hb4; clear hown4 hg4 hnil4 ho4 hb4))
      obtain ⟨k1, hk1⟩ : ∃ q : Nat, q = k + 1 := ⟨_, rfl⟩
      have hl1 : (A ++ [Fk]).length = k1 := by simp [HLK.out, hk1]
      obtain ⟨g3, c3, e3, hg3⟩ : ∃ g3 c3, v' = .slice (some ⟨g3, 0, none⟩) k1 c3 ∧ g3 < w4.heap.size := by
        obtain ⟨ao, cap, e, -, h2⟩ := HO4.out.cells
        obtain ⟨g3, _, e2, -, h3, -⟩ := h2 k (by rw [hl1]; omega)
        exact ⟨g3, cap, by rw [e, e2, hl1], h3⟩
      subst e3
      rw [← HTK.out] at HO4
      have HG3 := Lib.hid hg3
      have hk1I : (k : Int) + 1 = (k1 : Int) := by omega
      have HK1 := Lib.hid hk1
      clear hl1 hg3 hk1
      go_wp2
      go_roundw
      case rel => exact ⟨k1, g3, c3, by have := HK1.out; omega, by first | rfl | go_num, rfl, HG3, by rw [HK1.out] at HO4 ⊢; exact HO4, HB4⟩
      case measure => simp [intOf]; have := HK1.out; omega
    · have hltI : ¬ (k : Int) < (L.length : Int) := by omega
      obtain rfl : k = L.length := by omega
      have HE : Hid (Sts wr (.slice (some ⟨g, 0, none⟩) L.length c) (L.map F)) := by
        have := StsO.sts HR.out HG.out
        rw [List.take_of_length_le (Nat.le_refl _)] at this
        exact this
      have HOE : Hid (StsO wr w.heap.size (.slice (some ⟨g, 0, none⟩) L.length c) (L.map F)) := by
        have := HR.out
        rw [List.take_of_length_le (Nat.le_refl _)] at this
        exact this
      go_wp2
      go_ret
      exact ⟨_, rfl, HB.out, HE.out, HOE.out⟩
end Go.Proofs.YtbbmihojfcofdaaGreatDoor

namespace Go.Proofs.YtbbmihojfcofdaaGreatDoor
set_option linter.unusedSimpArgs false
set_option linter.unusedVariables false
set_option linter.unusedSectionVars false
set_option maxRecDepth 100000
open Go.RowKit Go.Maps

theorem st_flat : ∀ {L : List ByteArray} {cs : List (List Value)}, AllR (StR default 0) L cs → cs.flatten = L.map .string
  | [], [], _ => rfl
  | a :: L, c :: cs, ⟨h1, h2⟩ => by
    have : c = [.string a] := h1
    rw [this, List.flatten_cons, st_flat h2]; rfl
  | [], _ :: _, k => k.elim
  | _ :: _, [], k => k.elim
theorem StsO.row {w : World} {B : Nat} {x : Value} {L : List ByteArray} (h : StsO w B x L) : w.ownsRow B 9 1 x L.length (L.map .string) := by
  obtain ⟨cs, h1, -, h3⟩ := h
  rw [← st_flat (cs := cs) (h1.imp (fun a c h => h))]
  exact h3
theorem st_all (w : World) (B : Nat) (L : List ByteArray) : AllR (StR w B) L (L.map fun s => [.string s]) := by
  induction L with
  | nil => trivial
  | cons a L ih => exact ⟨rfl, ih⟩
theorem st_flat2 (L : List ByteArray) : (L.map fun s => [Value.string s]).flatten = L.map .string := by
  induction L with
  | nil => rfl
  | cons a L ih => rw [List.map_cons, List.flatten_cons, ih]; rfl
theorem StsO.of {w : World} {B : Nat} {x : Value} {L : List ByteArray} (h : w.ownsRow B 9 1 x L.length (L.map .string)) : StsO w B x L :=
  ⟨L.map fun s => [.string s], st_all w B L, fun c hc => by obtain ⟨s, -, rfl⟩ := List.mem_map.1 hc; rfl, by rw [st_flat2]; exact h⟩
/-- append of a list of texts, as one step of a region that draws. -/
theorem step_append_sts {ops : Array Oper} {o : Oper} {a : Act} {w : World} {K : Act → World → Prop} {Q : Exit → Act → World → Prop} {EE : Prop}
    (hg : o.guard = none) (s x : Operand) (hop : o.op = Op.call { callee := Callee.builtin Builtin.append, args := #[s, x], argTypes := #[60, 60] })
    (B : Nat) (v : Value) (E : List ByteArray) (hs : a.eval s = v) (hown : StsO w B v E) (hv : Sts w v E) (xv : Value) (M : List ByteArray) (hx : a.eval x = xv) (hV : Sts w xv M)
    (hbytes : E.length + M.length ≤ 2000000000000) (hB : B ≤ w.heap.size)
    (hK : ∀ v' w', Sts w' v' (E ++ M) → Below B w w' → K (a.put o.dst v') w') :
    if Region.wanted o (yielded ops a.tmps) = true then Oper.wp Tryz.prog o a w K Q else EE := by
  have hw : Region.wanted o (yielded ops a.tmps) = true := by simp [Region.wanted, hg]
  rw [if_pos hw]
  obtain ⟨i0, hi, hz0, hz1, hz2⟩ := info_parts infoStr
  obtain ⟨g, off, c, rfl, h1, h2, h3⟩ := hV
  have hrow := StsO.row hown
  obtain ⟨v', w', hr, r2, r3, r4, r5⟩ := run_append_own_at (P := Tryz.prog) w B 60 o.type 9 i0 _ 1 16 Tryz.underlying60 hi hz0 hz1 hz2 rfl (by decide) v E.length (E.map .string) hrow ⟨g, off, none⟩ M.length c (M.map .string) (by simp) (fun j u hj => by
      rw [List.getElem?_map] at hj
      cases hm : M[j]? with
      | none => rw [hm] at hj; cases hj
      | some s0 =>
        rw [hm] at hj
        have e : u = .string s0 := by simpa using hj.symm
        rw [add_noneK, e]
        exact h3 j s0 hm) (fun u hu => by obtain ⟨s0, -, rfl⟩ := List.mem_map.1 hu; rfl) (by unfold maxLen; omega) (by omega) hB
  unfold Oper.wp
  simp [execOp, hop, resolve, invoke, builtin, hs, hx, hr, Result.andThen]
  refine hK v' w' ?_ ((Below.refl _ _).grown r3 hB (fun k hk => (hrow.lt k hk).1))
  have r2' : w'.ownsRow B 9 1 v' (E ++ M).length ((E ++ M).map .string) := by rw [List.length_append, List.map_append]; exact r2
  have hnn : v' ≠ .slice none 0 0 := fun e => by
    obtain ⟨g0, o0, c0, e0, -⟩ := hv
    have := (r4.1 e).1
    rw [this] at e0
    cases e0
  rcases r2'.2 with ⟨e, -⟩ | ⟨g', cap, cur, e, -, hg', -⟩
  · exact absurd e hnn
  · subst e
    exact StsO.sts (StsO.of r2') (Array.getElem?_eq_some_iff.1 hg').1
/-- A box's two cells behind a call that leaves memory from B on, above it. -/
theorem box2_keepB {w W w' : World} {c0 c1 : Value} (h : W.cell? ⟨w.heap.size, 0, none⟩ = some c0 ∧ W.cell? ⟨w.heap.size, 1, none⟩ = some c1 ∧ w.heap.size < W.heap.size ∧ Below w.heap.size w W) (hb : Below (w.heap.size + 1) W w') :
    w'.cell? ⟨w.heap.size, 0, none⟩ = some c0 ∧ w'.cell? ⟨w.heap.size, 1, none⟩ = some c1 ∧ w.heap.size < w'.heap.size ∧ Below w.heap.size w w' := by
  obtain ⟨h0, h1, h2, h3⟩ := h
  have hs := hb.size
  exact ⟨(hb.cell (p := ⟨w.heap.size, 0, none⟩) (Nat.lt_succ_self _)).trans h0, (hb.cell (p := ⟨w.heap.size, 1, none⟩) (Nat.lt_succ_self _)).trans h1, by omega, h3.trans (hb.mono (Nat.le_succ _))⟩

set_option maxHeartbeats 8000000 in
theorem pprog_any (g : Pr) (x y : Value) (w : World) (hx : Des w x g.decls) (hy : Rus w y g.rules) (hI : InPr g) (hs : szPr g ≤ 1000000000000) (hT : Tab w) :
    Calls Tryz.prog 11 #[.agg #[x, y]] w fun e w' => e = .returned (.string ⟨(progTx g).toArray⟩) ∧ Below w.heap.size w w' := by
  have hle := progTx_le hI
  obtain ⟨xo, xc, rfl, -, -⟩ := hx.form
  obtain ⟨yo, yc, rfl, -, -⟩ := hy.form
  have hsd : szDes g.decls ≤ 1000000000000 := by unfold szPr at hs; omega
  have hsr : szRus g.rules ≤ 1000000000000 := by unfold szPr at hs; omega
  have hld : 3 * g.decls.length ≤ szDes g.decls := sum_len szDe 3 (fun t => by unfold szDe; omega) _
  have hlr : 2 * g.rules.length ≤ szRus g.rules := sum_len szRu 2 (fun t => by unfold szRu szAm; omega) _
  have HAL := Lib.hid (al_below w (.cells #[.slice xo g.decls.length xc, .slice yo g.rules.length yc] 25))
  obtain ⟨D, hD⟩ : ∃ D : List ByteArray, D = g.decls.map fun t => ⟨(declTx t ++ [10]).toArray⟩ := ⟨_, rfl⟩
  obtain ⟨R, hR⟩ : ∃ R : List ByteArray, R = g.rules.map fun t => ⟨(ruleTx t ++ [10]).toArray⟩ := ⟨_, rfl⟩
  have HD : Hid (∀ W, Below w.heap.size w W → Calls Tryz.prog 30 #[.slice xo g.decls.length xc, .func (.func 31) #[] #[]] W fun e w' => ∃ y, e = .returned y ∧ Below W.heap.size W w' ∧ Sts w' y D ∧ StsO w' W.heap.size y D) := fun W hb => by
    rw [hD]; exact eachD_any (hx.below stayDe hb) hI.1 hsd (hT.on hb)
  have HR : Hid (∀ W, Below w.heap.size w W → Calls Tryz.prog 32 #[.slice yo g.rules.length yc, .func (.func 33) #[] #[]] W fun e w' => ∃ y, e = .returned y ∧ Below W.heap.size W w' ∧ Sts w' y R ∧ StsO w' W.heap.size y R) := fun W hb => by
    rw [hR]; exact eachR_any (hy.below stayRu hb) hI.2 hsr (hT.on hb)
  have hDR : ((D ++ R).map (·.data.toList)).flatten = progTx g := by
    rw [hD, hR]; unfold progTx; simp [List.flatMap, List.map_map, Function.comp_def]
  have hlD : D.length + R.length ≤ 1000000000000 := by rw [hD, hR]; simp; omega
  have HP : Hid (∀ W y, Sts W y (D ++ R) → Calls Tryz.prog 29 #[y] W fun e w' => e = .returned (.string ⟨(progTx g).toArray⟩) ∧ Below W.heap.size W w') := fun W y hy => by
    have := pput_any hy (by simp; omega) (by rw [hDR]; omega)
    rw [hDR] at this
    exact this
  obtain ⟨Z, hZ⟩ : ∃ Z, Z = progTx g := ⟨_, rfl⟩
  rw [← hZ] at HP ⊢
  obtain ⟨GD, GR⟩ := g
  simp only at HD HR HAL
  clear hx hy hI hs hT hle hsd hsr hld hlr hDR hZ hD hR
  go_enter Tryz.func11, Tryz.ntmps11
  go_wp2_with fail
  go_region_held3 (fun w' => w'.cell? ⟨w.heap.size, 0, none⟩ = some (.slice xo GD.length xc) ∧ w'.cell? ⟨w.heap.size, 1, none⟩ = some (.slice yo GR.length yc) ∧ w.heap.size < w'.heap.size ∧ Below w.heap.size w w')
    (first | assumption | exact box2_keep (by assumption) hbN | exact box2_keepB (by assumption) hbM | exact ⟨by simp, by simp, by simp, HAL.out.drew⟩)
    (first
      | (go_at_call 30; refine (HD.out _ (by go_split_ands; assumption)).mono ?_; rintro e w' ⟨y5, rfl, hbN, hst, hso⟩; have HS5 := Lib.hid hst; have HO5 := Lib.hid (OwnL.mono keepSt hso (Nat.succ_le_of_lt (by go_split_ands; assumption))); clear hst hso; try have HS8 := Lib.hid (Sts.below HS8.out hbN))
      | (go_at_call 32; refine (HR.out _ (by go_split_ands; assumption)).mono ?_; rintro e w' ⟨y8, rfl, hbN, hst, -⟩; have HS8 := Lib.hid hst; clear hst; try (have HS5 := Lib.hid (Sts.below HS5.out hbN); have HO5 := Lib.hid (OwnL.below keepSt HO5.out hbN)))
      | (refine step_append_sts rfl (.tmp 5) (.tmp 8) rfl (w.heap.size + 1) _ _ rfl HO5.out HS5.out _ _ rfl HS8.out (by omega) (Nat.succ_le_of_lt (by go_split_ands; assumption)) ?_; intro v9 w9 hS9 hbM; have HS9 := Lib.hid hS9; clear hS9)
      | (go_at_call 29; refine (HP.out _ _ HS9.out).mono ?_; rintro e w' ⟨rfl, hbN⟩))
  all_goals
    go_wp2
    go_ret
    go_split_ands
    exact ⟨rfl, by assumption⟩
end Go.Proofs.YtbbmihojfcofdaaGreatDoor
