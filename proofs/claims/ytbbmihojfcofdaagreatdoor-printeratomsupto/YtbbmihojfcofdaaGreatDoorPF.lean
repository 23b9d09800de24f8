/-
  Contract of printer.each[lambrequin/api.Value].
  Contract of printer.Fact.
  The document's Term, Atom, Literal (lambrequinref07): as the program's.
  The document's Literal (lambrequinref07): as the program's.
  The document's Rule (lambrequinref07): as the program's.
  The document's Program (lambrequinref07): as the program's.
  The document's Fact (lambrequinref07): as the program's.
-/
import Derived.Test.YtbbmihojfcofdaaGreatDoorPB
import Derived.Test.YtbbmihojfcofdaaGreatDoorPOpen
import Derived.Test.YtbbmihojfcofdaaGreatDoorKText
import Derived.Deep.Matrix
import Derived.Test.YtbbmihojfcofdaaGreatDoorKRefX
import Derived.Test.YtbbmihojfcofdaaGreatDoorPD
import Derived.Test.YtbbmihojfcofdaaGreatDoorGClause
namespace Go.Proofs.YtbbmihojfcofdaaGreatDoor
set_option linter.unusedSimpArgs false
set_option linter.unusedVariables false
set_option linter.unusedSectionVars false
set_option maxRecDepth 100000
open Go.RowKit

set_option maxHeartbeats 4000000 in
theorem eachV_any {w : World} {x : Value} {L : List Tm} (hx : Vls w x L) (hI : ∀ t ∈ L, InTm t) (hs : (L.map (fun t => t.s.size + 4)).sum ≤ 1000000000000) (hT : Tab w) :
    Calls Tryz.prog 48 #[x, .func (.func 42) #[] #[]] w fun e w' => ∃ y, e = .returned y ∧ Below w.heap.size w w' ∧ Sts w' y (L.map fun t => ⟨(textL t.k t.s.data.toList t.n).toArray⟩) := by
  obtain ⟨ao, cap, rfl, hcap, hm⟩ := hx.form
  obtain ⟨i0, hi, hz0, hz1, hz2⟩ := info_parts infoStr
  have hl : 4 * L.length ≤ (L.map (fun t => t.s.size + 4)).sum := sum_len (fun t : Tm => t.s.size + 4) 4 (fun t => by first | omega | (unfold szTm; omega)) L
  have hl12 : L.length ≤ 1000000000000 := by omega
  have hl12I : (L.length : Int) ≤ 1000000000000 := by omega
  have HX := Lib.hid hx
  have HC : Hid (∀ t ∈ L, ∀ W, Below w.heap.size w W → Calls Tryz.prog 42 #[.agg #[.bool t.k, .string t.s, .int .i64 t.n]] W fun e w' => e = .returned (.string ⟨(textL t.k t.s.data.toList t.n).toArray⟩) ∧ Below W.heap.size W w') := fun t ht W hb  => text_any t.k t.s t.n (hI t ht).1 (hI t ht).2 W (by have := Nat.le_trans (sum_mem (fun t : Tm => t.s.size + 4) ht) hs; omega) (hT.on hb)
  obtain ⟨F, hF⟩ : ∃ F : Tm → ByteArray, F = fun t => ⟨(textL t.k t.s.data.toList t.n).toArray⟩ := ⟨_, rfl⟩
  rw [← hF]
  have HC2 : Hid (∀ t ∈ L, ∀ W, Below w.heap.size w W → Calls Tryz.prog 42 #[.agg #[.bool t.k, .string t.s, .int .i64 t.n]] W fun e w' => e = .returned (.string (F t)) ∧ Below W.heap.size W w') := by
    subst hF; exact HC
  clear hx hI hs hT hl hcap hm HC hF
  go_enter Tryz.func48, Tryz.ntmps48
  go_wp2_with (at_make; refine wpList_make_own _ rfl _ _ 60 rfl w.heap.size 9 i0 _ 1 Tryz.underlying60 hi hz0 hz1 .i64 .i64 _ L.length rfl rfl (by omega) (by rw [hz2]; omega) (by unfold maxLen; omega) (Nat.le_refl _) ?_; intro w1 hown1 hg1; have HR1 : Hid (StsO w1 w.heap.size (.slice (some ⟨w.heap.size, 0, none⟩) 0 L.length) []) := ⟨[], trivial, fun _ h => by simp at h, hown1⟩; have HB1 : Hid (Below w.heap.size w w1) := (Below.refl _ _).grown hg1 (Nat.le_refl _) (fun k hk => by cases hk); have HG1 : Hid (w.heap.size < w1.heap.size) := (World.ownsRow.lt hown1 w.heap.size rfl).2; clear hown1 hg1)
  go_loopw [5, 13] (fun v i wr => ∃ (k g c : Nat), k ≤ L.length ∧ i = .int .i64 k ∧ v = .slice (some ⟨g, 0, none⟩) k c ∧ Hid (g < wr.heap.size) ∧ Hid (StsO wr w.heap.size (.slice (some ⟨g, 0, none⟩) k c) ((L.take k).map F)) ∧ Hid (Below w.heap.size w wr)) (fun _ i _ => L.length - (intOf i).toNat)
  case atStart => exact ⟨0, w.heap.size, L.length, Nat.zero_le _, rfl, rfl, HG1, HR1, HB1⟩
  case round =>
    clear HR1 HB1 HG1
    obtain ⟨k, g, c, hk, rfl, rfl, HG, HR, HB⟩ := hrel
    by_cases hlt : k < L.length
    · have hltI : (k : Int) < (L.length : Int) := by omega
      have HLK : Hid (((L.take k).map F).length = k) := by show _ = _; rw [List.length_map, List.length_take]; omega
      have HTK : Hid ((L.take (k + 1)).map F = (L.take k).map F ++ [F L[k]]) := by show _ = _; rw [List.take_succ_eq_append_getElem hlt, List.map_append]; rfl
      obtain ⟨b, off, cs, rfl, hbl, hR, hc⟩ := (HX.out.below stayVal HB.out).at k hlt
      obtain rfl : cs = _ := hR
      have HCK := Lib.hid (fun W (hb : Below wr.heap.size wr W) => HC2.out _ (List.getElem_mem hlt) W (HB.out.trans (hb.mono HB.out.size)))
      have q0 := hc 0 _ rfl
      have q1 := hc 1 _ rfl
      have q2 := hc 2 _ rfl
      simp only [Nat.add_zero] at q0
      obtain ⟨Fk, hFk⟩ : ∃ q, q = F L[k] := ⟨_, rfl⟩
      rw [← hFk] at HCK HTK
      clear hFk hc
      obtain ⟨A, hA⟩ : ∃ A, A = (L.take k).map F := ⟨_, rfl⟩
      rw [← hA] at HR HLK HTK
      clear hA
      obtain ⟨cs, hAll, hcl, hrow⟩ := HR.out
      have HALL := Lib.hid hAll
      have HCL := Lib.hid hcl
      have HROW := Lib.hid hrow
      rw [HLK.out] at HROW
      obtain ⟨t, ht⟩ : ∃ t, t = L[k] := ⟨_, rfl⟩
      
      rw [← ht] at HCK q0 q1 q2
      clear ht hAll hcl hrow HR
      obtain ⟨tv, tname, tk, ts, tn⟩ := t
      simp only at HCK q0 q1 q2
      go_wp2_with (first
        | (go_at_call 42; refine (HCK.out _ (al_below wr _)).mono ?_; rintro e w2 ⟨rfl, hb2⟩; have HB2 : Hid (Below wr.heap.size wr w2) := (al_below wr _).trans (hb2.mono (by simp)); have HROW2 : Hid (w2.ownsRow w.heap.size 9 1 (.slice (some ⟨g, 0, none⟩) k c) k cs.flatten) := owns_keep HROW.out (Nat.le_refl _) (fun j _ hj => HB2.out.block j hj); have hsz2 : w.heap.size ≤ w2.heap.size := Nat.le_trans HB.out.size HB2.out.size; clear hb2)
        | (at_builtin; refine wpList_append_own _ rfl _ _ 60 rfl w.heap.size 9 i0 _ 1 16 Tryz.underlying60 hi hz0 hz1 hz2 rfl (by decide) _ k cs.flatten rfl (World.ownsRow.alloc HROW2.out _) ⟨w2.heap.size, 0, none⟩ 1 1 [.string Fk] rfl rfl (cell_one _ _ _) (by simp [Value.oneCell']) (by unfold maxLen; omega) (by omega) (by simp; omega) ?_; intro v' w4 hown4 hg4 hnil4; obtain ⟨ho4, hb4, -⟩ := own_step (keepNSt _) hsz2 (show AllR (StR w2 w.heap.size) A cs from HALL.out) HCL.out (by rw [HLK.out]; exact HROW2.out) (a := Fk) (show StR _ _ _ _ from rfl) rfl (Below.refl _ w2) (by rw [HLK.out]; exact hown4) hg4; have HO4 := Lib.hid ho4; have HB4 : Hid (Below w.heap.size w w4) := (HB.out.trans (HB2.out.mono HB.out.size)).trans hb4; clear hown4 hg4 hnil4 ho4 hb4))
      obtain ⟨k1, hk1⟩ : ∃ q : Nat, q = k + 1 := ⟨_, rfl⟩
      have hl1 : (A ++ [Fk]).length = k1 := by simp [HLK.out, hk1]
      obtain ⟨g3, c3, e3, hg3⟩ : ∃ g3 c3, v' = .slice (some ⟨g3, 0, none⟩) k1 c3 ∧ g3 < w4.heap.size := by
        obtain ⟨ao, cap, e, -, h2⟩ := HO4.out.cells
        obtain ⟨g3, _, e2, -, h3, -⟩ := h2 k (by rw [hl1]; omega)
        exact ⟨g3, cap, by rw [e, e2, hl1], h3⟩
      subst e3
      rw [← HTK.out] at HO4
      have HG3 := Lib.hid hg3
      have hk1I : (k : Int) + 1 = (k1 : Int) := by omega
      have HK1 := Lib.hid hk1
      clear hl1 hg3 hk1
      go_wp2
      go_roundw
      case rel => exact ⟨k1, g3, c3, by have := HK1.out; omega, by first | rfl | go_num, rfl, HG3, by rw [HK1.out] at HO4 ⊢; exact HO4, HB4⟩
      case measure => simp [intOf]; have := HK1.out; omega
    · have hltI : ¬ (k : Int) < (L.length : Int) := by omega
      obtain rfl : k = L.length := by omega
      have HE : Hid (Sts wr (.slice (some ⟨g, 0, none⟩) L.length c) (L.map F)) := by
        have := StsO.sts HR.out HG.out
        rw [List.take_of_length_le (Nat.le_refl _)] at this
        exact this
      go_wp2
      go_ret
      exact ⟨_, rfl, HB.out, HE.out⟩
end Go.Proofs.YtbbmihojfcofdaaGreatDoor

namespace Go.Proofs.YtbbmihojfcofdaaGreatDoor
set_option linter.unusedSimpArgs false
set_option linter.unusedVariables false
set_option linter.unusedSectionVars false
set_option maxRecDepth 100000
open Go.RowKit

theorem val_text {L : List Tm} (h : ∀ t ∈ L, InTm t ∧ IsVal t) : (L.map fun t => (⟨(textL t.k t.s.data.toList t.n).toArray⟩ : ByteArray)) = L.map fun t => ⟨(termTx t).toArray⟩ := by
  apply List.map_congr_left
  intro t ht
  unfold termTx
  rw [(h t ht).2.1]
  rfl
theorem val_sum (L : List Tm) (h : ∀ t ∈ L, InTm t ∧ IsVal t) : szTms L ≤ 2 * (L.map (fun t : Tm => t.s.size + 4)).sum := by
  unfold szTms
  induction L with
  | nil => simp
  | cons a L ih =>
    have h1 := ih (fun t ht => h t (by simp [ht]))
    have h2 := (h a (by simp)).2.2
    simp only [List.map_cons, List.sum_cons]
    have : szTm a = a.s.size + 6 := by
      have e0 : (⟨#[]⟩ : ByteArray).size = 0 := rfl
      unfold szTm; rw [h2, e0, Nat.zero_add]
    omega

set_option maxHeartbeats 4000000 in
theorem pfact_any (a : Am) (x : Value) (w : World) (hx : Vls w x a.args) (hI : ∀ t ∈ a.args, InTm t ∧ IsVal t) (hs : a.p.size + (a.args.map (fun t => t.s.size + 4)).sum ≤ 100000000000) (hT : Tab w) :
    Calls Tryz.prog 23 #[.agg #[.string a.p, x]] w fun e w' => e = .returned (.string ⟨(atomTx a).toArray⟩) ∧ Below w.heap.size w w' := by
  have hal := al_below w (.cells #[.string a.p, x] 43)
  have hle := atomTx_le (a := a) (fun t ht => (hI t ht).1)
  have hst := val_sum a.args hI
  have hsz : szAm a ≤ 1000000000000 := by unfold szAm; omega
  have hl4 : 4 * a.args.length ≤ (a.args.map (fun t : Tm => t.s.size + 4)).sum := sum_len (fun t : Tm => t.s.size + 4) 4 (fun t => by omega) _
  have HE : Hid (∀ W, Below w.heap.size w W → Calls Tryz.prog 48 #[x, .func (.func 42) #[] #[]] W fun e w' => ∃ y, e = .returned y ∧ Below W.heap.size W w' ∧ Sts w' y (a.args.map fun t => ⟨(termTx t).toArray⟩)) := fun W hb => by
    have := eachV_any (hx.below stayVal hb) (fun t ht => (hI t ht).1) (by omega) (hT.on hb)
    rw [val_text hI] at this
    exact this
  have HA : Hid (∀ W y, Sts W y (a.args.map fun t => ⟨(termTx t).toArray⟩) → Calls Tryz.prog 44 #[.string a.p, y] W fun e w' => e = .returned (.string ⟨(atomTx a).toArray⟩) ∧ Below W.heap.size W w') := fun W y hy => by
    have := applied_any a.p hy (by simp; omega) (by rw [app_atom]; omega)
    rw [app_atom] at this
    exact this
  obtain ⟨ao, cap, rfl, hcap, hm⟩ := hx.form
  have HAL := Lib.hid hal
  obtain ⟨Z, hZ⟩ : ∃ Z, Z = atomTx a := ⟨_, rfl⟩
  obtain ⟨M, hM⟩ : ∃ M : List ByteArray, M = a.args.map fun t => ⟨(termTx t).toArray⟩ := ⟨_, rfl⟩
  rw [← hZ] at HA ⊢
  rw [← hM] at HA HE
  obtain ⟨p, A⟩ := a
  simp only at HA HE HAL
  clear hx hI hs hT hle hst hsz hl4 hZ hM hal hcap hm
  go_enter Tryz.func23, Tryz.ntmps23
  go_wp2_with fail
  go_region_held3 (fun w' => w'.cell? ⟨w.heap.size, 0, none⟩ = some (.string p) ∧ w'.cell? ⟨w.heap.size, 1, none⟩ = some (.slice ao A.length cap) ∧ w.heap.size < w'.heap.size ∧ Below w.heap.size w w')
    (first | assumption | exact box2_keep (by assumption) hbN | exact ⟨by simp, by simp, by simp, HAL.out.drew⟩)
    (first
      | (go_at_call 48; refine (HE.out _ (by go_split_ands; assumption)).mono ?_; rintro e w' ⟨y, rfl, hbN, hst⟩; have HST := Lib.hid hst; clear hst)
      | (go_at_call 44; refine (HA.out _ _ HST.out).mono ?_; rintro e w' ⟨rfl, hbN⟩))
  go_wp2
  go_ret
  go_split_ands
  exact ⟨rfl, by assumption⟩
end Go.Proofs.YtbbmihojfcofdaaGreatDoor

namespace Go.Proofs.YtbbmihojfcofdaaGreatDoor
set_option linter.unusedSimpArgs false
set_option linter.unusedVariables false
set_option linter.unusedSectionVars false
set_option maxRecDepth 100000
open Go.RowKit

theorem sepTx_snoc {α : Type} (f : α → List UInt8) (a : α) : ∀ L : List α, L ≠ [] → sepTx f (L ++ [a]) = sepTx f L ++ ([44, 32] ++ f a)
  | [], h => absurd rfl h
  | [b], _ => by simp [sepTx]
  | b :: c :: r, _ => by
    have h := sepTx_snoc f a (c :: r) (by simp)
    rw [List.cons_append, List.cons_append] at *
    unfold sepTx
    rw [h]
    simp
theorem sepTx_take {α : Type} (f : α → List UInt8) : ∀ (L : List α) (k : Nat), (sepTx f (L.take k)).length ≤ (sepTx f L).length
  | [], k => by simp
  | [a], k => by cases k <;> simp [sepTx]
  | a :: b :: r, k => by
    match k with
    | 0 => simp [sepTx]
    | 1 => simp [sepTx]
    | k + 2 =>
      have h := sepTx_take f (b :: r) (k + 1)
      rw [List.take_succ_cons] at h ⊢
      rw [List.take_succ_cons]
      unfold sepTx
      simp only [List.length_append] at h ⊢
      omega
/-- The text behind the first k. -/
def preTx {α : Type} (h op : List UInt8) (f : α → List UInt8) (L : List α) (k : Nat) : List UInt8 := if k = 0 then h else h ++ (op ++ sepTx f (L.take k))
theorem pre_one {α : Type} {h op : List UInt8} {f : α → List UInt8} {L : List α} (hk : 0 < L.length) : preTx h op f L 1 = h ++ op ++ f L[0] := by
  unfold preTx
  rw [if_neg (by decide)]
  match L, hk with
  | a :: r, _ => simp [sepTx]
theorem pre_succ {α : Type} {h op : List UInt8} {f : α → List UInt8} {L : List α} {k : Nat} (h0 : k ≠ 0) (hk : k < L.length) : preTx h op f L (k + 1) = preTx h op f L k ++ [44, 32] ++ f L[k] := by
  unfold preTx
  rw [if_neg h0, if_neg (by omega), List.take_succ_eq_append_getElem hk, sepTx_snoc f _ _ (by
    intro e
    have h1 := congrArg List.length e
    rw [List.length_take, List.length_nil, Nat.min_eq_left (Nat.le_of_lt hk)] at h1
    exact h0 h1)]
  simp
theorem pre_le {α : Type} (h op : List UInt8) (f : α → List UInt8) (L : List α) (k : Nat) : (preTx h op f L k).length ≤ h.length + op.length + (sepTx f L).length := by
  unfold preTx
  have := sepTx_take f L k
  split
  · omega
  · simp only [List.length_append]; omega
theorem ba_eq {a : ByteArray} {l : List UInt8} (h : a.data.toList = l) : a = ⟨l.toArray⟩ := by rw [← h]
theorem size_of {a : ByteArray} {l : List UInt8} (h : a.data.toList = l) : a.size = l.length := by rw [← h]; simp

set_option maxHeartbeats 1000000 in
theorem rterm_any (t : Tm) (w : World) (hI : InTm t) (hs : szTm t ≤ 1000000000000) :
    Calls Tryz.prog 18 #[.agg #[.bool t.v, .string t.name, .bool t.k, .string t.s, .int .i64 t.n]] w fun e w' => e = .returned (.string ⟨(termTx t).toArray⟩) ∧ Below w.heap.size w w' := by
  obtain ⟨v, name, k, s, n⟩ := t
  have hb := al_below w (.cells #[.bool v, .string name, .bool k, .string s, .int .i64 n] 35)
  unfold szTm at hs
  unfold InTm at hI
  simp only at hs hI
  have HT := Lib.hid (refText_any k s n hI.1 hI.2 (w.alloc (.cells #[.bool v, .string name, .bool k, .string s, .int .i64 n] 35)) (by omega))
  have HB := Lib.hid hb
  clear hI hs hb
  cases v
  · go_enter Tryz.func18, Tryz.ntmps18
    go_wp2_with (go_at_call 43; refine (HT.out).mono ?_; rintro e w1 ⟨rfl, hb1⟩)
    go_ret
    exact ⟨rfl, HB.out.trans (hb1.mono HB.out.size)⟩
  · clear HT
    go_enter Tryz.func18, Tryz.ntmps18
    go_wp2
    go_ret
    exact ⟨by simp [termTx], HB.out⟩

theorem atom_end (a : Am) : atomTx a = if a.args.length = 0 then preTx a.p.data.toList [40] termTx a.args a.args.length else preTx a.p.data.toList [40] termTx a.args a.args.length ++ [41] := by
  unfold atomTx argsTx preTx
  by_cases h : a.args = []
  · simp [h]
  · have h0 : a.args.length ≠ 0 := fun e => h (List.length_eq_zero_iff.1 e)
    rw [if_neg h, if_neg h0, if_neg h0, List.take_of_length_le (Nat.le_refl _)]
    simp

set_option maxHeartbeats 8000000 in
theorem ratom_any (a : Am) (x : Value) (w : World) (hx : Tms w x a.args) (hI : InAm a) (hs : szAm a ≤ 1000000000000) :
    Calls Tryz.prog 20 #[.agg #[.string a.p, x]] w fun e w' => e = .returned (.string ⟨(atomTx a).toArray⟩) ∧ Below w.heap.size w w' := by
  have hle : ∀ k, (preTx a.p.data.toList [40] termTx a.args k).length + 10 ≤ 100000000000000 := fun k => by
    have h1 := pre_le a.p.data.toList [40] termTx a.args k
    have h2 : (sepTx termTx a.args).length ≤ 4 * szTms a.args := by
      have := sepTx_le (g := fun t => 4 * szTm t) (fun t ht => termTx_le (hI t ht))
      rw [sum_mul] at this
      exact this
    have h3 : a.p.data.toList.length = a.p.size := by simp
    unfold szAm at hs
    simp only [List.length_singleton] at h1
    omega
  obtain ⟨ao, cap, rfl, hcap, hm⟩ := hx.form
  have hend := atom_end a
  obtain ⟨Z, hZ⟩ : ∃ Z, Z = atomTx a := ⟨_, rfl⟩
  rw [← hZ] at hend ⊢
  have HTC : Hid (∀ t ∈ a.args, ∀ W, Calls Tryz.prog 18 #[.agg #[.bool t.v, .string t.name, .bool t.k, .string t.s, .int .i64 t.n]] W fun e w' => e = .returned (.string ⟨(termTx t).toArray⟩) ∧ Below W.heap.size W w') := fun t ht W => rterm_any t W (hI t ht) (by have := sum_mem szTm ht; unfold szAm szTms at hs; omega)
  obtain ⟨p, A⟩ := a
  simp only at hle hend HTC hcap hm hx
  obtain ⟨nA, hnA⟩ : ∃ nA, nA = A.length := ⟨_, rfl⟩
  have hb0 := al_below w (.cells #[.string p, .slice ao nA cap] 31)
  have HB0 := Lib.hid hb0
  have HX := Lib.hid (hx.below stayTm hb0)
  have HK : Hid (∀ W, Below (w.alloc (.cells #[.string p, .slice ao nA cap] 31)).heap.size (w.alloc (.cells #[.string p, .slice ao nA cap] 31)) W → W.cell? ⟨w.heap.size, 0, none⟩ = some (.string p) ∧ W.cell? ⟨w.heap.size, 1, none⟩ = some (.slice ao nA cap)) := fun W hb => by
    have := (Blk.new w #[.string p, .slice ao nA cap] 31).below hb
    exact ⟨this.cell 0, this.cell 1⟩
  have HLE := Lib.hid hle
  have HEND := Lib.hid hend
  have HNA := Lib.hid hnA
  simp only [← hnA]
  have hl6 : 6 * A.length ≤ szTms A := sum_len szTm 6 (fun t => by unfold szTm; omega) _
  have hmI : (nA : Int) ≤ 140737488355328 := by unfold szAm at hs; simp only at hs; omega
  clear hx hI hs hle hend hZ hcap hm hb0 hnA hl6
  go_enter Tryz.func20, Tryz.ntmps20
  go_wp2_with fail
  go_loopw [3, 4] (fun ov i wr => ∃ (k : Nat) (o : ByteArray), k ≤ nA ∧ i = .int .i64 k ∧ ov = .string o ∧ Hid (o.data.toList = preTx p.data.toList [40] termTx A k) ∧ Hid (Below (w.alloc (.cells #[.string p, .slice ao nA cap] 31)).heap.size (w.alloc (.cells #[.string p, .slice ao nA cap] 31)) wr)) (fun _ i _ => nA - (intOf i).toNat)
  case atStart => exact ⟨0, p, Nat.zero_le _, rfl, rfl, rfl, Below.refl _ _⟩
  case round =>
    obtain ⟨k, o, hk, rfl, rfl, HA, HB⟩ := hrel
    obtain ⟨q0, q1⟩ := HK.out wr HB.out
    by_cases hlt : k < nA
    · have hltI : (k : Int) < (nA : Int) := by omega
      have hltA : k < A.length := by rw [← HNA.out]; exact hlt
      obtain ⟨b, off, cs, rfl, hbl, hR, hc⟩ := (HX.out.below stayTm HB.out).at k hltA
      obtain rfl : cs = _ := hR
      have q3 := hc 0 _ rfl
      have q4 := hc 1 _ rfl
      have q5 := hc 2 _ rfl
      have q6 := hc 3 _ rfl
      have q7 := hc 4 _ rfl
      simp only [Nat.add_zero] at q3
      have HCK := Lib.hid (HTC.out _ (List.getElem_mem hltA))
      obtain ⟨z, hz⟩ : ∃ z : ByteArray, z = ⟨(termTx A[k]).toArray⟩ := ⟨_, rfl⟩
      have hzl : z.data.toList = termTx A[k] := by rw [hz]
      rw [← hz] at HCK
      have hl1 := HLE.out (k + 1)
      have hos := size_of HA.out
      have hzs := size_of hzl
      by_cases h0 : k = 0
      · have h0B : ((k : Int) == 0) = true := by rw [h0]; rfl
        have hN : Hid (preTx p.data.toList [40] termTx A (k + 1) = o.data.toList ++ [40] ++ z.data.toList) := by
          show _ = _
          rw [hzl, HA.out]
          subst h0
          rw [pre_one hltA]
          rfl
        have hroomI : (o.size : Int) + (z.size : Int) + 4 ≤ 140737488355328 := by
          have := congrArg List.length hN.out
          simp only [List.length_append, List.length_singleton] at this
          have e1 : o.data.toList.length = o.size := by simp
          have e2 : z.data.toList.length = z.size := by simp
          omega
        obtain ⟨t, ht⟩ : ∃ t, t = A[k] := ⟨_, rfl⟩
        rw [← ht] at q3 q4 q5 q6 q7 HCK
        clear ht hz hzl hl1 hos hzs hc HTC HEND HLE h0
        obtain ⟨tv, tname, tk, ts, tn⟩ := t
        simp only at q3 q4 q5 q6 q7 HCK
        go_wp2_with (go_at_call 18; refine (HCK.out _).mono ?_; rintro e w1 ⟨rfl, hb1⟩)
        go_roundw
        case rel => exact ⟨k + 1, _, by omega, by go_num, rfl, by rw [hN.out]; simp [Hid, Go.Joins.data_append], HB.out.trans (hb1.mono HB.out.size)⟩
        case measure => simp [intOf]; omega
      · have h0I : ¬ (k : Int) = 0 := by omega
        have h0B : ((k : Int) == 0) = false := by simpa using h0I
        have hN : Hid (preTx p.data.toList [40] termTx A (k + 1) = o.data.toList ++ [44, 32] ++ z.data.toList) := by show _ = _; rw [pre_succ h0 hltA, hzl, HA.out]
        have hroomI : (o.size : Int) + (z.size : Int) + 4 ≤ 140737488355328 := by
          have := congrArg List.length hN.out
          simp only [List.length_append, List.length_cons, List.length_nil] at this
          have e1 : o.data.toList.length = o.size := by simp
          have e2 : z.data.toList.length = z.size := by simp
          omega
        obtain ⟨t, ht⟩ : ∃ t, t = A[k] := ⟨_, rfl⟩
        rw [← ht] at q3 q4 q5 q6 q7 HCK
        clear ht hz hzl hl1 hos hzs hc HTC HEND HLE h0
        obtain ⟨tv, tname, tk, ts, tn⟩ := t
        simp only at q3 q4 q5 q6 q7 HCK
        go_wp2_with (go_at_call 18; refine (HCK.out _).mono ?_; rintro e w1 ⟨rfl, hb1⟩)
        go_roundw
        case rel => exact ⟨k + 1, _, by omega, by go_num, rfl, by rw [hN.out]; simp [Hid, Go.Joins.data_append], HB.out.trans (hb1.mono HB.out.size)⟩
        case measure => simp [intOf]; omega
    · have hltI : ¬ (k : Int) < (nA : Int) := by omega
      have hkn : nA = k := by omega
      have HE := HEND.out
      rw [← HNA.out] at HE
      have hl1 := HLE.out k
      rw [← HA.out] at hl1
      have hos : o.data.toList.length = o.size := by simp
      have hroomI : (o.size : Int) ≤ 100000000000000 := by omega
      have HA2 : Hid (preTx p.data.toList [40] termTx A nA = o.data.toList) := by show _ = _; rw [hkn]; exact HA.out.symm
      rw [HA2.out] at HE
      clear HLE HTC hl1 hos hkn HA
      by_cases h0 : nA = 0
      · rw [if_pos h0] at HE
        have h0I : ¬ (0 : Int) < (nA : Int) := by omega
        have HE2 := Lib.hid HE
        clear HE h0 hroomI
        go_wp2
        go_ret
        exact ⟨ret_ba (by rw [HE2.out]), HB0.out.trans (HB.out.mono HB0.out.size)⟩
      · rw [if_neg h0] at HE
        have h0I : (0 : Int) < (nA : Int) := by omega
        have HE2 := Lib.hid HE
        clear HE h0
        go_wp2
        go_ret
        exact ⟨ret_ba (by rw [HE2.out]; simp [Go.Joins.data_append]), HB0.out.trans (HB.out.mono HB0.out.size)⟩
end Go.Proofs.YtbbmihojfcofdaaGreatDoor

namespace Go.Proofs.YtbbmihojfcofdaaGreatDoor
set_option linter.unusedSimpArgs false
set_option linter.unusedVariables false
set_option linter.unusedSectionVars false
set_option maxRecDepth 100000
open Go.RowKit

set_option maxHeartbeats 8000000 in
theorem rlit_any (l : Lt) (x : Value) (w : World) (hx : Tms w x l.atom.args) (hI : InLt l) (hs : szLt l ≤ 1000000000000) :
    Calls Tryz.prog 16 #[.agg #[.int .i64 l.kind, .string l.atom.p, x, .string l.op, .bool l.l.v, .string l.l.name, .bool l.l.k, .string l.l.s, .int .i64 l.l.n, .bool l.r.v, .string l.r.name, .bool l.r.k, .string l.r.s, .int .i64 l.r.n]] w
      fun e w' => e = .returned (.string ⟨(litTx l).toArray⟩) ∧ Below w.heap.size w w' := by
  have hle := litTx_le hI
  obtain ⟨ao, cap, rfl, hcap, hm⟩ := hx.form
  have HAL := Lib.hid (al_below w (.cells #[.int .i64 l.kind, .string l.atom.p, .slice ao l.atom.args.length cap, .string l.op, .bool l.l.v, .string l.l.name, .bool l.l.k, .string l.l.s, .int .i64 l.l.n, .bool l.r.v, .string l.r.name, .bool l.r.k, .string l.r.s, .int .i64 l.r.n] 37))
  have HA : Hid (∀ W, Below w.heap.size w W → Calls Tryz.prog 20 #[.agg #[.string l.atom.p, .slice ao l.atom.args.length cap]] W fun e w' => e = .returned (.string ⟨(atomTx l.atom).toArray⟩) ∧ Below W.heap.size W w') := fun W hb => ratom_any l.atom _ W (hx.below stayTm hb) hI.1 (by unfold szLt at hs; omega)
  have HL : Hid (∀ W, Calls Tryz.prog 18 #[.agg #[.bool l.l.v, .string l.l.name, .bool l.l.k, .string l.l.s, .int .i64 l.l.n]] W fun e w' => e = .returned (.string ⟨(termTx l.l).toArray⟩) ∧ Below W.heap.size W w') := fun W => rterm_any l.l W hI.2.1 (by unfold szLt at hs; omega)
  have HR : Hid (∀ W, Calls Tryz.prog 18 #[.agg #[.bool l.r.v, .string l.r.name, .bool l.r.k, .string l.r.s, .int .i64 l.r.n]] W fun e w' => e = .returned (.string ⟨(termTx l.r).toArray⟩) ∧ Below W.heap.size W w') := fun W => rterm_any l.r W hI.2.2 (by unfold szLt at hs; omega)
  have h1 : l.kind = 1 → litTx l = atomTx l.atom := fun hk => by unfold litTx; rw [if_pos hk]
  have h2 : l.kind = 2 → litTx l = [110, 111, 116, 32] ++ atomTx l.atom := fun hk => by unfold litTx; rw [if_neg (by omega), if_pos hk]; rfl
  have h3 : l.kind = 3 → litTx l = termTx l.l ++ ([32] ++ ((l.op.data.toList ++ [32]) ++ termTx l.r)) := fun hk => by unfold litTx; rw [if_neg (by omega), if_neg (by omega), if_pos hk]
  have h0 : l.kind ≠ 1 → l.kind ≠ 2 → l.kind ≠ 3 → litTx l = [] := fun a b c => by unfold litTx; rw [if_neg a, if_neg b, if_neg c]
  have hle2 : (litTx l).length ≤ 10000000000000 := by omega
  obtain ⟨Z, hZ⟩ : ∃ Z, Z = litTx l := ⟨_, rfl⟩
  rw [← hZ] at h1 h2 h3 h0 hle2 ⊢
  obtain ⟨kd, ⟨p, A⟩, op, ⟨lv, ln, lk, ls, li⟩, ⟨rv, rn, rk, rs, ri⟩⟩ := l
  simp only at HA HL HR HAL h0 h1 h2 h3
  obtain ⟨ZA, hZA⟩ : ∃ ZA : ByteArray, ZA = ⟨(atomTx ⟨p, A⟩).toArray⟩ := ⟨_, rfl⟩
  obtain ⟨ZL, hZL⟩ : ∃ ZL : ByteArray, ZL = ⟨(termTx ⟨lv, ln, lk, ls, li⟩).toArray⟩ := ⟨_, rfl⟩
  obtain ⟨ZR, hZR⟩ : ∃ ZR : ByteArray, ZR = ⟨(termTx ⟨rv, rn, rk, rs, ri⟩).toArray⟩ := ⟨_, rfl⟩
  rw [← hZA] at HA
  rw [← hZL] at HL
  rw [← hZR] at HR
  have gA : atomTx ⟨p, A⟩ = ZA.data.toList := by rw [hZA]
  have gL : termTx ⟨lv, ln, lk, ls, li⟩ = ZL.data.toList := by rw [hZL]
  have gR : termTx ⟨rv, rn, rk, rs, ri⟩ = ZR.data.toList := by rw [hZR]
  rw [gA] at h1 h2
  rw [gL, gR] at h3
  have eA : ZA.data.toList.length = ZA.size := by simp
  have eL : ZL.data.toList.length = ZL.size := by simp
  have eR : ZR.data.toList.length = ZR.size := by simp
  have eO : op.data.toList.length = op.size := by simp
  clear hx hI hs hle hZ hZA hZL hZR hcap hm gA gL gR
  by_cases k1 : kd = 1
  · have hz := h1 k1
    subst k1
    clear HL HR h0 h1 h2 h3 hle2 eA eL eR eO
    have HZ := Lib.hid hz
    clear hz
    go_enter Tryz.func16, Tryz.ntmps16
    go_wp2_with (go_at_call 20; refine (HA.out _ HAL.out).mono ?_; rintro e w1 ⟨rfl, hb1⟩)
    go_ret
    exact ⟨ret_ba (by rw [HZ.out]), HAL.out.trans (hb1.mono HAL.out.size)⟩
  by_cases k2 : kd = 2
  · have hz := h2 k2
    subst k2
    have hsz : (ZA.size : Int) ≤ 20000000000000 := by
      have := congrArg List.length hz
      simp only [List.length_append] at this
      omega
    clear HL HR h0 h1 h2 h3 hle2 eA eL eR eO
    have HZ := Lib.hid hz
    clear hz
    go_enter Tryz.func16, Tryz.ntmps16
    go_wp2_with (go_at_call 20; refine (HA.out _ HAL.out).mono ?_; rintro e w1 ⟨rfl, hb1⟩)
    go_ret
    exact ⟨ret_ba (by rw [HZ.out]; simp [Go.Joins.data_append]), HAL.out.trans (hb1.mono HAL.out.size)⟩
  by_cases k3 : kd = 3
  · have hz := h3 k3
    subst k3
    have hsz : (ZL.size : Int) ≤ 20000000000000 ∧ (ZR.size : Int) ≤ 20000000000000 ∧ (op.size : Int) ≤ 20000000000000 := by
      have := congrArg List.length hz
      simp only [List.length_append] at this
      omega
    obtain ⟨s1, s2, s3⟩ := hsz
    have f1 : ¬ 9223372036854775807 < ZL.size + 1 := by omega
    have f2 : ¬ 9223372036854775807 < ZL.size + 1 + op.size := by omega
    have f3 : ¬ 9223372036854775807 < ZL.size + 1 + op.size + 1 := by omega
    have f4 : ¬ 9223372036854775807 < ZL.size + 1 + op.size + 1 + ZR.size := by omega
    clear s1 s2 s3
    clear HA h0 h1 h2 h3 hle2 eA eL eR eO
    have HZ := Lib.hid hz
    clear hz
    go_enter Tryz.func16, Tryz.ntmps16
    go_wp2_with fail
    go_region_held3 (fun w' => w'.cell? ⟨w.heap.size, 3, none⟩ = some (.string op) ∧ w'.cell? ⟨w.heap.size, 4, none⟩ = some (.bool lv) ∧ w'.cell? ⟨w.heap.size, 5, none⟩ = some (.string ln) ∧ w'.cell? ⟨w.heap.size, 6, none⟩ = some (.bool lk) ∧ w'.cell? ⟨w.heap.size, 7, none⟩ = some (.string ls) ∧ w'.cell? ⟨w.heap.size, 8, none⟩ = some (.int .i64 li) ∧ w'.cell? ⟨w.heap.size, 9, none⟩ = some (.bool rv) ∧ w'.cell? ⟨w.heap.size, 10, none⟩ = some (.string rn) ∧ w'.cell? ⟨w.heap.size, 11, none⟩ = some (.bool rk) ∧ w'.cell? ⟨w.heap.size, 12, none⟩ = some (.string rs) ∧ w'.cell? ⟨w.heap.size, 13, none⟩ = some (.int .i64 ri) ∧ w.heap.size < w'.heap.size ∧ Below w.heap.size w w')
      (first | assumption | exact lit_keep (by assumption) hbN | exact ⟨by simp, by simp, by simp, by simp, by simp, by simp, by simp, by simp, by simp, by simp, by simp, by simp, HAL.out.drew⟩)
      (first
        | (go_at_call 18; refine (HL.out _).mono ?_; rintro e w' ⟨rfl, hbN⟩)
        | (go_at_call 18; refine (HR.out _).mono ?_; rintro e w' ⟨rfl, hbN⟩))
    all_goals
      go_wp2
      go_ret
      go_split_ands
      exact ⟨ret_ba (by rw [HZ.out]; simp [Go.Joins.data_append]), by assumption⟩
  · have hz := h0 k1 k2 k3
    clear HA HL HR h0 h1 h2 h3 hle2 eA eL eR eO
    have HZ := Lib.hid hz
    clear hz
    go_enter Tryz.func16, Tryz.ntmps16
    go_wp2
    go_ret
    exact ⟨ret_ba (by rw [HZ.out]), HAL.out⟩

end Go.Proofs.YtbbmihojfcofdaaGreatDoor

namespace Go.Proofs.YtbbmihojfcofdaaGreatDoor
set_option linter.unusedSimpArgs false
set_option linter.unusedVariables false
set_option linter.unusedSectionVars false
set_option maxRecDepth 100000
open Go.RowKit

theorem rule_end (r : Ru) : ruleTx r = preTx (atomTx r.head) [32, 58, 45, 32] litTx r.body r.body.length ++ [46] := by
  unfold ruleTx bodyTx preTx
  by_cases h : r.body = []
  · simp [h]
  · have h0 : r.body.length ≠ 0 := fun e => h (List.length_eq_zero_iff.1 e)
    rw [if_neg h, if_neg h0, List.take_of_length_le (Nat.le_refl _)]
    simp

set_option maxHeartbeats 8000000 in
theorem rrule_any (r : Ru) (x y : Value) (w : World) (hx : Tms w x r.head.args) (hy : Lts w y r.body) (hI : InRu r) (hs : szRu r ≤ 1000000000000) :
    Calls Tryz.prog 22 #[.agg #[.string r.head.p, x, y]] w fun e w' => e = .returned (.string ⟨(ruleTx r).toArray⟩) ∧ Below w.heap.size w w' := by
  have hle : ∀ k, (preTx (atomTx r.head) [32, 58, 45, 32] litTx r.body k).length + 10 ≤ 100000000000000 := fun k => by
    have h1 := pre_le (atomTx r.head) [32, 58, 45, 32] litTx r.body k
    have h2 : (sepTx litTx r.body).length ≤ 4 * szLts r.body := by
      have := sepTx_le (g := fun t => 4 * szLt t) (fun t ht => litTx_le (hI.2 t ht))
      rw [sum_mul] at this
      exact this
    have h3 := atomTx_le hI.1
    unfold szRu at hs
    simp only [List.length_cons, List.length_nil] at h1
    omega
  obtain ⟨ao, cap, rfl, hcap, hm⟩ := hx.form
  obtain ⟨bo, bcap, rfl, hbcap, hbm⟩ := hy.form
  have hend := rule_end r
  obtain ⟨Z, hZ⟩ : ∃ Z, Z = ruleTx r := ⟨_, rfl⟩
  rw [← hZ] at hend ⊢
  have hb0 := al_below w (.cells #[.string r.head.p, .slice ao r.head.args.length cap, .slice bo r.body.length bcap] 40)
  have HAT := Lib.hid (ratom_any r.head _ _ (hx.below stayTm hb0) hI.1 (by unfold szRu at hs; omega))
  have HTC : Hid (∀ t ∈ r.body, ∀ W xa, Tms W xa t.atom.args → Calls Tryz.prog 16 #[.agg #[.int .i64 t.kind, .string t.atom.p, xa, .string t.op, .bool t.l.v, .string t.l.name, .bool t.l.k, .string t.l.s, .int .i64 t.l.n, .bool t.r.v, .string t.r.name, .bool t.r.k, .string t.r.s, .int .i64 t.r.n]] W fun e w' => e = .returned (.string ⟨(litTx t).toArray⟩) ∧ Below W.heap.size W w') := fun t ht W xa hxa => rlit_any t xa W hxa (hI.2 t ht) (by have := sum_mem szLt ht; unfold szRu szLts at hs; omega)
  have hl2 : 2 * r.body.length ≤ szLts r.body := sum_len szLt 2 (fun t => by unfold szLt; omega) _
  have hlb : r.body.length ≤ 1000000000000 := by unfold szRu at hs; omega
  obtain ⟨⟨p, A⟩, bd⟩ := r
  simp only at hle hend HTC HAT hl2 hlb hb0 hx hy
  obtain ⟨ZA, hZA⟩ : ∃ ZA : ByteArray, ZA = ⟨(atomTx ⟨p, A⟩).toArray⟩ := ⟨_, rfl⟩
  rw [← hZA] at HAT
  have gA : atomTx ⟨p, A⟩ = ZA.data.toList := by rw [hZA]
  rw [gA] at hend
  simp only [gA] at hle
  obtain ⟨nA, hnA⟩ : ∃ nA, nA = A.length := ⟨_, rfl⟩
  obtain ⟨nB, hnB⟩ : ∃ nB, nB = bd.length := ⟨_, rfl⟩
  rw [← hnA, ← hnB] at hb0 HAT
  have HB0 := Lib.hid hb0
  have HY := Lib.hid (hy.below stayLt (by rw [hnA, hnB] at hb0; exact hb0))
  have HK : Hid (∀ W, Below (w.alloc (.cells #[.string p, .slice ao nA cap, .slice bo nB bcap] 40)).heap.size (w.alloc (.cells #[.string p, .slice ao nA cap, .slice bo nB bcap] 40)) W → W.cell? ⟨w.heap.size, 2, none⟩ = some (.slice bo nB bcap)) := fun W hb => by
    have := (Blk.new w #[.string p, .slice ao nA cap, .slice bo nB bcap] 40).below hb
    exact this.cell 2
  have HLE := Lib.hid hle
  have HEND := Lib.hid hend
  have HNA := Lib.hid hnB
  rw [← hnA, ← hnB] at HY
  simp only [← hnA, ← hnB]
  have hmI : (nB : Int) ≤ 1000000000000 := by omega
  clear hx hy hI hs hle hend hZ hcap hm hbcap hbm hb0 hnA hnB hl2 hlb hZA gA
  go_enter Tryz.func22, Tryz.ntmps22
  go_wp2_with (go_at_call 20; refine (HAT.out).mono ?_; rintro e w0 ⟨rfl, hb0⟩; have HW0 := Lib.hid hb0; clear hb0 HAT)
  go_loopw [3, 4] (fun ov i wr => ∃ (k : Nat) (o : ByteArray), k ≤ nB ∧ i = .int .i64 k ∧ ov = .string o ∧ Hid (o.data.toList = preTx ZA.data.toList [32, 58, 45, 32] litTx bd k) ∧ Hid (Below (w.alloc (.cells #[.string p, .slice ao nA cap, .slice bo nB bcap] 40)).heap.size (w.alloc (.cells #[.string p, .slice ao nA cap, .slice bo nB bcap] 40)) wr)) (fun _ i _ => nB - (intOf i).toNat)
  case atStart => exact ⟨0, ZA, Nat.zero_le _, rfl, rfl, rfl, HW0.out⟩
  case round =>
    clear HW0
    obtain ⟨k, o, hk, rfl, rfl, HA, HB⟩ := hrel
    have q1 := HK.out wr HB.out
    by_cases hlt : k < nB
    · have hltI : (k : Int) < (nB : Int) := by omega
      have hltA : k < bd.length := by rw [← HNA.out]; exact hlt
      obtain ⟨b, off, cs, rfl, hbl, hR, hc⟩ := (HY.out.below stayLt HB.out).at k hltA
      obtain ⟨xa, rfl, hxa⟩ := hR
      obtain ⟨xo, xcap, rfl, -⟩ := hxa.form
      have HCK := Lib.hid (fun W (hb : Below wr.heap.size wr W) => HTC.out _ (List.getElem_mem hltA) W _ (hxa.below stayTm hb))
      have d0 := hc 0 _ rfl
      have d1 := hc 1 _ rfl
      have d2 := hc 2 _ rfl
      have d3 := hc 3 _ rfl
      have d4 := hc 4 _ rfl
      have d5 := hc 5 _ rfl
      have d6 := hc 6 _ rfl
      have d7 := hc 7 _ rfl
      have d8 := hc 8 _ rfl
      have d9 := hc 9 _ rfl
      have d10 := hc 10 _ rfl
      have d11 := hc 11 _ rfl
      have d12 := hc 12 _ rfl
      have d13 := hc 13 _ rfl
      simp only [Nat.add_zero] at d0
      obtain ⟨z, hz⟩ : ∃ z : ByteArray, z = ⟨(litTx bd[k]).toArray⟩ := ⟨_, rfl⟩
      have hzl : z.data.toList = litTx bd[k] := by rw [hz]
      rw [← hz] at HCK
      have hl1 := HLE.out (k + 1)
      have e1 : o.data.toList.length = o.size := by simp
      have e2 : z.data.toList.length = z.size := by simp
      by_cases h0 : k = 0
      · have h0B : ((k : Int) == 0) = true := by rw [h0]; rfl
        have hN : Hid (preTx ZA.data.toList [32, 58, 45, 32] litTx bd (k + 1) = o.data.toList ++ [32, 58, 45, 32] ++ z.data.toList) := by
          show _ = _
          rw [hzl, HA.out]
          subst h0
          rw [pre_one hltA]
          rfl
        have hroomI : (o.size : Int) + (z.size : Int) + 4 ≤ 140737488355328 := by
          have := congrArg List.length hN.out
          simp only [List.length_append, List.length_cons, List.length_nil] at this
          omega
        obtain ⟨t, ht⟩ : ∃ t, t = bd[k] := ⟨_, rfl⟩
        rw [← ht] at d0 d1 d2 d3 d4 d5 d6 d7 d8 d9 d10 d11 d12 d13 HCK
        clear ht hz hzl hl1 e1 e2 hc hxa HTC HEND HLE h0
        obtain ⟨tkind, ⟨tp, targs⟩, top, ⟨lv, lname, lk, ls, ln⟩, ⟨rv, rname, rk, rs, rn⟩⟩ := t
        simp only at d0 d1 d2 d3 d4 d5 d6 d7 d8 d9 d10 d11 d12 d13 HCK
        go_wp2_with (go_at_call 16; refine (HCK.out _ (Below.refl _ _)).mono ?_; rintro e w1 ⟨rfl, hb1⟩)
        go_roundw
        case rel => exact ⟨k + 1, _, by omega, by go_num, rfl, by rw [hN.out]; simp [Hid, Go.Joins.data_append], HB.out.trans (hb1.mono HB.out.size)⟩
        case measure => simp [intOf]; omega
      · have h0I : ¬ (k : Int) = 0 := by omega
        have h0B : ((k : Int) == 0) = false := by simpa using h0I
        have hN : Hid (preTx ZA.data.toList [32, 58, 45, 32] litTx bd (k + 1) = o.data.toList ++ [44, 32] ++ z.data.toList) := by show _ = _; rw [pre_succ h0 hltA, hzl, HA.out]
        have hroomI : (o.size : Int) + (z.size : Int) + 4 ≤ 140737488355328 := by
          have := congrArg List.length hN.out
          simp only [List.length_append, List.length_cons, List.length_nil] at this
          omega
        obtain ⟨t, ht⟩ : ∃ t, t = bd[k] := ⟨_, rfl⟩
        rw [← ht] at d0 d1 d2 d3 d4 d5 d6 d7 d8 d9 d10 d11 d12 d13 HCK
        clear ht hz hzl hl1 e1 e2 hc hxa HTC HEND HLE h0
        obtain ⟨tkind, ⟨tp, targs⟩, top, ⟨lv, lname, lk, ls, ln⟩, ⟨rv, rname, rk, rs, rn⟩⟩ := t
        simp only at d0 d1 d2 d3 d4 d5 d6 d7 d8 d9 d10 d11 d12 d13 HCK
        go_wp2_with (go_at_call 16; refine (HCK.out _ (Below.refl _ _)).mono ?_; rintro e w1 ⟨rfl, hb1⟩)
        go_roundw
        case rel => exact ⟨k + 1, _, by omega, by go_num, rfl, by rw [hN.out]; simp [Hid, Go.Joins.data_append], HB.out.trans (hb1.mono HB.out.size)⟩
        case measure => simp [intOf]; omega
    · have hltI : ¬ (k : Int) < (nB : Int) := by omega
      have hkn : nB = k := by omega
      have HE := HEND.out
      have hl1 := HLE.out k
      rw [← HA.out] at hl1
      have hos : o.data.toList.length = o.size := by simp
      have hroomI : (o.size : Int) ≤ 100000000000000 := by omega
      have HA2 : Hid (preTx ZA.data.toList [32, 58, 45, 32] litTx bd bd.length = o.data.toList) := by show _ = _; rw [← HNA.out, hkn]; exact HA.out.symm
      rw [HA2.out] at HE
      have HE2 := Lib.hid HE
      clear HLE HTC hl1 hos hkn HA HE
      go_wp2
      go_ret
      exact ⟨ret_ba (by rw [HE2.out]; simp [Go.Joins.data_append]), HB0.out.trans (HB.out.mono HB0.out.size)⟩
end Go.Proofs.YtbbmihojfcofdaaGreatDoor

namespace Go.Proofs.YtbbmihojfcofdaaGreatDoor
set_option linter.unusedSimpArgs false
set_option linter.unusedVariables false
set_option linter.unusedSectionVars false
set_option maxRecDepth 100000
open Go.RowKit Go.Maps

theorem fa_put {W Wa w4 : World} {ab : Nat} {p : ByteArray} {v v' : Value} {A : List Tm} {t : Tm} {o : Obj} {cs : List (List Value)} (hP : Blk W ab #[.string p, v] 31) (hA : AllR (TmR W (ab + 1)) A cs) (hl : ∀ c ∈ cs, c.length = 5) (hrow : W.ownsRow (ab + 1) 35 5 v A.length cs.flatten)
    (hB : ab + 1 ≤ W.heap.size) (hbw : Below W.heap.size W Wa) (hown' : w4.ownsRow (ab + 1) 35 5 v' (A.length + 1) (cs.flatten ++ t.cells)) (hg : (Wa.alloc o).grownBy w4 v.ownBlock) :
    (w4.cell? ⟨ab, 1, none⟩ = some v ∧ w4.frozen? ⟨ab, 1, none⟩ = false ∧ ab < w4.heap.size) ∧ Blk (w4.setCell ⟨ab, 1, none⟩ v') ab #[.string p, v'] 31 ∧ TmsO (w4.setCell ⟨ab, 1, none⟩ v') (ab + 1) v' (A ++ [t]) ∧ Below ab W (w4.setCell ⟨ab, 1, none⟩ v') := by
  obtain ⟨h1, h2, h3⟩ := own_step (keepNTm _) hB hA hl hrow (show TmR W (ab + 1) t t.cells from rfl) rfl hbw hown' hg
  have hb : Blk w4 ab #[.string p, v] 31 := (h2.block ab (Nat.lt_succ_self _)).trans hP
  have hT : Turns (fun i => i = ab) w4 (w4.setCell ⟨ab, 1, none⟩ v') := (Turns.refl (fun i => i = ab) w4).setCell (p := ⟨ab, 1, none⟩) (fun _ => rfl) _
  refine ⟨⟨hb.cell 1, hb.frozen 1, hb.lt⟩, heap_set hb v', h1.turns keepTm hT (Nat.lt_succ_self _), h2.os, h2.tape, h2.output, ?_, fun i hi => ?_⟩
  · simpa [World.setCell] using h2.size
  · exact (Below.heap_setCell w4 ⟨ab, 1, none⟩ v' i (by simp; omega)).trans (h2.block i (by omega))

set_option maxHeartbeats 8000000 in
theorem rfact_any (a : Am) (x : Value) (w : World) (hx : Vls w x a.args) (hI : ∀ t ∈ a.args, InTm t ∧ IsVal t) (hs : a.p.size + (a.args.map (fun t => t.s.size + 4)).sum ≤ 100000000000) :
    Calls Tryz.prog 24 #[.agg #[.string a.p, x]] w fun e w' => e = .returned (.string ⟨(atomTx a).toArray⟩) ∧ Below w.heap.size w w' := by
  have hst := val_sum a.args hI
  have hsz : szAm a ≤ 1000000000000 := by unfold szAm; omega
  have hl4 : 4 * a.args.length ≤ (a.args.map (fun t : Tm => t.s.size + 4)).sum := sum_len (fun t : Tm => t.s.size + 4) 4 (fun t => by omega) _
  obtain ⟨i0, hi, hz0, hz1, hz2⟩ := info_parts infoT
  obtain ⟨xo, xc, rfl, -, hmx⟩ := hx.form
  have hmI : (a.args.length : Int) ≤ 100000000000 := by omega
  have hmN : a.args.length ≤ 100000000000 := by omega
  have HAT : Hid (∀ W y, Tms W y a.args → Calls Tryz.prog 20 #[.agg #[.string a.p, y]] W fun e w' => e = .returned (.string ⟨(atomTx a).toArray⟩) ∧ Below W.heap.size W w') := fun W y hy => ratom_any a y W hy (fun t ht => (hI t ht).1) hsz
  obtain ⟨Z, hZ⟩ : ∃ Z, Z = atomTx a := ⟨_, rfl⟩
  rw [← hZ] at HAT ⊢
  obtain ⟨p, L⟩ := a
  simp only at hx hI hmI hmN HAT
  obtain ⟨W0, hW0⟩ : ∃ W0, W0 = (w.alloc (.cells #[.string p, .slice xo L.length xc] 43)).alloc (.cells #[.string p, .slice none 0 0] 31) := ⟨_, rfl⟩
  have hb0 : Below w.heap.size w W0 := by rw [hW0]; exact (al_below w _).alloc (by simp) _
  have HK1 : Hid (Blk W0 w.heap.size #[.string p, .slice xo L.length xc] 43) := by show Blk _ _ _ _; rw [hW0]; exact (Blk.new w _ _).below (al_below _ _)
  have HK2 : Hid (Blk W0 (w.heap.size + 1) #[.string p, .slice none 0 0] 31) := by show Blk _ _ _ _; rw [hW0]; exact blk2 _ _ _ _ _
  have HX := Lib.hid hx
  have HB0 := Lib.hid hb0
  have HW0 := Lib.hid hW0
  have HI := Lib.hid hI
  have HS0 : Hid (W0.heap.size = w.heap.size + 2) := by show _ = _; rw [hW0]; simp
  clear hx hI hs hst hsz hl4 hmx hb0 hW0 hZ
  go_enter Tryz.func24, Tryz.ntmps24
  go_wp2_with fail
  rw [← HW0.out]
  clear HW0
  go_loopw [4] (fun i wr => ∃ (k : Nat) (v : Value), (k : Int) ≤ (L.length : Int) ∧ i = .int .i64 k ∧ Hid (Blk wr (w.heap.size + 1) #[.string p, v] 31) ∧ Hid (TmsO wr (w.heap.size + 1 + 1) v (L.take k)) ∧ Hid (Below (w.heap.size + 1) W0 wr)) (fun i _ => L.length - (intOf i).toNat)
  case atStart => exact ⟨0, _, by omega, rfl, HK2, OwnL.nil _ _ _ _ _, Below.refl _ _⟩
  case round =>
    clear HK2
    obtain ⟨k, v, hk, rfl, HP, HO, HB⟩ := hrel
    have HK : Hid (Blk wr w.heap.size #[.string p, .slice xo L.length xc] 43) := (HB.out.block w.heap.size (Nat.lt_succ_self _)).trans HK1.out
    have hq := HK.out.cell 1
    have hp1 := HP.out.cell 1
    have hf1 := HP.out.frozen 1
    simp at hq hp1
    have hlA := HP.out.lt
    have hlF := HK.out.lt
    by_cases hlt : k < L.length
    · have hltI : (k : Int) < (L.length : Int) := by omega
      obtain ⟨b, off, cs0, rfl, hbl, hR, hc⟩ := (HX.out.below stayVal (HB0.out.trans (HB.out.mono (Nat.le_succ _)))).at k hlt
      obtain rfl : cs0 = _ := hR
      have x0 := hc 0 _ rfl
      have x1 := hc 1 _ rfl
      have x2 := hc 2 _ rfl
      simp only [Nat.add_zero] at x0
      have hV := (HI.out _ (List.getElem_mem hlt)).2
      have HN : Hid (L.take (k + 1) = L.take k ++ [(L[k]'hlt)]) := List.take_succ_eq_append_getElem hlt
      have HLK : Hid ((L.take k).length = k) := by show _ = _; rw [List.length_take]; omega
      have HLT : Hid (k + 1 ≤ L.length) := hlt
      obtain ⟨t, ht⟩ : ∃ t, t = (L[k]'hlt) := ⟨_, rfl⟩
      rw [← ht] at x0 x1 x2 hV HN
      obtain ⟨A, hA⟩ : ∃ A, A = L.take k := ⟨_, rfl⟩
      rw [← hA] at HO HN HLK
      clear ht hA hlt hc
      obtain ⟨tv, tname, tk, ts, tn⟩ := t
      obtain ⟨h1, h2⟩ := hV
      simp only at h1 h2 x0 x1 x2
      subst h1 h2
      obtain ⟨ao', cap', rfl, -⟩ := HO.out.cells
      obtain ⟨cs, hAll, hcl, hrow⟩ := HO.out
      have hdW : Below wr.heap.size wr wr.drew := (Below.refl _ _).drew
      have HROW : Hid ((wr.drew.alloc (.cells #[.bool false, .string ⟨#[]⟩, .bool tk, .string ts, .int .i64 tn] 35)).ownsRow (w.heap.size + 1 + 1) 35 5 (.slice ao' A.length cap') A.length cs.flatten) := owns_keep hrow (Nat.le_refl _) (fun j _ hj => (((Below.refl wr.heap.size wr).drew).alloc (Nat.le_refl _) _).block j hj)
      have HPUT : Hid (∀ w4 v', w4.ownsRow (w.heap.size + 1 + 1) 35 5 v' (A.length + 1) (cs.flatten ++ [.bool false, .string ⟨#[]⟩, .bool tk, .string ts, .int .i64 tn]) → (wr.drew.alloc (.cells #[.bool false, .string ⟨#[]⟩, .bool tk, .string ts, .int .i64 tn] 35)).grownBy w4 (Value.slice ao' A.length cap').ownBlock → _) := fun w4 v' h1 h2 => fa_put (t := ⟨false, ⟨#[]⟩, tk, ts, tn⟩) HP.out hAll hcl hrow hlA hdW h1 h2
      have hAb : A.length ≤ 100000000000 := by have := HLK.out; have := HLT.out; omega
      clear HP HO hAll hcl hrow hdW
      go_wp2_with fail
      go_region_law (refine step_append_at (w.heap.size + 1 + 1) rfl (.tmp 16) (.tmp 23) 29 rfl 35 i0 _ 5 56 Tryz.underlying29 hi hz0 hz1 hz2 rfl (by decide) (.slice ao' A.length cap') A.length cs.flatten (by simp [Act.eval, Act.put]) HROW.out ⟨wr.heap.size, 0, none⟩ 1 1 [.bool false, .string ⟨#[]⟩, .bool tk, .string ts, .int .i64 tn] (by simp [Act.eval, Act.put]) rfl (new_at wr.drew #[.bool false, .string ⟨#[]⟩, .bool tk, .string ts, .int .i64 tn] _) (by simp [Value.oneCell']) (by unfold maxLen; omega) (by omega) (by simp; omega) ?_; intro v' w4 hr4 hg4; obtain ⟨⟨s1, s2, s3⟩, s4, s5, s6⟩ := HPUT.out w4 v' hr4 hg4; obtain ⟨g', cap4, hv'⟩ := Joins.ownsRow_form hr4 (Nat.succ_pos _); subst hv'; have HE4 := Lib.hid s4; have HE5 := Lib.hid s5; have HE6 := Lib.hid s6; clear s4 s5 s6 hr4 hg4)
      all_goals
        go_wp2
        go_roundw
        case rel => exact ⟨k + 1, _, by have := HLT.out; omega, by go_num, HE4.out, by rw [HN.out]; exact HE5.out, HB.out.trans (HE6.out)⟩
        case measure => simp [intOf]; have := HLT.out; omega
    · have hltI : ¬ (k : Int) < (L.length : Int) := by omega
      have HO2 : Hid (Tms wr v L) := by
        have := HO.out
        rw [List.take_of_length_le (by omega)] at this
        exact TmsO.rd this (by unfold maxLen; omega)
      have hp0 := HP.out.cell 0
      simp at hp0
      obtain ⟨vo, vc, rfl, -⟩ := HO2.out.form
      clear hf1 HO
      go_wp2_with (go_at_call 20; refine (HAT.out _ _ HO2.out).mono ?_; rintro e w1 ⟨rfl, hb1⟩)
      go_ret
      have h1 : Below w.heap.size W0 wr := HB.out.mono (Nat.le_succ _)
      have h2 : w.heap.size ≤ wr.heap.size := by have := HB.out.size; have := HS0.out; omega
      exact ⟨rfl, HB0.out.trans (h1.trans (hb1.mono h2))⟩
end Go.Proofs.YtbbmihojfcofdaaGreatDoor
