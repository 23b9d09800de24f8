/-
  Contracts of slices.SortStableFunc, tuple.Sort: rows in order, each once, in memory of the call's own.
-/
import Derived.Test.YtkkpcphmojegmaaTStable
import Derived.Test.YtkkpcphmojegmaaTCompact
import Derived.Test.YtkkpcphmojegmaaTRows
namespace Go.Proofs.Ytkkpcphmojegmaa
set_option linter.unusedSimpArgs false
set_option linter.unusedVariables false
set_option linter.unusedSectionVars false
set_option maxRecDepth 100000
open Go.RowKit
variable [DecidableEq V]

set_option maxHeartbeats 800000 in
theorem sortStable_any {w : World} {g cap N : Nat} {D : List R} (h : Mat w g cap D) (hN : N = D.length) (hcap : N ≤ 1000000) (hT : InTurn D) :
    Calls Try.prog 46 #[.slice (some ⟨g, 0, none⟩) N cap, .func (.func 47) #[] #[]] w fun e w' => StOut g cap D w e w' := by
  have hS := Lib.hid (stable_any h hN hcap hT)
  have N9 : (N : Int) ≤ 1000000 := by omega
  clear h hN hT
  go_enter Try.func46, Try.ntmps46
  go_wp2_with (go_at_call 54; refine (hS.out).mono ?_; rintro e w2 ⟨rfl, ho, Z, hp, hu, hm⟩; have HZ : Hid (Only g w w2 ∧ Z.Perm D ∧ Up Z ∧ Mat w2 g cap Z) := ⟨ho, hp, hu, hm⟩; clear ho hp hu hm)
  refine bodyPost_end (results_none rfl _ _ _) rfl ?_
  exact StOut.mk HZ.out.1 HZ.out.2.1 HZ.out.2.2.1 HZ.out.2.2.2

/-- The clones of the first k rows, and where they stood. -/
def Clones (D E : List R) (k : Nat) : Prop := E.length = k ∧ E.map R.vs = (D.take k).map R.vs ∧ E.Pairwise (fun a b => a.ix < b.ix) ∧ ∀ r ∈ E, r.ix < k
theorem Clones.start (D : List R) : Clones D [] 0 := ⟨rfl, by simp, List.Pairwise.nil, fun _ h => by simp at h⟩
theorem Clones.next {D E : List R} {k : Nat} (h : Clones D E k) (hk : k < D.length) (x : Value) : Clones D (E ++ [⟨x, D[k].vs, k⟩]) (k + 1) := by
  obtain ⟨h1, h2, h3, h4⟩ := h
  refine ⟨by simp [h1], ?_, ?_, ?_⟩
  · rw [List.take_succ_eq_append_getElem hk, List.map_append, List.map_append, h2]; rfl
  · refine List.pairwise_append.2 ⟨h3, List.pairwise_singleton _ _, fun a ha b hb => ?_⟩
    rw [List.mem_singleton.1 hb]; exact h4 a ha
  · intro r hr
    rcases List.mem_append.1 hr with hr | hr
    · have := h4 r hr; omega
    · rw [List.mem_singleton.1 hr]; exact Nat.lt_succ_self _

/-- What Sort answers. -/
def SortOut (w : World) (L : List (List V)) (e : Ending) (w' : World) : Prop := ∃ x' D', e = .returned x' ∧ Below w.heap.size w w' ∧ OwnG w' w.heap.size x' D' ∧ D'.map R.vs = srt L

theorem sort_end {w w1 w2 w3 : World} {g cap : Nat} {D E Z : List R} (hb : Below w.heap.size w w1) (hgw : w.heap.size ≤ g) (hc : cap ≤ maxLen) (hE : E.map R.vs = D.map R.vs) (hT : InTurn E) (hn : ∀ r ∈ E, NilCap r.hv) (h1 : Only g w1 w2) (hp : Z.Perm E) (hu : Up Z) (h2 : Only g w2 w3) (hm : Mat w3 g cap (compact Z)) :
    SortOut w (D.map R.vs) (.returned (.slice (some ⟨g, 0, none⟩) (compact Z).length cap)) w3 := by
  have hs := hb.size
  have hs2 := h1.size
  refine ⟨_, compact Z, rfl, (hb.trans (h1.below hgw hs)).trans (h2.below hgw (by omega)), ⟨fun r hr => ?_, .inr ⟨g, cap, rfl, hgw, hc, hm⟩⟩, ?_⟩
  · exact hn r (hp.mem_iff.1 (compact_mem hr))
  · rw [← hE]; exact compact_srt hp hu hT

set_option maxHeartbeats 4000000 in
theorem sort_any {w : World} {x : Value} {D : List R} (hx : Grid w x D) (hl : D.length ≤ 1000000) (hK : ∀ r ∈ D, r.vs.length ≤ 4000000000) :
    Calls Try.prog 39 #[x] w fun e w' => SortOut w (D.map R.vs) e w' := by
  obtain ⟨ao, cap, rfl, hm⟩ := hx.len
  obtain ⟨i0, hi, hz0, hz1, hz2⟩ := info_parts infoRow
  have HX := Lib.hid hx
  have HK := Lib.hid hK
  have l9 : (D.length : Int) ≤ 1000000 := by omega
  clear hx hK hm
  go_enter Try.func39, Try.ntmps39
  go_wp2_with (at_make; refine wpList_make_own _ rfl _ _ 27 rfl w.heap.size 30 i0 _ 1 Try.underlying27 hi hz0 hz1 .i64 .i64 _ D.length rfl rfl (by omega) (by rw [hz2]; omega) (by unfold maxLen; omega) (Nat.le_refl _) ?_; intro w1 hown1 hg1; have HR1 : Hid (OwnG w1 w.heap.size (.slice (some ⟨w.heap.size, 0, none⟩) 0 D.length) []) := OwnG.made hown1; have HB1 : Hid (Below w.heap.size w w1) := (Below.refl _ _).grown hg1 (Nat.le_refl _) (fun k hk => by cases hk); clear hown1 hg1)
  go_loopw [3, 11] (fun v i wr => ∃ (k : Nat) (E : List R) (g c : Nat), k ≤ D.length ∧ i = .int .i64 k ∧ v = .slice (some ⟨g, 0, none⟩) k c ∧ Hid (Clones D E k) ∧ Hid (OwnG wr w.heap.size (.slice (some ⟨g, 0, none⟩) k c) E) ∧ Hid (Below w.heap.size w wr)) (fun _ i _ => D.length - (intOf i).toNat)
  case atStart => exact ⟨0, [], w.heap.size, D.length, Nat.zero_le _, rfl, rfl, Clones.start D, HR1, HB1⟩
  case round =>
    clear HR1 HB1
    obtain ⟨k, E, g, c, hk, rfl, rfl, HC, HR, HB⟩ := hrel
    by_cases hlt : k < D.length
    · have h1I : (k : Int) < (D.length : Int) := by omega
      obtain ⟨b, off, rfl, c0, hbl, hV, hN⟩ := HX.out.at HB.out k hlt
      have hClone := Lib.hid (clone_any hV hN (by have := HK.out _ (List.getElem_mem hlt); omega))
      have HCN := Lib.hid (HC.out.next hlt)
      have HEl : Hid (E.length = k) := HC.out.1
      obtain ⟨ar, cr, er, -⟩ := hV.len
      rw [er] at c0 hClone
      generalize D[k].vs = vs at *
      generalize D[k].hv = hv at *
      generalize vs.length = lv at *
      clear hV hN er HC
      go_wp2_with fail
      refine (hClone.out).mono ?_
      rintro e w2 ⟨x2, rfl, hb2, ho2⟩
      have HF2 := Lib.hid ((HR.out.below hb2).newer HR.out k ho2)
      have HR2 := Lib.hid (HR.out.below hb2)
      have HB2 : Hid (Below w.heap.size w w2) := HB.out.trans (hb2.mono HB.out.size)
      have hw2 : w.heap.size ≤ w2.heap.size := HB2.out.size
      have HX2 := Lib.hid (HCN.out x2)
      obtain ⟨a2, c2, e2⟩ := ho2.form
      generalize vs.length = lx at e2
      clear hb2 ho2 HR HB HCN hClone c0
      subst e2
      go_wp2_with (at_builtin; (refine wpList_append_row rfl _ _ rfl w.heap.size (.slice (some ⟨g, 0, none⟩) k c) E rfl HR2.out ⟨Value.slice a2 lx c2, vs, k⟩ rfl HF2.out (by have := HEl.out; omega) hw2 ?_; intro v3 w3 hO3 hb3; have HB3 : Hid (Below w.heap.size w w3) := HB2.out.trans hb3))
      obtain ⟨k1, hk1⟩ : ∃ q : Nat, q = k + 1 := ⟨_, rfl⟩
      have hl1 : (E ++ [⟨Value.slice a2 lx c2, vs, k⟩] : List R).length = k1 := by simp [HEl.out, hk1]
      obtain ⟨g3, c3, e3⟩ : ∃ g3 c3, v3 = .slice (some ⟨g3, 0, none⟩) k1 c3 := by
        rcases hO3.2 with ⟨_, h0⟩ | ⟨g3, c3, e3, -⟩
        · simp at h0
        · exact ⟨g3, c3, by rw [e3, hl1]⟩
      subst e3
      have HO3 := Lib.hid hO3
      have hk1I : (k : Int) + 1 = (k1 : Int) := by omega
      have HK1 := Lib.hid hk1
      clear hO3 hb3 hl1 HR2 HB2 HF2 hk1
      go_wp2
      go_roundw
      case rel => exact ⟨k1, _, g3, c3, by have := HK1.out; omega, by first | rfl | go_num, rfl, by rw [HK1.out]; exact HX2, HO3, HB3⟩
      case measure => simp [intOf]; have := HK1.out; omega
    · obtain rfl : k = D.length := by omega
      obtain ⟨n1, n2⟩ := HR.out
      obtain ⟨q1, q2, q3, q4⟩ := HC.out
      rcases n2 with ⟨n3, -⟩ | ⟨g', c', n3, n4, n5, n6⟩
      · injection n3 with n3; cases n3
      injection n3 with n3 n9 n3'
      clear n9
      cases n3
      subst n3'
      have hT : InTurn E := q3
      have hS := Lib.hid (sortStable_any (N := D.length) n6 q1.symm hl hT)
      rw [List.take_of_length_le (Nat.le_refl _)] at q2
      have HEND := Lib.hid (fun Z w2 w3 => sort_end (w3 := w3) (w2 := w2) (Z := Z) HB.out n4 n5 q2 hT n1)
      have HCP : Hid (∀ Z w2, Z.Perm E → Mat w2 g c Z → Calls Try.prog 48 #[.slice (some ⟨g, 0, none⟩) D.length c, .func (.func 49) #[] #[]] w2 fun e w' => CpOut g c Z w2 e w') := fun Z w2 hp hm => compact_any hm (by rw [hp.length_eq, q1]) hl
      clear n1 n4 n5 n6 q1 q2 q3 q4 hT HC HR HB
      go_wp2_with fail
      refine (hS.out).mono ?_
      rintro e w2 ⟨rfl, ho, Z, hp, hu, hm⟩
      have hC2 := Lib.hid (HCP.out Z w2 hp hm)
      have HZ : Hid (Only g wr w2 ∧ Z.Perm E ∧ Up Z) := ⟨ho, hp, hu⟩
      clear ho hp hu hm hS HCP
      go_wp2_with fail
      refine (hC2.out).mono ?_
      rintro e w3 ⟨rfl, ho, hm⟩
      have HZ3 : Hid (Only g w2 w3 ∧ Mat w3 g c (compact Z)) := ⟨ho, hm⟩
      clear ho hm hC2
      generalize hcl : (compact Z).length = lz
      have HCL := Lib.hid hcl
      clear hcl
      go_wp2
      go_ret
      have := HEND.out Z w2 w3 HZ.out.1 HZ.out.2.1 HZ.out.2.2 HZ3.out.1 HZ3.out.2
      rw [HCL.out] at this
      exact this
end Go.Proofs.Ytkkpcphmojegmaa
