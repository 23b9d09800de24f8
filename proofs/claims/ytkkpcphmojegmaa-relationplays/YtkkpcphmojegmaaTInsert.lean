/-
  Contract of slices.insertionSortCmpFunc over rows: a stretch whose rows stood in turn rises behind it.
-/
import Derived.Test.YtkkpcphmojegmaaTSwap
namespace Go.Proofs.Ytkkpcphmojegmaa
set_option linter.unusedSimpArgs false
set_option linter.unusedVariables false
set_option linter.unusedSectionVars false
set_option maxRecDepth 100000
open Go.RowKit
variable [DecidableEq V]

theorem two_keep {w W w' : World} {g i j : Nat} {u v : Value} (h : W.cell? ⟨g, i, none⟩ = some u ∧ W.cell? ⟨g, j, none⟩ = some v ∧ g < W.heap.size ∧ Below w.heap.size w W) (hb : Below W.heap.size W w') :
    w'.cell? ⟨g, i, none⟩ = some u ∧ w'.cell? ⟨g, j, none⟩ = some v ∧ g < w'.heap.size ∧ Below w.heap.size w w' := by
  obtain ⟨h1, h2, h3, h4⟩ := h
  exact ⟨(hb.cell (p := ⟨g, i, none⟩) h3).trans h1, (hb.cell (p := ⟨g, j, none⟩) h3).trans h2, Nat.lt_of_lt_of_le h3 hb.size, h4.trans (hb.mono h4.size)⟩
/-- Inserted where it belongs. -/
theorem up_insert {S1 S2 : List R} {x : R} (h : Up (S1 ++ S2)) (h2 : ∀ s ∈ S2, rlt x s) (h1 : S1 = [] ∨ ∃ T y, S1 = T ++ [y] ∧ rlt y x) : Up (S1 ++ x :: S2) := by
  obtain ⟨u1, u2, u3⟩ := List.pairwise_append.1 h
  refine List.pairwise_append.2 ⟨u1, List.pairwise_cons.2 ⟨h2, u2⟩, fun a ha b hb => ?_⟩
  rcases List.mem_cons.1 hb with rfl | hb
  · rcases h1 with rfl | ⟨T, y, rfl, hy⟩
    · simp at ha
    · rcases List.mem_append.1 ha with ha | ha
      · have := (List.pairwise_append.1 u1).2.2 a ha y (by simp)
        exact rlt_trans this hy
      · simp at ha; subst ha; exact hy
  · exact u3 a ha b hb

set_option maxHeartbeats 1000000 in
theorem insertion_any {w : World} {g cap N a b : Nat} {A X C : List R} (h : Mat w g cap (A ++ X ++ C)) (ha : A.length = a) (hb : a + X.length = b) (hN : N = b + C.length) (hcap : N ≤ 1000000) (hT : InTurn X) :
    Calls Try.prog 57 #[.slice (some ⟨g, 0, none⟩) N cap, .int .i64 (a : Int), .int .i64 (b : Int), .func (.func 47) #[] #[]] w
      fun e w' => e = .returned (.tuple #[]) ∧ Only g w w' ∧ ∃ Z, Z.Perm X ∧ Up Z ∧ Mat w' g cap (A ++ Z ++ C) := by
  have HM := Lib.hid h
  have HT := Lib.hid hT
  have a9 : (a : Int) ≤ 1000000 := by omega
  have b9 : (b : Int) ≤ 1000000 := by omega
  have N9 : (N : Int) ≤ 1000000 := by omega
  obtain ⟨a1, ha1⟩ : ∃ q, q = a + 1 := ⟨_, rfl⟩
  have z0' : (a : Int) + 1 = (a1 : Int) := by omega
  have z0 : IntKind.i64.wrap ((a : Int) + 1) = (a1 : Int) := by rw [IntKind.wrap_i64]; omega
  have a19 : (a1 : Int) ≤ 1000001 := by omega
  have HL : Hid (A.length = a ∧ a + X.length = b ∧ N = b + C.length ∧ a1 = a + 1) := ⟨ha, hb, hN, ha1⟩
  have hmix := mixed
  clear h hT ha hb hN hcap ha1
  go_enter Try.func57, Try.ntmps57
  go_wp2_with fail
  go_loopw [8] (fun iv wr => ∃ (k i : Nat) (S : List R), iv = .int .i64 (i : Int) ∧ Hid (1 ≤ k ∧ i = a + k ∧ k ≤ X.length + 1) ∧ Hid (S.Perm (X.take k)) ∧ Hid (Up S) ∧ Hid (Mat wr g cap (A ++ S ++ X.drop k ++ C)) ∧ Hid (Only g w wr)) (fun iv _ => b + 1 - (intOf iv).toNat)
  case atStart =>
    obtain ⟨l1, l2, l3, l4⟩ := HL.out
    refine ⟨1, a1, X.take 1, rfl, ⟨Nat.le_refl _, l4, by omega⟩, List.Perm.refl _, ?_, ?_, Only.refl _ _⟩
    · show Up (X.take 1)
      cases X with
      | nil => exact List.Pairwise.nil
      | cons x l => exact List.pairwise_singleton _ _
    · show Mat _ g cap _
      rw [List.append_assoc A, List.take_append_drop]; exact HM.out
  case round =>
    clear HM z0 z0' a19
    obtain ⟨k, i, S, rfl, HK, HP, HU, HM, HO⟩ := hrel
    obtain ⟨l1, l2, l3, -⟩ := HL.out
    obtain ⟨hk1, hik, hkX⟩ := HK.out
    by_cases hlt : k < X.length
    · have h1I : (i : Int) < (b : Int) := by omega
      have i9 : (i : Int) ≤ 1000000 := by omega
      have hSl : S.length = k := by rw [HP.out.length_eq]; simp; omega
      have HSl := Lib.hid hSl
      have HE := Lib.hid (List.drop_eq_getElem_cons hlt)
      have HIx : Hid (∀ s ∈ S, s.ix < X[k].ix) := fun s hs => by
        have hs' := HP.out.mem_iff.1 hs
        obtain ⟨p, hp, rfl⟩ := List.mem_iff_getElem.1 hs'
        simp only [List.length_take] at hp
        rw [List.getElem_take]
        exact List.pairwise_iff_getElem.1 HT.out p k (by omega) hlt (by omega)
      have HP2 : Hid ((S ++ [X[k]]).Perm (X.take (k + 1))) := by
        show (S ++ [X[k]]).Perm _
        rw [List.take_succ_eq_append_getElem hlt]
        exact HP.out.append_right _
      have HM1 : Hid (Mat wr g cap (A ++ S ++ X[k] :: ([] ++ (X.drop (k + 1) ++ C)))) := by
        have := HM.out
        rw [HE.out] at this
        show Mat wr g cap _
        simp only [List.nil_append, List.append_assoc, List.cons_append] at this ⊢
        exact this
      have HLT := Lib.hid hlt
      generalize X[k] = x at *
      clear HM HP HE l1 l2 l3 hk1 hik hkX hSl hlt
      go_wp2_with fail
      obtain ⟨wo, hwo⟩ : ∃ wo, wo = wr := ⟨_, rfl⟩
      go_loopw [9] (fun jv wr => ∃ (j : Nat) (S1 S2 : List R), jv = .int .i64 (j : Int) ∧ Hid (S1 ++ S2 = S ∧ j = a + S1.length) ∧ Hid (∀ s ∈ S2, rlt x s) ∧ Hid (Mat wr g cap (A ++ S1 ++ x :: (S2 ++ (X.drop (k + 1) ++ C)))) ∧ Hid (Only g w wr)) (fun jv _ => (intOf jv).toNat)
      case atStart =>
        subst hwo
        exact ⟨i, S, [], rfl, ⟨by simp, by rw [HSl.out]; exact HK.out.2.1⟩, fun _ h => by simp at h, HM1, HO⟩
      case round =>
        clear HM1 HO hwo
        obtain ⟨j, S1, S2, rfl, HJ, H2, HM, HO⟩ := hrel
        have OUT : Hid (∀ (W : World), Below wr.heap.size wr W → (S1 = [] ∨ ∃ T y, S1 = T ++ [y] ∧ rlt y x) → (S1 ++ x :: S2).Perm (X.take (k + 1)) ∧ Up (S1 ++ x :: S2) ∧ Mat W g cap (A ++ (S1 ++ x :: S2) ++ X.drop (k + 1) ++ C) ∧ Only g w W) := fun W hb hs => by
          have hS := HJ.out.1
          refine ⟨?_, up_insert (by rw [hS]; exact HU.out) H2.out hs, by have := HM.out.below hb; simpa using this, HO.out.trans (Only.of_below hb)⟩
          refine List.Perm.trans ?_ HP2.out
          rw [← hS, List.append_assoc]
          exact List.Perm.append_left _ (List.perm_append_comm (l₁ := [x]) (l₂ := S2))
        have HNX : Hid (i + 1 = a + (k + 1) ∧ k + 1 ≤ X.length + 1) := ⟨by have := HK.out; omega, by have := HLT.out; omega⟩
        obtain ⟨i1, hi1⟩ : ∃ q, q = i + 1 := ⟨_, rfl⟩
        have zi : (i : Int) + 1 = (i1 : Int) := by omega
        have i19 : (i1 : Int) ≤ 1000001 := by omega
        have HI1 := Lib.hid hi1
        clear hi1
        rcases List.eq_nil_or_concat S1 with hnil | ⟨T, y, hT0⟩
        · have hja : ¬ (j : Int) > (a : Int) := by have := HJ.out.2; rw [hnil] at this; simp at this; omega
          have hd : decide ((j : Int) > (a : Int)) = false := decide_eq_false hja
          have hdN : decide (a < j) = false := decide_eq_false (by omega)
          have hjN : ¬ a < j := by omega
          have hjI : ¬ (a : Int) < (j : Int) := by omega
          have HN := Lib.hid hnil
          clear hnil
          go_wp2_with fail
          go_big_region_o
          obtain ⟨w2, hw2⟩ : ∃ w2, w2 = wr.drew := ⟨_, rfl⟩
          obtain ⟨o1, o2, o3, o4⟩ := OUT.out wr.drew ((Below.refl _ _).drew) (.inl HN.out)
          rw [← hw2] at o3 o4 ⊢
          have O1 := Lib.hid o1
          have O2 := Lib.hid o2
          have O3 := Lib.hid o3
          have O4 := Lib.hid o4
          clear hw2 o1 o2 o3 o4 OUT HM HO
          go_wp2
          go_roundw
          case rel => exact ⟨k + 1, i1, S1 ++ x :: S2, by first | rfl | go_num, ⟨by omega, by rw [HI1.out]; exact HNX.out.1, HNX.out.2⟩, O1, O2, O3, O4⟩
          case measure => have := HI1.out; simp [intOf]; omega
        · have hT : S1 = T ++ [y] := by rw [hT0, List.concat_eq_append]
          clear hT0
          obtain ⟨jp, hjp⟩ : ∃ q, q = a + T.length := ⟨_, rfl⟩
          have hjj : j = jp + 1 := by have := HJ.out.2; rw [hT] at this; simp at this; omega
          have hM := HM.out
          have hR : A ++ S1 ++ x :: (S2 ++ (X.drop (k + 1) ++ C)) = (A ++ T) ++ y :: ([] ++ x :: (S2 ++ (X.drop (k + 1) ++ C))) := by rw [hT]; simp
          rw [hR] at hM
          obtain ⟨l1, -, -, -⟩ := HL.out
          have hi1 : jp = (A ++ T).length := by simp; omega
          have hj1 : j = (A ++ T).length + 1 + ([] : List R).length := by simp; omega
          obtain ⟨c1, c2⟩ := hM.two hi1 hj1
          have hgl := hM.lt
          have hlen : j < N := by
            have h1 := HJ.out.1
            have h2 := HSl.out
            have h3 := HL.out
            have h4 := HLT.out
            rw [← h1, hT] at h2
            simp at h2
            omega
          have lj : (j : Int) < (N : Int) := by omega
          have zjp : (j : Int) = (jp : Int) + 1 := by omega
          have ea : ((jp : Int) + 1).toNat = j := by omega
          have pa : (0 : Int) ≤ (jp : Int) + 1 := by omega
          have ba : (jp : Int) + 1 < (N : Int) := by omega
          have ra : IntKind.i64.wrap ((jp : Int) + 1) = (jp : Int) + 1 := by rw [IntKind.wrap_i64]; omega
          have rc : IntKind.i64.wrap (jp : Int) = (jp : Int) := by rw [IntKind.wrap_i64]; omega
          have hd2 : decide ((jp : Int) + 1 > (a : Int)) = true := decide_eq_true (by omega)
          have hd3 : (a : Int) < (jp : Int) + 1 := by omega
          have j9 : (j : Int) ≤ 1000000 := by omega
          have ljp : (jp : Int) < (N : Int) := by omega
          have jp9 : (jp : Int) ≤ 1000000 := by omega
          have hd : decide ((j : Int) > (a : Int)) = true := decide_eq_true (by omega)
          have hdN : decide (a < j) = true := decide_eq_true (by omega)
          have hjN : a < j := by omega
          have hjI : (a : Int) < (j : Int) := by omega
          have hV := Lib.hid hM.vals2
          have hC : Hid (∀ W, Below wr.heap.size wr W → Calls Try.prog 47 #[x.hv, y.hv] W fun e w' => e = .returned (.int .i64 (rcmp x.vs y.vs)) ∧ Below W.heap.size W w') := fun W hb => tcmp_any (hV.out.2.below hb) (hV.out.1.below hb)
          obtain ⟨ay, cy, ey, -⟩ := hV.out.1.len
          obtain ⟨ax, cx, ex, -⟩ := hV.out.2.len
          have EY := Lib.hid ey
          have EX := Lib.hid ex
          clear ex ey
          have HIy : Hid (y.ix < x.ix) := HIx.out y (by rw [← HJ.out.1, hT]; simp)
          have HTT := Lib.hid hT
          have HMM := Lib.hid hM
          have HI0 := Lib.hid (And.intro hi1 hj1)
          have HJP := Lib.hid hjp
          have HJJ := Lib.hid hjj
          clear hjj
          clear hM hR hi1 hj1 l1 hjp hlen hT HM
          by_cases hc : rcmp x.vs y.vs < 0
          · have hcI : decide (rcmp x.vs y.vs < 0) = true := decide_eq_true hc
            go_wp2_with fail
            go_region_held3 (fun w' => w'.cell? ⟨g, jp, none⟩ = some y.hv ∧ w'.cell? ⟨g, j, none⟩ = some x.hv ∧ g < w'.heap.size ∧ Below wr.heap.size wr w')
              (first | assumption | exact two_keep (by assumption) hbN | exact ⟨c1, c2, hgl, (Below.refl _ _).drew⟩)
              (first
                | (go_at_call 47; refine (hC.out _ (by go_split_ands; assumption)).mono ?_; rintro e w' ⟨rfl, hbN⟩)
                | (go_at_fn 47; refine (hC.out _ (by go_split_ands; assumption)).mono ?_; rintro e w' ⟨rfl, hbN⟩))
            go_wp2_with fail
            go_split_ands
            rename_i y0 y1 y2 y3
            have hM2 := HMM.out.below y3
            have HO2 := Lib.hid (HO.out.trans (Only.of_below y3))
            obtain ⟨hi1, hj1⟩ := HI0.out
            obtain ⟨d1, d2⟩ := hM2.two hi1 hj1
            have f1 := hM2.frozen jp
            have f2 := hM2.frozen j
            have hne : jp ≠ j := by have := HJJ.out; omega
            have c3 := hM2.next (i := j) (u := y.hv) d1 (Ne.symm hne)
            have c4 := hM2.next (i := jp) (u := x.hv) d2 hne
            have SB := Lib.hid (hM2.swapB hi1 hj1)
            have ey := EY.out
            have ex := EX.out
            rw [ey] at d1 c3 SB
            rw [ex] at d2 c4 SB
            generalize x.vs.length = lx at *
            generalize y.vs.length = ly at *
            have HRL : Hid (rlt x y) := rlt_of_lt hc
            clear y0 y1 y2 y3 hM2 hi1 hj1 ey ex c1 c2 hC hcI hc EX EY HMM HO OUT hV
            go_wp2_with fail
            go_big_region_o
            obtain ⟨w3, hw3⟩ : ∃ w3, w3 = ((w'.setCell ⟨g, j, none⟩ (Value.slice ay ly cy)).setCell ⟨g, jp, none⟩ (Value.slice ax lx cx)).drew := ⟨_, rfl⟩
            have HM3 : Hid (Mat w3 g cap (A ++ T ++ x :: ((y :: S2) ++ (X.drop (k + 1) ++ C)))) := by
              show Mat w3 g cap _
              rw [hw3]
              have := SB.out.1.drew
              simp only [List.nil_append, List.cons_append] at this ⊢
              exact this
            have HO3 : Hid (Only g w w3) := by show Only g w w3; rw [hw3]; exact (HO2.out.trans SB.out.2).drew
            have HJ3 : Hid (T ++ (y :: S2) = S ∧ jp = a + T.length) := ⟨by rw [← HJ.out.1, HTT.out]; simp, HJP.out⟩
            have H23 : Hid (∀ s ∈ y :: S2, rlt x s) := fun s hs => by
              rcases List.mem_cons.1 hs with rfl | hs
              · exact HRL.out
              · exact H2.out s hs
            rw [← hw3]
            clear hw3 SB d1 d2 c3 c4 f1 f2 HO2
            go_wp2
            go_roundw
            case rel => exact ⟨jp, T, y :: S2, by first | rfl | go_num, HJ3, H23, HM3, HO3⟩
            case measure => simp [intOf]; omega
          · have hcI : decide (rcmp x.vs y.vs < 0) = false := decide_eq_false hc
            have HRL : Hid (rlt y x) := rlt_of_ge HIy.out hc
            go_wp2_with fail
            go_region_held3 (fun w' => w'.cell? ⟨g, jp, none⟩ = some y.hv ∧ w'.cell? ⟨g, j, none⟩ = some x.hv ∧ g < w'.heap.size ∧ Below wr.heap.size wr w')
              (first | assumption | exact two_keep (by assumption) hbN | exact ⟨c1, c2, hgl, (Below.refl _ _).drew⟩)
              (first
                | (go_at_call 47; refine (hC.out _ (by go_split_ands; assumption)).mono ?_; rintro e w' ⟨rfl, hbN⟩)
                | (go_at_fn 47; refine (hC.out _ (by go_split_ands; assumption)).mono ?_; rintro e w' ⟨rfl, hbN⟩))
            go_split_ands
            rename_i y0 y1 y2 y3
            obtain ⟨o1, o2, o3, o4⟩ := OUT.out _ y3 (.inr ⟨T, y, HTT.out, HRL.out⟩)
            have O1 := Lib.hid o1
            have O2 := Lib.hid o2
            have O3 := Lib.hid o3
            have O4 := Lib.hid o4
            clear o1 o2 o3 o4 OUT HMM HO y0 y1 y2 y3 c1 c2 hC hV EX EY
            go_wp2
            go_roundw
            case rel => exact ⟨k + 1, i1, S1 ++ x :: S2, by first | rfl | go_num, ⟨by omega, by rw [HI1.out]; exact HNX.out.1, HNX.out.2⟩, O1, O2, O3, O4⟩
            case measure => have := HI1.out; simp [intOf]; omega
    · have h1I : ¬ (i : Int) < (b : Int) := by omega
      have O1 : Hid (S.Perm X) := by
        have := HP.out
        rwa [List.take_of_length_le (by omega)] at this
      have O3 : Hid (Mat wr g cap (A ++ S ++ C)) := by
        have := HM.out
        rw [List.drop_of_length_le (by omega)] at this
        simpa [Hid] using this
      clear HP HM l1 l2 l3 hk1 hik hkX hlt
      go_wp2
      refine bodyPost_end (results_none rfl _ _ _) rfl ?_
      exact ⟨rfl, HO.out, S, O1.out, HU.out, by have := O3.out; simpa using this⟩
end Go.Proofs.Ytkkpcphmojegmaa
