/-
  Contract of slices.symMergeCmpFunc over rows where the first stretch has one row.
-/
import Derived.Test.YtkkpcphmojegmaaTInsert
import Derived.Test.YtkkpcphmojegmaaTRotate
namespace Go.Proofs.Ytkkpcphmojegmaa
set_option linter.unusedSimpArgs false
set_option linter.unusedVariables false
set_option linter.unusedSectionVars false
set_option maxRecDepth 100000
open Go.RowKit
variable [DecidableEq V]

set_option maxHeartbeats 1000000 in
theorem symA_any {w : World} {g cap N a m b : Nat} {A Y C : List R} {x : R} (h : Mat w g cap (A ++ x :: (Y ++ C))) (ha : A.length = a) (hm : a + 1 = m) (hb : m + Y.length = b) (hN : N = b + C.length) (hcap : N ≤ 1000000) (hY : Up Y) (hT : ∀ y ∈ Y, x.ix < y.ix) :
    Calls Try.prog 58 #[.slice (some ⟨g, 0, none⟩) N cap, .int .i64 (a : Int), .int .i64 (m : Int), .int .i64 (b : Int), .func (.func 47) #[] #[]] w
      fun e w' => e = .returned (.tuple #[]) ∧ Only g w w' ∧ ∃ Z, Z.Perm (x :: Y) ∧ Up Z ∧ Mat w' g cap (A ++ Z ++ C) := by
  have HM := Lib.hid h
  have HT := Lib.hid hT
  have HY := Lib.hid hY
  have a9 : (a : Int) ≤ 1000000 := by omega
  have b9 : (b : Int) ≤ 1000000 := by omega
  have m9 : (m : Int) ≤ 1000000 := by omega
  have N9 : (N : Int) ≤ 1000000 := by omega
  have z0 : (m : Int) - (a : Int) = 1 := by omega
  have laN : (a : Int) < (N : Int) := by omega
  have HL : Hid (A.length = a ∧ a + 1 = m ∧ m + Y.length = b ∧ N = b + C.length) := ⟨ha, hm, hb, hN⟩
  have hmb : Hid (m ≤ b) := by show m ≤ b; omega
  have hmix := mixed
  clear h hT hY ha hm hb hN hcap
  go_enter Try.func58, Try.ntmps58
  go_wp2_with fail
  go_loopw [10, 11] (fun iv jv wr => ∃ (p q i j : Nat), iv = .int .i64 (i : Int) ∧ jv = .int .i64 (j : Int) ∧ Hid (i = m + p ∧ j = m + q ∧ p ≤ q ∧ q ≤ Y.length) ∧ Hid (∀ (u : 0 < p) (v : p - 1 < Y.length), rlt Y[p - 1] x) ∧ Hid (∀ (v : q < Y.length), rlt x Y[q]) ∧ Hid (Below w.heap.size w wr)) (fun iv jv _ => (intOf jv).toNat - (intOf iv).toNat)
  case atStart =>
    have l := HL.out
    exact ⟨0, Y.length, m, b, rfl, rfl, ⟨rfl, by omega, Nat.zero_le _, Nat.le_refl _⟩, fun u => absurd u (by omega), fun v => absurd v (by omega), Below.refl _ _⟩
  case round =>
    obtain ⟨p, q, i, j, rfl, rfl, HI, HP, HQ, HB⟩ := hrel
    obtain ⟨e1, e2, e3, e4⟩ := HI.out
    obtain ⟨l1, l2, l3, l4⟩ := HL.out
    have i9 : (i : Int) ≤ 1000000 := by omega
    have j9 : (j : Int) ≤ 1000000 := by omega
    by_cases hlt : p < q
    · have h1I : (i : Int) < (j : Int) := by omega
      obtain ⟨hh, hhe⟩ : ∃ q, q = (i + j) / 2 := ⟨_, rfl⟩
      have zh : ((i : Int) + (j : Int)) / 2 = (hh : Int) := by omega
      obtain ⟨r, hr⟩ : ∃ r, r = hh - m := ⟨_, rfl⟩
      have hrY : r < Y.length := by omega
      have hM := HM.out.below HB.out
      have hR : A ++ x :: (Y ++ C) = A ++ x :: (Y.take r ++ Y[r] :: (Y.drop (r + 1) ++ C)) := by
        have e : Y = Y.take r ++ Y[r] :: Y.drop (r + 1) := by rw [← List.drop_eq_getElem_cons hrY, List.take_append_drop]
        have e' : Y ++ C = (Y.take r ++ Y[r] :: Y.drop (r + 1)) ++ C := by rw [← e]
        rw [e']; simp only [List.append_assoc, List.cons_append]
      rw [hR] at hM
      have hi1 : a = A.length := l1.symm
      have hj1 : hh = A.length + 1 + (Y.take r).length := by simp; omega
      obtain ⟨c1, c2⟩ := hM.two hi1 hj1
      have hgl := hM.lt
      have lh : (hh : Int) < (N : Int) := by omega
      have h9 : (hh : Int) ≤ 1000000 := by omega
      have hV := Lib.hid hM.vals2
      have HIy : Hid (x.ix < Y[r].ix) := HT.out _ (List.getElem_mem hrY)
      have HR : Hid (hh = m + r ∧ i ≤ hh ∧ hh < j ∧ r < Y.length) := ⟨by omega, by omega, by omega, hrY⟩
      have HYr : Hid (∀ (s : Nat) (v : s < Y.length), s = r → Y[s] = Y[r]) := fun s v e => by subst e; rfl
      have hC : Hid (∀ W, Below wr.heap.size wr W → Calls Try.prog 47 #[Y[r].hv, x.hv] W fun e w' => e = .returned (.int .i64 (rcmp Y[r].vs x.vs)) ∧ Below W.heap.size W w') := fun W hb => tcmp_any (hV.out.2.below hb) (hV.out.1.below hb)
      obtain ⟨h1, hh1⟩ : ∃ q, q = hh + 1 := ⟨_, rfl⟩
      have zh1 : (hh : Int) + 1 = (h1 : Int) := by omega
      have h19 : (h1 : Int) ≤ 1000001 := by omega
      have HH1 := Lib.hid hh1
      generalize Y[r] = y at *
      clear e1 e2 e3 e4 l1 l2 l3 l4 hhe hlt hr hrY hM hR hi1 hj1 hh1
      by_cases hc : rcmp y.vs x.vs < 0
      · have hcI : decide (rcmp y.vs x.vs < 0) = true := decide_eq_true hc
        have HRL : Hid (rlt y x) := rlt_of_lt hc
        go_wp2_with fail
        go_region_held3 (fun w' => w'.cell? ⟨g, a, none⟩ = some x.hv ∧ w'.cell? ⟨g, hh, none⟩ = some y.hv ∧ g < w'.heap.size ∧ Below wr.heap.size wr w')
          (first | assumption | exact two_keep (by assumption) hbN | exact ⟨c1, c2, hgl, (Below.refl _ _).drew⟩)
          (first
            | (go_at_call 47; refine (hC.out _ (by go_split_ands; assumption)).mono ?_; rintro e w' ⟨rfl, hbN⟩)
            | (go_at_fn 47; refine (hC.out _ (by go_split_ands; assumption)).mono ?_; rintro e w' ⟨rfl, hbN⟩))
        go_split_ands
        rename_i y0 y1 y2 y3
        have HB2 := Lib.hid (HB.out.trans (y3.mono HB.out.size))
        clear y0 y1 y2 y3 c1 c2 hC hV
        go_wp2
        go_roundw
        case rel =>
          have r1 := HR.out
          have r2 := HI.out
          have r3 := HH1.out
          exact ⟨h1 - m, q, h1, j, rfl, rfl, ⟨by omega, by omega, by omega, by omega⟩, fun u v => by rw [HYr.out _ v (by omega)]; exact HRL.out, HQ.out, HB2⟩
        case measure => have r1 := HR.out; have r3 := HH1.out; simp [intOf]; omega
      · have hcI : decide (rcmp y.vs x.vs < 0) = false := decide_eq_false hc
        have HRL : Hid (rlt x y) := rlt_of_ge HIy.out hc
        go_wp2_with fail
        go_region_held3 (fun w' => w'.cell? ⟨g, a, none⟩ = some x.hv ∧ w'.cell? ⟨g, hh, none⟩ = some y.hv ∧ g < w'.heap.size ∧ Below wr.heap.size wr w')
          (first | assumption | exact two_keep (by assumption) hbN | exact ⟨c1, c2, hgl, (Below.refl _ _).drew⟩)
          (first
            | (go_at_call 47; refine (hC.out _ (by go_split_ands; assumption)).mono ?_; rintro e w' ⟨rfl, hbN⟩)
            | (go_at_fn 47; refine (hC.out _ (by go_split_ands; assumption)).mono ?_; rintro e w' ⟨rfl, hbN⟩))
        go_split_ands
        rename_i y0 y1 y2 y3
        have HB2 := Lib.hid (HB.out.trans (y3.mono HB.out.size))
        clear y0 y1 y2 y3 c1 c2 hC hV
        go_wp2
        go_roundw
        case rel =>
          have r1 := HR.out
          have r2 := HI.out
          exact ⟨p, hh - m, i, hh, rfl, rfl, ⟨by omega, by omega, by omega, by omega⟩, HP.out, fun v => by rw [HYr.out _ v (by omega)]; exact HRL.out, HB2⟩
        case measure => have r1 := HR.out; simp [intOf]; omega
    · have h1I : ¬ (i : Int) < (j : Int) := by omega
      obtain rfl : p = q := by omega
      obtain ⟨ip, hip⟩ : ∃ q, q = i - 1 := ⟨_, rfl⟩
      have zi : (i : Int) - 1 = (ip : Int) := by omega
      have ip9 : (ip : Int) ≤ 1000000 := by omega
      have HIP : Hid (ip = a + p ∧ p ≤ Y.length) := ⟨by omega, by omega⟩
      have HUP : Hid (Up (Y.take p ++ x :: Y.drop p)) := by
        show Up _
        refine up_insert (by rw [List.take_append_drop]; exact HY.out) ?_ ?_
        · intro s hs
          obtain ⟨t, ht, rfl⟩ := List.mem_iff_getElem.1 hs
          simp only [List.length_drop] at ht
          rw [List.getElem_drop]
          by_cases h0 : t = 0
          · subst h0; exact HQ.out (by omega)
          · exact rlt_trans (HQ.out (by omega)) (HY.out.le_at (by omega) (by omega))
        · by_cases h0 : p = 0
          · left; rw [h0]; rfl
          · right
            refine ⟨Y.take (p - 1), Y[p - 1], ?_, HP.out (by omega) (by omega)⟩
            rw [← List.take_succ_eq_append_getElem (by omega)]
            congr 1; omega
      have HM0 : Hid (Mat wr g cap (A ++ Y.take 0 ++ x :: (Y.drop 0 ++ C))) := by
        have := HM.out.below HB.out
        simpa [Hid] using this
      have HO0 : Hid (Only g w wr) := Only.of_below HB.out
      clear e1 e2 e3 e4 l1 l2 l3 l4 hip hlt HP HQ HI HB HM
      go_wp2_with fail
      go_loopw [13] (fun kv wr => ∃ (t k : Nat), kv = .int .i64 (k : Int) ∧ Hid (k = a + t ∧ t ≤ p) ∧ Hid (Mat wr g cap (A ++ Y.take t ++ x :: (Y.drop t ++ C))) ∧ Hid (Only g w wr)) (fun kv _ => ip - (intOf kv).toNat)
      case atStart => exact ⟨0, a, rfl, ⟨rfl, Nat.zero_le _⟩, HM0, HO0⟩
      case round =>
        clear HM0 HO0
        obtain ⟨t, k, rfl, HK, HM, HO⟩ := hrel
        obtain ⟨k1, k2⟩ := HK.out
        obtain ⟨l1, l2, l3, l4⟩ := HL.out
        obtain ⟨q1, q2⟩ := HIP.out
        have k9 : (k : Int) ≤ 1000000 := by omega
        by_cases hlt : t < p
        · have h2I : (k : Int) < (ip : Int) := by omega
          have htY : t < Y.length := by omega
          have hM := HM.out
          have hR : A ++ Y.take t ++ x :: (Y.drop t ++ C) = (A ++ Y.take t) ++ x :: ([] ++ Y[t] :: (Y.drop (t + 1) ++ C)) := by
            rw [List.drop_eq_getElem_cons htY]; simp only [List.append_assoc, List.cons_append, List.nil_append]
          have hR2 : (A ++ Y.take t) ++ Y[t] :: ([] ++ x :: (Y.drop (t + 1) ++ C)) = A ++ Y.take (t + 1) ++ x :: (Y.drop (t + 1) ++ C) := by
            rw [List.take_succ_eq_append_getElem htY]; simp only [List.append_assoc, List.cons_append, List.nil_append]
          rw [hR] at hM
          obtain ⟨kn, hkn⟩ : ∃ q, q = k + 1 := ⟨_, rfl⟩
          have hi1 : k = (A ++ Y.take t).length := by simp; omega
          have hj1 : kn = (A ++ Y.take t).length + 1 + ([] : List R).length := by simp; omega
          have zk : (k : Int) + 1 = (kn : Int) := by omega
          have kn9 : (kn : Int) ≤ 1000001 := by omega
          have lk : (k : Int) < (N : Int) := by omega
          have lkn : (kn : Int) < (N : Int) := by omega
          obtain ⟨d1, d2⟩ := hM.two hi1 hj1
          have f1 := hM.frozen k
          have f2 := hM.frozen kn
          have hne : k ≠ kn := by omega
          have c3 := hM.next (i := k) (u := Y[t].hv) d2 hne
          have c4 := hM.next (i := kn) (u := x.hv) d1 (Ne.symm hne)
          have SA := Lib.hid (hM.swapA hi1 hj1)
          rw [hR2] at SA
          obtain ⟨vx, vy⟩ := hM.vals2
          obtain ⟨ax, cx, ex, -⟩ := vx.len
          obtain ⟨ay, cy, ey, -⟩ := vy.len
          rw [ex] at d1 c4 SA
          rw [ey] at d2 c3 SA
          generalize Y[t].vs.length = ly at *
          generalize x.vs.length = lx at *
          have HKN : Hid (kn = a + (t + 1) ∧ t + 1 ≤ p ∧ kn = k + 1 ∧ k < ip) := ⟨by omega, by omega, hkn, by omega⟩
          clear hM HM hi1 hj1 vx vy ex ey k1 k2 l1 l2 l3 l4 q1 q2 hkn hR hR2 hlt htY
          go_wp2_with fail
          go_big_region_o
          obtain ⟨w3, hw3⟩ : ∃ w3, w3 = ((wr.setCell ⟨g, k, none⟩ (Value.slice ay ly cy)).setCell ⟨g, kn, none⟩ (Value.slice ax lx cx)).drew := ⟨_, rfl⟩
          have HM3 : Hid (Mat w3 g cap (A ++ Y.take (t + 1) ++ x :: (Y.drop (t + 1) ++ C))) := by show Mat w3 g cap _; rw [hw3]; exact SA.out.1.drew
          have HO3 : Hid (Only g w w3) := by show Only g w w3; rw [hw3]; exact (HO.out.trans SA.out.2).drew
          rw [← hw3]
          clear hw3 SA d1 d2 c3 c4 f1 f2
          go_wp2
          go_roundw
          case rel => exact ⟨t + 1, kn, rfl, ⟨HKN.out.1, HKN.out.2.1⟩, HM3, HO3⟩
          case measure => have := HKN.out; simp [intOf]; omega
        · have h2I : ¬ (k : Int) < (ip : Int) := by omega
          obtain rfl : t = p := by omega
          have HZ : Hid (Mat wr g cap (A ++ (Y.take t ++ x :: Y.drop t) ++ C)) := by
            have := HM.out
            simpa [Hid] using this
          have HPm : Hid ((Y.take t ++ x :: Y.drop t).Perm (x :: Y)) := by
            show List.Perm _ _
            have := List.perm_middle (a := x) (l₁ := Y.take t) (l₂ := Y.drop t)
            rwa [List.take_append_drop] at this
          clear HM k1 k2 l1 l2 l3 l4 q1 q2 hlt
          go_wp2
          refine bodyPost_ret (results_none rfl _ _ _) rfl ?_
          exact ⟨rfl, HO.out, _, HPm.out, HUP.out, by have := HZ.out; simpa using this⟩
end Go.Proofs.Ytkkpcphmojegmaa
