/-
  Contract of slices.symMergeCmpFunc over rows where the second stretch has one row.
-/
import Derived.Test.YtkkpcphmojegmaaTSymA
namespace Go.Proofs.Ytkkpcphmojegmaa
set_option linter.unusedSimpArgs false
set_option linter.unusedVariables false
set_option linter.unusedSectionVars false
set_option maxRecDepth 100000
open Go.RowKit
variable [DecidableEq V]

set_option maxHeartbeats 1000000 in
theorem symB_any {w : World} {g cap N a m b : Nat} {A X C : List R} {y : R} (h : Mat w g cap (A ++ X ++ y :: C)) (ha : A.length = a) (hm : a + X.length = m) (hb : m + 1 = b) (hN : N = b + C.length) (hcap : N ≤ 1000000) (hX : Up X) (hT : ∀ x ∈ X, x.ix < y.ix) (hX1 : X.length ≠ 1) :
    Calls Try.prog 58 #[.slice (some ⟨g, 0, none⟩) N cap, .int .i64 (a : Int), .int .i64 (m : Int), .int .i64 (b : Int), .func (.func 47) #[] #[]] w
      fun e w' => e = .returned (.tuple #[]) ∧ Only g w w' ∧ ∃ Z, Z.Perm (X ++ [y]) ∧ Up Z ∧ Mat w' g cap (A ++ Z ++ C) := by
  have HM := Lib.hid h
  have HT := Lib.hid hT
  have HX := Lib.hid hX
  have a9 : (a : Int) ≤ 1000000 := by omega
  have b9 : (b : Int) ≤ 1000000 := by omega
  have m9 : (m : Int) ≤ 1000000 := by omega
  have N9 : (N : Int) ≤ 1000000 := by omega
  obtain ⟨xl, hxl⟩ : ∃ q, q = X.length := ⟨_, rfl⟩
  have z0 : (m : Int) - (a : Int) = (xl : Int) := by omega
  have x9 : (xl : Int) ≤ 1000000 := by omega
  have z01 : ((xl : Int) == 1) = false := by rw [beq_eq_false_iff_ne]; omega
  have z02 : ¬ (xl : Int) = 1 := by omega
  have z1 : (b : Int) - (m : Int) = 1 := by omega
  have lmN : (m : Int) < (N : Int) := by omega
  have HL : Hid (A.length = a ∧ a + X.length = m ∧ m + 1 = b ∧ N = b + C.length) := ⟨ha, hm, hb, hN⟩
  have hmix := mixed
  clear h hT hX ha hm hb hN hcap hX1 hxl
  go_enter Try.func58, Try.ntmps58
  go_wp2_with fail
  go_loopw [14, 15] (fun iv jv wr => ∃ (p q i j : Nat), iv = .int .i64 (i : Int) ∧ jv = .int .i64 (j : Int) ∧ Hid (i = a + p ∧ j = a + q ∧ p ≤ q ∧ q ≤ X.length) ∧ Hid (∀ (u : 0 < p) (v : p - 1 < X.length), rlt X[p - 1] y) ∧ Hid (∀ (v : q < X.length), rlt y X[q]) ∧ Hid (Below w.heap.size w wr)) (fun iv jv _ => (intOf jv).toNat - (intOf iv).toNat)
  case atStart =>
    have l := HL.out
    exact ⟨0, X.length, a, m, rfl, rfl, ⟨rfl, by omega, Nat.zero_le _, Nat.le_refl _⟩, fun u => absurd u (by omega), fun v => absurd v (by omega), Below.refl _ _⟩
  case round =>
    obtain ⟨p, q, i, j, rfl, rfl, HI, HP, HQ, HB⟩ := hrel
    obtain ⟨e1, e2, e3, e4⟩ := HI.out
    obtain ⟨l1, l2, l3, l4⟩ := HL.out
    have i9 : (i : Int) ≤ 1000000 := by omega
    have j9 : (j : Int) ≤ 1000000 := by omega
    by_cases hlt : p < q
    · have h1I : (i : Int) < (j : Int) := by omega
      obtain ⟨hh, hhe⟩ : ∃ q, q = (i + j) / 2 := ⟨_, rfl⟩
      have zh : ((i : Int) + (j : Int)) / 2 = (hh : Int) := by omega
      obtain ⟨r, hr⟩ : ∃ r, r = hh - a := ⟨_, rfl⟩
      have hrX : r < X.length := by omega
      have hM := HM.out.below HB.out
      have hR : A ++ X ++ y :: C = (A ++ X.take r) ++ X[r] :: (X.drop (r + 1) ++ y :: C) := by
        have e : X = X.take r ++ X[r] :: X.drop (r + 1) := by rw [← List.drop_eq_getElem_cons hrX, List.take_append_drop]
        have e' : A ++ X ++ y :: C = A ++ (X.take r ++ X[r] :: X.drop (r + 1)) ++ y :: C := by rw [← e]
        rw [e']; simp only [List.append_assoc, List.cons_append]
      rw [hR] at hM
      have hi1 : hh = (A ++ X.take r).length := by simp; omega
      have hj1 : m = (A ++ X.take r).length + 1 + (X.drop (r + 1)).length := by simp; omega
      obtain ⟨c1, c2⟩ := hM.two hi1 hj1
      have hgl := hM.lt
      have lh : (hh : Int) < (N : Int) := by omega
      have h9 : (hh : Int) ≤ 1000000 := by omega
      have hV := Lib.hid hM.vals2
      have HIy : Hid (X[r].ix < y.ix) := HT.out _ (List.getElem_mem hrX)
      have HR : Hid (hh = a + r ∧ i ≤ hh ∧ hh < j ∧ r < X.length) := ⟨by omega, by omega, by omega, hrX⟩
      have HXr : Hid (∀ (s : Nat) (v : s < X.length), s = r → X[s] = X[r]) := fun s v e => by subst e; rfl
      have hC : Hid (∀ W, Below wr.heap.size wr W → Calls Try.prog 47 #[y.hv, X[r].hv] W fun e w' => e = .returned (.int .i64 (rcmp y.vs X[r].vs)) ∧ Below W.heap.size W w') := fun W hb => tcmp_any (hV.out.2.below hb) (hV.out.1.below hb)
      obtain ⟨h1, hh1⟩ : ∃ q, q = hh + 1 := ⟨_, rfl⟩
      have zh1 : (hh : Int) + 1 = (h1 : Int) := by omega
      have h19 : (h1 : Int) ≤ 1000001 := by omega
      have HH1 := Lib.hid hh1
      generalize X[r] = x at *
      clear e1 e2 e3 e4 l1 l2 l3 l4 hhe hlt hr hrX hM hR hi1 hj1 hh1
      by_cases hc : rcmp y.vs x.vs < 0
      · have hcI : decide (rcmp y.vs x.vs < 0) = true := decide_eq_true hc
        have HRL : Hid (rlt y x) := rlt_of_lt hc
        go_wp2_with fail
        go_region_held3 (fun w' => w'.cell? ⟨g, hh, none⟩ = some x.hv ∧ w'.cell? ⟨g, m, none⟩ = some y.hv ∧ g < w'.heap.size ∧ Below wr.heap.size wr w')
          (first | assumption | exact two_keep (by assumption) hbN | exact ⟨c1, c2, hgl, (Below.refl _ _).drew⟩)
          (first
            | (go_at_call 47; refine (hC.out _ (by go_split_ands; assumption)).mono ?_; rintro e w' ⟨rfl, hbN⟩)
            | (go_at_fn 47; refine (hC.out _ (by go_split_ands; assumption)).mono ?_; rintro e w' ⟨rfl, hbN⟩))
        go_split_ands
        rename_i y0 y1 y2 y3
        have HB2 := Lib.hid (HB.out.trans (y3.mono HB.out.size))
        clear y0 y1 y2 y3 c1 c2 hC hV
        go_wp2
        go_roundw
        case rel =>
          have r1 := HR.out
          have r2 := HI.out
          exact ⟨p, hh - a, i, hh, rfl, rfl, ⟨by omega, by omega, by omega, by omega⟩, HP.out, fun v => by rw [HXr.out _ v (by omega)]; exact HRL.out, HB2⟩
        case measure => have r1 := HR.out; simp [intOf]; omega
      · have hcI : decide (rcmp y.vs x.vs < 0) = false := decide_eq_false hc
        have HRL : Hid (rlt x y) := rlt_of_ge HIy.out hc
        go_wp2_with fail
        go_region_held3 (fun w' => w'.cell? ⟨g, hh, none⟩ = some x.hv ∧ w'.cell? ⟨g, m, none⟩ = some y.hv ∧ g < w'.heap.size ∧ Below wr.heap.size wr w')
          (first | assumption | exact two_keep (by assumption) hbN | exact ⟨c1, c2, hgl, (Below.refl _ _).drew⟩)
          (first
            | (go_at_call 47; refine (hC.out _ (by go_split_ands; assumption)).mono ?_; rintro e w' ⟨rfl, hbN⟩)
            | (go_at_fn 47; refine (hC.out _ (by go_split_ands; assumption)).mono ?_; rintro e w' ⟨rfl, hbN⟩))
        go_split_ands
        rename_i y0 y1 y2 y3
        have HB2 := Lib.hid (HB.out.trans (y3.mono HB.out.size))
        clear y0 y1 y2 y3 c1 c2 hC hV
        go_wp2
        go_roundw
        case rel =>
          have r1 := HR.out
          have r2 := HI.out
          have r3 := HH1.out
          exact ⟨h1 - a, q, h1, j, rfl, rfl, ⟨by omega, by omega, by omega, by omega⟩, fun u v => by rw [HXr.out _ v (by omega)]; exact HRL.out, HQ.out, HB2⟩
        case measure => have r1 := HR.out; have r3 := HH1.out; simp [intOf]; omega
    · have h1I : ¬ (i : Int) < (j : Int) := by omega
      obtain rfl : p = q := by omega
      have HIP : Hid (i = a + p ∧ p ≤ X.length) := ⟨by omega, by omega⟩
      have HUP : Hid (Up (X.take p ++ y :: X.drop p)) := by
        show Up _
        refine up_insert (by rw [List.take_append_drop]; exact HX.out) ?_ ?_
        · intro s hs
          obtain ⟨t, ht, rfl⟩ := List.mem_iff_getElem.1 hs
          simp only [List.length_drop] at ht
          rw [List.getElem_drop]
          by_cases h0 : t = 0
          · subst h0; exact HQ.out (by omega)
          · exact rlt_trans (HQ.out (by omega)) (HX.out.le_at (by omega) (by omega))
        · by_cases h0 : p = 0
          · left; rw [h0]; rfl
          · right
            refine ⟨X.take (p - 1), X[p - 1], ?_, HP.out (by omega) (by omega)⟩
            rw [← List.take_succ_eq_append_getElem (by omega)]
            congr 1; omega
      have HM0 : Hid (Mat wr g cap (A ++ X.take X.length ++ y :: (X.drop X.length ++ C))) := by
        have := HM.out.below HB.out
        show Mat wr g cap _
        rw [List.take_length, List.drop_length, List.nil_append]; exact this
      have HO0 : Hid (Only g w wr) := Only.of_below HB.out
      have HK0 : Hid (m = a + X.length ∧ p ≤ X.length) := ⟨by omega, by omega⟩
      clear e1 e2 e3 e4 l1 l2 l3 l4 hlt HP HQ HI HB HM
      go_wp2_with fail
      go_loopw [17] (fun kv wr => ∃ (t k : Nat), kv = .int .i64 (k : Int) ∧ Hid (k = a + t ∧ p ≤ t ∧ t ≤ X.length) ∧ Hid (Mat wr g cap (A ++ X.take t ++ y :: (X.drop t ++ C))) ∧ Hid (Only g w wr)) (fun kv _ => (intOf kv).toNat)
      case atStart => exact ⟨X.length, m, rfl, ⟨HK0.out.1, HK0.out.2, Nat.le_refl _⟩, HM0, HO0⟩
      case round =>
        clear HM0 HO0
        obtain ⟨t, k, rfl, HK, HM, HO⟩ := hrel
        obtain ⟨k1, k2, k3⟩ := HK.out
        obtain ⟨l1, l2, l3, l4⟩ := HL.out
        obtain ⟨q1, q2⟩ := HIP.out
        have k9 : (k : Int) ≤ 1000000 := by omega
        by_cases hlt : p < t
        · obtain ⟨s, hs⟩ : ∃ s, t = s + 1 := ⟨t - 1, by omega⟩
          subst hs
          have hsX : s < X.length := by omega
          obtain ⟨kp, hkp⟩ : ∃ q, q = k - 1 := ⟨_, rfl⟩
          have hM := HM.out
          have hR : A ++ X.take (s + 1) ++ y :: (X.drop (s + 1) ++ C) = (A ++ X.take s) ++ X[s] :: ([] ++ y :: (X.drop (s + 1) ++ C)) := by
            rw [List.take_succ_eq_append_getElem hsX]; simp only [List.append_assoc, List.cons_append, List.nil_append]
          have hR2 : (A ++ X.take s) ++ y :: ([] ++ X[s] :: (X.drop (s + 1) ++ C)) = A ++ X.take s ++ y :: (X.drop s ++ C) := by
            rw [List.drop_eq_getElem_cons hsX]; simp only [List.append_assoc, List.cons_append, List.nil_append]
          rw [hR] at hM
          have hi1 : kp = (A ++ X.take s).length := by simp; omega
          have hj1 : k = (A ++ X.take s).length + 1 + ([] : List R).length := by simp; omega
          have h2I : (k : Int) > (i : Int) := by omega
          have h2N : i < k := by omega
          have zjp : (k : Int) = (kp : Int) + 1 := by omega
          have ea : ((kp : Int) + 1).toNat = k := by omega
          have pa : (0 : Int) ≤ (kp : Int) + 1 := by omega
          have ba : (kp : Int) + 1 < (N : Int) := by omega
          have bc : (kp : Int) < (N : Int) := by omega
          have ra : IntKind.i64.wrap ((kp : Int) + 1) = (kp : Int) + 1 := by rw [IntKind.wrap_i64]; omega
          have rc : IntKind.i64.wrap (kp : Int) = (kp : Int) := by rw [IntKind.wrap_i64]; omega
          have h3I : (i : Int) < (kp : Int) + 1 := by omega
          have kp9 : (kp : Int) ≤ 1000000 := by omega
          obtain ⟨d1, d2⟩ := hM.two hi1 hj1
          have f1 := hM.frozen kp
          have f2 := hM.frozen k
          have hne : kp ≠ k := by omega
          have c3 := hM.next (i := k) (u := X[s].hv) d1 (Ne.symm hne)
          have c4 := hM.next (i := kp) (u := y.hv) d2 hne
          have SB := Lib.hid (hM.swapB hi1 hj1)
          rw [hR2] at SB
          obtain ⟨vx, vy⟩ := hM.vals2
          obtain ⟨ax, cx, ex, -⟩ := vx.len
          obtain ⟨ay, cy, ey, -⟩ := vy.len
          rw [ex] at d1 c3 SB
          rw [ey] at d2 c4 SB
          generalize X[s].vs.length = lx at *
          generalize y.vs.length = ly at *
          have HKN : Hid (kp = a + s ∧ p ≤ s ∧ s ≤ X.length ∧ kp < k) := ⟨by omega, by omega, by omega, by omega⟩
          clear hM HM hi1 hj1 vx vy ex ey k1 k2 k3 l1 l2 l3 l4 q1 q2 hkp hR hR2 hlt hsX
          go_wp2_with fail
          go_big_region_o
          obtain ⟨w3, hw3⟩ : ∃ w3, w3 = ((wr.setCell ⟨g, k, none⟩ (Value.slice ax lx cx)).setCell ⟨g, kp, none⟩ (Value.slice ay ly cy)).drew := ⟨_, rfl⟩
          have HM3 : Hid (Mat w3 g cap (A ++ X.take s ++ y :: (X.drop s ++ C))) := by show Mat w3 g cap _; rw [hw3]; exact SB.out.1.drew
          have HO3 : Hid (Only g w w3) := by show Only g w w3; rw [hw3]; exact (HO.out.trans SB.out.2).drew
          rw [← hw3]
          clear hw3 SB d1 d2 c3 c4 f1 f2
          go_wp2
          go_roundw
          case rel => exact ⟨s, kp, by first | rfl | go_num, ⟨HKN.out.1, HKN.out.2.1, HKN.out.2.2.1⟩, HM3, HO3⟩
          case measure => have := HKN.out; simp [intOf]; omega
        · have h2I : ¬ (k : Int) > (i : Int) := by omega
          have h2N : ¬ i < k := by omega
          obtain rfl : t = p := by omega
          have HZ : Hid (Mat wr g cap (A ++ (X.take t ++ y :: X.drop t) ++ C)) := by
            have := HM.out
            simpa [Hid] using this
          have HPm : Hid ((X.take t ++ y :: X.drop t).Perm (X ++ [y])) := by
            show List.Perm _ _
            have := List.perm_middle (a := y) (l₁ := X.take t) (l₂ := X.drop t)
            rw [List.take_append_drop] at this
            exact this.trans (List.perm_append_comm (l₁ := [y]) (l₂ := X))
          clear HM k1 k2 k3 l1 l2 l3 l4 q1 q2 hlt
          go_wp2
          refine bodyPost_ret (results_none rfl _ _ _) rfl ?_
          exact ⟨rfl, HO.out, _, HPm.out, HUP.out, by have := HZ.out; simpa using this⟩
end Go.Proofs.Ytkkpcphmojegmaa
