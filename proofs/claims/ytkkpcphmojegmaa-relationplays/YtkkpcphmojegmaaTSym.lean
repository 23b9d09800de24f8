/-
  Contract of slices.symMergeCmpFunc over rows: two neighbouring stretches that rise, whose rows stood one stretch ahead of the other, are one that rises behind it.
-/
import Derived.Test.YtkkpcphmojegmaaTSymB
namespace Go.Proofs.Ytkkpcphmojegmaa
set_option linter.unusedSimpArgs false
set_option linter.unusedVariables false
set_option linter.unusedSectionVars false
set_option maxRecDepth 100000
open Go.RowKit
variable [DecidableEq V]

/-- What a merge answers. -/
def SymOut (g cap : Nat) (A X Y C : List R) (w : World) (e : Ending) (w' : World) : Prop := e = .returned (.tuple #[]) ∧ Only g w w' ∧ ∃ Z, Z.Perm (X ++ Y) ∧ Up Z ∧ Mat w' g cap (A ++ Z ++ C)

/-- The places of two rows of both stretches. -/
theorem split_xy {A X Y C : List R} {c d : Nat} (hc : c < X.length) (hd : d < Y.length) : A ++ X ++ Y ++ C = (A ++ X.take c) ++ X[c] :: ((X.drop (c + 1) ++ Y.take d) ++ Y[d] :: (Y.drop (d + 1) ++ C)) := by
  have e : X = X.take c ++ X[c] :: X.drop (c + 1) := by rw [← List.drop_eq_getElem_cons hc, List.take_append_drop]
  have f : Y = Y.take d ++ Y[d] :: Y.drop (d + 1) := by rw [← List.drop_eq_getElem_cons hd, List.take_append_drop]
  have g : A ++ X ++ Y ++ C = A ++ (X.take c ++ X[c] :: X.drop (c + 1)) ++ (Y.take d ++ Y[d] :: Y.drop (d + 1)) ++ C := by rw [← e, ← f]
  rw [g]; simp only [List.append_assoc, List.cons_append]

-- STEP
theorem SymOut.mk {g cap : Nat} {A X Y C Z : List R} {w w' : World} (ho : Only g w w') (hp : Z.Perm (X ++ Y)) (hu : Up Z) (hm : Mat w' g cap (A ++ Z ++ C)) : SymOut g cap A X Y C w (.returned (.tuple #[])) w' := ⟨rfl, ho, Z, hp, hu, hm⟩
/-- What is known of shorter ones. -/
def SymIH (g cap N k : Nat) : Prop := ∀ (w' : World) (a' m' b' : Nat) (A' X' Y' C' : List R), X'.length + Y'.length < k → Mat w' g cap (A' ++ X' ++ Y' ++ C') → A'.length = a' → a' + X'.length = m' → m' + Y'.length = b' → N = b' + C'.length → Up X' → Up Y' → (∀ x ∈ X', ∀ y ∈ Y', x.ix < y.ix) → 0 < X'.length → 0 < Y'.length →
  Calls Try.prog 58 #[.slice (some ⟨g, 0, none⟩) N cap, .int .i64 (a' : Int), .int .i64 (m' : Int), .int .i64 (b' : Int), .func (.func 47) #[] #[]] w' fun e w'' => SymOut g cap A' X' Y' C' w' e w''

set_option maxHeartbeats 8000000 in
theorem sym_step1 {w : World} {g cap N a m b mid nn pp : Nat} {A X Y C : List R} (h : Mat w g cap (A ++ X ++ Y ++ C)) (ha : A.length = a) (hm : a + X.length = m) (hb : m + Y.length = b) (hN : N = b + C.length) (hcap : N ≤ 1000000) (hX : Up X) (hY : Up Y) (hT : ∀ x ∈ X, ∀ y ∈ Y, x.ix < y.ix) (hx2 : 2 ≤ X.length) (hy2 : 2 ≤ Y.length)
    (hmid : mid = (a + b) / 2) (hnn : nn = mid + m) (hpp : pp = nn - 1) (hway : m > mid) (IH : SymIH g cap N (X.length + Y.length)) :
    Calls Try.prog 58 #[.slice (some ⟨g, 0, none⟩) N cap, .int .i64 (a : Int), .int .i64 (m : Int), .int .i64 (b : Int), .func (.func 47) #[] #[]] w fun e w' => SymOut g cap A X Y C w e w' := by
  have HM := Lib.hid h
  have HT := Lib.hid hT
  have HX := Lib.hid hX
  have HY := Lib.hid hY
  have HIH := Lib.hid IH
  have a9 : (a : Int) ≤ 1000000 := by omega
  have b9 : (b : Int) ≤ 1000000 := by omega
  have m9 : (m : Int) ≤ 1000000 := by omega
  have N9 : (N : Int) ≤ 1000000 := by omega
  obtain ⟨xl, hxl⟩ : ∃ q, q = X.length := ⟨_, rfl⟩
  obtain ⟨yl, hyl⟩ : ∃ q, q = Y.length := ⟨_, rfl⟩
  have z0 : (m : Int) - (a : Int) = (xl : Int) := by omega
  have x9 : (xl : Int) ≤ 1000000 := by omega
  have z01 : ((xl : Int) == 1) = false := by rw [beq_eq_false_iff_ne]; omega
  have z02 : ¬ (xl : Int) = 1 := by omega
  have z1 : (b : Int) - (m : Int) = (yl : Int) := by omega
  have y9 : (yl : Int) ≤ 1000000 := by omega
  have z11 : ((yl : Int) == 1) = false := by rw [beq_eq_false_iff_ne]; omega
  have z12 : ¬ (yl : Int) = 1 := by omega
  have zm : ((a : Int) + (b : Int)) / 2 = (mid : Int) := by omega
  have mid9 : (mid : Int) ≤ 1000000 := by omega
  have zn : (mid : Int) + (m : Int) = (nn : Int) := by omega
  have nn9 : (nn : Int) ≤ 2000000 := by omega
  have zp : (nn : Int) - 1 = (pp : Int) := by omega
  have pp9 : (pp : Int) ≤ 2000000 := by omega
  have HL : Hid (A.length = a ∧ a + X.length = m ∧ m + Y.length = b ∧ N = b + C.length ∧ 2 ≤ X.length ∧ 2 ≤ Y.length ∧ mid = (a + b) / 2 ∧ nn = mid + m ∧ pp = nn - 1) := ⟨ha, hm, hb, hN, hx2, hy2, hmid, hnn, hpp⟩
  have hmix := mixed
  obtain ⟨lo, hlo⟩ : ∃ q, q = nn - b := ⟨_, rfl⟩
  have zlo : (nn : Int) - (b : Int) = (lo : Int) := by omega
  have lo9 : (lo : Int) ≤ 2000000 := by omega
  have hgt : (m : Int) > (mid : Int) := by omega
  have hgtN : mid < m := by omega
  have HW : Hid (lo = nn - b ∧ mid < m) := ⟨hlo, hway⟩
  clear h hT hX hY ha hm hb hN hcap hxl hyl hmid hnn hpp hx2 hy2 IH hway hlo
  go_enter Try.func58, Try.ntmps58
  go_wp2_with fail
  go_loopw [20, 21] (fun sv rv wr => ∃ (s r : Nat), sv = .int .i64 (s : Int) ∧ rv = .int .i64 (r : Int) ∧ Hid (lo ≤ s ∧ s ≤ r ∧ r ≤ mid) ∧ Hid (∀ (u : lo < s) (v1 : s - a - 1 < X.length) (v2 : mid - s < Y.length), rlt X[s - a - 1] Y[mid - s]) ∧ Hid (∀ (u : r < mid) (v1 : mid - 1 - r < Y.length) (v2 : r - a < X.length), rlt Y[mid - 1 - r] X[r - a]) ∧ Hid (Below w.heap.size w wr)) (fun sv rv _ => (intOf rv).toNat - (intOf sv).toNat)
  case atStart =>
    have l := HL.out
    have hw := HW.out
    exact ⟨lo, mid, rfl, rfl, ⟨Nat.le_refl _, by omega, Nat.le_refl _⟩, fun u => absurd u (by omega), fun u => absurd u (by omega), Below.refl _ _⟩
  case round =>
    obtain ⟨s, r, rfl, rfl, HI0, HP, HQ, HB⟩ := hrel
    obtain ⟨e1, e2, e3⟩ := HI0.out
    obtain ⟨l1, l2, l3, l4, l5, l6, l7, l8, l9⟩ := HL.out
    have hw := HW.out
    have s9 : (s : Int) ≤ 1000000 := by omega
    have r9 : (r : Int) ≤ 1000000 := by omega
    by_cases hlt : s < r
    · have h1I : (s : Int) < (r : Int) := by omega
      obtain ⟨c, hce⟩ : ∃ q, q = (s + r) / 2 := ⟨_, rfl⟩
      have zc : ((s : Int) + (r : Int)) / 2 = (c : Int) := by omega
      obtain ⟨d, hde⟩ : ∃ q, q = pp - c := ⟨_, rfl⟩
      have zd : (pp : Int) - (c : Int) = (d : Int) := by omega
      have zdw : IntKind.i64.wrap ((pp : Int) - (c : Int)) = (d : Int) := by rw [IntKind.wrap_i64]; omega
      have rd : IntKind.i64.wrap (d : Int) = (d : Int) := by rw [IntKind.wrap_i64]; omega
      have pd : (0 : Int) ≤ (d : Int) := by omega
      have ed : ((d : Int)).toNat = d := by omega
      have hcX : c - a < X.length := by omega
      have hdY : mid - 1 - c < Y.length := by omega
      have hM := HM.out.below HB.out
      rw [split_xy hcX hdY] at hM
      have hi1 : c = (A ++ X.take (c - a)).length := by simp; omega
      have hj1 : d = (A ++ X.take (c - a)).length + 1 + (X.drop (c - a + 1) ++ Y.take (mid - 1 - c)).length := by simp; omega
      obtain ⟨c1, c2⟩ := hM.two hi1 hj1
      have hgl := hM.lt
      have lc : (c : Int) < (N : Int) := by omega
      have ld : (d : Int) < (N : Int) := by omega
      have c9 : (c : Int) ≤ 1000000 := by omega
      have d9 : (d : Int) ≤ 1000000 := by omega
      have hV := Lib.hid hM.vals2
      have HIy : Hid (X[c - a].ix < Y[mid - 1 - c].ix) := HT.out _ (List.getElem_mem hcX) _ (List.getElem_mem hdY)
      have HR : Hid (s ≤ c ∧ c < r) := ⟨by omega, by omega⟩
      have HXc : Hid (∀ (q : Nat) (v : q < X.length), q = c - a → X[q] = X[c - a]) := fun q v e => by subst e; rfl
      have HYd : Hid (∀ (q : Nat) (v : q < Y.length), q = mid - 1 - c → Y[q] = Y[mid - 1 - c]) := fun q v e => by subst e; rfl
      have hC : Hid (∀ W, Below wr.heap.size wr W → Calls Try.prog 47 #[Y[mid - 1 - c].hv, X[c - a].hv] W fun e w' => e = .returned (.int .i64 (rcmp Y[mid - 1 - c].vs X[c - a].vs)) ∧ Below W.heap.size W w') := fun W hb => tcmp_any (hV.out.2.below hb) (hV.out.1.below hb)
      obtain ⟨cn, hcn⟩ : ∃ q, q = c + 1 := ⟨_, rfl⟩
      have zcn : (c : Int) + 1 = (cn : Int) := by omega
      have cn9 : (cn : Int) ≤ 1000001 := by omega
      have HCN := Lib.hid hcn
      generalize X[c - a] = x at *
      generalize Y[mid - 1 - c] = y at *
      clear e1 e2 e3 l1 l2 l3 l4 l5 l6 l7 l8 l9 hw hce hde hlt hcX hdY hM hi1 hj1 hcn zp
      by_cases hc : rcmp y.vs x.vs < 0
      · have hcI : decide (rcmp y.vs x.vs < 0) = true := decide_eq_true hc
        have HRL : Hid (rlt y x) := rlt_of_lt hc
        go_wp2_with fail
        go_region_held3 (fun w' => w'.cell? ⟨g, c, none⟩ = some x.hv ∧ w'.cell? ⟨g, d, none⟩ = some y.hv ∧ g < w'.heap.size ∧ Below wr.heap.size wr w')
          (first | assumption | exact two_keep (by assumption) hbN | exact ⟨c1, c2, hgl, (Below.refl _ _).drew⟩)
          (first
            | (go_at_call 47; refine (hC.out _ (by go_split_ands; assumption)).mono ?_; rintro e w' ⟨rfl, hbN⟩)
            | (go_at_fn 47; refine (hC.out _ (by go_split_ands; assumption)).mono ?_; rintro e w' ⟨rfl, hbN⟩))
        go_split_ands
        rename_i y0 y1 y2 y3
        have HB2 := Lib.hid (HB.out.trans (y3.mono HB.out.size))
        clear y0 y1 y2 y3 c1 c2 hC hV
        go_wp2
        go_roundw
        case rel =>
          have r1 := HR.out
          have r2 := HI0.out
          exact ⟨s, c, rfl, rfl, ⟨by omega, by omega, by omega⟩, HP.out, fun u v1 v2 => by rw [HYd.out _ v1 rfl, HXc.out _ v2 rfl]; exact HRL.out, HB2⟩
        case measure => have r1 := HR.out; simp [intOf]; omega
      · have hcI : decide (rcmp y.vs x.vs < 0) = false := decide_eq_false hc
        have HRL : Hid (rlt x y) := rlt_of_ge HIy.out hc
        go_wp2_with fail
        go_region_held3 (fun w' => w'.cell? ⟨g, c, none⟩ = some x.hv ∧ w'.cell? ⟨g, d, none⟩ = some y.hv ∧ g < w'.heap.size ∧ Below wr.heap.size wr w')
          (first | assumption | exact two_keep (by assumption) hbN | exact ⟨c1, c2, hgl, (Below.refl _ _).drew⟩)
          (first
            | (go_at_call 47; refine (hC.out _ (by go_split_ands; assumption)).mono ?_; rintro e w' ⟨rfl, hbN⟩)
            | (go_at_fn 47; refine (hC.out _ (by go_split_ands; assumption)).mono ?_; rintro e w' ⟨rfl, hbN⟩))
        go_split_ands
        rename_i y0 y1 y2 y3
        have HB2 := Lib.hid (HB.out.trans (y3.mono HB.out.size))
        clear y0 y1 y2 y3 c1 c2 hC hV
        go_wp2
        go_roundw
        case rel =>
          have r1 := HR.out
          have r2 := HI0.out
          have r3 := HCN.out
          exact ⟨cn, r, rfl, rfl, ⟨by omega, by omega, by omega⟩, fun u v1 v2 => by rw [HXc.out _ v1 (by omega), HYd.out _ v2 (by omega)]; exact HRL.out, HQ.out, HB2⟩
        case measure => have r1 := HR.out; have r3 := HCN.out; simp [intOf]; omega
    · have h1I : ¬ (s : Int) < (r : Int) := by omega
      obtain rfl : s = r := by omega
      obtain ⟨i, hi⟩ : ∃ q, q = s - a := ⟨_, rfl⟩
      obtain ⟨j, hj⟩ : ∃ q, q = mid - s := ⟨_, rfl⟩
      obtain ⟨en, hen⟩ : ∃ q, q = nn - s := ⟨_, rfl⟩
      have zen : (nn : Int) - (s : Int) = (en : Int) := by omega
      have en9 : (en : Int) ≤ 2000000 := by omega
      have hiX : i ≤ X.length := by omega
      have hjY : j ≤ Y.length := by omega
      have HC1 : Hid (∀ (u : 0 < i) (v : j < Y.length) (v' : i - 1 < X.length), rlt X[i - 1] Y[j]) := fun u v v' => by
        subst hi hj
        exact HP.out (by omega) v' v
      have HC2 : Hid (∀ (u : i < X.length) (v : 0 < j) (v' : j - 1 < Y.length), rlt Y[j - 1] X[i]) := fun u v v' => by
        subst hi hj
        have := HQ.out (by omega) (by omega) u
        have e : mid - 1 - s = mid - s - 1 := by omega
        simpa only [e] using this
      have HS : Hid (s = a + i ∧ en = m + j ∧ mid = s + j ∧ i ≤ X.length ∧ j ≤ Y.length) := ⟨by omega, by omega, by omega, hiX, hjY⟩
      have HEX : Hid (X = X.take i ++ X.drop i) := (List.take_append_drop i X).symm
      have HEY : Hid (Y = Y.take j ++ Y.drop j) := (List.take_append_drop j Y).symm
      have HM0 : Hid (Mat wr g cap ((A ++ X.take i) ++ X.drop i ++ Y.take j ++ (Y.drop j ++ C))) := by
        have := HM.out.below HB.out
        have e : A ++ X ++ Y ++ C = (A ++ X.take i) ++ X.drop i ++ Y.take j ++ (Y.drop j ++ C) := by
          have h1 : A ++ X ++ Y ++ C = A ++ (X.take i ++ X.drop i) ++ (Y.take j ++ Y.drop j) ++ C := by rw [List.take_append_drop, List.take_append_drop]
          rw [h1]; simp only [List.append_assoc]
        show Mat wr g cap _
        rw [← e]
        exact this
      have HO0 : Hid (Only g w wr) := Only.of_below HB.out
      have hrot : (s < m ∧ m < en) ∨ (s < m ∧ ¬ m < en) ∨ ¬ s < m := by omega
      have hs1 : (a < s ∧ s < mid) ∨ (a < s ∧ ¬ s < mid) ∨ ¬ a < s := by omega
      have hs2 : (mid < en ∧ en < b) ∨ (mid < en ∧ ¬ en < b) ∨ ¬ mid < en := by omega
      have l12 : (X.take i).length = i := by simp; omega
      have l34 : (Y.take j).length = j := by simp; omega
      have HLen : Hid ((X.take i).length = i ∧ (Y.take j).length = j ∧ (X.drop i).length + i = X.length ∧ (Y.drop j).length + j = Y.length) := ⟨l12, l34, by simp; omega, by simp; omega⟩
      clear l1 l2 l3 l4 l5 l6 l7 l8 l9 hw e1 e2 e3 hi hj hen HP HQ HI0 HB HM hlt l12 l34 hiX hjY
      rcases hrot with ⟨g1, g2⟩ | ⟨g1, g2⟩ | g1
      · have G1 : (s : Int) < (m : Int) := by omega
        have G2 : (m : Int) < (en : Int) := by omega
        have hRo := Lib.hid (rotate_any (.func (.func 47) #[] #[]) (a := s) (m := m) (b := en) (N := N) HM0.out (by have q1 := HS.out; have q2 := HL.out; have q3 := HLen.out; simp only [List.length_append]; omega) (by have q1 := HS.out; have q2 := HL.out; have q3 := HLen.out; omega) (by have q1 := HS.out; have q2 := HL.out; have q3 := HLen.out; omega) (by have q1 := HS.out; have q2 := HL.out; have q3 := HLen.out; simp only [List.length_append]; omega) (by have q1 := HS.out; have q2 := HL.out; have q3 := HLen.out; omega) (by have q1 := HS.out; have q2 := HL.out; have q3 := HLen.out; omega) (by omega))
        go_wp2_with fail
        refine (hRo.out).mono ?_
        rintro e w1 ⟨rfl, ho, hm1⟩
        have HO1 := Lib.hid (HO0.out.trans ho)
        have HM1 : Hid (Mat w1 g cap (A ++ X.take i ++ Y.take j ++ (X.drop i ++ Y.drop j ++ C))) := by
          show Mat w1 g cap _
          simp only [List.append_assoc] at hm1 ⊢
          exact hm1
        clear ho hm1 hRo HM0 HO0
        rcases hs1 with ⟨g3, g4⟩ | ⟨g3, g4⟩ | g3
        · have G3 : (a : Int) < (s : Int) := by omega
          have G4 : (s : Int) < (mid : Int) := by omega
          have hS1 := Lib.hid (HIH.out w1 a s mid A (X.take i) (Y.take j) (X.drop i ++ Y.drop j ++ C) (by have q1 := HS.out; have q2 := HL.out; have q3 := HLen.out; omega) HM1.out (by have q1 := HS.out; have q2 := HL.out; have q3 := HLen.out; omega) (by have q1 := HS.out; have q2 := HL.out; have q3 := HLen.out; omega) (by have q1 := HS.out; have q2 := HL.out; have q3 := HLen.out; omega) (by have q1 := HS.out; have q2 := HL.out; have q3 := HLen.out; simp only [List.length_append]; omega) (HX.out.take i) (HY.out.take j) (fun x hx y hy => HT.out x (List.mem_of_mem_take hx) y (List.mem_of_mem_take hy)) (by have q1 := HS.out; have q2 := HL.out; have q3 := HLen.out; omega) (by have q1 := HS.out; have q2 := HL.out; have q3 := HLen.out; omega))
          go_wp2_with fail
          refine (hS1.out).mono ?_
          rintro e w2 ⟨rfl, ho, Z1, p1, u1, hm2⟩
          have HO2 := Lib.hid (HO1.out.trans ho)
          have HM2 := Lib.hid hm2
          have HP1 := Lib.hid p1
          have HU1 := Lib.hid u1
          clear ho hm2 hS1 HM1 HO1 p1 u1
          rcases hs2 with ⟨g5, g6⟩ | ⟨g5, g6⟩ | g5
          · have G5 : (mid : Int) < (en : Int) := by omega
            have G6 : (en : Int) < (b : Int) := by omega
            have hS2 := Lib.hid (HIH.out w2 mid en b (A ++ Z1) (X.drop i) (Y.drop j) C (by have q1 := HS.out; have q2 := HL.out; have q3 := HLen.out; omega) (by have := HM2.out; simp only [List.append_assoc] at this ⊢; exact this) (by have q1 := HS.out; have q2 := HL.out; have q3 := HLen.out; have q4 := HP1.out.length_eq; rw [List.length_append] at q4; simp only [List.length_append]; omega) (by have q1 := HS.out; have q2 := HL.out; have q3 := HLen.out; omega) (by have q1 := HS.out; have q2 := HL.out; have q3 := HLen.out; omega) (by have q1 := HS.out; have q2 := HL.out; have q3 := HLen.out; omega) (HX.out.drop i) (HY.out.drop j) (fun x hx y hy => HT.out x (List.mem_of_mem_drop hx) y (List.mem_of_mem_drop hy)) (by have q1 := HS.out; have q2 := HL.out; have q3 := HLen.out; omega) (by have q1 := HS.out; have q2 := HL.out; have q3 := HLen.out; omega))
            go_wp2_with fail
            refine (hS2.out).mono ?_
            rintro e w3 ⟨rfl, ho, Z2, p2, u2, hm3⟩
            have HO3 := Lib.hid (HO2.out.trans ho)
            have HM3 := Lib.hid hm3
            have HP2 := Lib.hid p2
            have HU2 := Lib.hid u2
            clear ho hm3 hS2 HM2 HO2 p2 u2
            go_wp2
            refine bodyPost_end (results_none rfl _ _ _) rfl ?_
            obtain ⟨f1, f2⟩ := merge_halves HX.out HY.out (by have q1 := HS.out; have q2 := HL.out; have q3 := HLen.out; omega) (by have q1 := HS.out; have q2 := HL.out; have q3 := HLen.out; omega) (fun u v => HC1.out u v (by have q1 := HS.out; have q2 := HL.out; have q3 := HLen.out; omega)) (fun u v => HC2.out u v (by have q1 := HS.out; have q2 := HL.out; have q3 := HLen.out; omega)) HP1.out HU1.out HP2.out HU2.out
            exact SymOut.mk HO3.out f2 f1 (by have := HM3.out; simp only [List.append_assoc] at this ⊢; exact this)
          · have G5 : (mid : Int) < (en : Int) := by omega
            have G6 : ¬ (en : Int) < (b : Int) := by omega
            obtain ⟨Z2, hZ2⟩ : ∃ Z, Z = X.drop i ++ Y.drop j := ⟨_, rfl⟩
            have HU2 : Hid (Up Z2) := by
              have e : Y.drop j = [] := List.eq_nil_of_length_eq_zero (by have q1 := HS.out; have q2 := HL.out; have q3 := HLen.out; omega)
              show Up Z2
              rw [hZ2, e, List.append_nil]
              exact HX.out.drop i
            have HP2 : Hid (Z2.Perm (X.drop i ++ Y.drop j)) := by show List.Perm _ _; rw [hZ2]
            have HM3 : Hid (Mat w2 g cap (A ++ Z1 ++ Z2 ++ C)) := by
              show Mat w2 g cap _
              have := HM2.out
              rw [hZ2]
              simp only [List.append_assoc] at this ⊢
              exact this
            have HO3 := HO2
            clear hZ2 HM2 HO2
            go_wp2
            refine bodyPost_end (results_none rfl _ _ _) rfl ?_
            obtain ⟨f1, f2⟩ := merge_halves HX.out HY.out (by have q1 := HS.out; have q2 := HL.out; have q3 := HLen.out; omega) (by have q1 := HS.out; have q2 := HL.out; have q3 := HLen.out; omega) (fun u v => HC1.out u v (by have q1 := HS.out; have q2 := HL.out; have q3 := HLen.out; omega)) (fun u v => HC2.out u v (by have q1 := HS.out; have q2 := HL.out; have q3 := HLen.out; omega)) HP1.out HU1.out HP2.out HU2.out
            exact SymOut.mk HO3.out f2 f1 (by have := HM3.out; simp only [List.append_assoc] at this ⊢; exact this)
          · have G5 : ¬ (mid : Int) < (en : Int) := by omega
            obtain ⟨Z2, hZ2⟩ : ∃ Z, Z = X.drop i ++ Y.drop j := ⟨_, rfl⟩
            have HU2 : Hid (Up Z2) := by
              have e : X.drop i = [] := List.eq_nil_of_length_eq_zero (by have q1 := HS.out; have q2 := HL.out; have q3 := HLen.out; omega)
              show Up Z2
              rw [hZ2, e, List.nil_append]
              exact HY.out.drop j
            have HP2 : Hid (Z2.Perm (X.drop i ++ Y.drop j)) := by show List.Perm _ _; rw [hZ2]
            have HM3 : Hid (Mat w2 g cap (A ++ Z1 ++ Z2 ++ C)) := by
              show Mat w2 g cap _
              have := HM2.out
              rw [hZ2]
              simp only [List.append_assoc] at this ⊢
              exact this
            have HO3 := HO2
            clear hZ2 HM2 HO2
            go_wp2
            refine bodyPost_end (results_none rfl _ _ _) rfl ?_
            obtain ⟨f1, f2⟩ := merge_halves HX.out HY.out (by have q1 := HS.out; have q2 := HL.out; have q3 := HLen.out; omega) (by have q1 := HS.out; have q2 := HL.out; have q3 := HLen.out; omega) (fun u v => HC1.out u v (by have q1 := HS.out; have q2 := HL.out; have q3 := HLen.out; omega)) (fun u v => HC2.out u v (by have q1 := HS.out; have q2 := HL.out; have q3 := HLen.out; omega)) HP1.out HU1.out HP2.out HU2.out
            exact SymOut.mk HO3.out f2 f1 (by have := HM3.out; simp only [List.append_assoc] at this ⊢; exact this)
        · have G3 : (a : Int) < (s : Int) := by omega
          have G4 : ¬ (s : Int) < (mid : Int) := by omega
          obtain ⟨Z1, hZ1⟩ : ∃ Z, Z = X.take i ++ Y.take j := ⟨_, rfl⟩
          have HU1 : Hid (Up Z1) := by
            have e : Y.take j = [] := List.eq_nil_of_length_eq_zero (by have q1 := HS.out; have q2 := HL.out; have q3 := HLen.out; omega)
            show Up Z1
            rw [hZ1, e, List.append_nil]
            exact HX.out.take i
          have HP1 : Hid (Z1.Perm (X.take i ++ Y.take j)) := by show List.Perm _ _; rw [hZ1]
          have HM2 : Hid (Mat w1 g cap (A ++ Z1 ++ (X.drop i ++ Y.drop j ++ C))) := by
            show Mat w1 g cap _
            have := HM1.out
            rw [hZ1]
            simp only [List.append_assoc] at this ⊢
            exact this
          have HO2 := HO1
          clear hZ1 HM1 HO1
          rcases hs2 with ⟨g5, g6⟩ | ⟨g5, g6⟩ | g5
          · have G5 : (mid : Int) < (en : Int) := by omega
            have G6 : (en : Int) < (b : Int) := by omega
            have hS2 := Lib.hid (HIH.out w1 mid en b (A ++ Z1) (X.drop i) (Y.drop j) C (by have q1 := HS.out; have q2 := HL.out; have q3 := HLen.out; omega) (by have := HM2.out; simp only [List.append_assoc] at this ⊢; exact this) (by have q1 := HS.out; have q2 := HL.out; have q3 := HLen.out; have q4 := HP1.out.length_eq; rw [List.length_append] at q4; simp only [List.length_append]; omega) (by have q1 := HS.out; have q2 := HL.out; have q3 := HLen.out; omega) (by have q1 := HS.out; have q2 := HL.out; have q3 := HLen.out; omega) (by have q1 := HS.out; have q2 := HL.out; have q3 := HLen.out; omega) (HX.out.drop i) (HY.out.drop j) (fun x hx y hy => HT.out x (List.mem_of_mem_drop hx) y (List.mem_of_mem_drop hy)) (by have q1 := HS.out; have q2 := HL.out; have q3 := HLen.out; omega) (by have q1 := HS.out; have q2 := HL.out; have q3 := HLen.out; omega))
            go_wp2_with fail
            refine (hS2.out).mono ?_
            rintro e w3 ⟨rfl, ho, Z2, p2, u2, hm3⟩
            have HO3 := Lib.hid (HO2.out.trans ho)
            have HM3 := Lib.hid hm3
            have HP2 := Lib.hid p2
            have HU2 := Lib.hid u2
            clear ho hm3 hS2 HM2 HO2 p2 u2
            go_wp2
            refine bodyPost_end (results_none rfl _ _ _) rfl ?_
            obtain ⟨f1, f2⟩ := merge_halves HX.out HY.out (by have q1 := HS.out; have q2 := HL.out; have q3 := HLen.out; omega) (by have q1 := HS.out; have q2 := HL.out; have q3 := HLen.out; omega) (fun u v => HC1.out u v (by have q1 := HS.out; have q2 := HL.out; have q3 := HLen.out; omega)) (fun u v => HC2.out u v (by have q1 := HS.out; have q2 := HL.out; have q3 := HLen.out; omega)) HP1.out HU1.out HP2.out HU2.out
            exact SymOut.mk HO3.out f2 f1 (by have := HM3.out; simp only [List.append_assoc] at this ⊢; exact this)
          · have G5 : (mid : Int) < (en : Int) := by omega
            have G6 : ¬ (en : Int) < (b : Int) := by omega
            obtain ⟨Z2, hZ2⟩ : ∃ Z, Z = X.drop i ++ Y.drop j := ⟨_, rfl⟩
            have HU2 : Hid (Up Z2) := by
              have e : Y.drop j = [] := List.eq_nil_of_length_eq_zero (by have q1 := HS.out; have q2 := HL.out; have q3 := HLen.out; omega)
              show Up Z2
              rw [hZ2, e, List.append_nil]
              exact HX.out.drop i
            have HP2 : Hid (Z2.Perm (X.drop i ++ Y.drop j)) := by show List.Perm _ _; rw [hZ2]
            have HM3 : Hid (Mat w1 g cap (A ++ Z1 ++ Z2 ++ C)) := by
              show Mat w1 g cap _
              have := HM2.out
              rw [hZ2]
              simp only [List.append_assoc] at this ⊢
              exact this
            have HO3 := HO2
            clear hZ2 HM2 HO2
            go_wp2
            refine bodyPost_end (results_none rfl _ _ _) rfl ?_
            obtain ⟨f1, f2⟩ := merge_halves HX.out HY.out (by have q1 := HS.out; have q2 := HL.out; have q3 := HLen.out; omega) (by have q1 := HS.out; have q2 := HL.out; have q3 := HLen.out; omega) (fun u v => HC1.out u v (by have q1 := HS.out; have q2 := HL.out; have q3 := HLen.out; omega)) (fun u v => HC2.out u v (by have q1 := HS.out; have q2 := HL.out; have q3 := HLen.out; omega)) HP1.out HU1.out HP2.out HU2.out
            exact SymOut.mk HO3.out f2 f1 (by have := HM3.out; simp only [List.append_assoc] at this ⊢; exact this)
          · have G5 : ¬ (mid : Int) < (en : Int) := by omega
            obtain ⟨Z2, hZ2⟩ : ∃ Z, Z = X.drop i ++ Y.drop j := ⟨_, rfl⟩
            have HU2 : Hid (Up Z2) := by
              have e : X.drop i = [] := List.eq_nil_of_length_eq_zero (by have q1 := HS.out; have q2 := HL.out; have q3 := HLen.out; omega)
              show Up Z2
              rw [hZ2, e, List.nil_append]
              exact HY.out.drop j
            have HP2 : Hid (Z2.Perm (X.drop i ++ Y.drop j)) := by show List.Perm _ _; rw [hZ2]
            have HM3 : Hid (Mat w1 g cap (A ++ Z1 ++ Z2 ++ C)) := by
              show Mat w1 g cap _
              have := HM2.out
              rw [hZ2]
              simp only [List.append_assoc] at this ⊢
              exact this
            have HO3 := HO2
            clear hZ2 HM2 HO2
            go_wp2
            refine bodyPost_end (results_none rfl _ _ _) rfl ?_
            obtain ⟨f1, f2⟩ := merge_halves HX.out HY.out (by have q1 := HS.out; have q2 := HL.out; have q3 := HLen.out; omega) (by have q1 := HS.out; have q2 := HL.out; have q3 := HLen.out; omega) (fun u v => HC1.out u v (by have q1 := HS.out; have q2 := HL.out; have q3 := HLen.out; omega)) (fun u v => HC2.out u v (by have q1 := HS.out; have q2 := HL.out; have q3 := HLen.out; omega)) HP1.out HU1.out HP2.out HU2.out
            exact SymOut.mk HO3.out f2 f1 (by have := HM3.out; simp only [List.append_assoc] at this ⊢; exact this)
        · have G3 : ¬ (a : Int) < (s : Int) := by omega
          obtain ⟨Z1, hZ1⟩ : ∃ Z, Z = X.take i ++ Y.take j := ⟨_, rfl⟩
          have HU1 : Hid (Up Z1) := by
            have e : X.take i = [] := List.eq_nil_of_length_eq_zero (by have q1 := HS.out; have q2 := HL.out; have q3 := HLen.out; omega)
            show Up Z1
            rw [hZ1, e, List.nil_append]
            exact HY.out.take j
          have HP1 : Hid (Z1.Perm (X.take i ++ Y.take j)) := by show List.Perm _ _; rw [hZ1]
          have HM2 : Hid (Mat w1 g cap (A ++ Z1 ++ (X.drop i ++ Y.drop j ++ C))) := by
            show Mat w1 g cap _
            have := HM1.out
            rw [hZ1]
            simp only [List.append_assoc] at this ⊢
            exact this
          have HO2 := HO1
          clear hZ1 HM1 HO1
          rcases hs2 with ⟨g5, g6⟩ | ⟨g5, g6⟩ | g5
          · have G5 : (mid : Int) < (en : Int) := by omega
            have G6 : (en : Int) < (b : Int) := by omega
            have hS2 := Lib.hid (HIH.out w1 mid en b (A ++ Z1) (X.drop i) (Y.drop j) C (by have q1 := HS.out; have q2 := HL.out; have q3 := HLen.out; omega) (by have := HM2.out; simp only [List.append_assoc] at this ⊢; exact this) (by have q1 := HS.out; have q2 := HL.out; have q3 := HLen.out; have q4 := HP1.out.length_eq; rw [List.length_append] at q4; simp only [List.length_append]; omega) (by have q1 := HS.out; have q2 := HL.out; have q3 := HLen.out; omega) (by have q1 := HS.out; have q2 := HL.out; have q3 := HLen.out; omega) (by have q1 := HS.out; have q2 := HL.out; have q3 := HLen.out; omega) (HX.out.drop i) (HY.out.drop j) (fun x hx y hy => HT.out x (List.mem_of_mem_drop hx) y (List.mem_of_mem_drop hy)) (by have q1 := HS.out; have q2 := HL.out; have q3 := HLen.out; omega) (by have q1 := HS.out; have q2 := HL.out; have q3 := HLen.out; omega))
            go_wp2_with fail
            refine (hS2.out).mono ?_
            rintro e w3 ⟨rfl, ho, Z2, p2, u2, hm3⟩
            have HO3 := Lib.hid (HO2.out.trans ho)
            have HM3 := Lib.hid hm3
            have HP2 := Lib.hid p2
            have HU2 := Lib.hid u2
            clear ho hm3 hS2 HM2 HO2 p2 u2
            go_wp2
            refine bodyPost_end (results_none rfl _ _ _) rfl ?_
            obtain ⟨f1, f2⟩ := merge_halves HX.out HY.out (by have q1 := HS.out; have q2 := HL.out; have q3 := HLen.out; omega) (by have q1 := HS.out; have q2 := HL.out; have q3 := HLen.out; omega) (fun u v => HC1.out u v (by have q1 := HS.out; have q2 := HL.out; have q3 := HLen.out; omega)) (fun u v => HC2.out u v (by have q1 := HS.out; have q2 := HL.out; have q3 := HLen.out; omega)) HP1.out HU1.out HP2.out HU2.out
            exact SymOut.mk HO3.out f2 f1 (by have := HM3.out; simp only [List.append_assoc] at this ⊢; exact this)
          · have G5 : (mid : Int) < (en : Int) := by omega
            have G6 : ¬ (en : Int) < (b : Int) := by omega
            obtain ⟨Z2, hZ2⟩ : ∃ Z, Z = X.drop i ++ Y.drop j := ⟨_, rfl⟩
            have HU2 : Hid (Up Z2) := by
              have e : Y.drop j = [] := List.eq_nil_of_length_eq_zero (by have q1 := HS.out; have q2 := HL.out; have q3 := HLen.out; omega)
              show Up Z2
              rw [hZ2, e, List.append_nil]
              exact HX.out.drop i
            have HP2 : Hid (Z2.Perm (X.drop i ++ Y.drop j)) := by show List.Perm _ _; rw [hZ2]
            have HM3 : Hid (Mat w1 g cap (A ++ Z1 ++ Z2 ++ C)) := by
              show Mat w1 g cap _
              have := HM2.out
              rw [hZ2]
              simp only [List.append_assoc] at this ⊢
              exact this
            have HO3 := HO2
            clear hZ2 HM2 HO2
            go_wp2
            refine bodyPost_end (results_none rfl _ _ _) rfl ?_
            obtain ⟨f1, f2⟩ := merge_halves HX.out HY.out (by have q1 := HS.out; have q2 := HL.out; have q3 := HLen.out; omega) (by have q1 := HS.out; have q2 := HL.out; have q3 := HLen.out; omega) (fun u v => HC1.out u v (by have q1 := HS.out; have q2 := HL.out; have q3 := HLen.out; omega)) (fun u v => HC2.out u v (by have q1 := HS.out; have q2 := HL.out; have q3 := HLen.out; omega)) HP1.out HU1.out HP2.out HU2.out
            exact SymOut.mk HO3.out f2 f1 (by have := HM3.out; simp only [List.append_assoc] at this ⊢; exact this)
          · have G5 : ¬ (mid : Int) < (en : Int) := by omega
            obtain ⟨Z2, hZ2⟩ : ∃ Z, Z = X.drop i ++ Y.drop j := ⟨_, rfl⟩
            have HU2 : Hid (Up Z2) := by
              have e : X.drop i = [] := List.eq_nil_of_length_eq_zero (by have q1 := HS.out; have q2 := HL.out; have q3 := HLen.out; omega)
              show Up Z2
              rw [hZ2, e, List.nil_append]
              exact HY.out.drop j
            have HP2 : Hid (Z2.Perm (X.drop i ++ Y.drop j)) := by show List.Perm _ _; rw [hZ2]
            have HM3 : Hid (Mat w1 g cap (A ++ Z1 ++ Z2 ++ C)) := by
              show Mat w1 g cap _
              have := HM2.out
              rw [hZ2]
              simp only [List.append_assoc] at this ⊢
              exact this
            have HO3 := HO2
            clear hZ2 HM2 HO2
            go_wp2
            refine bodyPost_end (results_none rfl _ _ _) rfl ?_
            obtain ⟨f1, f2⟩ := merge_halves HX.out HY.out (by have q1 := HS.out; have q2 := HL.out; have q3 := HLen.out; omega) (by have q1 := HS.out; have q2 := HL.out; have q3 := HLen.out; omega) (fun u v => HC1.out u v (by have q1 := HS.out; have q2 := HL.out; have q3 := HLen.out; omega)) (fun u v => HC2.out u v (by have q1 := HS.out; have q2 := HL.out; have q3 := HLen.out; omega)) HP1.out HU1.out HP2.out HU2.out
            exact SymOut.mk HO3.out f2 f1 (by have := HM3.out; simp only [List.append_assoc] at this ⊢; exact this)
      · have G1 : (s : Int) < (m : Int) := by omega
        have G2 : ¬ (m : Int) < (en : Int) := by omega
        have HM1 : Hid (Mat wr g cap (A ++ X.take i ++ Y.take j ++ (X.drop i ++ Y.drop j ++ C))) := by
          have e : Y.take j = [] := List.eq_nil_of_length_eq_zero (by have q1 := HS.out; have q2 := HL.out; have q3 := HLen.out; omega)
          have := HM0.out
          show Mat wr g cap _
          rw [e] at this ⊢
          simp only [List.append_assoc, List.nil_append] at this ⊢
          exact this
        have HO1 := HO0
        clear HM0 HO0
        rcases hs1 with ⟨g3, g4⟩ | ⟨g3, g4⟩ | g3
        · have G3 : (a : Int) < (s : Int) := by omega
          have G4 : (s : Int) < (mid : Int) := by omega
          have hS1 := Lib.hid (HIH.out wr a s mid A (X.take i) (Y.take j) (X.drop i ++ Y.drop j ++ C) (by have q1 := HS.out; have q2 := HL.out; have q3 := HLen.out; omega) HM1.out (by have q1 := HS.out; have q2 := HL.out; have q3 := HLen.out; omega) (by have q1 := HS.out; have q2 := HL.out; have q3 := HLen.out; omega) (by have q1 := HS.out; have q2 := HL.out; have q3 := HLen.out; omega) (by have q1 := HS.out; have q2 := HL.out; have q3 := HLen.out; simp only [List.length_append]; omega) (HX.out.take i) (HY.out.take j) (fun x hx y hy => HT.out x (List.mem_of_mem_take hx) y (List.mem_of_mem_take hy)) (by have q1 := HS.out; have q2 := HL.out; have q3 := HLen.out; omega) (by have q1 := HS.out; have q2 := HL.out; have q3 := HLen.out; omega))
          go_wp2_with fail
          refine (hS1.out).mono ?_
          rintro e w2 ⟨rfl, ho, Z1, p1, u1, hm2⟩
          have HO2 := Lib.hid (HO1.out.trans ho)
          have HM2 := Lib.hid hm2
          have HP1 := Lib.hid p1
          have HU1 := Lib.hid u1
          clear ho hm2 hS1 HM1 HO1 p1 u1
          rcases hs2 with ⟨g5, g6⟩ | ⟨g5, g6⟩ | g5
          · have G5 : (mid : Int) < (en : Int) := by omega
            have G6 : (en : Int) < (b : Int) := by omega
            have hS2 := Lib.hid (HIH.out w2 mid en b (A ++ Z1) (X.drop i) (Y.drop j) C (by have q1 := HS.out; have q2 := HL.out; have q3 := HLen.out; omega) (by have := HM2.out; simp only [List.append_assoc] at this ⊢; exact this) (by have q1 := HS.out; have q2 := HL.out; have q3 := HLen.out; have q4 := HP1.out.length_eq; rw [List.length_append] at q4; simp only [List.length_append]; omega) (by have q1 := HS.out; have q2 := HL.out; have q3 := HLen.out; omega) (by have q1 := HS.out; have q2 := HL.out; have q3 := HLen.out; omega) (by have q1 := HS.out; have q2 := HL.out; have q3 := HLen.out; omega) (HX.out.drop i) (HY.out.drop j) (fun x hx y hy => HT.out x (List.mem_of_mem_drop hx) y (List.mem_of_mem_drop hy)) (by have q1 := HS.out; have q2 := HL.out; have q3 := HLen.out; omega) (by have q1 := HS.out; have q2 := HL.out; have q3 := HLen.out; omega))
            go_wp2_with fail
            refine (hS2.out).mono ?_
            rintro e w3 ⟨rfl, ho, Z2, p2, u2, hm3⟩
            have HO3 := Lib.hid (HO2.out.trans ho)
            have HM3 := Lib.hid hm3
            have HP2 := Lib.hid p2
            have HU2 := Lib.hid u2
            clear ho hm3 hS2 HM2 HO2 p2 u2
            go_wp2
            refine bodyPost_end (results_none rfl _ _ _) rfl ?_
            obtain ⟨f1, f2⟩ := merge_halves HX.out HY.out (by have q1 := HS.out; have q2 := HL.out; have q3 := HLen.out; omega) (by have q1 := HS.out; have q2 := HL.out; have q3 := HLen.out; omega) (fun u v => HC1.out u v (by have q1 := HS.out; have q2 := HL.out; have q3 := HLen.out; omega)) (fun u v => HC2.out u v (by have q1 := HS.out; have q2 := HL.out; have q3 := HLen.out; omega)) HP1.out HU1.out HP2.out HU2.out
            exact SymOut.mk HO3.out f2 f1 (by have := HM3.out; simp only [List.append_assoc] at this ⊢; exact this)
          · have G5 : (mid : Int) < (en : Int) := by omega
            have G6 : ¬ (en : Int) < (b : Int) := by omega
            obtain ⟨Z2, hZ2⟩ : ∃ Z, Z = X.drop i ++ Y.drop j := ⟨_, rfl⟩
            have HU2 : Hid (Up Z2) := by
              have e : Y.drop j = [] := List.eq_nil_of_length_eq_zero (by have q1 := HS.out; have q2 := HL.out; have q3 := HLen.out; omega)
              show Up Z2
              rw [hZ2, e, List.append_nil]
              exact HX.out.drop i
            have HP2 : Hid (Z2.Perm (X.drop i ++ Y.drop j)) := by show List.Perm _ _; rw [hZ2]
            have HM3 : Hid (Mat w2 g cap (A ++ Z1 ++ Z2 ++ C)) := by
              show Mat w2 g cap _
              have := HM2.out
              rw [hZ2]
              simp only [List.append_assoc] at this ⊢
              exact this
            have HO3 := HO2
            clear hZ2 HM2 HO2
            go_wp2
            refine bodyPost_end (results_none rfl _ _ _) rfl ?_
            obtain ⟨f1, f2⟩ := merge_halves HX.out HY.out (by have q1 := HS.out; have q2 := HL.out; have q3 := HLen.out; omega) (by have q1 := HS.out; have q2 := HL.out; have q3 := HLen.out; omega) (fun u v => HC1.out u v (by have q1 := HS.out; have q2 := HL.out; have q3 := HLen.out; omega)) (fun u v => HC2.out u v (by have q1 := HS.out; have q2 := HL.out; have q3 := HLen.out; omega)) HP1.out HU1.out HP2.out HU2.out
            exact SymOut.mk HO3.out f2 f1 (by have := HM3.out; simp only [List.append_assoc] at this ⊢; exact this)
          · have G5 : ¬ (mid : Int) < (en : Int) := by omega
            obtain ⟨Z2, hZ2⟩ : ∃ Z, Z = X.drop i ++ Y.drop j := ⟨_, rfl⟩
            have HU2 : Hid (Up Z2) := by
              have e : X.drop i = [] := List.eq_nil_of_length_eq_zero (by have q1 := HS.out; have q2 := HL.out; have q3 := HLen.out; omega)
              show Up Z2
              rw [hZ2, e, List.nil_append]
              exact HY.out.drop j
            have HP2 : Hid (Z2.Perm (X.drop i ++ Y.drop j)) := by show List.Perm _ _; rw [hZ2]
            have HM3 : Hid (Mat w2 g cap (A ++ Z1 ++ Z2 ++ C)) := by
              show Mat w2 g cap _
              have := HM2.out
              rw [hZ2]
              simp only [List.append_assoc] at this ⊢
              exact this
            have HO3 := HO2
            clear hZ2 HM2 HO2
            go_wp2
            refine bodyPost_end (results_none rfl _ _ _) rfl ?_
            obtain ⟨f1, f2⟩ := merge_halves HX.out HY.out (by have q1 := HS.out; have q2 := HL.out; have q3 := HLen.out; omega) (by have q1 := HS.out; have q2 := HL.out; have q3 := HLen.out; omega) (fun u v => HC1.out u v (by have q1 := HS.out; have q2 := HL.out; have q3 := HLen.out; omega)) (fun u v => HC2.out u v (by have q1 := HS.out; have q2 := HL.out; have q3 := HLen.out; omega)) HP1.out HU1.out HP2.out HU2.out
            exact SymOut.mk HO3.out f2 f1 (by have := HM3.out; simp only [List.append_assoc] at this ⊢; exact this)
        · have G3 : (a : Int) < (s : Int) := by omega
          have G4 : ¬ (s : Int) < (mid : Int) := by omega
          obtain ⟨Z1, hZ1⟩ : ∃ Z, Z = X.take i ++ Y.take j := ⟨_, rfl⟩
          have HU1 : Hid (Up Z1) := by
            have e : Y.take j = [] := List.eq_nil_of_length_eq_zero (by have q1 := HS.out; have q2 := HL.out; have q3 := HLen.out; omega)
            show Up Z1
            rw [hZ1, e, List.append_nil]
            exact HX.out.take i
          have HP1 : Hid (Z1.Perm (X.take i ++ Y.take j)) := by show List.Perm _ _; rw [hZ1]
          have HM2 : Hid (Mat wr g cap (A ++ Z1 ++ (X.drop i ++ Y.drop j ++ C))) := by
            show Mat wr g cap _
            have := HM1.out
            rw [hZ1]
            simp only [List.append_assoc] at this ⊢
            exact this
          have HO2 := HO1
          clear hZ1 HM1 HO1
          rcases hs2 with ⟨g5, g6⟩ | ⟨g5, g6⟩ | g5
          · have G5 : (mid : Int) < (en : Int) := by omega
            have G6 : (en : Int) < (b : Int) := by omega
            have hS2 := Lib.hid (HIH.out wr mid en b (A ++ Z1) (X.drop i) (Y.drop j) C (by have q1 := HS.out; have q2 := HL.out; have q3 := HLen.out; omega) (by have := HM2.out; simp only [List.append_assoc] at this ⊢; exact this) (by have q1 := HS.out; have q2 := HL.out; have q3 := HLen.out; have q4 := HP1.out.length_eq; rw [List.length_append] at q4; simp only [List.length_append]; omega) (by have q1 := HS.out; have q2 := HL.out; have q3 := HLen.out; omega) (by have q1 := HS.out; have q2 := HL.out; have q3 := HLen.out; omega) (by have q1 := HS.out; have q2 := HL.out; have q3 := HLen.out; omega) (HX.out.drop i) (HY.out.drop j) (fun x hx y hy => HT.out x (List.mem_of_mem_drop hx) y (List.mem_of_mem_drop hy)) (by have q1 := HS.out; have q2 := HL.out; have q3 := HLen.out; omega) (by have q1 := HS.out; have q2 := HL.out; have q3 := HLen.out; omega))
            go_wp2_with fail
            refine (hS2.out).mono ?_
            rintro e w3 ⟨rfl, ho, Z2, p2, u2, hm3⟩
            have HO3 := Lib.hid (HO2.out.trans ho)
            have HM3 := Lib.hid hm3
            have HP2 := Lib.hid p2
            have HU2 := Lib.hid u2
            clear ho hm3 hS2 HM2 HO2 p2 u2
            go_wp2
            refine bodyPost_end (results_none rfl _ _ _) rfl ?_
            obtain ⟨f1, f2⟩ := merge_halves HX.out HY.out (by have q1 := HS.out; have q2 := HL.out; have q3 := HLen.out; omega) (by have q1 := HS.out; have q2 := HL.out; have q3 := HLen.out; omega) (fun u v => HC1.out u v (by have q1 := HS.out; have q2 := HL.out; have q3 := HLen.out; omega)) (fun u v => HC2.out u v (by have q1 := HS.out; have q2 := HL.out; have q3 := HLen.out; omega)) HP1.out HU1.out HP2.out HU2.out
            exact SymOut.mk HO3.out f2 f1 (by have := HM3.out; simp only [List.append_assoc] at this ⊢; exact this)
          · have G5 : (mid : Int) < (en : Int) := by omega
            have G6 : ¬ (en : Int) < (b : Int) := by omega
            obtain ⟨Z2, hZ2⟩ : ∃ Z, Z = X.drop i ++ Y.drop j := ⟨_, rfl⟩
            have HU2 : Hid (Up Z2) := by
              have e : Y.drop j = [] := List.eq_nil_of_length_eq_zero (by have q1 := HS.out; have q2 := HL.out; have q3 := HLen.out; omega)
              show Up Z2
              rw [hZ2, e, List.append_nil]
              exact HX.out.drop i
            have HP2 : Hid (Z2.Perm (X.drop i ++ Y.drop j)) := by show List.Perm _ _; rw [hZ2]
            have HM3 : Hid (Mat wr g cap (A ++ Z1 ++ Z2 ++ C)) := by
              show Mat wr g cap _
              have := HM2.out
              rw [hZ2]
              simp only [List.append_assoc] at this ⊢
              exact this
            have HO3 := HO2
            clear hZ2 HM2 HO2
            go_wp2
            refine bodyPost_end (results_none rfl _ _ _) rfl ?_
            obtain ⟨f1, f2⟩ := merge_halves HX.out HY.out (by have q1 := HS.out; have q2 := HL.out; have q3 := HLen.out; omega) (by have q1 := HS.out; have q2 := HL.out; have q3 := HLen.out; omega) (fun u v => HC1.out u v (by have q1 := HS.out; have q2 := HL.out; have q3 := HLen.out; omega)) (fun u v => HC2.out u v (by have q1 := HS.out; have q2 := HL.out; have q3 := HLen.out; omega)) HP1.out HU1.out HP2.out HU2.out
            exact SymOut.mk HO3.out f2 f1 (by have := HM3.out; simp only [List.append_assoc] at this ⊢; exact this)
          · have G5 : ¬ (mid : Int) < (en : Int) := by omega
            obtain ⟨Z2, hZ2⟩ : ∃ Z, Z = X.drop i ++ Y.drop j := ⟨_, rfl⟩
            have HU2 : Hid (Up Z2) := by
              have e : X.drop i = [] := List.eq_nil_of_length_eq_zero (by have q1 := HS.out; have q2 := HL.out; have q3 := HLen.out; omega)
              show Up Z2
              rw [hZ2, e, List.nil_append]
              exact HY.out.drop j
            have HP2 : Hid (Z2.Perm (X.drop i ++ Y.drop j)) := by show List.Perm _ _; rw [hZ2]
            have HM3 : Hid (Mat wr g cap (A ++ Z1 ++ Z2 ++ C)) := by
              show Mat wr g cap _
              have := HM2.out
              rw [hZ2]
              simp only [List.append_assoc] at this ⊢
              exact this
            have HO3 := HO2
            clear hZ2 HM2 HO2
            go_wp2
            refine bodyPost_end (results_none rfl _ _ _) rfl ?_
            obtain ⟨f1, f2⟩ := merge_halves HX.out HY.out (by have q1 := HS.out; have q2 := HL.out; have q3 := HLen.out; omega) (by have q1 := HS.out; have q2 := HL.out; have q3 := HLen.out; omega) (fun u v => HC1.out u v (by have q1 := HS.out; have q2 := HL.out; have q3 := HLen.out; omega)) (fun u v => HC2.out u v (by have q1 := HS.out; have q2 := HL.out; have q3 := HLen.out; omega)) HP1.out HU1.out HP2.out HU2.out
            exact SymOut.mk HO3.out f2 f1 (by have := HM3.out; simp only [List.append_assoc] at this ⊢; exact this)
        · have G3 : ¬ (a : Int) < (s : Int) := by omega
          obtain ⟨Z1, hZ1⟩ : ∃ Z, Z = X.take i ++ Y.take j := ⟨_, rfl⟩
          have HU1 : Hid (Up Z1) := by
            have e : X.take i = [] := List.eq_nil_of_length_eq_zero (by have q1 := HS.out; have q2 := HL.out; have q3 := HLen.out; omega)
            show Up Z1
            rw [hZ1, e, List.nil_append]
            exact HY.out.take j
          have HP1 : Hid (Z1.Perm (X.take i ++ Y.take j)) := by show List.Perm _ _; rw [hZ1]
          have HM2 : Hid (Mat wr g cap (A ++ Z1 ++ (X.drop i ++ Y.drop j ++ C))) := by
            show Mat wr g cap _
            have := HM1.out
            rw [hZ1]
            simp only [List.append_assoc] at this ⊢
            exact this
          have HO2 := HO1
          clear hZ1 HM1 HO1
          rcases hs2 with ⟨g5, g6⟩ | ⟨g5, g6⟩ | g5
          · have G5 : (mid : Int) < (en : Int) := by omega
            have G6 : (en : Int) < (b : Int) := by omega
            have hS2 := Lib.hid (HIH.out wr mid en b (A ++ Z1) (X.drop i) (Y.drop j) C (by have q1 := HS.out; have q2 := HL.out; have q3 := HLen.out; omega) (by have := HM2.out; simp only [List.append_assoc] at this ⊢; exact this) (by have q1 := HS.out; have q2 := HL.out; have q3 := HLen.out; have q4 := HP1.out.length_eq; rw [List.length_append] at q4; simp only [List.length_append]; omega) (by have q1 := HS.out; have q2 := HL.out; have q3 := HLen.out; omega) (by have q1 := HS.out; have q2 := HL.out; have q3 := HLen.out; omega) (by have q1 := HS.out; have q2 := HL.out; have q3 := HLen.out; omega) (HX.out.drop i) (HY.out.drop j) (fun x hx y hy => HT.out x (List.mem_of_mem_drop hx) y (List.mem_of_mem_drop hy)) (by have q1 := HS.out; have q2 := HL.out; have q3 := HLen.out; omega) (by have q1 := HS.out; have q2 := HL.out; have q3 := HLen.out; omega))
            go_wp2_with fail
            refine (hS2.out).mono ?_
            rintro e w3 ⟨rfl, ho, Z2, p2, u2, hm3⟩
            have HO3 := Lib.hid (HO2.out.trans ho)
            have HM3 := Lib.hid hm3
            have HP2 := Lib.hid p2
            have HU2 := Lib.hid u2
            clear ho hm3 hS2 HM2 HO2 p2 u2
            go_wp2
            refine bodyPost_end (results_none rfl _ _ _) rfl ?_
            obtain ⟨f1, f2⟩ := merge_halves HX.out HY.out (by have q1 := HS.out; have q2 := HL.out; have q3 := HLen.out; omega) (by have q1 := HS.out; have q2 := HL.out; have q3 := HLen.out; omega) (fun u v => HC1.out u v (by have q1 := HS.out; have q2 := HL.out; have q3 := HLen.out; omega)) (fun u v => HC2.out u v (by have q1 := HS.out; have q2 := HL.out; have q3 := HLen.out; omega)) HP1.out HU1.out HP2.out HU2.out
            exact SymOut.mk HO3.out f2 f1 (by have := HM3.out; simp only [List.append_assoc] at this ⊢; exact this)
          · have G5 : (mid : Int) < (en : Int) := by omega
            have G6 : ¬ (en : Int) < (b : Int) := by omega
            obtain ⟨Z2, hZ2⟩ : ∃ Z, Z = X.drop i ++ Y.drop j := ⟨_, rfl⟩
            have HU2 : Hid (Up Z2) := by
              have e : Y.drop j = [] := List.eq_nil_of_length_eq_zero (by have q1 := HS.out; have q2 := HL.out; have q3 := HLen.out; omega)
              show Up Z2
              rw [hZ2, e, List.append_nil]
              exact HX.out.drop i
            have HP2 : Hid (Z2.Perm (X.drop i ++ Y.drop j)) := by show List.Perm _ _; rw [hZ2]
            have HM3 : Hid (Mat wr g cap (A ++ Z1 ++ Z2 ++ C)) := by
              show Mat wr g cap _
              have := HM2.out
              rw [hZ2]
              simp only [List.append_assoc] at this ⊢
              exact this
            have HO3 := HO2
            clear hZ2 HM2 HO2
            go_wp2
            refine bodyPost_end (results_none rfl _ _ _) rfl ?_
            obtain ⟨f1, f2⟩ := merge_halves HX.out HY.out (by have q1 := HS.out; have q2 := HL.out; have q3 := HLen.out; omega) (by have q1 := HS.out; have q2 := HL.out; have q3 := HLen.out; omega) (fun u v => HC1.out u v (by have q1 := HS.out; have q2 := HL.out; have q3 := HLen.out; omega)) (fun u v => HC2.out u v (by have q1 := HS.out; have q2 := HL.out; have q3 := HLen.out; omega)) HP1.out HU1.out HP2.out HU2.out
            exact SymOut.mk HO3.out f2 f1 (by have := HM3.out; simp only [List.append_assoc] at this ⊢; exact this)
          · have G5 : ¬ (mid : Int) < (en : Int) := by omega
            obtain ⟨Z2, hZ2⟩ : ∃ Z, Z = X.drop i ++ Y.drop j := ⟨_, rfl⟩
            have HU2 : Hid (Up Z2) := by
              have e : X.drop i = [] := List.eq_nil_of_length_eq_zero (by have q1 := HS.out; have q2 := HL.out; have q3 := HLen.out; omega)
              show Up Z2
              rw [hZ2, e, List.nil_append]
              exact HY.out.drop j
            have HP2 : Hid (Z2.Perm (X.drop i ++ Y.drop j)) := by show List.Perm _ _; rw [hZ2]
            have HM3 : Hid (Mat wr g cap (A ++ Z1 ++ Z2 ++ C)) := by
              show Mat wr g cap _
              have := HM2.out
              rw [hZ2]
              simp only [List.append_assoc] at this ⊢
              exact this
            have HO3 := HO2
            clear hZ2 HM2 HO2
            go_wp2
            refine bodyPost_end (results_none rfl _ _ _) rfl ?_
            obtain ⟨f1, f2⟩ := merge_halves HX.out HY.out (by have q1 := HS.out; have q2 := HL.out; have q3 := HLen.out; omega) (by have q1 := HS.out; have q2 := HL.out; have q3 := HLen.out; omega) (fun u v => HC1.out u v (by have q1 := HS.out; have q2 := HL.out; have q3 := HLen.out; omega)) (fun u v => HC2.out u v (by have q1 := HS.out; have q2 := HL.out; have q3 := HLen.out; omega)) HP1.out HU1.out HP2.out HU2.out
            exact SymOut.mk HO3.out f2 f1 (by have := HM3.out; simp only [List.append_assoc] at this ⊢; exact this)
      · have G1 : ¬ (s : Int) < (m : Int) := by omega
        have HM1 : Hid (Mat wr g cap (A ++ X.take i ++ Y.take j ++ (X.drop i ++ Y.drop j ++ C))) := by
          have e : X.drop i = [] := List.eq_nil_of_length_eq_zero (by have q1 := HS.out; have q2 := HL.out; have q3 := HLen.out; omega)
          have := HM0.out
          show Mat wr g cap _
          rw [e] at this ⊢
          simp only [List.append_assoc, List.nil_append] at this ⊢
          exact this
        have HO1 := HO0
        clear HM0 HO0
        rcases hs1 with ⟨g3, g4⟩ | ⟨g3, g4⟩ | g3
        · have G3 : (a : Int) < (s : Int) := by omega
          have G4 : (s : Int) < (mid : Int) := by omega
          have hS1 := Lib.hid (HIH.out wr a s mid A (X.take i) (Y.take j) (X.drop i ++ Y.drop j ++ C) (by have q1 := HS.out; have q2 := HL.out; have q3 := HLen.out; omega) HM1.out (by have q1 := HS.out; have q2 := HL.out; have q3 := HLen.out; omega) (by have q1 := HS.out; have q2 := HL.out; have q3 := HLen.out; omega) (by have q1 := HS.out; have q2 := HL.out; have q3 := HLen.out; omega) (by have q1 := HS.out; have q2 := HL.out; have q3 := HLen.out; simp only [List.length_append]; omega) (HX.out.take i) (HY.out.take j) (fun x hx y hy => HT.out x (List.mem_of_mem_take hx) y (List.mem_of_mem_take hy)) (by have q1 := HS.out; have q2 := HL.out; have q3 := HLen.out; omega) (by have q1 := HS.out; have q2 := HL.out; have q3 := HLen.out; omega))
          go_wp2_with fail
          refine (hS1.out).mono ?_
          rintro e w2 ⟨rfl, ho, Z1, p1, u1, hm2⟩
          have HO2 := Lib.hid (HO1.out.trans ho)
          have HM2 := Lib.hid hm2
          have HP1 := Lib.hid p1
          have HU1 := Lib.hid u1
          clear ho hm2 hS1 HM1 HO1 p1 u1
          rcases hs2 with ⟨g5, g6⟩ | ⟨g5, g6⟩ | g5
          · have G5 : (mid : Int) < (en : Int) := by omega
            have G6 : (en : Int) < (b : Int) := by omega
            have hS2 := Lib.hid (HIH.out w2 mid en b (A ++ Z1) (X.drop i) (Y.drop j) C (by have q1 := HS.out; have q2 := HL.out; have q3 := HLen.out; omega) (by have := HM2.out; simp only [List.append_assoc] at this ⊢; exact this) (by have q1 := HS.out; have q2 := HL.out; have q3 := HLen.out; have q4 := HP1.out.length_eq; rw [List.length_append] at q4; simp only [List.length_append]; omega) (by have q1 := HS.out; have q2 := HL.out; have q3 := HLen.out; omega) (by have q1 := HS.out; have q2 := HL.out; have q3 := HLen.out; omega) (by have q1 := HS.out; have q2 := HL.out; have q3 := HLen.out; omega) (HX.out.drop i) (HY.out.drop j) (fun x hx y hy => HT.out x (List.mem_of_mem_drop hx) y (List.mem_of_mem_drop hy)) (by have q1 := HS.out; have q2 := HL.out; have q3 := HLen.out; omega) (by have q1 := HS.out; have q2 := HL.out; have q3 := HLen.out; omega))
            go_wp2_with fail
            refine (hS2.out).mono ?_
            rintro e w3 ⟨rfl, ho, Z2, p2, u2, hm3⟩
            have HO3 := Lib.hid (HO2.out.trans ho)
            have HM3 := Lib.hid hm3
            have HP2 := Lib.hid p2
            have HU2 := Lib.hid u2
            clear ho hm3 hS2 HM2 HO2 p2 u2
            go_wp2
            refine bodyPost_end (results_none rfl _ _ _) rfl ?_
            obtain ⟨f1, f2⟩ := merge_halves HX.out HY.out (by have q1 := HS.out; have q2 := HL.out; have q3 := HLen.out; omega) (by have q1 := HS.out; have q2 := HL.out; have q3 := HLen.out; omega) (fun u v => HC1.out u v (by have q1 := HS.out; have q2 := HL.out; have q3 := HLen.out; omega)) (fun u v => HC2.out u v (by have q1 := HS.out; have q2 := HL.out; have q3 := HLen.out; omega)) HP1.out HU1.out HP2.out HU2.out
            exact SymOut.mk HO3.out f2 f1 (by have := HM3.out; simp only [List.append_assoc] at this ⊢; exact this)
          · have G5 : (mid : Int) < (en : Int) := by omega
            have G6 : ¬ (en : Int) < (b : Int) := by omega
            obtain ⟨Z2, hZ2⟩ : ∃ Z, Z = X.drop i ++ Y.drop j := ⟨_, rfl⟩
            have HU2 : Hid (Up Z2) := by
              have e : Y.drop j = [] := List.eq_nil_of_length_eq_zero (by have q1 := HS.out; have q2 := HL.out; have q3 := HLen.out; omega)
              show Up Z2
              rw [hZ2, e, List.append_nil]
              exact HX.out.drop i
            have HP2 : Hid (Z2.Perm (X.drop i ++ Y.drop j)) := by show List.Perm _ _; rw [hZ2]
            have HM3 : Hid (Mat w2 g cap (A ++ Z1 ++ Z2 ++ C)) := by
              show Mat w2 g cap _
              have := HM2.out
              rw [hZ2]
              simp only [List.append_assoc] at this ⊢
              exact this
            have HO3 := HO2
            clear hZ2 HM2 HO2
            go_wp2
            refine bodyPost_end (results_none rfl _ _ _) rfl ?_
            obtain ⟨f1, f2⟩ := merge_halves HX.out HY.out (by have q1 := HS.out; have q2 := HL.out; have q3 := HLen.out; omega) (by have q1 := HS.out; have q2 := HL.out; have q3 := HLen.out; omega) (fun u v => HC1.out u v (by have q1 := HS.out; have q2 := HL.out; have q3 := HLen.out; omega)) (fun u v => HC2.out u v (by have q1 := HS.out; have q2 := HL.out; have q3 := HLen.out; omega)) HP1.out HU1.out HP2.out HU2.out
            exact SymOut.mk HO3.out f2 f1 (by have := HM3.out; simp only [List.append_assoc] at this ⊢; exact this)
          · have G5 : ¬ (mid : Int) < (en : Int) := by omega
            obtain ⟨Z2, hZ2⟩ : ∃ Z, Z = X.drop i ++ Y.drop j := ⟨_, rfl⟩
            have HU2 : Hid (Up Z2) := by
              have e : X.drop i = [] := List.eq_nil_of_length_eq_zero (by have q1 := HS.out; have q2 := HL.out; have q3 := HLen.out; omega)
              show Up Z2
              rw [hZ2, e, List.nil_append]
              exact HY.out.drop j
            have HP2 : Hid (Z2.Perm (X.drop i ++ Y.drop j)) := by show List.Perm _ _; rw [hZ2]
            have HM3 : Hid (Mat w2 g cap (A ++ Z1 ++ Z2 ++ C)) := by
              show Mat w2 g cap _
              have := HM2.out
              rw [hZ2]
              simp only [List.append_assoc] at this ⊢
              exact this
            have HO3 := HO2
            clear hZ2 HM2 HO2
            go_wp2
            refine bodyPost_end (results_none rfl _ _ _) rfl ?_
            obtain ⟨f1, f2⟩ := merge_halves HX.out HY.out (by have q1 := HS.out; have q2 := HL.out; have q3 := HLen.out; omega) (by have q1 := HS.out; have q2 := HL.out; have q3 := HLen.out; omega) (fun u v => HC1.out u v (by have q1 := HS.out; have q2 := HL.out; have q3 := HLen.out; omega)) (fun u v => HC2.out u v (by have q1 := HS.out; have q2 := HL.out; have q3 := HLen.out; omega)) HP1.out HU1.out HP2.out HU2.out
            exact SymOut.mk HO3.out f2 f1 (by have := HM3.out; simp only [List.append_assoc] at this ⊢; exact this)
        · have G3 : (a : Int) < (s : Int) := by omega
          have G4 : ¬ (s : Int) < (mid : Int) := by omega
          obtain ⟨Z1, hZ1⟩ : ∃ Z, Z = X.take i ++ Y.take j := ⟨_, rfl⟩
          have HU1 : Hid (Up Z1) := by
            have e : Y.take j = [] := List.eq_nil_of_length_eq_zero (by have q1 := HS.out; have q2 := HL.out; have q3 := HLen.out; omega)
            show Up Z1
            rw [hZ1, e, List.append_nil]
            exact HX.out.take i
          have HP1 : Hid (Z1.Perm (X.take i ++ Y.take j)) := by show List.Perm _ _; rw [hZ1]
          have HM2 : Hid (Mat wr g cap (A ++ Z1 ++ (X.drop i ++ Y.drop j ++ C))) := by
            show Mat wr g cap _
            have := HM1.out
            rw [hZ1]
            simp only [List.append_assoc] at this ⊢
            exact this
          have HO2 := HO1
          clear hZ1 HM1 HO1
          rcases hs2 with ⟨g5, g6⟩ | ⟨g5, g6⟩ | g5
          · have G5 : (mid : Int) < (en : Int) := by omega
            have G6 : (en : Int) < (b : Int) := by omega
            have hS2 := Lib.hid (HIH.out wr mid en b (A ++ Z1) (X.drop i) (Y.drop j) C (by have q1 := HS.out; have q2 := HL.out; have q3 := HLen.out; omega) (by have := HM2.out; simp only [List.append_assoc] at this ⊢; exact this) (by have q1 := HS.out; have q2 := HL.out; have q3 := HLen.out; have q4 := HP1.out.length_eq; rw [List.length_append] at q4; simp only [List.length_append]; omega) (by have q1 := HS.out; have q2 := HL.out; have q3 := HLen.out; omega) (by have q1 := HS.out; have q2 := HL.out; have q3 := HLen.out; omega) (by have q1 := HS.out; have q2 := HL.out; have q3 := HLen.out; omega) (HX.out.drop i) (HY.out.drop j) (fun x hx y hy => HT.out x (List.mem_of_mem_drop hx) y (List.mem_of_mem_drop hy)) (by have q1 := HS.out; have q2 := HL.out; have q3 := HLen.out; omega) (by have q1 := HS.out; have q2 := HL.out; have q3 := HLen.out; omega))
            go_wp2_with fail
            refine (hS2.out).mono ?_
            rintro e w3 ⟨rfl, ho, Z2, p2, u2, hm3⟩
            have HO3 := Lib.hid (HO2.out.trans ho)
            have HM3 := Lib.hid hm3
            have HP2 := Lib.hid p2
            have HU2 := Lib.hid u2
            clear ho hm3 hS2 HM2 HO2 p2 u2
            go_wp2
            refine bodyPost_end (results_none rfl _ _ _) rfl ?_
            obtain ⟨f1, f2⟩ := merge_halves HX.out HY.out (by have q1 := HS.out; have q2 := HL.out; have q3 := HLen.out; omega) (by have q1 := HS.out; have q2 := HL.out; have q3 := HLen.out; omega) (fun u v => HC1.out u v (by have q1 := HS.out; have q2 := HL.out; have q3 := HLen.out; omega)) (fun u v => HC2.out u v (by have q1 := HS.out; have q2 := HL.out; have q3 := HLen.out; omega)) HP1.out HU1.out HP2.out HU2.out
            exact SymOut.mk HO3.out f2 f1 (by have := HM3.out; simp only [List.append_assoc] at this ⊢; exact this)
          · have G5 : (mid : Int) < (en : Int) := by omega
            have G6 : ¬ (en : Int) < (b : Int) := by omega
            obtain ⟨Z2, hZ2⟩ : ∃ Z, Z = X.drop i ++ Y.drop j := ⟨_, rfl⟩
            have HU2 : Hid (Up Z2) := by
              have e : Y.drop j = [] := List.eq_nil_of_length_eq_zero (by have q1 := HS.out; have q2 := HL.out; have q3 := HLen.out; omega)
              show Up Z2
              rw [hZ2, e, List.append_nil]
              exact HX.out.drop i
            have HP2 : Hid (Z2.Perm (X.drop i ++ Y.drop j)) := by show List.Perm _ _; rw [hZ2]
            have HM3 : Hid (Mat wr g cap (A ++ Z1 ++ Z2 ++ C)) := by
              show Mat wr g cap _
              have := HM2.out
              rw [hZ2]
              simp only [List.append_assoc] at this ⊢
              exact this
            have HO3 := HO2
            clear hZ2 HM2 HO2
            go_wp2
            refine bodyPost_end (results_none rfl _ _ _) rfl ?_
            obtain ⟨f1, f2⟩ := merge_halves HX.out HY.out (by have q1 := HS.out; have q2 := HL.out; have q3 := HLen.out; omega) (by have q1 := HS.out; have q2 := HL.out; have q3 := HLen.out; omega) (fun u v => HC1.out u v (by have q1 := HS.out; have q2 := HL.out; have q3 := HLen.out; omega)) (fun u v => HC2.out u v (by have q1 := HS.out; have q2 := HL.out; have q3 := HLen.out; omega)) HP1.out HU1.out HP2.out HU2.out
            exact SymOut.mk HO3.out f2 f1 (by have := HM3.out; simp only [List.append_assoc] at this ⊢; exact this)
          · have G5 : ¬ (mid : Int) < (en : Int) := by omega
            obtain ⟨Z2, hZ2⟩ : ∃ Z, Z = X.drop i ++ Y.drop j := ⟨_, rfl⟩
            have HU2 : Hid (Up Z2) := by
              have e : X.drop i = [] := List.eq_nil_of_length_eq_zero (by have q1 := HS.out; have q2 := HL.out; have q3 := HLen.out; omega)
              show Up Z2
              rw [hZ2, e, List.nil_append]
              exact HY.out.drop j
            have HP2 : Hid (Z2.Perm (X.drop i ++ Y.drop j)) := by show List.Perm _ _; rw [hZ2]
            have HM3 : Hid (Mat wr g cap (A ++ Z1 ++ Z2 ++ C)) := by
              show Mat wr g cap _
              have := HM2.out
              rw [hZ2]
              simp only [List.append_assoc] at this ⊢
              exact this
            have HO3 := HO2
            clear hZ2 HM2 HO2
            go_wp2
            refine bodyPost_end (results_none rfl _ _ _) rfl ?_
            obtain ⟨f1, f2⟩ := merge_halves HX.out HY.out (by have q1 := HS.out; have q2 := HL.out; have q3 := HLen.out; omega) (by have q1 := HS.out; have q2 := HL.out; have q3 := HLen.out; omega) (fun u v => HC1.out u v (by have q1 := HS.out; have q2 := HL.out; have q3 := HLen.out; omega)) (fun u v => HC2.out u v (by have q1 := HS.out; have q2 := HL.out; have q3 := HLen.out; omega)) HP1.out HU1.out HP2.out HU2.out
            exact SymOut.mk HO3.out f2 f1 (by have := HM3.out; simp only [List.append_assoc] at this ⊢; exact this)
        · have G3 : ¬ (a : Int) < (s : Int) := by omega
          obtain ⟨Z1, hZ1⟩ : ∃ Z, Z = X.take i ++ Y.take j := ⟨_, rfl⟩
          have HU1 : Hid (Up Z1) := by
            have e : X.take i = [] := List.eq_nil_of_length_eq_zero (by have q1 := HS.out; have q2 := HL.out; have q3 := HLen.out; omega)
            show Up Z1
            rw [hZ1, e, List.nil_append]
            exact HY.out.take j
          have HP1 : Hid (Z1.Perm (X.take i ++ Y.take j)) := by show List.Perm _ _; rw [hZ1]
          have HM2 : Hid (Mat wr g cap (A ++ Z1 ++ (X.drop i ++ Y.drop j ++ C))) := by
            show Mat wr g cap _
            have := HM1.out
            rw [hZ1]
            simp only [List.append_assoc] at this ⊢
            exact this
          have HO2 := HO1
          clear hZ1 HM1 HO1
          rcases hs2 with ⟨g5, g6⟩ | ⟨g5, g6⟩ | g5
          · have G5 : (mid : Int) < (en : Int) := by omega
            have G6 : (en : Int) < (b : Int) := by omega
            have hS2 := Lib.hid (HIH.out wr mid en b (A ++ Z1) (X.drop i) (Y.drop j) C (by have q1 := HS.out; have q2 := HL.out; have q3 := HLen.out; omega) (by have := HM2.out; simp only [List.append_assoc] at this ⊢; exact this) (by have q1 := HS.out; have q2 := HL.out; have q3 := HLen.out; have q4 := HP1.out.length_eq; rw [List.length_append] at q4; simp only [List.length_append]; omega) (by have q1 := HS.out; have q2 := HL.out; have q3 := HLen.out; omega) (by have q1 := HS.out; have q2 := HL.out; have q3 := HLen.out; omega) (by have q1 := HS.out; have q2 := HL.out; have q3 := HLen.out; omega) (HX.out.drop i) (HY.out.drop j) (fun x hx y hy => HT.out x (List.mem_of_mem_drop hx) y (List.mem_of_mem_drop hy)) (by have q1 := HS.out; have q2 := HL.out; have q3 := HLen.out; omega) (by have q1 := HS.out; have q2 := HL.out; have q3 := HLen.out; omega))
            go_wp2_with fail
            refine (hS2.out).mono ?_
            rintro e w3 ⟨rfl, ho, Z2, p2, u2, hm3⟩
            have HO3 := Lib.hid (HO2.out.trans ho)
            have HM3 := Lib.hid hm3
            have HP2 := Lib.hid p2
            have HU2 := Lib.hid u2
            clear ho hm3 hS2 HM2 HO2 p2 u2
            go_wp2
            refine bodyPost_end (results_none rfl _ _ _) rfl ?_
            obtain ⟨f1, f2⟩ := merge_halves HX.out HY.out (by have q1 := HS.out; have q2 := HL.out; have q3 := HLen.out; omega) (by have q1 := HS.out; have q2 := HL.out; have q3 := HLen.out; omega) (fun u v => HC1.out u v (by have q1 := HS.out; have q2 := HL.out; have q3 := HLen.out; omega)) (fun u v => HC2.out u v (by have q1 := HS.out; have q2 := HL.out; have q3 := HLen.out; omega)) HP1.out HU1.out HP2.out HU2.out
            exact SymOut.mk HO3.out f2 f1 (by have := HM3.out; simp only [List.append_assoc] at this ⊢; exact this)
          · have G5 : (mid : Int) < (en : Int) := by omega
            have G6 : ¬ (en : Int) < (b : Int) := by omega
            obtain ⟨Z2, hZ2⟩ : ∃ Z, Z = X.drop i ++ Y.drop j := ⟨_, rfl⟩
            have HU2 : Hid (Up Z2) := by
              have e : Y.drop j = [] := List.eq_nil_of_length_eq_zero (by have q1 := HS.out; have q2 := HL.out; have q3 := HLen.out; omega)
              show Up Z2
              rw [hZ2, e, List.append_nil]
              exact HX.out.drop i
            have HP2 : Hid (Z2.Perm (X.drop i ++ Y.drop j)) := by show List.Perm _ _; rw [hZ2]
            have HM3 : Hid (Mat wr g cap (A ++ Z1 ++ Z2 ++ C)) := by
              show Mat wr g cap _
              have := HM2.out
              rw [hZ2]
              simp only [List.append_assoc] at this ⊢
              exact this
            have HO3 := HO2
            clear hZ2 HM2 HO2
            go_wp2
            refine bodyPost_end (results_none rfl _ _ _) rfl ?_
            obtain ⟨f1, f2⟩ := merge_halves HX.out HY.out (by have q1 := HS.out; have q2 := HL.out; have q3 := HLen.out; omega) (by have q1 := HS.out; have q2 := HL.out; have q3 := HLen.out; omega) (fun u v => HC1.out u v (by have q1 := HS.out; have q2 := HL.out; have q3 := HLen.out; omega)) (fun u v => HC2.out u v (by have q1 := HS.out; have q2 := HL.out; have q3 := HLen.out; omega)) HP1.out HU1.out HP2.out HU2.out
            exact SymOut.mk HO3.out f2 f1 (by have := HM3.out; simp only [List.append_assoc] at this ⊢; exact this)
          · have G5 : ¬ (mid : Int) < (en : Int) := by omega
            obtain ⟨Z2, hZ2⟩ : ∃ Z, Z = X.drop i ++ Y.drop j := ⟨_, rfl⟩
            have HU2 : Hid (Up Z2) := by
              have e : X.drop i = [] := List.eq_nil_of_length_eq_zero (by have q1 := HS.out; have q2 := HL.out; have q3 := HLen.out; omega)
              show Up Z2
              rw [hZ2, e, List.nil_append]
              exact HY.out.drop j
            have HP2 : Hid (Z2.Perm (X.drop i ++ Y.drop j)) := by show List.Perm _ _; rw [hZ2]
            have HM3 : Hid (Mat wr g cap (A ++ Z1 ++ Z2 ++ C)) := by
              show Mat wr g cap _
              have := HM2.out
              rw [hZ2]
              simp only [List.append_assoc] at this ⊢
              exact this
            have HO3 := HO2
            clear hZ2 HM2 HO2
            go_wp2
            refine bodyPost_end (results_none rfl _ _ _) rfl ?_
            obtain ⟨f1, f2⟩ := merge_halves HX.out HY.out (by have q1 := HS.out; have q2 := HL.out; have q3 := HLen.out; omega) (by have q1 := HS.out; have q2 := HL.out; have q3 := HLen.out; omega) (fun u v => HC1.out u v (by have q1 := HS.out; have q2 := HL.out; have q3 := HLen.out; omega)) (fun u v => HC2.out u v (by have q1 := HS.out; have q2 := HL.out; have q3 := HLen.out; omega)) HP1.out HU1.out HP2.out HU2.out
            exact SymOut.mk HO3.out f2 f1 (by have := HM3.out; simp only [List.append_assoc] at this ⊢; exact this)
end Go.Proofs.Ytkkpcphmojegmaa
