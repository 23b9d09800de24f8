/-
  Contracts of slices.swapRangeCmpFunc, slices.rotateCmpFunc over rows: two stretches of one length change places; two neighbouring stretches change places.
-/
import Derived.Test.YtkkpcphmojegmaaTSortP
import Derived.Deep.DeepBigQuietO
namespace Go.Proofs.Ytkkpcphmojegmaa
set_option linter.unusedSimpArgs false
set_option linter.unusedVariables false
set_option linter.unusedSectionVars false
set_option maxRecDepth 100000
open Go.RowKit
variable [DecidableEq V]

theorem Mat.frozen {w : World} {g cap : Nat} {D : List R} (h : Mat w g cap D) (o : Nat) : w.frozen? ⟨g, o, none⟩ = false := by
  obtain ⟨⟨cur, h0, -⟩, -⟩ := h
  simp [World.frozen?, h0]
theorem Mat.two {w : World} {g cap : Nat} {P Q S : List R} {x y : R} {i j : Nat} (h : Mat w g cap (P ++ x :: (Q ++ y :: S))) (hi : i = P.length) (hj : j = P.length + 1 + Q.length) :
    w.cell? ⟨g, i, none⟩ = some x.hv ∧ w.cell? ⟨g, j, none⟩ = some y.hv := by
  subst hi hj
  have h1 := h.cell P.length (by simp)
  have h2 := h.cell (P.length + 1 + Q.length) (by simp; omega)
  have e1 : (P ++ x :: (Q ++ y :: S))[P.length]'(by simp) = x := by simp
  have e2 : (P ++ x :: (Q ++ y :: S))[P.length + 1 + Q.length]'(by simp; omega) = y := by
    have e : P ++ x :: (Q ++ y :: S) = (P ++ x :: Q) ++ y :: S := by simp
    have el : P.length + 1 + Q.length = (P ++ x :: Q).length := by simp; omega
    simp only [e, el]
    simp
  rw [e1] at h1
  rw [e2] at h2
  exact ⟨h1, h2⟩
theorem Mat.vals2 {w : World} {g cap : Nat} {P Q S : List R} {x y : R} (h : Mat w g cap (P ++ x :: (Q ++ y :: S))) : Vals w x.hv x.vs ∧ Vals w y.hv y.vs := ⟨(h.2 x (by simp)).1, (h.2 y (by simp)).1⟩
theorem Mat.next {w : World} {g cap : Nat} {D : List R} {i j : Nat} {u v : Value} (h : Mat w g cap D) (hj : w.cell? ⟨g, j, none⟩ = some v) (hij : i ≠ j) : (w.setCell ⟨g, i, none⟩ u).cell? ⟨g, j, none⟩ = some v := by
  have hne : (⟨g, i, none⟩ : Addr) ≠ ⟨g, j, none⟩ := by simp [hij]
  exact (World.cell?_setCell_other (h := hne) ..).trans hj

theorem mixed : Try.prog.follows .mixedOrders = true := by kernel_rfl
/-- Half way through. -/
def swpTo (A X B Y C : List R) (k : Nat) : List R := A ++ (Y.take k ++ X.drop k) ++ B ++ (X.take k ++ Y.drop k) ++ C
theorem swpTo_0 (A X B Y C : List R) : swpTo A X B Y C 0 = A ++ X ++ B ++ Y ++ C := by simp [swpTo]
theorem swpTo_end {A X B Y C : List R} {n : Nat} (hx : X.length = n) (hy : Y.length = n) : swpTo A X B Y C n = A ++ Y ++ B ++ X ++ C := by
  subst hx
  simp [swpTo, List.take_of_length_le (Nat.le_of_eq hy), List.drop_of_length_le (Nat.le_of_eq hy)]
theorem swpTo_at {A X B Y C : List R} {k : Nat} (hx : k < X.length) (hy : k < Y.length) : swpTo A X B Y C k = (A ++ Y.take k) ++ X[k] :: ((X.drop (k + 1) ++ B ++ X.take k) ++ Y[k] :: (Y.drop (k + 1) ++ C)) := by
  unfold swpTo
  rw [List.drop_eq_getElem_cons hx, List.drop_eq_getElem_cons hy]
  simp only [List.append_assoc, List.cons_append]
theorem swpTo_succ {A X B Y C : List R} {k : Nat} (hx : k < X.length) (hy : k < Y.length) : swpTo A X B Y C (k + 1) = (A ++ Y.take k) ++ Y[k] :: ((X.drop (k + 1) ++ B ++ X.take k) ++ X[k] :: (Y.drop (k + 1) ++ C)) := by
  unfold swpTo
  rw [List.take_succ_eq_append_getElem hx, List.take_succ_eq_append_getElem hy]
  simp only [List.append_assoc, List.cons_append, List.nil_append]

set_option maxHeartbeats 6400000 in
theorem swapRange_any {w : World} {g cap N a b n : Nat} {A X B Y C : List R} (f : Value) (h : Mat w g cap (A ++ X ++ B ++ Y ++ C)) (ha : A.length = a) (hb : a + n + B.length = b) (hx : X.length = n) (hy : Y.length = n) (hN : N = b + n + C.length) (hcap : N ≤ 1000000) :
    Calls Try.prog 65 #[.slice (some ⟨g, 0, none⟩) N cap, .int .i64 (a : Int), .int .i64 (b : Int), .int .i64 (n : Int), f] w
      fun e w' => e = .returned (.tuple #[]) ∧ Only g w w' ∧ Mat w' g cap (A ++ Y ++ B ++ X ++ C) := by
  have HM : Hid (Mat w g cap (swpTo A X B Y C 0)) := by rw [swpTo_0]; exact h
  clear h
  go_enter Try.func65, Try.ntmps65
  go_wp2_with fail
  go_loopw [10] (fun i wr => ∃ k : Nat, k ≤ n ∧ i = .int .i64 k ∧ Hid (Mat wr g cap (swpTo A X B Y C k)) ∧ Hid (Only g w wr)) (fun i _ => n - (intOf i).toNat)
  case atStart => exact ⟨0, Nat.zero_le _, rfl, HM, Only.refl _ _⟩
  case round =>
    clear HM
    obtain ⟨k, hk, rfl, HM, HO⟩ := hrel
    by_cases hlt : k < n
    · have h1I : (k : Int) < (n : Int) := by omega
      have hkx : k < X.length := by omega
      have hky : k < Y.length := by omega
      have hM := HM.out
      rw [swpTo_at hkx hky] at hM
      obtain ⟨ai, hai⟩ : ∃ q, q = a + k := ⟨_, rfl⟩
      obtain ⟨bi, hbi⟩ : ∃ q, q = b + k := ⟨_, rfl⟩
      have hi1 : ai = (A ++ Y.take k).length := by simp; omega
      have hj1 : bi = (A ++ Y.take k).length + 1 + (X.drop (k + 1) ++ B ++ X.take k).length := by simp; omega
      obtain ⟨c1, c2⟩ := hM.two hi1 hj1
      have f1 := hM.frozen ai
      have f2 := hM.frozen bi
      have hne : ai ≠ bi := by omega
      have c3 := hM.next (i := ai) (u := Y[k].hv) c2 hne
      have c4 := hM.next (i := bi) (u := X[k].hv) c1 (Ne.symm hne)
      have SA := Lib.hid (hM.swapA hi1 hj1)
      have SB := Lib.hid (hM.swapB hi1 hj1)
      rw [← swpTo_succ hkx hky] at SA SB
      have za : IntKind.i64.wrap ((a : Int) + (k : Int)) = (ai : Int) := by rw [IntKind.wrap_i64]; omega
      have zb : IntKind.i64.wrap ((b : Int) + (k : Int)) = (bi : Int) := by rw [IntKind.wrap_i64]; omega
      have za' : (a : Int) + (k : Int) = (ai : Int) := by omega
      have zb' : (b : Int) + (k : Int) = (bi : Int) := by omega
      have la : (ai : Int) < (N : Int) := by omega
      have lb : (bi : Int) < (N : Int) := by omega
      obtain ⟨vx, vy⟩ := hM.vals2
      obtain ⟨ax, cx, ex, -⟩ := vx.len
      obtain ⟨ay, cy, ey, -⟩ := vy.len
      rw [ex] at c1 c4 SA SB
      rw [ey] at c2 c3 SA SB
      generalize X[k].vs.length = lx at *
      generalize Y[k].vs.length = ly at *
      clear hM HM hi1 hj1 hai hbi vx vy ex ey
      have hmix := mixed
      go_wp2_with fail
      go_big_region_o
      obtain ⟨w3, hw3⟩ : ∃ w3, w3 = ((wr.setCell ⟨g, ai, none⟩ (Value.slice ay ly cy)).setCell ⟨g, bi, none⟩ (Value.slice ax lx cx)).drew := ⟨_, rfl⟩
      have HM3 : Hid (Mat w3 g cap (swpTo A X B Y C (k + 1))) := by rw [Hid, hw3]; exact SA.out.1.drew
      have HO3 : Hid (Only g w w3) := by rw [Hid, hw3]; exact (HO.out.trans SA.out.2).drew
      rw [← hw3]
      clear hw3 SA SB c1 c2 c3 c4 f1 f2
      go_wp2
      go_roundw
      case rel => exact ⟨k + 1, by omega, by go_num, HM3, HO3⟩
      case measure => simp [intOf]; omega
    · obtain rfl : k = n := by omega
      have HM' := HM.out
      rw [swpTo_end hx hy] at HM'
      have HM2 := Lib.hid HM'
      clear HM HM'
      go_wp2
      refine bodyPost_end (results_none rfl _ _ _) rfl ?_
      exact ⟨rfl, HO.out, HM2.out⟩
end Go.Proofs.Ytkkpcphmojegmaa
