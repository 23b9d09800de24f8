/-
  Contracts of tuple.alike, slices.CompactFunc over rows: of neighbours that are alike the first one stays.
-/
import Derived.Test.YtkkpcphmojegmaaTSrt
import Derived.Test.YtkkpcphmojegmaaTInsert
import Derived.Lib.SliceRun
namespace Go.Proofs.Ytkkpcphmojegmaa
set_option linter.unusedSimpArgs false
set_option linter.unusedVariables false
set_option linter.unusedSectionVars false
set_option maxRecDepth 100000
open Go.RowKit
variable [DecidableEq V]

set_option maxHeartbeats 800000 in
theorem alike_any {x y : Value} {a b : List V} {w : World} {c : Bool} (hx : Vals w x a) (hy : Vals w y b) (hc : decide (rcmp a b = 0) = c) :
    Calls Try.prog 49 #[x, y] w fun e w' => e = .returned (.bool c) ∧ Below w.heap.size w w' := by
  have hC := Lib.hid (fun W (hb : Below w.heap.size w W) => tcmp_any (hx.below hb) (hy.below hb))
  have HB := rcmp_bd a b
  generalize rcmp a b = z at *
  clear hx hy
  cases c with
  | true =>
    have hz : z = 0 := of_decide_eq_true hc
    subst hz
    clear hc HB
    go_enter Try.func49, Try.ntmps49
    go_wp2_with (go_at_call 47; refine (hC.out _ (Below.refl _ _)).mono ?_; rintro e w2 ⟨rfl, hb⟩; have HB2 := Lib.hid hb; clear hb)
    go_ret
    exact ⟨rfl, HB2.out⟩
  | false =>
    have hz : (z == 0) = false := by simp [of_decide_eq_false hc]
    clear hc
    go_enter Try.func49, Try.ntmps49
    go_wp2_with (go_at_call 47; refine (hC.out _ (Below.refl _ _)).mono ?_; rintro e w2 ⟨rfl, hb⟩; have HB2 := Lib.hid hb; clear hb)
    go_ret
    exact ⟨rfl, HB2.out⟩

theorem Mat.cut {w : World} {g cap : Nat} {K T : List R} (h : Mat w g cap (K ++ T)) : Mat w g cap K := by
  obtain ⟨⟨cur, h0, h1, h2, h3⟩, h4⟩ := h
  refine ⟨⟨cur, h0, h1, by rw [List.length_append] at h2; omega, ?_⟩, fun r hr => h4 r (List.mem_append_left _ hr)⟩
  have e : K.length = min K.length (K ++ T).length := by rw [List.length_append]; omega
  rw [e, ← List.take_take, h3, List.map_append]
  have e2 : K.length = (K.map R.hv).length := by simp
  rw [e2, List.take_left]
theorem Mat.setBehind {w : World} {g cap o : Nat} {K : List R} (h : Mat w g cap K) (ho : K.length ≤ o) (v : Value) : Mat (w.setCell ⟨g, o, none⟩ v) g cap K := by
  have hO : Only g w (w.setCell ⟨g, o, none⟩ v) := (Only.refl g w).setCell o v
  obtain ⟨⟨cur, h0, h1, h2, h3⟩, h4⟩ := h
  refine ⟨⟨_, heap_setCell_same w g o cur _ v h0, by simp [h1], h2, ?_⟩, fun r hr => (h4 r hr).only hO⟩
  rw [Array.toList_setIfInBounds, List.take_set_of_le (by omega), h3]
theorem Mat.setRest {g cap : Nat} {K : List R} (vs : List Value) : ∀ {w : World} (_ : Mat w g cap K) (o : Nat) (_ : K.length ≤ o), Mat (w.setCells g o vs) g cap K ∧ Only g w (w.setCells g o vs) := by
  induction vs with
  | nil => intro w h o ho; exact ⟨h, Only.refl _ _⟩
  | cons v vs ih =>
    intro w h o ho
    obtain ⟨a, b⟩ := ih (h.setBehind ho v) (o + 1) (by omega)
    exact ⟨a, ((Only.refl g w).setCell o v).trans b⟩
theorem Mat.setOne {w : World} {g cap k : Nat} {K S : List R} {x y : R} (h : Mat w g cap (K ++ x :: S)) (hk : k = K.length) (hy : y ∈ S) : Mat (w.setCell ⟨g, k, none⟩ y.hv) g cap (K ++ y :: S) ∧ Only g w (w.setCell ⟨g, k, none⟩ y.hv) := by
  have hO : Only g w (w.setCell ⟨g, k, none⟩ y.hv) := (Only.refl g w).setCell k _
  subst hk
  obtain ⟨⟨cur, h0, h1, h2, h3⟩, h4⟩ := h
  refine ⟨⟨⟨_, heap_setCell_same w g _ cur _ _ h0, by simp [h1], by simpa using h2, ?_⟩, fun r hr => (h4 r ?_).only hO⟩, hO⟩
  · have e1 : (K ++ y :: S).length = (K ++ x :: S).length := by simp
    rw [e1, Array.toList_setIfInBounds, List.take_set, h3]
    simp only [List.map_append, List.map_cons]
    have hp : K.length = (K.map R.hv).length := by simp
    rw [hp, set_mid]
  · rcases List.mem_append.1 hr with hr | hr
    · exact List.mem_append_left _ hr
    · rcases List.mem_cons.1 hr with rfl | hr
      · exact List.mem_append_right _ (List.mem_cons_of_mem _ hy)
      · exact List.mem_append_right _ (List.mem_cons_of_mem _ hr)
/-- Where neighbours stand. -/
theorem Mat.pair {w : World} {g cap jp j : Nat} {K G Z : List R} (h : Mat w g cap (K ++ (G ++ Z.drop jp))) (hl : K.length + G.length = jp) (hj : j = jp + 1) (hlt : j < Z.length) :
    w.cell? ⟨g, jp, none⟩ = some (Z[jp]'(by omega)).hv ∧ w.cell? ⟨g, j, none⟩ = some Z[j].hv ∧ Vals w (Z[jp]'(by omega)).hv (Z[jp]'(by omega)).vs ∧ Vals w Z[j].hv Z[j].vs := by
  subst hj
  have e : K ++ (G ++ Z.drop jp) = (K ++ G) ++ Z[jp] :: ([] ++ Z[jp + 1] :: Z.drop (jp + 2)) := by
    rw [List.drop_eq_getElem_cons (by omega), List.drop_eq_getElem_cons (by omega)]; simp
  rw [e] at h
  have c := h.two (i := jp) (j := jp + 1) (by simp; omega) (by simp; omega)
  exact ⟨c.1, c.2, h.vals2.1, h.vals2.2⟩
/-- Half way through a compacting: K is what is left of the first jp + 1 rows. -/
def Half (w : World) (g cap : Nat) (Z : List R) (kk jp : Nat) (K G : List R) : Prop := Mat w g cap (K ++ (G ++ Z.drop jp)) ∧ K = compact (Z.take (jp + 1)) ∧ K.length = kk ∧ kk + G.length = jp
theorem Half.below {w w' : World} {g cap kk jp : Nat} {Z K G : List R} (h : Half w g cap Z kk jp K G) (hb : Below w.heap.size w w') : Half w' g cap Z kk jp K G := ⟨h.1.below hb, h.2⟩
theorem Half.skip {w : World} {g cap kk jp j : Nat} {Z K G : List R} (h : Half w g cap Z kk jp K G) (hj : j = jp + 1) (hlt : j < Z.length) (hc : rcmp Z[j].vs (Z[jp]'(by omega)).vs = 0) : ∃ G', Half w g cap Z kk j K G' := by
  subst hj
  obtain ⟨h1, h2, h3, h4⟩ := h
  refine ⟨G ++ [Z[jp]], ?_, ?_, h3, by simp; omega⟩
  · have e : K ++ (G ++ [Z[jp]] ++ Z.drop (jp + 1)) = K ++ (G ++ Z.drop jp) := by rw [List.drop_eq_getElem_cons (i := jp) (by omega)]; simp
    rw [e]; exact h1
  · rw [compact_step (k := jp + 1) rfl hlt, if_pos hc, List.append_nil]; exact h2
theorem Half.take {w : World} {g cap kk jp j : Nat} {Z K G : List R} (h : Half w g cap Z kk jp K G) (hj : j = jp + 1) (hlt : j < Z.length) (hc : ¬ rcmp Z[j].vs (Z[jp]'(by omega)).vs = 0) :
    ∃ G', Half (w.setCell ⟨g, kk, none⟩ Z[j].hv) g cap Z (kk + 1) j (K ++ [Z[j]]) G' ∧ Only g w (w.setCell ⟨g, kk, none⟩ Z[j].hv) := by
  subst hj
  obtain ⟨h1, h2, h3, h4⟩ := h
  have e : K ++ (G ++ Z.drop jp) = K ++ ((G ++ [Z[jp]]) ++ Z.drop (jp + 1)) := by rw [List.drop_eq_getElem_cons (i := jp) (by omega)]; simp
  obtain ⟨x0, G', hG⟩ : ∃ x0 G', G ++ [Z[jp]] = x0 :: G' := by
    cases hq : G ++ [Z[jp]] with
    | nil => simp at hq
    | cons a b => exact ⟨a, b, rfl⟩
  have hl := congrArg List.length hG
  simp only [List.length_append, List.length_cons, List.length_nil] at hl
  rw [e, hG, List.cons_append] at h1
  obtain ⟨m1, m2⟩ := h1.setOne (k := kk) (y := Z[jp + 1]) h3.symm (List.mem_append_right _ (by have hm : Z[jp + 1] ∈ Z[jp + 1] :: Z.drop (jp + 1 + 1) := List.mem_cons_self; rwa [← List.drop_eq_getElem_cons hlt] at hm))
  refine ⟨G', ⟨by simpa using m1, ?_, by simp [h3], by omega⟩, m2⟩
  rw [compact_step (k := jp + 1) rfl hlt, if_neg hc, h2]
theorem Half.done {w : World} {g cap kk jp : Nat} {Z K G : List R} (h : Half w g cap Z kk jp K G) (hj : jp + 1 = Z.length) (vs : List Value) :
    Mat (w.setCells g kk vs) g cap (compact Z) ∧ Only g w (w.setCells g kk vs) ∧ kk = (compact Z).length := by
  obtain ⟨h1, h2, h3, h4⟩ := h
  rw [List.take_of_length_le (by omega)] at h2
  subst h2
  obtain ⟨a, b⟩ := h1.cut.setRest vs kk (by omega)
  exact ⟨a, b, h3.symm⟩
theorem Mat.there {w : World} {g cap : Nat} {D : List R} (h : Mat w g cap D) (k : Nat) (hk : k < D.length) : (w.cell? ⟨g, k, none⟩).isSome = true := by rw [h.cell k hk]; rfl
theorem zeroRow (w : World) : (zeroValue 30).run Try.prog w = .ok (.slice none 0 0) w := by kernel_rfl
theorem compact_short {Z : List R} (h : Z.length < 2) : compact Z = Z := by
  match Z, h with
  | [], _ => rfl
  | [x], _ => rfl

/-- What a compacting answers. -/
def CpOut (g cap : Nat) (Z : List R) (w : World) (e : Ending) (w' : World) : Prop := e = .returned (.slice (some ⟨g, 0, none⟩) (compact Z).length cap) ∧ Only g w w' ∧ Mat w' g cap (compact Z)
theorem CpOut.mk {g cap n : Nat} {Z : List R} {w w' : World} (hn : n = (compact Z).length) (ho : Only g w w') (hm : Mat w' g cap (compact Z)) : CpOut g cap Z w (.returned (.slice (some ⟨g, 0, none⟩) n cap)) w' := ⟨by rw [hn], ho, hm⟩

set_option maxHeartbeats 8000000 in
theorem compact_any {w : World} {g cap N : Nat} {Z : List R} (h : Mat w g cap Z) (hN : N = Z.length) (hcap : N ≤ 1000000) :
    Calls Try.prog 48 #[.slice (some ⟨g, 0, none⟩) N cap, .func (.func 49) #[] #[]] w fun e w' => CpOut g cap Z w e w' := by
  have hNc : N ≤ cap := by have := h.cap; omega
  have HM := Lib.hid h
  have HN := Lib.hid hN
  have N9 : (N : Int) ≤ 2000000 := by omega

  have hNcI : (N : Int) ≤ (cap : Int) := by omega
  clear h hN
  by_cases h2 : N < 2
  · have h2I : (N : Int) < 2 := by omega
    have E := Lib.hid (compact_short (Z := Z) (by have := HN.out; omega))
    go_enter Try.func48, Try.ntmps48
    go_wp2
    go_ret
    exact CpOut.mk (by rw [E.out]; exact HN.out) (Only.refl _ _) (by rw [E.out]; exact HM.out)
  · have h2I : ¬ (N : Int) < 2 := by omega
    go_enter Try.func48, Try.ntmps48
    go_wp2_with fail
    go_loopw [5] (fun kv wr => ∃ (kp k : Nat), kv = .int .i64 (k : Int) ∧ Hid (k = kp + 1 ∧ k ≤ N ∧ compact (Z.take k) = Z.take k) ∧ Hid (Mat wr g cap Z) ∧ Hid (Below w.heap.size w wr)) (fun kv _ => N - (intOf kv).toNat)
    case atStart => exact ⟨0, 1, by first | rfl | go_num, ⟨rfl, by omega, compact_short (by simp; omega)⟩, HM, Below.refl _ _⟩
    case round =>
      clear HM
      obtain ⟨kp, k, rfl, HK, HM, HB⟩ := hrel
      by_cases hlt : k < N
      · have hltI : (k : Int) < (N : Int) := by omega
        have hkl : k < Z.length := by have := HN.out; omega
        have hkp : k = kp + 1 := HK.out.1
        obtain ⟨c1, c2, v1, v2⟩ := Mat.pair (K := []) (G := Z.take kp) (Z := Z) (jp := kp) (j := k) (by simpa using HM.out) (by simp; omega) hkp hkl
        have hgl := HM.out.lt
        have HST := Lib.hid (compact_step (Z := Z) (k := k) (k1 := kp) hkp hkl)
        have HHF : Hid (rcmp Z[k].vs (Z[kp]'(by omega)).vs = 0 → ∀ W, Below wr.heap.size wr W → ∃ G, Half W g cap Z k k (Z.take k) G) := fun hc W hb => by
          refine ⟨[], by simpa using HM.out.below hb, ?_, by simp; omega, rfl⟩
          rw [HST.out, if_pos hc, List.append_nil, HK.out.2.2]
        have HNX : Hid (¬ rcmp Z[k].vs (Z[kp]'(by omega)).vs = 0 → compact (Z.take (k + 1)) = Z.take (k + 1)) := fun hc => by
          rw [HST.out, if_neg hc, HK.out.2.2, List.take_succ_eq_append_getElem hkl]
        have hC : Hid (∀ W c, Below wr.heap.size wr W → decide (rcmp Z[k].vs (Z[kp]'(by omega)).vs = 0) = c → Calls Try.prog 49 #[Z[k].hv, (Z[kp]'(by omega)).hv] W fun e w' => e = .returned (.bool c) ∧ Below W.heap.size W w') := fun W c hb hc => alike_any (v2.below hb) (v1.below hb) hc
        generalize Z[k] = y at *
        generalize Z[kp]'(by omega) = x at *
        have k9 : (k : Int) ≤ 2000000 := by omega
        have zk : (k : Int) = (kp : Int) + 1 := by omega
        have ea : ((kp : Int) + 1).toNat = k := by omega
        have pa : (0 : Int) ≤ (kp : Int) + 1 := by omega
        have ba : (kp : Int) + 1 < (N : Int) := by omega
        have ra : IntKind.i64.wrap ((kp : Int) + 1) = (kp : Int) + 1 := by rw [IntKind.wrap_i64]; omega
        have rc : IntKind.i64.wrap (kp : Int) = (kp : Int) := by rw [IntKind.wrap_i64]; omega
        have lk : (kp : Int) < (N : Int) := by omega
        have kp9 : (kp : Int) ≤ 2000000 := by omega
        have HKP := Lib.hid hkp
        clear HST hkp hkl v1 v2
        by_cases hc : rcmp y.vs x.vs = 0
        · have hC2 := Lib.hid (fun W hb => hC.out W true hb (decide_eq_true hc))
          have HH := Lib.hid (HHF.out hc)
          have hleI : (k : Int) ≤ (N : Int) := by omega
          have hleC : (k : Int) ≤ (cap : Int) := by omega
          clear hC HNX HHF hc
          go_wp2_with fail
          go_region_held3 (fun w' => w'.cell? ⟨g, kp, none⟩ = some x.hv ∧ w'.cell? ⟨g, k, none⟩ = some y.hv ∧ g < w'.heap.size ∧ Below wr.heap.size wr w')
            (first | assumption | exact two_keep (by assumption) hbN | exact ⟨c1, c2, hgl, (Below.refl _ _).drew⟩)
            (first
              | (go_at_call 49; refine (hC2.out _ (by go_split_ands; assumption)).mono ?_; rintro e w' ⟨rfl, hbN⟩)
              | (go_at_fn 49; refine (hC2.out _ (by go_split_ands; assumption)).mono ?_; rintro e w' ⟨rfl, hbN⟩))
          go_wp2_with fail
          go_split_ands
          rename_i y0 y1 y2 y3
          obtain ⟨G0, hG0⟩ := HH.out _ y3
          have HG0 := Lib.hid hG0
          have HO0 : Hid (Only g w w') := (Only.of_below HB.out).trans (Only.of_below y3)
          obtain ⟨N2, hN2⟩ : ∃ q, q = N - k := ⟨_, rfl⟩
          obtain ⟨C2, hC2'⟩ : ∃ q, q = cap - k := ⟨_, rfl⟩
          rw [← hN2, ← hC2']
          have HN2 : Hid (N = k + N2) := by show N = k + N2; omega
          have N29 : (N2 : Int) ≤ 2000000 := by omega
          have hkI : (kp : Int) + 1 = (k : Int) := by omega
          clear y0 y1 y2 y3 hbN hG0 hN2 hC2' hC2 HH HK HM HB c1 c2 hgl zk ea pa ba ra rc lk kp9 hltI hleI hleC
          simp only [hkI]
          clear hkI HKP
          generalize x.hv = xv
          generalize y.hv = yv
          go_loopw [5, 7] (fun kv kv2 wr => ∃ (kk k2p k2 : Nat) (K G : List R), kv = .int .i64 (kk : Int) ∧ kv2 = .int .i64 (k2 : Int) ∧ Hid (k2 = k2p + 1 ∧ k2 ≤ N2) ∧ Hid (Half wr g cap Z kk (k + k2p) K G) ∧ Hid (Only g w wr)) (fun _ kv2 _ => N2 - (intOf kv2).toNat)
          case atStart => exact ⟨k, 0, 1, _, G0, by first | rfl | go_num, by first | rfl | go_num, ⟨rfl, by have := HN2.out; omega⟩, HG0, HO0⟩
          case round =>
            clear HG0 HO0
            obtain ⟨kk, k2p, k2, K, G, rfl, rfl, HK, HF, HO⟩ := hrel
            have hk2 : k2 = k2p + 1 := HK.out.1
            have hNN : N = k + N2 := HN2.out
            obtain ⟨f1, f2, f3, f4⟩ := HF.out
            have hZN := HN.out
            have hkk : kk < N := by
              have := HK.out.2
              omega
            have hkkI : (kk : Int) < (N : Int) := by omega
            have kk9 : (kk : Int) ≤ 2000000 := by omega
            have hlenM : (K ++ (G ++ Z.drop (k + k2p))).length = N := by
              have := HK.out.2
              simp only [List.length_append, List.length_drop]; omega
            by_cases hlt2 : k2 < N2
            · have hlt2I : (k2 : Int) < (N2 : Int) := by omega
              have hkl : k + k2 < Z.length := by omega
              obtain ⟨c1, c2, v1, v2⟩ := f1.pair (j := k + k2) (by omega) (by omega) hkl
              have hgl := f1.lt
              have zk : (k2 : Int) = (k2p : Int) + 1 := by omega
              have ea : ((k2p : Int) + 1).toNat = k2 := by omega
              have pa : (0 : Int) ≤ (k2p : Int) + 1 := by omega
              have ba : (k2p : Int) + 1 < (N2 : Int) := by omega
              have ra : IntKind.i64.wrap ((k2p : Int) + 1) = (k2p : Int) + 1 := by rw [IntKind.wrap_i64]; omega
              have rc : IntKind.i64.wrap (k2p : Int) = (k2p : Int) := by rw [IntKind.wrap_i64]; omega
              have lk : (k2p : Int) < (N2 : Int) := by omega
              have k29 : (k2 : Int) ≤ 2000000 := by omega
              have kp29 : (k2p : Int) ≤ 2000000 := by omega
              obtain ⟨k21, hk21⟩ : ∃ q : Nat, q = k2 + 1 := ⟨_, rfl⟩
              have zk1 : (k2 : Int) + 1 = (k21 : Int) := by omega
              have zk2 : (k2p : Int) + 1 + 1 = (k21 : Int) := by omega
              have k219 : (k21 : Int) ≤ 2000001 := by omega
              have HK21 := Lib.hid hk21
              have hC : Hid (∀ W c, Below wr.heap.size wr W → decide (rcmp Z[k + k2].vs (Z[k + k2p]'(by omega)).vs = 0) = c → Calls Try.prog 49 #[Z[k + k2].hv, (Z[k + k2p]'(by omega)).hv] W fun e w' => e = .returned (.bool c) ∧ Below W.heap.size W w') := fun W c hb hc => alike_any (v2.below hb) (v1.below hb) hc
              have HSK : Hid (rcmp Z[k + k2].vs (Z[k + k2p]'(by omega)).vs = 0 → ∀ W, Below wr.heap.size wr W → ∃ G', Half W g cap Z kk (k + k2) K G') := fun hc W hb => (HF.out.below hb).skip (j := k + k2) (by omega) hkl hc
              have HTK : Hid (¬ rcmp Z[k + k2].vs (Z[k + k2p]'(by omega)).vs = 0 → ∀ W, Below wr.heap.size wr W → ∃ K' G', Half (W.setCell ⟨g, kk, none⟩ Z[k + k2].hv) g cap Z (kk + 1) (k + k2) K' G' ∧ Only g W (W.setCell ⟨g, kk, none⟩ Z[k + k2].hv)) := fun hc W hb => by
                obtain ⟨G', h1, h2⟩ := (HF.out.below hb).take (j := k + k2) (by omega) hkl hc
                exact ⟨_, G', h1, h2⟩
              have HCK : Hid (∀ W, Below wr.heap.size wr W → (∃ u, W.cell? ⟨g, kk, none⟩ = some u) ∧ W.frozen? ⟨g, kk, none⟩ = false ∧ W.cell? ⟨g, k + k2, none⟩ = some Z[k + k2].hv) := fun W hb => by
                have hM := f1.below hb
                have hs := hM.there kk (by omega)
                refine ⟨Option.isSome_iff_exists.1 hs, hM.frozen kk, ?_⟩
                exact (hb.cell (p := ⟨g, k + k2, none⟩) hgl).trans c2
              obtain ⟨ay, cy, ey, -⟩ := v2.len
              rw [ey] at c2 hC HTK HCK
              clear ey
              generalize Z[k + k2] = y2 at *
              generalize Z[k + k2p]'(by omega) = x2 at *
              generalize y2.vs.length = ly at *
              clear hk21 f1 f2 f3 f4 hZN v1 v2 hlenM hNN hk2 HF
              by_cases hc : rcmp y2.vs x2.vs = 0
              · have hC2 := Lib.hid (fun W hb => hC.out W true hb (decide_eq_true hc))
                have HS := Lib.hid (HSK.out hc)
                clear hC HSK HTK HCK hc
                go_wp2_with fail
                go_region_held3 (fun w' => w'.cell? ⟨g, k + k2p, none⟩ = some x2.hv ∧ w'.cell? ⟨g, k + k2, none⟩ = some (.slice ay ly cy) ∧ g < w'.heap.size ∧ Below wr.heap.size wr w')
                  (first | assumption | exact two_keep (by assumption) hbN | exact ⟨c1, c2, hgl, (Below.refl _ _).drew⟩)
                  (first
                    | (go_at_call 49; refine (hC2.out _ (by go_split_ands; assumption)).mono ?_; rintro e w' ⟨rfl, hbN⟩)
                    | (go_at_fn 49; refine (hC2.out _ (by go_split_ands; assumption)).mono ?_; rintro e w' ⟨rfl, hbN⟩))
                go_wp2
                go_roundw
                case rel =>
                  go_split_ands
                  rename_i y0 y1 y2 y3
                  obtain ⟨G', hG'⟩ := HS.out _ y3
                  exact ⟨kk, k2, k21, K, G', by first | rfl | go_num, by first | rfl | go_num, ⟨HK21.out, by have := HK21.out; omega⟩, hG', HO.out.trans (Only.of_below y3)⟩
                case measure => simp [intOf]; have := HK21.out; omega
              · have hC2 := Lib.hid (fun W hb => hC.out W false hb (decide_eq_false hc))
                have HT := Lib.hid (HTK.out hc)
                obtain ⟨kk1, hkk1⟩ : ∃ q : Nat, q = kk + 1 := ⟨_, rfl⟩
                have zkk : (kk : Int) + 1 = (kk1 : Int) := by omega
                have kk19 : (kk1 : Int) ≤ 2000001 := by omega
                have HKK1 := Lib.hid hkk1
                clear hC HSK HTK hc hkk1
                go_wp2_with fail
                go_region_held3 (fun w' => w'.cell? ⟨g, k + k2p, none⟩ = some x2.hv ∧ w'.cell? ⟨g, k + k2, none⟩ = some (.slice ay ly cy) ∧ g < w'.heap.size ∧ Below wr.heap.size wr w')
                  (first | assumption | exact two_keep (by assumption) hbN | exact ⟨c1, c2, hgl, (Below.refl _ _).drew⟩)
                  (first
                    | (go_at_call 49; refine (hC2.out _ (by go_split_ands; assumption)).mono ?_; rintro e w' ⟨rfl, hbN⟩)
                    | (go_at_fn 49; refine (hC2.out _ (by go_split_ands; assumption)).mono ?_; rintro e w' ⟨rfl, hbN⟩))
                go_split_ands
                rename_i y0 y1 y2' y3
                obtain ⟨⟨u0, d0⟩, d1, d2⟩ := HCK.out _ y3
                obtain ⟨K', G', hH, hO2⟩ := HT.out _ y3
                have HH2 := Lib.hid hH
                have HO2 : Hid (Only g w _) := (HO.out.trans (Only.of_below y3)).trans hO2
                clear y0 y1 y2' y3 hH hO2 HCK HT c1 c2 HO
                go_wp2
                go_roundw
                case rel => exact ⟨kk1, k2, k21, K', G', by first | rfl | go_num, by first | rfl | go_num, ⟨HK21.out, by have := HK21.out; omega⟩, by rw [HKK1.out]; exact HH2, HO2⟩
                case measure => simp [intOf]; have := HK21.out; omega
            · have hlt2I : ¬ (k2 : Int) < (N2 : Int) := by omega
              have hkkC : (kk : Int) ≤ (cap : Int) := by omega
              have hkkN : (kk : Int) ≤ (N : Int) := by omega
              have hcl : ∀ ty, (Builtin.clear_ #[27] ty #[.slice (some ⟨g, kk, none⟩) (N - kk) (cap - kk)]).run Try.prog wr = .ok (.tuple #[]) (wr.setCells g kk (List.replicate (N - kk) (.slice none 0 0))) :=
                fun ty => Lib.run_clear_slice wr 27 30 ty (.slice none 0 0) Try.underlying27 zeroRow rfl rfl g kk (N - kk) (cap - kk) (by omega) (fun j hj => f1.there (kk + j) (by omega)) (fun j _ => f1.frozen _)
              obtain ⟨e1, e2, e3⟩ := HF.out.done (by have := HK.out; omega) (List.replicate (N - kk) (.slice none 0 0))
              have E1 := Lib.hid e1
              have E2 := Lib.hid (HO.out.trans e2)
              have E3 := Lib.hid e3
              clear f1 f2 f3 f4 hZN hlenM hNN hk2 HF e1 e2 e3
              go_wp2_with (simp only [hcl])
              go_ret
              exact CpOut.mk E3.out E2.out E1.out
        · have hC2 := Lib.hid (fun W hb => hC.out W false hb (decide_eq_false hc))
          obtain ⟨k1, hk1⟩ : ∃ q : Nat, q = k + 1 := ⟨_, rfl⟩
          have zk1 : (k : Int) + 1 = (k1 : Int) := by omega
          have zk2 : (kp : Int) + 1 + 1 = (k1 : Int) := by omega
          have k19 : (k1 : Int) ≤ 2000001 := by omega
          have HX := Lib.hid (HNX.out hc)
          have HK1 := Lib.hid hk1
          clear hk1 hC HNX HHF hc
          go_wp2_with fail
          go_region_held3 (fun w' => w'.cell? ⟨g, kp, none⟩ = some x.hv ∧ w'.cell? ⟨g, k, none⟩ = some y.hv ∧ g < w'.heap.size ∧ Below wr.heap.size wr w')
            (first | assumption | exact two_keep (by assumption) hbN | exact ⟨c1, c2, hgl, (Below.refl _ _).drew⟩)
            (first
              | (go_at_call 49; refine (hC2.out _ (by go_split_ands; assumption)).mono ?_; rintro e w' ⟨rfl, hbN⟩)
              | (go_at_fn 49; refine (hC2.out _ (by go_split_ands; assumption)).mono ?_; rintro e w' ⟨rfl, hbN⟩))
          go_wp2
          go_roundw
          case rel =>
            go_split_ands
            rename_i y0 y1 y2 y3
            exact ⟨k, k1, by first | rfl | go_num, ⟨HK1.out, by have := HK1.out; omega, by rw [HK1.out]; exact HX.out⟩, HM.out.below y3, HB.out.trans (y3.mono HB.out.size)⟩
          case measure => simp [intOf]; have := HK1.out; omega
      · have hltI : ¬ (k : Int) < (N : Int) := by omega
        have hk : k = N := by have := HK.out.2.1; omega
        have E : Hid (compact Z = Z) := by
          have := HK.out.2.2
          rw [List.take_of_length_le (by have := HN.out; omega)] at this
          exact this
        go_wp2
        go_ret
        exact CpOut.mk (by rw [E.out]; exact HN.out) (Only.of_below HB.out) (by rw [E.out]; exact HM.out)
end Go.Proofs.Ytkkpcphmojegmaa
