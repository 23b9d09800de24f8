/-
  Contract of a relation's tell: rows of numbers, told as rows of values, in order, each once.
-/
import Derived.Test.YtkkpcphmojegmaaRTell
namespace Go.Proofs.Ytkkpcphmojegmaa
set_option linter.unusedSimpArgs false
set_option linter.unusedVariables false
set_option linter.unusedSectionVars false
set_option maxRecDepth 100000
open Go.RowKit Go.Maps
variable [DecidableEq V]

theorem step_append_rows {ops : Array Oper} {o : Oper} {a : Act} {w : World} {K : Act → World → Prop} {Q : Exit → Act → World → Prop} {EE : Prop}
    (hg : o.guard = none) (s x : Operand) (hop : o.op = Op.call { callee := Callee.builtin Builtin.append, args := #[s, x], argTypes := #[27, 27] })
    (B : Nat) (v : Value) (E : List R) (hs : a.eval s = v) (hown : OwnG w B v E) (ad : Addr) (m c : Nat) (M : List R) (hx : a.eval x = .slice (some ad) m c) (hm : m = M.length) (hV : Grid w (.slice (some ad) m c) M) (hF : ∀ r ∈ M, Fit w v r)
    (hbytes : E.length + M.length ≤ 2000000) (hB : B ≤ w.heap.size)
    (hK : ∀ v' w', OwnG w' B v' (E ++ M) → Below B w w' → w.grownBy w' v.ownBlock → K (a.put o.dst v') w') :
    if Region.wanted o (yielded ops a.tmps) = true then Oper.wp Try.prog o a w K Q else EE := by
  have hw : Region.wanted o (yielded ops a.tmps) = true := by simp [Region.wanted, hg]
  rw [if_pos hw]
  subst hm
  obtain ⟨i0, hi, hz0, hz1, hz2⟩ := info_parts infoRow
  obtain ⟨v', w', hrun, h2, h3, h4, h5⟩ := run_append_own_at (P := Try.prog) w B 27 o.type 30 i0 _ 1 24 Try.underlying27 hi hz0 hz1 hz2 rfl (by decide) v E.length (E.map R.hv) hown.own ad M.length c (M.map R.hv) (rows_one M) hV.cells hV.oneCell (by unfold maxLen; omega) (by omega) hB
  unfold Oper.wp
  simp [execOp, hop, resolve, invoke, builtin, hs, hx, hrun, Result.andThen]
  exact hK v' w' (hown.join hF h2 h3 h5) ((Below.refl _ _).grown h3 hB (fun k hk => (hown.own.lt k hk).1)) h3
theorem tell_keep {w W w' : World} {rb qb : Nat} {ar : Int} {q : List Nat} (h : W.cell? ⟨rb, 2, none⟩ = some (.int .i64 ar) ∧ rb < W.heap.size ∧ SixAt W qb q ∧ Below w.heap.size w W) (hb : Below W.heap.size W w') :
    w'.cell? ⟨rb, 2, none⟩ = some (.int .i64 ar) ∧ rb < w'.heap.size ∧ SixAt w' qb q ∧ Below w.heap.size w w' := by
  obtain ⟨h1, h2, h3, h4⟩ := h
  exact ⟨(hb.cell (p := ⟨rb, 2, none⟩) h2).trans h1, Nat.lt_of_lt_of_le h2 hb.size, h3.below hb, h4.trans (hb.mono h4.size)⟩
theorem tell_grow {w W w' : World} {rb qb : Nat} {ar : Int} {q : List Nat} {o : Option Nat} (h : W.cell? ⟨rb, 2, none⟩ = some (.int .i64 ar) ∧ rb < W.heap.size ∧ SixAt W qb q ∧ Below w.heap.size w W) (hg : W.grownBy w' o) (ho : o ≠ some qb) (hb : Below w.heap.size W w') (hrb : rb < w.heap.size) :
    w'.cell? ⟨rb, 2, none⟩ = some (.int .i64 ar) ∧ rb < w'.heap.size ∧ SixAt w' qb q ∧ Below w.heap.size w w' := by
  obtain ⟨h1, h2, h3, h4⟩ := h
  exact ⟨(hb.cell (p := ⟨rb, 2, none⟩) hrb).trans h1, Nat.lt_of_lt_of_le h2 hg.size, (hg.block qb h3.lt (fun e => ho e.symm)).trans h3, h4.trans hb⟩

/-- What has been told so far. -/
def Told (L : List V) (QS : List (List Nat)) (E : List R) (k : Nat) : Prop := E.length = k ∧ E.map R.vs = (QS.take k).map (rowOf L)
theorem Told.next {L : List V} {QS : List (List Nat)} {E : List R} {k : Nat} (h : Told L QS E k) (hk : k < QS.length) (x : Value) : Told L QS (E ++ [⟨x, rowOf L QS[k], k⟩]) (k + 1) := by
  refine ⟨by simp [h.1], ?_⟩
  rw [List.take_succ_eq_append_getElem hk, List.map_append, List.map_append, h.2]; rfl

set_option maxHeartbeats 6400000 in
set_option maxRecDepth 100000 in
theorem tell_rel {w : World} {B : Nat} {FT FR : Nat → Prop} {rb ar : Nat} {L : List V} {RS : List (List Nat)} {to : Option Nat} {rv : Value} {s1 s2 : Nat} (hR : Rl w B FT FR rb ar L RS to rv s1 s2) {x : Value} {QS : List (List Nat)} (hx : Mtx w x QS) (hQ : ∀ q ∈ QS, q ∈ RS) (hLm : L.length < 100000000) (hm : QS.length ≤ 1000000) :
    Calls Try.prog 30 #[.pointer (some ⟨rb, 0, none⟩), x] w fun e w' => SortOut w (QS.map (rowOf L)) e w' := by
  obtain ⟨ao, cap, rfl, -⟩ := hx.len
  obtain ⟨i0, hi, hz0, hz1, hz2⟩ := info_parts infoRow
  obtain ⟨c2, -, -, -, -, -, hrb, -⟩ := hR.cells
  have HX := Lib.hid hx
  have HR := Lib.hid hR
  have HQ := Lib.hid hQ
  have HLm := Lib.hid hLm
  have h6 : ar ≤ 6 := hR.ar6
  have l9 : (QS.length : Int) ≤ 1000000 := by omega
  have a9 : (ar : Int) ≤ 6 := by omega
  have hSort : Hid (∀ W x' E, OwnG W w.heap.size x' E → Told L QS E QS.length → Below w.heap.size w W → Calls Try.prog 39 #[x'] W fun e w' => SortOut w (QS.map (rowOf L)) e w') := fun W x' E hO hT hb => by
    obtain ⟨t1, t2⟩ := hT
    rw [List.take_of_length_le (Nat.le_refl _)] at t2
    refine (sort_any hO.grid (by omega) (fun r hr => ?_)).mono ?_
    · have h3 : r.vs ∈ E.map R.vs := List.mem_map_of_mem hr
      rw [t2] at h3
      obtain ⟨q, hq, e⟩ := List.mem_map.1 h3
      have := (HR.out.rows q (HQ.out q hq)).1
      rw [← e]; simp [rowOf]; omega
    · rintro e w' ⟨x2, D2, rfl, hb2, hO2, hE2⟩
      refine ⟨x2, D2, rfl, hb.trans (hb2.mono hb.size), hO2.mono hb.size, ?_⟩
      rw [hE2, t2]
  clear hx hR hQ hLm
  go_enter Try.func30, Try.ntmps30
  go_wp2_with (at_make; refine wpList_make_own _ rfl _ _ 27 rfl w.heap.size 30 i0 _ 1 Try.underlying27 hi hz0 hz1 .i64 .i64 _ QS.length rfl rfl (by omega) (by rw [hz2]; omega) (by unfold maxLen; omega) (Nat.le_refl _) ?_; intro w1 hown1 hg1; have HR1 : Hid (OwnG w1 w.heap.size (.slice (some ⟨w.heap.size, 0, none⟩) 0 QS.length) []) := OwnG.made hown1; have HB1 : Hid (Below w.heap.size w w1) := (Below.refl _ _).grown hg1 (Nat.le_refl _) (fun k hk => by cases hk); clear hown1 hg1)
  go_loopw [5, 13] (fun v i wr => ∃ (k : Nat) (E : List R) (g c : Nat), k ≤ QS.length ∧ i = .int .i64 k ∧ v = .slice (some ⟨g, 0, none⟩) k c ∧ Hid (Told L QS E k) ∧ Hid (OwnG wr w.heap.size (.slice (some ⟨g, 0, none⟩) k c) E) ∧ Hid (Below w.heap.size w wr)) (fun _ i _ => QS.length - (intOf i).toNat)
  case atStart => exact ⟨0, [], w.heap.size, QS.length, Nat.zero_le _, rfl, rfl, ⟨rfl, by simp⟩, HR1, HB1⟩
  case round =>
    clear HR1 HB1
    obtain ⟨k, E, g, c, hk, rfl, rfl, HE, HO, HB⟩ := hrel
    by_cases hlt : k < QS.length
    · have h1I : (k : Int) < (QS.length : Int) := by omega
      obtain ⟨b, off, rfl, hbl, d0, d1, d2, d3, d4, d5⟩ := HX.out.at HB.out k hlt
      have hqm := HQ.out _ (List.getElem_mem hlt)
      obtain ⟨hql, hqn⟩ := HR.out.rows _ hqm
      have HNX := Lib.hid (fun x2 => HE.out.next hlt x2)
      have HEl : Hid (E.length = k) := HE.out.1
      have hgl : g < wr.heap.size := by
        rcases HO.out.2 with ⟨e1, -⟩ | ⟨g', c', e1, -, -, e4⟩
        · injection e1 with e1; cases e1
        · injection e1 with e1; cases e1; exact e4.lt
      have hgq : (Value.slice (some ⟨g, 0, none⟩) k c).ownBlock ≠ some wr.heap.size := by simp [Value.ownBlock]; omega
      have HS6 : Hid (∀ (W : World) bb, W.heap[bb]? = some (.cells #[.int .i64 (QS[k].getD 0 0 : Nat), .int .i64 (QS[k].getD 1 0 : Nat), .int .i64 (QS[k].getD 2 0 : Nat), .int .i64 (QS[k].getD 3 0 : Nat), .int .i64 (QS[k].getD 4 0 : Nat), .int .i64 (QS[k].getD 5 0 : Nat)] 72 (0, 0)) → SixAt W bb QS[k]) := fun W b h => h
      have hVO : Hid (∀ W, Below w.heap.size w W → SixAt W wr.heap.size QS[k] → Calls Try.prog 38 #[.pointer (some ⟨rb, 0, none⟩), .slice (some ⟨wr.heap.size, 0, none⟩) ar 6] W fun e w' => ∃ x', e = .returned x' ∧ Below W.heap.size W w' ∧ Own w' W.heap.size x' (rowOf L QS[k])) := fun W hb hs => valuesOf_rel (HR.out.below hb).tab hs hql h6 hqn HLm.out
      generalize hx0 : ((QS[k].getD 0 0 : Nat) : Int) = x0 at *
      generalize hx1 : ((QS[k].getD 1 0 : Nat) : Int) = x1 at *
      generalize hx2 : ((QS[k].getD 2 0 : Nat) : Int) = x2 at *
      generalize hx3 : ((QS[k].getD 3 0 : Nat) : Int) = x3 at *
      generalize hx4 : ((QS[k].getD 4 0 : Nat) : Int) = x4 at *
      generalize hx5 : ((QS[k].getD 5 0 : Nat) : Int) = x5 at *
      generalize QS[k] = q at *
      clear hx0 hx1 hx2 hx3 hx4 hx5 hqm hql hqn
      have c2' : wr.cell? ⟨rb, 2, none⟩ = some (.int .i64 (ar : Int)) := (HB.out.cell (p := ⟨rb, 2, none⟩) hrb).trans c2
      have hw := HB.out.size
      go_wp2_with fail
      obtain ⟨W0, hW0⟩ : ∃ W0, W0 = wr.alloc (.cells #[.int .i64 x0, .int .i64 x1, .int .i64 x2, .int .i64 x3, .int .i64 x4, .int .i64 x5] 72) := ⟨_, rfl⟩
      have hb0 : Below wr.heap.size wr W0 := by rw [hW0]; exact (Below.refl _ _).alloc (Nat.le_refl _) _
      have hx0 : SixAt W0 wr.heap.size q := by rw [hW0]; exact HS6.out _ _ (MapKept.heap_alloc wr _).1
      rw [← hW0]
      have I1 : Hid (W0.drew.cell? ⟨rb, 2, none⟩ = some (.int .i64 (ar : Int)) ∧ rb < W0.drew.heap.size ∧ SixAt W0.drew wr.heap.size q ∧ Below w.heap.size w W0.drew) :=
        ⟨(hb0.cell (p := ⟨rb, 2, none⟩) (show rb < wr.heap.size by omega)).trans c2', by have := hb0.size; show rb < W0.heap.size; omega, hx0.below ((Below.refl _ _).drew), (HB.out.trans (hb0.mono HB.out.size)).drew⟩
      have HO0 := Lib.hid ((HO.out.below hb0).below ((Below.refl _ _).drew))
      have e2 : W0.cell? ⟨rb, 2, none⟩ = some (.int .i64 (ar : Int)) := I1.out.1
      have e3 : rb < W0.heap.size := I1.out.2.1
      have hs0 : wr.heap.size < W0.heap.size := hx0.lt
      clear hW0 hb0 hx0 HO HS6 d0 d1 d2 d3 d4 d5 c2'
      go_region_held3 (fun w' => w'.cell? ⟨rb, 2, none⟩ = some (.int .i64 (ar : Int)) ∧ rb < w'.heap.size ∧ SixAt w' wr.heap.size q ∧ Below w.heap.size w w')
        (first | assumption | exact I1.out | exact tell_keep (by assumption) hbN | exact tell_keep (by assumption) ((Below.refl _ _).alloc (Nat.le_refl _) _))
        (first
          | (go_at_call 38; refine (hVO.out _ (by go_split_ands; assumption) (by go_split_ands; assumption)).mono ?_; rintro e w' ⟨xn, rfl, hbN, ho2⟩; have HF2 := Lib.hid ((HO0.out.below hbN).newer HO0.out k ho2); have HR2 := Lib.hid (HO0.out.below hbN); have hw2 : w.heap.size ≤ w'.heap.size := (by have := hbN.size; have h9 : W0.drew.heap.size = W0.heap.size := rfl; omega); have HNX2 := Lib.hid (HNX.out xn); obtain ⟨a2, c2n, e2n⟩ := ho2.form; subst e2n; clear ho2)
          | (refine step_append_rows rfl (.tmp 17) (.tmp 27) rfl w.heap.size (.slice (some ⟨g, 0, none⟩) k c) E rfl (HR2.out.below ((Below.refl _ _).alloc (Nat.le_refl _) _)) ⟨w'.heap.size, 0, none⟩ 1 1 [⟨.slice a2 (rowOf L q).length c2n, rowOf L q, k⟩] rfl rfl (grid_new HF2.out.1 HF2.out.2.1) (fun r hr => by rw [List.mem_singleton.1 hr]; exact HF2.out.below ((Below.refl _ _).alloc (Nat.le_refl _) _)) (by have := HEl.out; simp; omega) (by simp; omega) ?_; intro v3 w3 hO3 hb3 hg3; have hS3 := tell_grow (by assumption) hg3 hgq hb3 hrb; have HO3 := Lib.hid hO3; clear hO3 hb3 hg3))
      obtain ⟨k1, hk1⟩ : ∃ q : Nat, q = k + 1 := ⟨_, rfl⟩
      have hl1 : (E ++ [⟨.slice a2 (rowOf L q).length c2n, rowOf L q, k⟩] : List R).length = k1 := by simp [HEl.out, hk1]
      obtain ⟨g3, c3, e3n⟩ : ∃ g3 c3, v3 = .slice (some ⟨g3, 0, none⟩) k1 c3 := by
        rcases HO3.out.2 with ⟨_, h0⟩ | ⟨g3, c3, e3, -⟩
        · simp at h0
        · exact ⟨g3, c3, by rw [e3, hl1]⟩
      subst e3n
      have HB3 := Lib.hid hS3.2.2.2
      have hk1I : (k : Int) + 1 = (k1 : Int) := by omega
      have HK1 := Lib.hid hk1
      clear hl1 hk1 hS3 HR2 HF2 HO0 I1
      go_wp2
      go_roundw
      case rel => exact ⟨k1, _, g3, c3, by have := HK1.out; omega, by first | rfl | go_num, rfl, by rw [HK1.out]; exact HNX2, HO3, HB3⟩
      case measure => simp [intOf]; have := HK1.out; omega
    · obtain rfl : k = QS.length := by omega
      have h1I : ¬ (QS.length : Int) < (QS.length : Int) := by omega
      have hS := Lib.hid (hSort.out _ _ _ HO.out HE.out HB.out)
      go_wp2_with fail
      refine (hS.out).mono ?_
      rintro e w2 ⟨x2, D2, rfl, hb2, hO2, hE2⟩
      have HZ : Hid (Below w.heap.size w w2 ∧ OwnG w2 w.heap.size x2 D2 ∧ D2.map R.vs = srt (QS.map (rowOf L))) := ⟨hb2, hO2, hE2⟩
      clear hb2 hO2 hE2
      go_wp2
      go_ret
      exact ⟨x2, D2, rfl, HZ.out.1, HZ.out.2.1, HZ.out.2.2⟩
end Go.Proofs.Ytkkpcphmojegmaa
