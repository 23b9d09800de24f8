/-
  Contracts of safe.users, safe.firstFree and safe.Bound.
-/
import Derived.Test.YtcpdikhiodbdjaaSfRef3
import Derived.Test.YtcpdikhiodbdjaaSfBsr
import Derived.Test.YtcpdikhiodbdjaaSfSrt
namespace Go.Proofs.Ytcpdikhiodbdjaa
set_option linter.unusedSimpArgs false
set_option linter.unusedVariables false
set_option linter.unusedSectionVars false
set_option maxRecDepth 100000
open Go.RowKit Go.Maps

set_option maxHeartbeats 1000000 in
theorem users_any (l : Lt) (x : Value) (w : World) (hx : Tms w x l.atom.args) :
    Calls Try.prog 24 #[.agg (LtC l x).toArray] w fun e w' => ∃ v, e = .returned v ∧ Tms w' v (asks l) ∧ Below w.heap.size w w' := by
  obtain ⟨kind, ⟨lp, la⟩, lop, ⟨lv, ln, lk, ls, lN⟩, ⟨rv, rn, rk, rs, rN⟩⟩ := l
  simp only [LtC] at hx ⊢
  obtain ⟨ao, ac, rfl, -⟩ := hx.form
  have HX := Lib.hid hx
  clear hx
  by_cases h2 : kind = 2
  · subst h2
    have HA : Hid (asks (⟨2, ⟨lp, la⟩, lop, ⟨lv, ln, lk, ls, lN⟩, ⟨rv, rn, rk, rs, rN⟩⟩ : Lt) = la) := asks_two rfl
    rw [HA.out]
    go_enter Try.func24, Try.ntmps24
    go_wp2
    go_ret
    exact ⟨_, rfl, HX.out.below stayTm (al_bel _ _), al_bel _ _⟩
  · have e2 : (kind == 2) = false := beq_eq_false_iff_ne.2 h2
    by_cases h3 : kind = 3
    · subst h3
      have HA : Hid (asks (⟨3, ⟨lp, la⟩, lop, ⟨lv, ln, lk, ls, lN⟩, ⟨rv, rn, rk, rs, rN⟩⟩ : Lt) = [⟨lv, ln, lk, ls, lN⟩, ⟨rv, rn, rk, rs, rN⟩]) := asks_three rfl
      rw [HA.out]
      clear h2 e2
      go_enter Try.func24, Try.ntmps24
      go_wp2
      go_ret
      exact ⟨_, rfl, two_terms (heap2L _ _ _) rfl, (al_bel _ _).alloc (by simp) _⟩
    · have e3 : (kind == 3) = false := beq_eq_false_iff_ne.2 h3
      have HA : Hid (asks (⟨kind, ⟨lp, la⟩, lop, ⟨lv, ln, lk, ls, lN⟩, ⟨rv, rn, rk, rs, rN⟩⟩ : Lt) = []) := asks_none h2 h3
      rw [HA.out]
      go_enter Try.func24, Try.ntmps24
      go_wp2
      go_ret
      exact ⟨_, rfl, RdL.nil _ _ _, al_bel _ _⟩

set_option maxHeartbeats 2000000 in
theorem free_any {x z : Value} {N : List ByteArray} {A : List Tm} {w : World} (hx : Nms w x N) (hl : N.length ≤ 10000000) (hR : Rising N) (hz : Tms w z A) (ha : A.length ≤ 10000000) (hs : ∀ t ∈ A, t.name.size ≤ maxLen) :
    Calls Try.prog 23 #[x, z] w fun e w' => e = .returned (looV (looseT N A)) ∧ Below w.heap.size w w' := by
  obtain ⟨xo, xc, rfl, -⟩ := hx.form
  obtain ⟨zo, zc, rfl, -⟩ := hz.form
  have HX := Lib.hid hx
  have HQ := Lib.hid (names_any hz ha hs)
  have HLV : Hid ((varsA A).length ≤ 10000000) := by show _ ≤ _; have := vars_len A; omega
  have HE := Lib.hid (loose_vars N A)
  have hS : ∀ s W, Below w.heap.size w W → Calls Try.prog 29 #[.slice xo N.length xc, .string s] W fun e w' => ∃ i : Int, e = .returned (.tuple #[.int .i64 i, .bool (inN N s)]) ∧ ∃ q, w' = W.drewN q := fun s W hW => search_any (hx.below stayNm hW) hl hR s
  have HS := Lib.hid hS
  obtain ⟨V, hV⟩ : ∃ V, V = varsA A := ⟨_, rfl⟩
  rw [← hV] at HQ HLV HE
  clear hx hz hs hl hR ha hS hV
  go_enter Try.func23, Try.ntmps23
  go_wp2_with (go_at_call 26; refine HQ.out.mono ?_; clear HQ; rintro e w1 ⟨v, rfl, h1, hb1⟩; obtain ⟨vo, vn, vc, rfl, hvn⟩ := h1.formN; have HVN := Lib.hid hvn; have HV1 := Lib.hid (OwnNm.rd h1 hb1 (by have := HLV.out; unfold maxLen; omega)); have HB1 := Lib.hid hb1; have hvm : (vn : Int) ≤ 10000000 := (by have := HLV.out; omega); clear h1 hb1 hvn)
  go_loopw [13] (fun i wr => ∃ k : Nat, k ≤ vn ∧ i = .int .i64 (k : Int) ∧ Hid (∀ s ∈ V.take k, inN N s = true) ∧ Hid (Below w1.heap.size w1 wr)) (fun i _ => vn - (intOf i).toNat)
  case atStart => exact ⟨0, Nat.zero_le _, rfl, Lib.hid (fun s hs => by simp at hs), Below.refl _ _⟩
  case round =>
    obtain ⟨k, hk, rfl, HF, HB⟩ := hrel
    by_cases hlt : k < vn
    · have hltI : (k : Int) < (vn : Int) := by omega
      have hlV : k < V.length := by rw [← HVN.out]; exact hlt
      have hHV := HV1.out
      rw [HVN.out] at hHV
      obtain ⟨b, off, rfl, hbl, q0⟩ := Nms.at (RdL.below stayNm hHV HB.out) k hlV
      have HH : Hid (inN N (V[k]'hlV) = false → looseT N A = some (V[k]'hlV)) := fun h => HE.out.symm.trans (find_hit hlV HF.out h)
      have HG : Hid (inN N (V[k]'hlV) = true → ∀ s ∈ V.take (k + 1), inN N s = true) := fun h => in_next hlV HF.out h
      clear hHV
      obtain ⟨d, hd⟩ : ∃ d, d = V[k]'hlV := ⟨_, rfl⟩
      rw [← hd] at q0 HH HG
      clear hd hlV
      have HQ2 := Lib.hid (HS.out d wr (HB1.out.trans (HB.out.mono HB1.out.size)))
      cases hi : inN N d
      · rw [hi] at HQ2
        have HH2 := Lib.hid (HH.out hi)
        clear HH HG hi
        go_wp2_with (go_at_call 29; refine HQ2.out.mono ?_; clear HQ2; rintro e w2 ⟨i2, rfl, q, rfl⟩)
        go_ret2
        rw [HH2.out]
        exact ⟨rfl, bel_drewN (HB1.out.trans (HB.out.mono HB1.out.size)) _⟩
      · rw [hi] at HQ2
        have HG2 := Lib.hid (HG.out hi)
        clear HH HG hi
        go_wp2_with (go_at_call 29; refine HQ2.out.mono ?_; clear HQ2; rintro e w2 ⟨i2, rfl, q, rfl⟩)
        go_roundw
        case rel => exact ⟨k + 1, by omega, by simp, HG2, bel_drewN HB.out _⟩
        case measure => simp [intOf]; omega
    · have hltI : ¬ (k : Int) < (vn : Int) := by omega
      have HC : Hid (looseT N A = none) := HE.out.symm.trans (find_end (by have := HF.out; rw [List.take_of_length_le (by have := HVN.out; omega)] at this; exact this))
      go_wp2
      go_ret2
      rw [HC.out]
      exact ⟨rfl, HB1.out.trans (HB.out.mono HB1.out.size)⟩

/-- The terms of all atoms that bind. -/
def bindT (B : List Lt) : List Tm := B.flatMap (fun l => if l.kind = 1 then l.atom.args else [])
theorem bind_take {B : List Lt} {k : Nat} (hk : k < B.length) : bindT (B.take (k + 1)) = bindT (B.take k) ++ (if (B[k]'hk).kind = 1 then (B[k]'hk).atom.args else []) := by
  unfold bindT
  rw [List.take_succ_eq_append_getElem hk, List.flatMap_append]
  simp only [List.flatMap_cons, List.flatMap_nil, List.append_nil]
theorem bind_mem {B : List Lt} {t : Tm} : t ∈ bindT B ↔ ∃ l ∈ B, l.kind = 1 ∧ t ∈ l.atom.args := by
  unfold bindT
  rw [List.mem_flatMap]
  constructor
  · rintro ⟨l, hl, h⟩
    split at h
    · rename_i hk; exact ⟨l, hl, hk, h⟩
    · simp at h
  · rintro ⟨l, hl, hk, h⟩
    exact ⟨l, hl, by rw [if_pos hk]; exact h⟩
theorem bind_vars (B : List Lt) (s : ByteArray) : s ∈ varsA (bindT B) ↔ s ∈ posN B := by
  rw [mem_vars, mem_pos]
  constructor
  · rintro ⟨t, ht, h⟩
    obtain ⟨l, hl, hk, hm⟩ := bind_mem.1 ht
    exact ⟨l, hl, hk, t, hm, h⟩
  · rintro ⟨l, hl, hk, t, hm, h⟩
    exact ⟨t, bind_mem.2 ⟨l, hl, hk, hm⟩, h⟩
theorem bind_len : ∀ (B : List Lt) (n : Nat), (∀ l ∈ B, l.atom.args.length ≤ n) → (bindT B).length ≤ B.length * n
  | [], n, _ => by simp [bindT]
  | l :: B, n, h => by
    have h1 := bind_len B n (fun x hx => h x (by simp [hx]))
    have h2 := h l (by simp)
    have e : bindT (l :: B) = (if l.kind = 1 then l.atom.args else []) ++ bindT B := by simp [bindT]
    rw [e, List.length_append, List.length_cons, Nat.succ_mul]
    split <;> simp <;> omega
theorem SmRu.bind {r : Ru} (h : SmRu r) : (bindT r.body).length ≤ 5000000 := by
  have h1 := bind_len r.body 5000 h.each
  have h2 := h.body
  have : r.body.length * 5000 ≤ 1000 * 5000 := Nat.mul_le_mul_right _ h2
  omega
theorem SmRu.bind_take {r : Ru} (h : SmRu r) (k : Nat) : (bindT (r.body.take k)).length ≤ 5000000 :=
  SmRu.bind (r := ⟨r.head, r.body.take k⟩) ⟨h.head, by have := h.body; simp; omega, fun l hl => h.each l (List.mem_of_mem_take hl)⟩
theorem bind_bnd (r : Ru) : srtN (varsA (bindT r.body)) = bndR r := bnd_of (srt_rising (vars_nodup _)) (fun s => (srt_mem _ _).trans (bind_vars _ _))

/-- The list of terms and the box, as the loop has them. -/
def BndS (w wr : World) (v : Value) (L : List Tm) (o : Obj) : Prop := OwnW TmI 51 5 w wr (w.heap.size + 1) v L ∧ BoxS w wr o
theorem BndS.alloc {w wr : World} {v : Value} {L : List Tm} {o : Obj} (h : BndS w wr v L o) (u : Obj) : BndS w (wr.alloc u) v L o := ⟨h.1.below (al_bel _ _), h.2.below (al_bel _ _)⟩
theorem BndS.grown {w wr w2 : World} {v v2 : Value} {L L2 : List Tm} {o : Obj} (h : BndS w wr v L o) (ho : OwnW TmI 51 5 w w2 (w.heap.size + 1) v2 L2) (hg : wr.grownBy w2 v.ownBlock) : BndS w w2 v2 L2 o := by
  have hlt := h.2.lt
  obtain ⟨h1, h2, h3⟩ := h
  exact ⟨ho, h2.grown hg h2.size (fun k e => by have := (h1.lt k e).1; omega), (hg.block _ (by omega) (fun e => by have := (h1.lt _ e.symm).1; omega)).trans h3⟩

set_option maxHeartbeats 4000000 in
theorem bound_any {r : Ru} {x y : Value} {w : World} (hx : Tms w x r.head.args) (hy : Lts w y r.body) (hS : SmRu r) (hO : OkRu r) :
    Calls Try.prog 18 #[.agg #[.string r.head.p, x, y]] w fun e w' => ∃ v, e = .returned v ∧ OwnNm w w' (w.heap.size + 1) v (bndR r) ∧ Below w.heap.size w w' := by
  have HBB := Lib.hid (bind_bnd r)
  have HBL := Lib.hid hS.bind
  have HBT := Lib.hid (fun k => hS.bind_take k)
  have HON : Hid (∀ t ∈ bindT r.body, t.name.size ≤ maxLen) := fun t ht => by
    obtain ⟨l, hl, -, hm⟩ := bind_mem.1 ht
    exact ((hO.2 l hl).1 t hm).2
  obtain ⟨xo, xc, rfl, -⟩ := hx.form
  obtain ⟨yo, yc, rfl, -, hym⟩ := hy.form
  unfold maxLen at hym
  have HY := Lib.hid hy
  clear hx hy hS hO
  go_enter Try.func18, Try.ntmps18
  go_wp2
  go_loopw [3, 10] (fun v i wr => ∃ (k n : Nat) (o : Option Addr) (c : Nat), k ≤ r.body.length ∧ i = .int .i64 (k : Int) ∧ v = .slice o n c ∧ Hid (n = (bindT (r.body.take k)).length) ∧ Hid (BndS w wr (.slice o n c) (bindT (r.body.take k)) (.cells #[.string r.head.p, .slice xo r.head.args.length xc, .slice yo r.body.length yc] 27 (0, 0))))
    (fun _ i _ => r.body.length - (intOf i).toNat)
  case atStart => exact ⟨0, 0, none, 0, Nat.zero_le _, rfl, rfl, rfl, OwnW.nil _ _ _, BoxS.new _ _ _⟩
  case round =>
    obtain ⟨k, n, o, c, hk, rfl, rfl, HN, HS⟩ := hrel
    obtain ⟨b0, b1, b2, blt⟩ := box3 HS.out.2.2
    by_cases hlt : k < r.body.length
    · have hltI : (k : Int) < (r.body.length : Int) := by omega
      obtain ⟨b, off, cs, rfl, hbl, ⟨xa, rfl, hxa⟩, hcell⟩ := HY.out.at k hlt
      have hcw : ∀ j u, (LtC (r.body[k]'hlt) xa)[j]? = some u → wr.cell? ⟨b, off + k * 14 + j, none⟩ = some u := fun j u hj => (HS.out.2.1.cell (p := ⟨b, _, none⟩) hbl).trans (hcell j u hj)
      have q0 := hcw 0 _ rfl
      have q1 := hcw 1 _ rfl
      have q2 := hcw 2 _ rfl
      have q3 := hcw 3 _ rfl
      have q4 := hcw 4 _ rfl
      have q5 := hcw 5 _ rfl
      have q6 := hcw 6 _ rfl
      have q7 := hcw 7 _ rfl
      have q8 := hcw 8 _ rfl
      have q9 := hcw 9 _ rfl
      have q10 := hcw 10 _ rfl
      have q11 := hcw 11 _ rfl
      have q12 := hcw 12 _ rfl
      have q13 := hcw 13 _ rfl
      simp only [Nat.add_zero] at q0
      have HT := Lib.hid (bind_take hlt)
      have HLEN := Lib.hid (HBT.out k)
      have HLEN2 := Lib.hid (HBT.out (k + 1))
      clear hcell hcw
      obtain ⟨l, hl⟩ : ∃ l, l = r.body[k]'hlt := ⟨_, rfl⟩
      rw [← hl] at q0 q1 q3 q4 q5 q6 q7 q8 q9 q10 q11 q12 q13 HT hxa
      clear hl
      obtain ⟨kind, ⟨lp, la⟩, lop, ⟨lv, ln, lk, ls, lN⟩, ⟨rv, rn, rk, rs, rN⟩⟩ := l
      simp only at q0 q1 q3 q4 q5 q6 q7 q8 q9 q10 q11 q12 q13 HT hxa
      obtain ⟨ao, ac, rfl, -⟩ := hxa.form
      have HXA := Lib.hid hxa
      clear hxa
      obtain ⟨L, hL⟩ : ∃ L, L = bindT (r.body.take k) := ⟨_, rfl⟩
      rw [← hL] at HT HLEN HS HN
      clear hL
      by_cases h1 : kind = 1
      · subst h1
        have HT2 : Hid (bindT (r.body.take (k + 1)) = L ++ la) := by show _ = _; rw [HT.out, if_pos rfl]
        have HLE : Hid (L.length + la.length ≤ 5000000) := by have := HLEN2.out; rw [HT2.out, List.length_append] at this; exact this
        clear HT
        go_wp2_with (at_builtin; refine wpList_append_all rfl _ _ 22 rfl elTm cellRTm (w.heap.size + 1) _ L rfl (HS.out.1.below (al_bel _ _)) _ la rfl HXA.out (HS.out.2.1.alloc HS.out.2.1.size _) (by have := HLE.out; unfold maxLen; omega) (by have := HLE.out; omega) (by have := HS.out.2.lt; simp; omega) ?_; intro v2 w2 h2 hb2 hg2 hl2; obtain ⟨o2, n2, c2, rfl, hn2⟩ := h2.formN; have HN2 := Lib.hid hn2; have HO2 := Lib.hid h2; have HG2 := Lib.hid hg2; clear h2 hb2 hg2 hl2 hn2)
        go_roundw
        case rel => exact ⟨k + 1, n2, o2, c2, by omega, by simp, rfl, by rw [HT2.out]; exact HN2, by rw [HT2.out]; exact (HS.out.alloc _).grown HO2.out HG2.out⟩
        case measure => simp [intOf]; omega
      · have e1 : (kind == 1) = false := beq_eq_false_iff_ne.2 h1
        have HT2 : Hid (bindT (r.body.take (k + 1)) = L) := by show _ = _; rw [HT.out, if_neg h1, List.append_nil]
        clear HT h1
        go_wp2
        go_roundw
        case rel => exact ⟨k + 1, n, o, c, by omega, by simp, rfl, by rw [HT2.out]; exact HN, by rw [HT2.out]; exact HS.out.alloc _⟩
        case measure => simp [intOf]; omega
    · have hltI : ¬ (k : Int) < (r.body.length : Int) := by omega
      obtain rfl : k = r.body.length := by omega
      rw [List.take_length] at HS
      have HQ := Lib.hid (names_any (HS.out.1.rd stayTm HS.out.2.1 (by have := HBL.out; unfold maxLen; omega)) (by have := HBL.out; omega) HON.out)
      have HVL : Hid ((varsA (bindT r.body)).length ≤ 10000000) := by show _ ≤ _; have := vars_len (bindT r.body); have := HBL.out; omega
      have HBW := Lib.hid HS.out.2.1
      clear b0 b1 b2 HS HN
      go_wp2_with (first
        | (go_at_call 26; refine HQ.out.mono ?_; clear HQ; rintro e w1 ⟨v, rfl, h1, hb1⟩; obtain ⟨vo, vn, vc, rfl, hvn⟩ := h1.formN; have HV1 := Lib.hid h1; have HB1 := Lib.hid hb1; clear h1 hb1 hvn)
        | (go_at_call 27; refine (sort_any HV1.out HVL.out (vars_nodup _)).mono ?_; rintro e w2 ⟨rfl, hr, h2, hg2⟩; have HO2 := Lib.hid h2; have HG2 := Lib.hid hg2; clear hr h2 hg2))
      go_ret
      have h2 := HO2.out
      rw [HBB.out] at h2
      exact ⟨_, rfl, h2.base (by have := HBW.out.size; omega), (HBW.out.trans (HB1.out.mono HBW.out.size)).grown HG2.out (by have := HBW.out.size; have := HB1.out.size; omega) (fun k e => by have := (HV1.out.lt k e).1; have := HBW.out.size; omega)⟩
end Go.Proofs.Ytcpdikhiodbdjaa
