/-
  The walk of RelationOrder: in whatever order rows come, all are told alike, and as often as they are unlike: the law returns true; of old memory nothing turns.
-/
import Derived.Test.YtfjkfblejfiglaaRLaw1
import Derived.Test.YtfjkfblejfiglaaTRefSort
namespace Go.Proofs.Ytfjkfblejfiglaa
set_option linter.unusedSimpArgs false
set_option linter.unusedVariables false
set_option linter.unusedSectionVars false
set_option maxRecDepth 100000
open Go.RowKit Go.Maps
variable [DecidableEq V]

def pcells (p : V × V) : List Value := [.bool p.1.k, .string p.1.s, .int .i64 p.1.n, .bool p.2.k, .string p.2.s, .int .i64 p.2.n]
/-- A list of pairs in a block of the call's own. -/
def OwnP (w : World) (B : Nat) (x : Value) (ps : List (V × V)) : Prop := w.ownsRow B 56 6 x ps.length (ps.flatMap pcells) ∧ ∀ p ∈ ps, p.1.Ok ∧ p.2.Ok
theorem OwnP.below {w w' : World} {B : Nat} {x : Value} {ps : List (V × V)} (h : OwnP w B x ps) (hb : Below w.heap.size w w') : OwnP w' B x ps := ⟨ownsRow_block h.1 (fun k hk => hb.block k (h.1.lt k hk).2), h.2⟩
theorem pcells_len (p : V × V) : (pcells p).length = 6 := rfl
theorem pflat_at {ps : List (V × V)} : ∀ {i : Nat} (hi : i < ps.length) {j : Nat} {u : Value}, (pcells ps[i])[j]? = some u → (ps.flatMap pcells)[i * 6 + j]? = some u := by
  induction ps with
  | nil => intro i hi; simp at hi
  | cons q ps ih =>
    intro i hi j u h
    have hj : j < 6 := by have := (List.getElem?_eq_some_iff.1 h).1; rwa [pcells_len] at this
    cases i with
    | zero =>
      rw [List.flatMap_cons, Nat.zero_mul, Nat.zero_add, List.getElem?_append_left (by rw [pcells_len]; exact hj)]
      exact h
    | succ i =>
      have e : (i + 1) * 6 + j = i * 6 + j + 6 := by omega
      rw [List.flatMap_cons, List.getElem?_append_right (by rw [pcells_len]; omega), pcells_len, e, Nat.add_sub_cancel]
      exact ih (by simpa using hi) h
theorem OwnP.pairs {w : World} {B : Nat} {x : Value} {ps : List (V × V)} (h : OwnP w B x ps) : Pairs w x ps := by
  have hr := h.1
  rcases hr.2 with ⟨h1, h2⟩ | ⟨g, cap, cur, h1, h2, h3, h4, h5, h6, h7⟩
  · exact ⟨none, 0, by rw [h1, h2], by rw [h2]; exact Nat.zero_le _, h.2, fun i hi => absurd hi (by omega)⟩
  · subst h1
    refine ⟨some ⟨g, 0, none⟩, cap, rfl, by omega, h.2, fun i hi => ⟨g, 0, rfl, (Array.getElem?_eq_some_iff.1 h3).1, ?_⟩⟩
    have c : ∀ j u, (pcells ps[i])[j]? = some u → w.cell? ⟨g, 0 + i * 6 + j, none⟩ = some u := fun j u hj => by
      have := hr.cells (g := g) rfl _ _ (pflat_at hi hj)
      rw [add_none] at this
      rw [Nat.zero_add] at this ⊢
      exact this
    exact ⟨c 0 _ rfl, c 1 _ rfl, c 2 _ rfl, c 3 _ rfl, c 4 _ rfl, c 5 _ rfl⟩
theorem OwnP.form {w : World} {B : Nat} {x : Value} {ps : List (V × V)} (h : OwnP w B x ps) : ∃ ao cap, x = .slice ao ps.length cap := by
  obtain ⟨ao, cap, e, -⟩ := h.pairs.len
  exact ⟨ao, cap, e⟩
theorem infoPair : (Try.prog.info? 56).map (fun i => (i.zero, i.size, i.bytes)) = some (some (.agg #[.bool false, .string ⟨#[]⟩, .int .i64 0, .bool false, .string ⟨#[]⟩, .int .i64 0]), 6, 64) := by kernel_rfl
/-- All pairs from the last one down to the k-th, each twice. -/
def bk (ps : List (V × V)) (k : Nat) : List (V × V) := (ps.drop k).reverse.flatMap (fun p => [p, p])
theorem bk_step {ps : List (V × V)} {k : Nat} (hk : k < ps.length) : bk ps k = bk ps (k + 1) ++ [ps[k], ps[k]] := by
  unfold bk
  rw [List.drop_eq_getElem_cons hk, List.reverse_cons, List.flatMap_append]
  simp
theorem dup_len (l : List (V × V)) : (l.flatMap (fun p => [p, p])).length = 2 * l.length := by
  induction l with
  | nil => rfl
  | cons p l ih => rw [List.flatMap_cons, List.length_append, ih]; simp; omega
theorem bk_len (ps : List (V × V)) (k : Nat) : (bk ps k).length = 2 * (ps.length - k) := by
  unfold bk
  rw [dup_len]
  simp
theorem mem_bk {ps : List (V × V)} {p : V × V} : p ∈ bk ps 0 ↔ p ∈ ps := by simp [bk]
theorem order_same (ps : List (V × V)) {M N : List (List V)} (hM : M = fillM [] ps) (hN : N = fillM [] (bk ps 0)) : ∀ v, v ∈ M ↔ v ∈ N := by
  intro v
  rw [hM, hN, mem_fillM, mem_fillM]
  simp only [mem_bk]
theorem pair_new (w : World) (c : Array Value) (t : TypeId) : ∀ j u, c.toList[j]? = some u → (w.alloc (.cells c t)).drew.cell? ((⟨w.heap.size, 0, none⟩ : Addr).add j) = some u := six_new w c t
theorem ownsRow_base {w : World} {B size n : Nat} {e : TypeId} {v : Value} {xs : List Value} (h : w.ownsRow 0 e size v n xs) (hB : ∀ k, v.ownBlock = some k → B ≤ k) : w.ownsRow B e size v n xs := by
  refine ⟨h.1, ?_⟩
  rcases h.2 with h0 | ⟨g, cap, cur, e1, hb, r⟩
  · exact .inl h0
  · exact .inr ⟨g, cap, cur, e1, hB g (by rw [e1]; rfl), r⟩
theorem ownsRow_zero {w : World} {B size n : Nat} {e : TypeId} {v : Value} {xs : List Value} (h : w.ownsRow B e size v n xs) : w.ownsRow 0 e size v n xs := by
  refine ⟨h.1, ?_⟩
  rcases h.2 with h0 | ⟨g, cap, cur, e1, hb, r⟩
  · exact .inl h0
  · exact .inr ⟨g, cap, cur, e1, Nat.zero_le _, r⟩
/-- A relation stays while only what is newer turns. -/
theorem Rln.newer {w w' : World} {B C : Nat} {F : Nat → Prop} {rb ar c : Nat} {M : List (List V)} {s1 s2 : Nat} (h : Rln w B F rb ar c M s1 s2) (hb : Below C w w') (hC : ∀ k, F k → k < C) : Rln w' B F rb ar c M s1 s2 :=
  h.turns (G := fun k => C ≤ k) ⟨hb.os, hb.tape, hb.output, hb.size, fun k hk hG => hb.block k (by omega)⟩ (fun k hk hF => by have := hC k hF; omega)

set_option maxHeartbeats 1600000 in
theorem order_walk {x : Value} {ps : List (V × V)} {w : World} (hx : Pairs w x ps) :
    Calls Try.prog 4 #[x] w fun e w' => e = .returned (.bool true) ∧ Below w.heap.size w w' := by
  obtain ⟨ao, cap, rfl, hm⟩ := hx.len
  unfold maxLen at hm
  obtain ⟨i0, hi, hz0, hz1, hz2⟩ := info_parts infoPair
  have HX := Lib.hid hx
  clear hx
  go_enter Try.func4, Try.ntmps4
  go_wp2_with fail
  refine (shown4_any w).mono ?_
  rintro e w1 ⟨rfl, hb1⟩
  have HB1 := Lib.hid hb1
  have HX1 := Lib.hid (HX.out.below hb1)
  have hs1 := hb1.size
  clear hb1 HX
  by_cases h40 : ps.length ≤ 40
  case neg =>
    have h40I : (ps.length : Int) > 40 := by omega
    go_wp2
    go_ret
    exact ⟨rfl, HB1.out⟩
  have h40I : ¬ (ps.length : Int) > 40 := by omega
  go_wp2_with fail
  go_loopw [4, 5] (fun v i wr => ∃ (k : Nat) (z : Int), k ≤ ps.length ∧ i = .int .i64 z ∧ z = (k : Int) - 1 ∧ Hid (OwnP wr w1.heap.size v (bk ps k)) ∧ Hid (Below w1.heap.size w1 wr)) (fun _ i _ => (intOf i + 1).toNat)
  case atStart => exact ⟨ps.length, (ps.length : Int) - 1, Nat.le_refl _, by first | rfl | go_num, rfl, ⟨by simp [bk]; exact World.ownsRow_nil _ _ _ _, fun p hp => by simp [bk] at hp⟩, Below.refl _ _⟩
  case round =>
    obtain ⟨k, z, hk, rfl, hz, HO, HB⟩ := hrel
    have hwr := HB.out.size
    by_cases hk0 : k = 0
    · subst hk0
      have hzn : ¬ z ≥ 0 := by omega
      have HP := Lib.hid HO.out.pairs
      have HBw : Hid (Below w.heap.size w wr) := HB1.out.trans (HB.out.mono hs1)
      have HXr := Lib.hid (HX1.out.below HB.out)
      have hFL := Lib.hid (filled_any HXr.out)
      obtain ⟨so, sc, rfl⟩ := HO.out.form
      have hbl : (bk ps 0).length = 2 * ps.length := by rw [bk_len]; omega
      obtain ⟨nb, hnb⟩ : ∃ nb, (bk ps 0).length = nb := ⟨_, rfl⟩
      rw [hnb] at HP HO ⊢
      have hn80 : nb ≤ 80 := by omega
      have HNB := Lib.hid hnb
      have hszr : w.heap.size ≤ wr.heap.size := by omega
      clear HX1 HB1 HB HO hs1 hwr hbl hnb hz
      go_wp2_with fail
      refine (hFL.out).mono ?_
      rintro e w2 ⟨F, c, rfl, hc, hb2, hR2⟩
      have HB2 : Hid (Below w.heap.size w w2) := HBw.out.trans (hb2.mono HBw.out.size)
      have HP2 := Lib.hid (HP.out.below hb2)
      have HR2 := Lib.hid hR2
      have hN := Lib.hid (new_rel w2 2 (by decide))
      have HSZ2 : Hid (w.heap.size ≤ w2.heap.size) := HB2.out.size
      rw [List.take_of_length_le h40] at HR2
      obtain ⟨ra, hra⟩ : ∃ ra, wr.heap.size = ra := ⟨_, rfl⟩
      rw [hra] at HR2 ⊢
      clear hb2 hR2 hFL HP HXr HBw hra hszr
      go_wp2_with fail
      refine (hN.out).mono ?_
      rintro e w3 ⟨rfl, hb3, hR3⟩
      have HR3 := Lib.hid hR3
      have HPK : Hid (∀ W, Below w2.heap.size w2 W → Pairs W (.slice so nb sc) (bk ps 0)) := fun W hb => HP2.out.below hb
      have HAK : Hid (∀ W, Below w2.heap.size w2 W → Rln W ra F ra 2 c (fillM [] ps) 0 0) := fun W hb => HR2.out.below hb
      have HBK : Hid (∀ W, Below w2.heap.size w2 W → Below w.heap.size w W) := fun W hb => HB2.out.trans (hb.mono HSZ2.out)
      have HB3 := Lib.hid hb3
      clear hb3 hR3 hN HP2 HR2 HB2
      go_wp2_with fail
      go_loopw [8] (fun i wq => ∃ (j : Nat) (G : Nat → Prop), j ≤ nb ∧ i = .int .i64 (j : Int) ∧ Hid (Rln wq w2.heap.size G w2.heap.size 2 j (fillM [] ((bk ps 0).take j)) 0 0) ∧ Hid (Below w2.heap.size w2 wq)) (fun i _ => 100 - (intOf i).toNat)
      case atStart => exact ⟨0, _, Nat.zero_le _, rfl, HR3, HB3⟩
      case round =>
        clear HR3 HB3
        obtain ⟨j, G, hj, rfl, HR, HB⟩ := hrel
        by_cases hlt : j < nb
        · have h1I : (j : Int) < (nb : Int) := by omega
          have hjl : j < (bk ps 0).length := by rw [HNB.out]; exact hlt
          obtain ⟨b, off, rfl, hbl, hu, hv, c0, c1, c2, c3, c4, c5⟩ := (HPK.out _ HB.out).at j hjl
          have HNX : Hid (fillM [] ((bk ps 0).take (j + 1)) = addRow (fillM [] ((bk ps 0).take j)) (prow (bk ps 0)[j])) := by
            show fillM _ _ = _
            rw [List.take_succ_eq_append_getElem hjl, fillM_snoc]
          have hA := Lib.hid (fun W q => add_pair (W := W) (q := q) HR.out HB.out (Nat.le_refl _) (by omega) hu hv)
          rw [← HNX.out] at hA
          generalize decide (prow (bk ps 0)[j] ∉ fillM [] ((bk ps 0).take j)) = z at *
          generalize hpe : (bk ps 0)[j] = p at *
          clear hpe HNX HR
          obtain ⟨u, v⟩ := p
          simp only at *
          have HUV : Hid (u.Ok ∧ v.Ok) := ⟨hu, hv⟩
          clear hu hv hjl
          go_wp2_with fail
          go_region_with (go_at_call 12; refine (hA.out _ wr.heap.size (Nat.le_refl _) (by first | exact vals_new2 wr HUV.out.1 HUV.out.2 | exact (vals_new2 wr HUV.out.1 HUV.out.2).below ((Below.refl _ _).drew) | exact vals_new2 wr.drew HUV.out.1 HUV.out.2) (by first | exact ((Below.refl _ _).alloc (Nat.le_refl _) _) | exact ((Below.refl _ _).alloc (Nat.le_refl _) _).drew | exact ((Below.refl _ _).drew).alloc (by simp) _)).mono ?_; rintro e w' ⟨F', rfl, hbN, hRN⟩; have HRN := Lib.hid hRN; have HBN := Lib.hid hbN; clear hRN hbN)
          all_goals
            go_wp2
            go_roundw
            case rel => exact ⟨j + 1, F', by omega, by go_num, HRN, HBN⟩
            case measure => simp [intOf]; omega
        · obtain rfl : j = nb := by omega
          have h1I : ¬ (j : Int) < (j : Int) := by omega
          have HRb := HR.out
          rw [List.take_of_length_le (by rw [HNB.out]; exact Nat.le_refl _)] at HRb
          have HRa := Lib.hid (HAK.out _ HB.out)
          have HBb := Lib.hid (HBK.out _ HB.out)
          obtain ⟨Ma, hMa⟩ : ∃ Ma, Ma = fillM [] ps := ⟨_, rfl⟩
          obtain ⟨Mb, hMb⟩ : ∃ Mb, Mb = fillM [] (bk ps 0) := ⟨_, rfl⟩
          have hsame := order_same ps hMa hMb
          rw [← hMa] at HRa
          rw [← hMb] at HRb
          have hsrt : srt Ma = srt Mb := srt_one HRa.out.unlike HRb.unlike hsame
          obtain ⟨n, hn⟩ : ∃ n, Ma.length = n := ⟨_, rfl⟩
          have hn2 : Mb.length = n := by rw [← srt_len HRb.unlike, ← hsrt, srt_len HRa.out.unlike, hn]
          have HRB := Lib.hid HRb
          have HN : Hid (Ma.length = n ∧ Mb.length = n ∧ srt Ma = srt Mb) := ⟨hn, hn2, hsrt⟩
          have hLa := Lib.hid (len_n HRa.out hn)
          have hLb := Lib.hid (len_n HRB.out hn2)
          clear HRb hsame hsrt hn hn2 hMa hMb HR HPK HAK HBK HB HNB HSZ2 hlt hj
          go_wp2_with fail
          refine (hLa.out).mono ?_
          rintro e w5 ⟨rfl, rfl⟩
          go_wp2_with fail
          refine (hLb.out).mono ?_
          rintro e w5 ⟨rfl, rfl⟩
          have hAa := Lib.hid (all_told HRa.out (by omega))
          go_wp2_with fail
          refine (hAa.out).mono ?_
          rintro e w6 ⟨xa, ca, Da, rfl, hb6, hOa, hEa⟩
          have HB6 : Hid (Below w.heap.size w w6) := HBb.out.trans (hb6.mono HBb.out.size)
          have HRa6 := Lib.hid (HRa.out.below hb6)
          have hAb := Lib.hid (all_told (HRB.out.below hb6) (by omega))
          have HGa : Hid (Grid w6 (.slice xa Ma.length ca) Da ∧ Da.map R.vs = srt Ma) := ⟨hOa.grid, hEa⟩
          clear hb6 hOa hEa hAa hLa hLb HRa HRB HBb
          go_wp2_with fail
          refine (hAb.out).mono ?_
          rintro e w7 ⟨xb, cb, Db, rfl, hb7, hOb, hEb⟩
          have HB7 : Hid (Below w.heap.size w w7) := HB6.out.trans (hb7.mono HB6.out.size)
          have HRa7 := Lib.hid (HRa6.out.below hb7)
          have hS := Lib.hid (rows_same (HGa.out.1.below hb7) hOb.grid (HGa.out.2.trans (HN.out.2.2.trans hEb.symm)))
          clear hb7 hOb hEb hAb HRa6 HB6 HGa
          go_wp2_with fail
          refine (hS.out).mono ?_
          rintro e w8 ⟨rfl, hb8⟩
          have HB8 : Hid (Below w.heap.size w w8) := HB7.out.trans (hb8.mono HB7.out.size)
          have HRa8 := Lib.hid (HRa7.out.below hb8)
          have hAc := Lib.hid (all_n HRa8.out (by omega) HN.out.1)
          clear hb8 hS HRa7 HB7
          go_wp2_with fail
          refine (hAc.out).mono ?_
          rintro e w9 ⟨xc, cc, rfl, hb9⟩
          have HB9 : Hid (Below w.heap.size w w9) := HB8.out.trans (hb9.mono HB8.out.size)
          have hLc := Lib.hid (len_n (HRa8.out.below hb9) HN.out.1)
          clear hb9 hAc HRa8 HB8
          go_wp2_with fail
          refine (hLc.out).mono ?_
          rintro e w10 ⟨rfl, rfl⟩
          go_wp2
          go_ret
          exact ⟨by first | rfl | simp, HB9.out⟩
    · obtain ⟨k1, rfl⟩ : ∃ k1, k = k1 + 1 := ⟨k - 1, by omega⟩
      obtain rfl : z = (k1 : Int) := by omega
      have hzp : (k1 : Int) ≥ 0 := by omega
      have hlt : k1 < ps.length := by omega
      have h1I : (k1 : Int) < (ps.length : Int) := by omega
      obtain ⟨b, off, rfl, hbl, hu, hv, c0, c1, c2, c3, c4, c5⟩ := (HX1.out.below HB.out).at k1 hlt
      obtain ⟨so, sc, rfl⟩ := HO.out.form
      obtain ⟨n, hn⟩ : ∃ n, (bk ps (k1 + 1)).length = n := ⟨_, rfl⟩
      have hn80 : n ≤ 80 := by rw [← hn, bk_len]; omega
      have HRW : Hid (wr.ownsRow w1.heap.size 56 6 (.slice so n sc) n ((bk ps (k1 + 1)).flatMap pcells)) := by
        have := HO.out.1
        rw [hn] at this
        exact this
      have HNXT : Hid (∀ v' w3, w3.ownsRow 0 56 6 v' (n + 2) ((bk ps (k1 + 1)).flatMap pcells ++ [.bool ps[k1].1.k, .string ps[k1].1.s, .int .i64 ps[k1].1.n, .bool ps[k1].2.k, .string ps[k1].2.s, .int .i64 ps[k1].2.n, .bool ps[k1].1.k, .string ps[k1].1.s, .int .i64 ps[k1].1.n, .bool ps[k1].2.k, .string ps[k1].2.s, .int .i64 ps[k1].2.n]) →
          ∀ W, Below wr.heap.size wr W → W.grownBy w3 (Value.slice so n sc).ownBlock → (v'.ownBlock = (Value.slice so n sc).ownBlock ∨ v'.ownBlock = some W.heap.size) → OwnP w3 w1.heap.size v' (bk ps k1) ∧ Below w1.heap.size w1 w3) := fun v' w3 hr W hbW hg hl => by
        have hlow : ∀ k, (Value.slice so n sc).ownBlock = some k → w1.heap.size ≤ k := fun k hk => (HRW.out.lt k hk).1
        have hsW := hbW.size
        refine ⟨⟨?_, ?_⟩, (HB.out.trans (hbW.mono hwr)).trans ⟨hg.os, hg.tape, hg.output, hg.size, fun i hi => hg.block i (by omega) (fun e => by have := hlow i e.symm; omega)⟩⟩
        · rw [bk_step hlt, List.flatMap_append, List.length_append, hn]
          refine ownsRow_base hr (fun k hk => ?_)
          rcases hl with hl | hl
          · exact hlow k (hl ▸ hk)
          · rw [hl] at hk; injection hk with hk; omega
        · rw [bk_step hlt]
          intro p hp
          rcases List.mem_append.1 hp with hp | hp
          · exact HO.out.2 p hp
          · simp at hp; subst hp; exact ⟨hu, hv⟩
      rw [hn]
      generalize (bk ps (k1 + 1)).flatMap pcells = cs at *
      generalize hpe : ps[k1] = p at *
      have HK1 : Hid (k1 < ps.length ∧ ps.length ≤ 40) := ⟨hlt, h40⟩
      clear hpe HO hu hv hn hk0 hk hm h40 h40I hlt hz
      obtain ⟨u, v⟩ := p
      simp only at *
      go_wp2_with fail
      go_region_law (refine step_append_own rfl (.tmp 21) (.tmp 30) 53 rfl 56 i0 _ 6 64 Try.underlying53 hi hz0 hz1 hz2 rfl (by decide) (.slice so n sc) n cs (by simp [Act.eval, Act.put]) (ownsRow_zero (World.ownsRow.alloc HRW.out _)) ⟨wr.heap.size, 0, none⟩ 2 2 [.bool u.k, .string u.s, .int .i64 u.n, .bool v.k, .string v.s, .int .i64 v.n, .bool u.k, .string u.s, .int .i64 u.n, .bool v.k, .string v.s, .int .i64 v.n] (by simp [Act.eval, Act.put]) rfl (pair_new wr #[.bool u.k, .string u.s, .int .i64 u.n, .bool v.k, .string v.s, .int .i64 v.n, .bool u.k, .string u.s, .int .i64 u.n, .bool v.k, .string v.s, .int .i64 v.n] _) (by simp [Value.oneCell']) (by unfold maxLen; omega) (by omega) ?_; intro v' w3 hr3 hg3 hl3; have s4 := HNXT.out v' w3 hr3 _ (by first | exact ((Below.refl _ _).alloc (Nat.le_refl _) _).drew | exact (Below.refl _ _).alloc (Nat.le_refl _) _ | exact ((Below.refl _ _).drew).alloc (by simp) _) hg3 hl3; obtain ⟨g', cap', hv'⟩ := Joins.ownsRow_form hr3 (Nat.succ_pos _); subst hv'; have HE := Lib.hid s4; clear s4 hr3 hg3 hl3)
      all_goals
        go_wp2
        go_roundw
        case rel => exact ⟨k1, (k1 : Int) - 1, by have := HK1.out; omega, by first | rfl | go_num, rfl, HE.out.1, HE.out.2⟩
        case measure => simp [intOf]
end Go.Proofs.Ytfjkfblejfiglaa
