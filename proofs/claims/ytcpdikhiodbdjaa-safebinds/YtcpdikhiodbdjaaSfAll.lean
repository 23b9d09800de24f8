/-
  Contracts of safe.All and of the document's All.
-/
import Derived.Test.YtcpdikhiodbdjaaSfPrg2
namespace Go.Proofs.Ytcpdikhiodbdjaa
set_option linter.unusedSimpArgs false
set_option linter.unusedVariables false
set_option linter.unusedSectionVars false
set_option maxRecDepth 100000
open Go.RowKit Go.Maps

theorem results_tmp4 {fn : Func} {t u v z : Tmp} (h : fn.results = #[.tmp t, .tmp u, .tmp v, .tmp z]) (tmps : Array Value) (P : Program) (w : World) :
    (results fn tmps).run P w = .ok (.tuple #[tmps.getD t undef, tmps.getD u undef, tmps.getD v undef, tmps.getD z undef]) w := by
  simp [results, h]
theorem box2c {w : World} {b : Nat} {x y : Value} {t : TypeId} (h : w.heap[b]? = some (.cells #[x, y] t (0, 0))) : w.cell? ⟨b, 0, none⟩ = some x ∧ w.cell? ⟨b, 1, none⟩ = some y ∧ b < w.heap.size :=
  ⟨by simp [World.cell?, h], by simp [World.cell?, h], (Array.getElem?_eq_some_iff.1 h).1⟩

set_option maxHeartbeats 4000000 in
theorem all_any {g : Pr} {x y : Value} {w : World} (hx : Des w x g.decls) (hy : Rus w y g.rules) (hS : ∀ r ∈ g.rules, SmRu r) (hO : ∀ r ∈ g.rules, OkRu r) :
    Calls Try.prog 13 #[.agg #[x, y]] w fun e w' => e = .returned (allV (allG 0 g.rules)) ∧ Below w.heap.size w w' := by
  obtain ⟨D, R⟩ := g
  simp only at hx hy hS hO ⊢
  obtain ⟨xo, xc, rfl, -⟩ := hx.form
  obtain ⟨yo, yc, rfl, -, hym⟩ := hy.form
  unfold maxLen at hym
  have HY := Lib.hid hy
  have HS := Lib.hid hS
  have HO := Lib.hid hO
  clear hx hy hS hO
  go_enter Try.func13, Try.ntmps13
  go_wp2
  go_loopw [14] (fun i wr => ∃ k : Nat, k ≤ R.length ∧ i = .int .i64 (k : Int) ∧ Hid (∀ r ∈ R.take k, checkR r = none) ∧ Hid (Below w.heap.size w wr)) (fun i _ => R.length - (intOf i).toNat)
  case atStart => exact ⟨0, Nat.zero_le _, rfl, Lib.hid (fun r hr => by simp at hr), al_bel _ _⟩
  case round =>
    obtain ⟨k, hk, rfl, HF, HB⟩ := hrel
    by_cases hlt : k < R.length
    · have hltI : (k : Int) < (R.length : Int) := by omega
      obtain ⟨b, off, cs, rfl, hbl, ⟨xa, ya, rfl, hxa, hya⟩, hcell⟩ := (show Rus wr (.slice yo R.length yc) R from HY.out.below stayRu HB.out).at k hlt
      have q0 := hcell 0 _ rfl
      have q1 := hcell 1 _ rfl
      have q2 := hcell 2 _ rfl
      simp only [Nat.add_zero] at q0
      have hzw := HB.out.size
      have HQ := Lib.hid (check_any (hxa.below stayTm (al_bel wr (.cells #[.string (R[k]'hlt).head.p, xa, ya] 27))) (hya.below stayLt (al_bel wr (.cells #[.string (R[k]'hlt).head.p, xa, ya] 27))) (HS.out _ (List.getElem_mem hlt)) (HO.out _ (List.getElem_mem hlt)))
      have HH : Hid (∀ s p, checkR (R[k]'hlt) = some (s, p) → allG 0 R = some (k, s, p)) := fun s p h => all_hit hlt HF.out h
      have HG : Hid (checkR (R[k]'hlt) = none → ∀ r ∈ R.take (k + 1), checkR r = none) := fun h => allpre_next hlt HF.out h
      clear hcell
      obtain ⟨r, hr⟩ : ∃ r, r = R[k]'hlt := ⟨_, rfl⟩
      rw [← hr] at q0 HQ HH HG hxa hya
      clear hr
      obtain ⟨xao, xac, rfl, -⟩ := hxa.form
      obtain ⟨yao, yac, rfl, -⟩ := hya.form
      clear hxa hya
      cases hc : checkR r with
      | some sp =>
        obtain ⟨s, p⟩ := sp
        rw [hc] at HQ
        have HC := Lib.hid (HH.out s p hc)
        clear HH HG hc
        go_wp2_with (go_at_call 11; refine HQ.out.mono ?_; clear HQ; rintro e w1 ⟨rfl, hb1⟩; have HB1 := Lib.hid ((HB.out.alloc hzw _).trans (hb1.mono (by simp; omega))); clear hb1; simp only [chkV])
        refine bodyPost_ret (results_tmp4 rfl _ _ _) rfl ?_
        rw [HC.out]
        exact ⟨rfl, HB1.out⟩
      | none =>
        rw [hc] at HQ
        have HG2 := Lib.hid (HG.out hc)
        clear HH HG hc
        go_wp2_with (go_at_call 11; refine HQ.out.mono ?_; clear HQ; rintro e w1 ⟨rfl, hb1⟩; have HB1 := Lib.hid ((HB.out.alloc hzw _).trans (hb1.mono (by simp; omega))); clear hb1; simp only [chkV])
        go_roundw
        case rel => exact ⟨k + 1, by omega, by simp, HG2, HB1⟩
        case measure => simp [intOf]; omega
    · have hltI : ¬ (k : Int) < (R.length : Int) := by omega
      obtain rfl : k = R.length := by omega
      have HC : Hid (allG 0 R = none) := all_end (by have := HF.out; rw [List.take_length] at this; exact this)
      go_wp2
      refine bodyPost_ret (results_tmp4 rfl _ _ _) rfl ?_
      rw [HC.out]
      exact ⟨rfl, HB.out⟩

set_option maxHeartbeats 4000000 in
theorem rall_any {g : Pr} {x y : Value} {w : World} (hx : Des w x g.decls) (hy : Rus w y g.rules) (hS : ∀ r ∈ g.rules, SmRu r) :
    Calls Try.prog 14 #[.agg #[x, y]] w fun e w' => e = .returned (allV (allG 0 g.rules)) ∧ Below w.heap.size w w' := by
  obtain ⟨D, R⟩ := g
  simp only at hx hy hS ⊢
  obtain ⟨xo, xc, rfl, -⟩ := hx.form
  obtain ⟨yo, yc, rfl, -, hym⟩ := hy.form
  unfold maxLen at hym
  have HY := Lib.hid hy
  have HS := Lib.hid hS
  clear hx hy hS
  go_enter Try.func14, Try.ntmps14
  go_wp2
  go_loopw [6] (fun i wr => ∃ k : Nat, k ≤ R.length ∧ i = .int .i64 (k : Int) ∧ Hid (∀ r ∈ R.take k, checkR r = none) ∧ Hid (BoxS w wr (.cells #[.slice xo D.length xc, .slice yo R.length yc] 31 (0, 0)))) (fun i _ => R.length - (intOf i).toNat)
  case atStart => exact ⟨0, Nat.zero_le _, rfl, Lib.hid (fun r hr => by simp at hr), BoxS.new _ _ _⟩
  case round =>
    obtain ⟨k, hk, rfl, HF, HB⟩ := hrel
    obtain ⟨b0, b1, blt⟩ := box2c HB.out.2
    by_cases hlt : k < R.length
    · have hltI : (k : Int) < (R.length : Int) := by omega
      obtain ⟨b, off, cs, rfl, hbl, ⟨xa, ya, rfl, hxa, hya⟩, hcell⟩ := (show Rus wr (.slice yo R.length yc) R from HY.out.below stayRu HB.out.1).at k hlt
      have q0 := hcell 0 _ rfl
      have q1 := hcell 1 _ rfl
      have q2 := hcell 2 _ rfl
      simp only [Nat.add_zero] at q0
      have HQ := Lib.hid (rcheck_any hxa hya (HS.out _ (List.getElem_mem hlt)))
      have HH : Hid (∀ s p, checkR (R[k]'hlt) = some (s, p) → allG 0 R = some (k, s, p)) := fun s p h => all_hit hlt HF.out h
      have HG : Hid (checkR (R[k]'hlt) = none → ∀ r ∈ R.take (k + 1), checkR r = none) := fun h => allpre_next hlt HF.out h
      clear hcell
      obtain ⟨r, hr⟩ : ∃ r, r = R[k]'hlt := ⟨_, rfl⟩
      rw [← hr] at q0 HQ HH HG hxa hya
      clear hr
      obtain ⟨xao, xac, rfl, -⟩ := hxa.form
      obtain ⟨yao, yac, rfl, -⟩ := hya.form
      clear hxa hya
      cases hc : checkR r with
      | some sp =>
        obtain ⟨s, p⟩ := sp
        rw [hc] at HQ
        have HC := Lib.hid (HH.out s p hc)
        clear HH HG hc
        go_wp2_with (go_at_call 12; refine HQ.out.mono ?_; clear HQ; rintro e w1 ⟨rfl, hb1⟩; have HB1 := Lib.hid (HB.out.below hb1); clear hb1; simp only [chkV])
        refine bodyPost_ret (results_tmp4 rfl _ _ _) rfl ?_
        rw [HC.out]
        exact ⟨rfl, HB1.out.1⟩
      | none =>
        rw [hc] at HQ
        have HG2 := Lib.hid (HG.out hc)
        clear HH HG hc
        go_wp2_with (go_at_call 12; refine HQ.out.mono ?_; clear HQ; rintro e w1 ⟨rfl, hb1⟩; have HB1 := Lib.hid (HB.out.below hb1); clear hb1; simp only [chkV])
        go_roundw
        case rel => exact ⟨k + 1, by omega, by simp, HG2, HB1⟩
        case measure => simp [intOf]; omega
    · have hltI : ¬ (k : Int) < (R.length : Int) := by omega
      obtain rfl : k = R.length := by omega
      have HC : Hid (allG 0 R = none) := all_end (by have := HF.out; rw [List.take_length] at this; exact this)
      go_wp2
      refine bodyPost_ret (results_tmp4 rfl _ _ _) rfl ?_
      rw [HC.out]
      exact ⟨rfl, HB.out.1⟩
end Go.Proofs.Ytcpdikhiodbdjaa
