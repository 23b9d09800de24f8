/-
  Contract of symtab's finder.add: a value that isn't there is put at the end; nothing turns but the table's own blocks.
-/
import Derived.Test.YtfjkfblejfiglaaRMid
import Derived.RegionTactic
namespace Go.Proofs.Ytfjkfblejfiglaa
set_option linter.unusedSimpArgs false
set_option linter.unusedVariables false
set_option linter.unusedSectionVars false
set_option maxRecDepth 100000
open Go.RowKit Go.Maps
variable [DecidableEq V]

/-- append onto a slice of the call's own, as one step of a region that draws its order; with where the new one lies. -/
theorem step_append_own {P : Program} {ops : Array Oper} {o : Oper} {a : Act} {w : World} {K : Act → World → Prop} {Q : Exit → Act → World → Prop} {E : Prop}
    (hg : o.guard = none) (s x : Operand) (t : TypeId) (hop : o.op = Op.call { callee := Callee.builtin Builtin.append, args := #[s, x], argTypes := #[t, t] })
    (e : TypeId) (i : TypeInfo) (z : Value) (size bytes : Nat) (h1 : P.underlying t = some (.slice e)) (h2 : P.info? e = some i) (h3 : i.zero = some z) (h4 : i.size = size) (h5 : i.bytes = bytes) (h6 : z.cells.size = size) (h7 : 0 < size)
    (v : Value) (n : Nat) (xs : List Value) (hs : a.eval s = v) (hown : w.ownsRow 0 e size v n xs)
    (ad : Addr) (m c : Nat) (news : List Value) (hx : a.eval x = .slice (some ad) m c) (hn : news.length = m * size) (hc : ∀ j u, news[j]? = some u → w.cell? (ad.add j) = some u) (h1c : ∀ u ∈ news, u.oneCell' = true)
    (b1 : n + m ≤ maxLen) (b2 : (n + m) * bytes ≤ 140737488355328)
    (hK : ∀ v' w', w'.ownsRow 0 e size v' (n + m) (xs ++ news) → w.grownBy w' v.ownBlock → (v'.ownBlock = v.ownBlock ∨ v'.ownBlock = some w.heap.size) → K (a.put o.dst v') w') :
    if Region.wanted o (yielded ops a.tmps) = true then Oper.wp P o a w K Q else E := by
  have hw : Region.wanted o (yielded ops a.tmps) = true := by simp [Region.wanted, hg]
  rw [if_pos hw]
  obtain ⟨v', w', hrun, r1, r2, _, r3⟩ := run_append_own_at (P := P) w 0 t o.type e i z size bytes h1 h2 h3 h4 h5 h6 h7 v n xs hown ad m c news hn hc h1c b1 b2 (Nat.zero_le _)
  unfold Oper.wp
  simp [execOp, hop, resolve, invoke, builtin, hs, hx, hrun, Result.andThen]
  exact hK v' w' r1 r2 r3

set_option maxHeartbeats 3200000 in
set_option maxRecDepth 100000 in
theorem add_any {w : World} {B : Nat} {F : Nat → Prop} {tb : Nat} {X : Ex} {L : List V} (hT : Tbl w B F tb X L) {v : V} (hv : v.Ok) (hn : v ∉ L) (hL : L.length < 1000000) :
    Calls Try.prog 48 #[.pointer (some ⟨tb, 0, none⟩), .agg #[.bool v.k, .string v.s, .int .i64 v.n]] w
      fun e w' => e = .returned (.int .i64 (L.length : Nat)) ∧ Turns F w w' ∧ Tbl w' B (fun k => F k ∨ w.heap.size ≤ k ∧ k < w'.heap.size) tb X (L ++ [v]) := by
  have hlt := hT.lt
  obtain ⟨mo, sv, h0, h1, h2, h3, h4, h5, h6, h7, h8⟩ := hT
  have c0 : w.cell? ⟨tb, 0, none⟩ = some (.map mo) := by rw [cell_of_row w tb 0 _ _ _ h0]; rfl
  have c1 : w.cell? ⟨tb, 1, none⟩ = some sv := by rw [cell_of_row w tb 1 _ _ _ h0]; rfl
  have f0 : w.frozen? ⟨tb, 0, none⟩ = false := by simp [World.frozen?, h0]
  have f1 : w.frozen? ⟨tb, 1, none⟩ = false := by simp [World.frozen?, h0]
  obtain ⟨ao, cap, hsv⟩ : ∃ ao cap, sv = .slice ao L.length cap := by
    rcases h1.2 with ⟨rfl, hn⟩ | ⟨g, cap, cur, rfl, _⟩
    · exact ⟨none, 0, by rw [hn]⟩
    · exact ⟨_, _, rfl⟩
  subst hsv
  obtain ⟨i0, hi, hz0, hz1, hz2⟩ := info_parts infoVal
  have he1 := eqlSome
  have he2 := eqlNil
  have hmm := @run_makeMap Try.prog
  cases mo with
  | none =>
    have HM := Lib.hid (mid_none (v := v) (h2 rfl) h0 h1 h4 h6 h7)
    clear h0 h1 h2 h3 h4 h5 h6 h7 h8
    go_enter Try.func48, Try.ntmps48
    go_wp2
    generalize (((w.setCell { block := tb, off := 0 } (Value.map (some (w.heap.size + 1)))).alloc (Obj.cells #[Value.bool v.k, Value.string v.s, Value.int IntKind.i64 v.n] 55)).alloc (Obj.map #[] 0)) = W at HM ⊢
    generalize w.heap.size + 1 = mb at HM ⊢
    clear c0 c1 f0 f1 he1 he2 hmm
    obtain ⟨w2, hrun, hM2⟩ := HM.out.store hv hn hL
    have HM2 := Lib.hid hM2
    obtain ⟨p0, p1, p2, p3, p4, p5, p6⟩ := HM.out.cells
    obtain ⟨q0, q1, q2, q3, q4, q5, q6⟩ := HM2.out.cells
    clear hM2 HM
    go_region
    go_wp2
    clear hrun p0 p1 p2 p3 p4 p5 p6
    have HR : Hid ((w2.drew.alloc (.cells #[.bool v.k, .string v.s, .int .i64 v.n] 55)).ownsRow 0 55 3 (.slice ao L.length cap) L.length (L.flatMap V.cells)) := (HM2.out.drew.alloc _).row
    have HC : Hid (∀ (w3 : World), (w2.drew.alloc (.cells #[.bool v.k, .string v.s, .int .i64 v.n] 55)).grownBy w3 (Value.slice ao L.length cap).ownBlock → w3.cell? ⟨tb, 1, none⟩ = some (.slice ao L.length cap) ∧ w3.frozen? ⟨tb, 1, none⟩ = false ∧ tb < w3.heap.size) := fun w3 hg => (HM2.out.drew.alloc _).cells3 hg
    have HD : Hid (∀ (w3 : World) (v' : Value), (w2.drew.alloc (.cells #[.bool v.k, .string v.s, .int .i64 v.n] 55)).grownBy w3 (Value.slice ao L.length cap).ownBlock → w3.ownsRow 0 55 3 v' (L.length + 1) (L.flatMap V.cells ++ v.cells) →
        (v'.ownBlock = (Value.slice ao L.length cap).ownBlock ∨ v'.ownBlock = some (w2.drew.alloc (.cells #[.bool v.k, .string v.s, .int .i64 v.n] 55)).heap.size) →
        Turns F w (w3.setCell ⟨tb, 1, none⟩ v') ∧ Tbl (w3.setCell ⟨tb, 1, none⟩ v') B (fun k => F k ∨ w.heap.size ≤ k ∧ k < (w3.setCell ⟨tb, 1, none⟩ v').heap.size) tb X (L ++ [v])) := fun w3 v' hg hr hl => (HM2.out.drew.alloc _).done hv hg hr hl
    clear HM2
    go_region_law (refine step_append_own rfl (.tmp 30) (.tmp 32) 30 rfl 55 i0 _ 3 32 Try.underlying30 hi hz0 hz1 hz2 rfl (by decide) (.slice ao L.length cap) L.length (L.flatMap V.cells) (by simp [Act.eval, Act.put]) HR.out ⟨w2.heap.size, 0, none⟩ 1 1 [.bool v.k, .string v.s, .int .i64 v.n] (by simp [Act.eval, Act.put]) rfl (three_new _ _ _ _ _) (by simp [Value.oneCell']) (by unfold maxLen; omega) (by omega) ?_; intro v' w3 hr3 hg3 hl3; obtain ⟨s1, s2, s3⟩ := HC.out w3 hg3; obtain ⟨s4, s5⟩ := HD.out w3 v' hg3 hr3 hl3; obtain ⟨g', cap', hv'⟩ := Joins.ownsRow_form hr3 (Nat.succ_pos _); subst hv'; have HE := Lib.hid (And.intro s4 s5); clear s4 s5 hr3 hg3 hl3)
    all_goals
      go_wp2
      go_ret
      exact ⟨rfl, HE.out.1, HE.out.2⟩
  | some mb =>
    have HM := Lib.hid (mid_some (v := v) h0 h1 (h3 mb rfl) h4 (h5 mb rfl) h6 h7 h8)
    clear h0 h1 h2 h3 h4 h5 h6 h7 h8
    go_enter Try.func48, Try.ntmps48
    go_wp2
    generalize (w.alloc (Obj.cells #[Value.bool v.k, Value.string v.s, Value.int IntKind.i64 v.n] 55)) = W at HM ⊢
    clear c0 c1 f0 f1 he1 he2 hmm
    obtain ⟨w2, hrun, hM2⟩ := HM.out.store hv hn hL
    have HM2 := Lib.hid hM2
    obtain ⟨p0, p1, p2, p3, p4, p5, p6⟩ := HM.out.cells
    obtain ⟨q0, q1, q2, q3, q4, q5, q6⟩ := HM2.out.cells
    clear hM2 HM
    go_region
    go_wp2
    clear hrun p0 p1 p2 p3 p4 p5 p6
    have HR : Hid ((w2.drew.alloc (.cells #[.bool v.k, .string v.s, .int .i64 v.n] 55)).ownsRow 0 55 3 (.slice ao L.length cap) L.length (L.flatMap V.cells)) := (HM2.out.drew.alloc _).row
    have HC : Hid (∀ (w3 : World), (w2.drew.alloc (.cells #[.bool v.k, .string v.s, .int .i64 v.n] 55)).grownBy w3 (Value.slice ao L.length cap).ownBlock → w3.cell? ⟨tb, 1, none⟩ = some (.slice ao L.length cap) ∧ w3.frozen? ⟨tb, 1, none⟩ = false ∧ tb < w3.heap.size) := fun w3 hg => (HM2.out.drew.alloc _).cells3 hg
    have HD : Hid (∀ (w3 : World) (v' : Value), (w2.drew.alloc (.cells #[.bool v.k, .string v.s, .int .i64 v.n] 55)).grownBy w3 (Value.slice ao L.length cap).ownBlock → w3.ownsRow 0 55 3 v' (L.length + 1) (L.flatMap V.cells ++ v.cells) →
        (v'.ownBlock = (Value.slice ao L.length cap).ownBlock ∨ v'.ownBlock = some (w2.drew.alloc (.cells #[.bool v.k, .string v.s, .int .i64 v.n] 55)).heap.size) →
        Turns F w (w3.setCell ⟨tb, 1, none⟩ v') ∧ Tbl (w3.setCell ⟨tb, 1, none⟩ v') B (fun k => F k ∨ w.heap.size ≤ k ∧ k < (w3.setCell ⟨tb, 1, none⟩ v').heap.size) tb X (L ++ [v])) := fun w3 v' hg hr hl => (HM2.out.drew.alloc _).done hv hg hr hl
    clear HM2
    go_region_law (refine step_append_own rfl (.tmp 30) (.tmp 32) 30 rfl 55 i0 _ 3 32 Try.underlying30 hi hz0 hz1 hz2 rfl (by decide) (.slice ao L.length cap) L.length (L.flatMap V.cells) (by simp [Act.eval, Act.put]) HR.out ⟨w2.heap.size, 0, none⟩ 1 1 [.bool v.k, .string v.s, .int .i64 v.n] (by simp [Act.eval, Act.put]) rfl (three_new _ _ _ _ _) (by simp [Value.oneCell']) (by unfold maxLen; omega) (by omega) ?_; intro v' w3 hr3 hg3 hl3; obtain ⟨s1, s2, s3⟩ := HC.out w3 hg3; obtain ⟨s4, s5⟩ := HD.out w3 v' hg3 hr3 hl3; obtain ⟨g', cap', hv'⟩ := Joins.ownsRow_form hr3 (Nat.succ_pos _); subst hv'; have HE := Lib.hid (And.intro s4 s5); clear s4 s5 hr3 hg3 hl3)
    all_goals
      go_wp2
      go_ret
      exact ⟨rfl, HE.out.1, HE.out.2⟩
end Go.Proofs.Ytfjkfblejfiglaa
