/-
  A relation told by its rows as they came. Contracts of New, Len, Turn, turned, of a relation and of none.
-/
import Derived.Test.YtfjkfblejfiglaaRMtx
namespace Go.Proofs.Ytfjkfblejfiglaa
set_option linter.unusedSimpArgs false
set_option linter.unusedVariables false
set_option linter.unusedSectionVars false
set_option maxRecDepth 100000
open Go.RowKit Go.Maps
variable [DecidableEq V]

/-- A RELATION, told by its rows M as they came: s1 of them are full, s2 full or delta; F lists its blocks; c puts at most have been. -/
def Rln (w : World) (B : Nat) (F : Nat → Prop) (rb ar c : Nat) (M : List (List V)) (s1 s2 : Nat) : Prop :=
  ∃ FT FR L RS to rv, Rl w B FT FR rb ar L RS to rv s1 s2 ∧ (∀ k, F k ↔ FT k ∨ FR k) ∧ M = RS.map (rowOf L) ∧ L.length ≤ 6 * c ∧ RS.length ≤ c
section
variable {w w' : World} {B : Nat} {F : Nat → Prop} {rb ar c : Nat} {M : List (List V)} {s1 s2 : Nat}
theorem Rln.turns {G : Nat → Prop} (h : Rln w B F rb ar c M s1 s2) (ht : Turns G w w') (hG : ∀ k, G k → ¬ F k) : Rln w' B F rb ar c M s1 s2 := by
  obtain ⟨FT, FR, L, RS, to, rv, h1, h2, h3, h4, h5⟩ := h
  exact ⟨FT, FR, L, RS, to, rv, h1.turns ht (fun k g => ⟨fun a => hG k g ((h2 k).2 (.inl a)), fun a => hG k g ((h2 k).2 (.inr a))⟩), h2, h3, h4, h5⟩
theorem Rln.below (h : Rln w B F rb ar c M s1 s2) (hb : Below w.heap.size w w') : Rln w' B F rb ar c M s1 s2 :=
  h.turns (Turns.of_below (F := fun _ => False) hb) (fun _ h => h.elim)
theorem Rln.low (h : Rln w B F rb ar c M s1 s2) : (∀ k, F k → B ≤ k ∧ k < w.heap.size) ∧ rb < w.heap.size ∧ B ≤ rb := by
  obtain ⟨FT, FR, L, RS, to, rv, h1, h2, h3, h4, h5⟩ := h
  have hl := h1.lowT
  refine ⟨fun k hk => ?_, (hl.2 rb hl.1).2, (hl.2 rb hl.1).1⟩
  rcases (h2 k).1 hk with hk | hk
  · exact hl.2 k hk
  · exact h1.low k hk
theorem Rln.nums (h : Rln w B F rb ar c M s1 s2) : M.length ≤ c ∧ s1 ≤ s2 ∧ s2 ≤ M.length ∧ ar ≤ 6 := by
  obtain ⟨FT, FR, L, RS, to, rv, h1, h2, h3, h4, h5⟩ := h
  have e : M.length = RS.length := by rw [h3]; simp
  exact ⟨by omega, h1.h1, by have := h1.h2; omega, h1.ar6⟩
theorem Rln.rows (h : Rln w B F rb ar c M s1 s2) : ∀ r ∈ M, r.length = ar ∧ ∀ v ∈ r, v.bare = v := by
  obtain ⟨FT, FR, L, RS, to, rv, h1, h2, rfl, h4, h5⟩ := h
  intro r hr
  obtain ⟨q, hq, rfl⟩ := List.mem_map.1 hr
  obtain ⟨q1, q2⟩ := h1.rows q hq
  refine ⟨by simp [rowOf, q1], fun v hv => ?_⟩
  obtain ⟨n, hn, rfl⟩ := List.mem_map.1 hv
  rw [getD_lt (q2 n hn)]
  exact h1.bareL _ (List.getElem_mem _)
theorem Rln.nodup (h : Rln w B F rb ar c M s1 s2) : M.Nodup := by
  obtain ⟨FT, FR, L, RS, to, rv, h1, h2, rfl, h4, h5⟩ := h
  refine List.pairwise_map.2 (List.Pairwise.imp_of_mem (fun {a b} ha hb hab => ?_) h1.nd)
  exact fun e => hab (rowOf_inj h1.ndL (h1.rows a ha).2 (h1.rows b hb).2 e)
theorem Rln.apart (h : Rln w B F rb ar c M s1 s2) {x : Value} (hx : ∀ a n c, x = .slice (some a) n c → a.block < B ∨ w.heap.size ≤ a.block) : Apart F x := fun a n c e _ g => by
  have := h.low.1 _ g
  have := hx a n c e
  omega
end
set_option maxHeartbeats 800000 in
theorem new_rel (w : World) (n : Nat) (h6 : n ≤ 6) :
    Calls Try.prog 11 #[.int .i64 (n : Int)] w fun e w' => e = .returned (.pointer (some ⟨w.heap.size, 0, none⟩)) ∧ Below w.heap.size w w' ∧ Rln w' w.heap.size (fun k => k = w.heap.size) w.heap.size n 0 [] 0 0 := by
  have n0 : ¬ (n : Int) < 0 := by omega
  have n6 : ¬ (n : Int) > 6 := by omega
  go_enter Try.func11, Try.ntmps11
  go_wp2
  go_ret
  refine ⟨rfl, (Below.refl _ _).alloc (Nat.le_refl _) _, fun k => k = w.heap.size, fun _ => False, [], [], none, .slice none 0 0, ?_, fun k => by simp, rfl, by simp, by simp⟩
  refine ⟨⟨none, .slice none 0 0, (MapKept.heap_alloc w _).1, World.ownsRow_nil _ _ _ _, fun _ => rfl, (fun _ e => by cases e), rfl, (fun _ e => by cases e), (fun _ e => by simp [Value.ownBlock] at e), (fun k hk => by subst hk; simp), fun _ h => by simp at h⟩, fun _ => rfl, (fun _ e => by cases e), World.ownsRow_nil _ _ _ _, (fun _ e => by cases e), (fun _ e => by simp [Value.ownBlock] at e), fun _ e => e.elim, fun _ e => e.elim, (fun _ h => by simp at h), List.Pairwise.nil, List.Pairwise.nil, (fun _ h => by simp at h), h6, Nat.le_refl _, Nat.zero_le _⟩

set_option maxHeartbeats 800000 in
theorem new_none (w : World) (n : Int) (h : n < 0 ∨ n > 6) :
    Calls Try.prog 11 #[.int .i64 n] w fun e w' => e = .returned (.pointer none) ∧ w' = w := by
  go_enter Try.func11, Try.ntmps11
  by_cases h0 : n < 0
  · go_wp2
    go_ret
    exact ⟨rfl, rfl⟩
  · have h6 : n > 6 := by omega
    go_wp2
    go_ret
    exact ⟨rfl, rfl⟩

set_option maxHeartbeats 800000 in
theorem len_rel {w : World} {B : Nat} {F : Nat → Prop} {rb ar c : Nat} {M : List (List V)} {s1 s2 : Nat} (hR : Rln w B F rb ar c M s1 s2) :
    Calls Try.prog 21 #[.pointer (some ⟨rb, 0, none⟩)] w fun e w' => e = .returned (.int .i64 (M.length : Nat)) ∧ w' = w := by
  obtain ⟨FT, FR, L, RS, to, rv, h1, h2, h3, h4, h5⟩ := hR
  obtain ⟨ro, rc, rfl⟩ := h1.form
  obtain ⟨c2, c3, c4, c5, c6, c7, hrb, hfz⟩ := h1.cells
  have e : M.length = RS.length := by rw [h3]; simp
  rw [e]
  clear h1 h2 h3 h4 h5 e hfz
  go_enter Try.func21, Try.ntmps21
  go_wp2
  go_ret
  exact ⟨rfl, rfl⟩

theorem Rl.turn {w : World} {B : Nat} {FT FR : Nat → Prop} {rb ar : Nat} {L : List V} {RS : List (List Nat)} {to : Option Nat} {rv : Value} {s1 s2 : Nat} (h : Rl w B FT FR rb ar L RS to rv s1 s2) :
    Rl ((w.setCell ⟨rb, 6, none⟩ (.int .i64 (s2 : Int))).setCell ⟨rb, 7, none⟩ (.int .i64 (RS.length : Int))) B FT FR rb ar L RS to rv s2 RS.length := by
  have ht : Turns (fun k => k = rb) w ((w.setCell ⟨rb, 6, none⟩ (.int .i64 (s2 : Int))).setCell ⟨rb, 7, none⟩ (.int .i64 (RS.length : Int))) :=
    ((Turns.refl (fun k => k = rb) w).setCell (p := ⟨rb, 6, none⟩) (fun _ => rfl) _).setCell (p := ⟨rb, 7, none⟩) (fun _ => rfl) _
  have nr : ¬ FR rb := fun g => h.dis rb g h.lowT.1
  exact ⟨(h.tab.set (Y := ⟨.int .i64 (ar : Int), .map to, rv, .int .i64 0, .int .i64 (s2 : Int), .int .i64 (s2 : Int)⟩) 6 _ (fun m s => rfl)).set (Y := ⟨.int .i64 (ar : Int), .map to, rv, .int .i64 0, .int .i64 (s2 : Int), .int .i64 (RS.length : Int)⟩) 7 _ (fun m s => rfl), h.nomap,
    fun mb e => let ⟨D, a, b⟩ := h.map mb e; ⟨D, ownsMap_block a (ht.block mb (h.low mb (h.fm mb e)).2 (fun g => nr (g ▸ h.fm mb e))), b⟩,
    ownsRow_block h.row (fun k hk => ht.block k (h.low k (h.fr k hk)).2 (fun g => nr (g ▸ h.fr k hk))), h.fm, h.fr, fun k hk => ⟨(h.low k hk).1, Nat.lt_of_lt_of_le (h.low k hk).2 ht.size⟩, h.dis, h.rows, h.nd, h.ndL, h.bareL, h.ar6, h.h2, Nat.le_refl _⟩

set_option maxHeartbeats 1600000 in
theorem turn_rel {w : World} {B : Nat} {F : Nat → Prop} {rb ar c : Nat} {M : List (List V)} {s1 s2 : Nat} (hR : Rln w B F rb ar c M s1 s2) (hc : c ≤ 100000) :
    Calls Try.prog 14 #[.pointer (some ⟨rb, 0, none⟩)] w fun e w' => e = .returned (.bool (decide (s2 < M.length))) ∧ Turns F w w' ∧ Rln w' B F rb ar c M s2 M.length := by
  obtain ⟨FT, FR, L, RS, to, rv, h1, h2, h3, h4, h5⟩ := hR
  obtain ⟨ro, rc, rfl⟩ := h1.form
  obtain ⟨c2, c3, c4, c5, c6, c7, hrb, hfz⟩ := h1.cells
  have e : M.length = RS.length := by rw [h3]; simp
  rw [e]
  have hT := h1.turn
  have HD : Hid (∀ W, W.heap = ((w.setCell ⟨rb, 6, none⟩ (.int .i64 (s2 : Int))).setCell ⟨rb, 7, none⟩ (.int .i64 (RS.length : Int))).heap → W.os = w.os → W.tape = w.tape → W.output = w.output → Turns F w W ∧ Rln W B F rb ar c M s2 RS.length) := fun W a1 a2 a3 a4 => by
    have t0 : Turns F w ((w.setCell ⟨rb, 6, none⟩ (.int .i64 (s2 : Int))).setCell ⟨rb, 7, none⟩ (.int .i64 (RS.length : Int))) :=
      ((Turns.refl F w).setCell (p := ⟨rb, 6, none⟩) (fun _ => (h2 rb).2 (.inl h1.lowT.1)) _).setCell (p := ⟨rb, 7, none⟩) (fun _ => (h2 rb).2 (.inl h1.lowT.1)) _
    have t1 : Turns (fun _ => False) ((w.setCell ⟨rb, 6, none⟩ (.int .i64 (s2 : Int))).setCell ⟨rb, 7, none⟩ (.int .i64 (RS.length : Int))) W := ⟨a2, a3, a4, by rw [a1]; exact Nat.le_refl _, fun k _ _ => by rw [a1]⟩
    exact ⟨t0.trans t1 (fun _ h => h.elim), FT, FR, L, RS, to, _, hT.turns t1 (fun _ h => h.elim), h2, h3, h4, h5⟩
  have f6 := hfz 6
  have f7 := hfz 7
  have r9 : (RS.length : Int) ≤ 100000 := by omega
  have s9 : (s2 : Int) ≤ 100000 := by have := h1.h2; omega
  clear h1 h2 h3 h4 h5 e hfz hT
  go_enter Try.func14, Try.ntmps14
  go_wp2_with fail
  go_region
  all_goals
    go_wp2_with fail
    go_region
    all_goals
      go_wp2_with fail
      go_quiet (fail)
      go_wp2
      go_ret
      exact ⟨rfl, HD.out _ rfl rfl rfl rfl⟩

/-- A piece of a list of rows. -/
theorem Mtx.piece {w : World} {b off n c i m c' : Nat} {QS : List (List Nat)} (h : Mtx w (.slice (some ⟨b, off, none⟩) n c) QS) (hi : i + m ≤ QS.length) : Mtx w (.slice (some ⟨b, off + i * 6, none⟩) m c') ((QS.drop i).take m) := by
  obtain ⟨ao', cap', e, h2, h4⟩ := h
  injection e with e1 e2 e3
  subst e1
  refine ⟨some ⟨b, off + i * 6, none⟩, c', by simp; omega, by simp; omega, fun k hk => ?_⟩
  simp at hk
  obtain ⟨b', off', e, hlt, hc⟩ := h4 (i + k) (by omega)
  cases e
  refine ⟨b, off + i * 6, rfl, hlt, fun j u hj => ?_⟩
  have e' : ((QS.drop i).take m)[k]'(by simp; omega) = QS[i + k]'(by omega) := by simp
  rw [e'] at hj
  have := hc j u hj
  rw [show off + i * 6 + k * 6 + j = off + (i + k) * 6 + j by omega]
  exact this
end Go.Proofs.Ytfjkfblejfiglaa
