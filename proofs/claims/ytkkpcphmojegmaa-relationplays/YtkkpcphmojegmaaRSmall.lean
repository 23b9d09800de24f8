/-
  A relation told by its rows as they came. Contracts of New, Len, Turn, turned, of a relation and of none.
-/
import Derived.Test.YtkkpcphmojegmaaRTell
import Derived.Laws.CopyOwn
namespace Go.Proofs.Ytkkpcphmojegmaa
set_option linter.unusedSimpArgs false
set_option linter.unusedVariables false
set_option linter.unusedSectionVars false
set_option maxRecDepth 100000
open Go.RowKit Go.Maps
variable [DecidableEq V]

/-- A RELATION, told by its rows M as they came: s1 of them are full, s2 full or delta; F lists its blocks; c puts at most have been. -/
def Rln (w : World) (B : Nat) (F : Nat → Prop) (rb ar c : Nat) (M : List (List V)) (s1 s2 : Nat) : Prop :=
  ∃ FT FR L RS to rv, Rl w B FT FR rb ar L RS to rv s1 s2 ∧ (∀ k, F k ↔ FT k ∨ FR k) ∧ M = RS.map (rowOf L) ∧ L.length ≤ 6 * c ∧ RS.length ≤ c
section
variable {w w' : World} {B : Nat} {F : Nat → Prop} {rb ar c : Nat} {M : List (List V)} {s1 s2 : Nat}
theorem Rln.turns {G : Nat → Prop} (h : Rln w B F rb ar c M s1 s2) (ht : Turns G w w') (hG : ∀ k, G k → ¬ F k) : Rln w' B F rb ar c M s1 s2 := by
  obtain ⟨FT, FR, L, RS, to, rv, h1, h2, h3, h4, h5⟩ := h
  exact ⟨FT, FR, L, RS, to, rv, h1.turns ht (fun k g => ⟨fun a => hG k g ((h2 k).2 (.inl a)), fun a => hG k g ((h2 k).2 (.inr a))⟩), h2, h3, h4, h5⟩
theorem Rln.below (h : Rln w B F rb ar c M s1 s2) (hb : Below w.heap.size w w') : Rln w' B F rb ar c M s1 s2 :=
  h.turns (Turns.of_below (F := fun _ => False) hb) (fun _ h => h.elim)
theorem Rln.low (h : Rln w B F rb ar c M s1 s2) : (∀ k, F k → B ≤ k ∧ k < w.heap.size) ∧ rb < w.heap.size ∧ B ≤ rb := by
  obtain ⟨FT, FR, L, RS, to, rv, h1, h2, h3, h4, h5⟩ := h
  have hl := h1.lowT
  refine ⟨fun k hk => ?_, (hl.2 rb hl.1).2, (hl.2 rb hl.1).1⟩
  rcases (h2 k).1 hk with hk | hk
  · exact hl.2 k hk
  · exact h1.low k hk
theorem Rln.nums (h : Rln w B F rb ar c M s1 s2) : M.length ≤ c ∧ s1 ≤ s2 ∧ s2 ≤ M.length ∧ ar ≤ 6 := by
  obtain ⟨FT, FR, L, RS, to, rv, h1, h2, h3, h4, h5⟩ := h
  have e : M.length = RS.length := by rw [h3]; simp
  exact ⟨by omega, h1.h1, by have := h1.h2; omega, h1.ar6⟩
theorem Rln.rows (h : Rln w B F rb ar c M s1 s2) : ∀ r ∈ M, r.length = ar ∧ ∀ v ∈ r, v.bare = v := by
  obtain ⟨FT, FR, L, RS, to, rv, h1, h2, rfl, h4, h5⟩ := h
  intro r hr
  obtain ⟨q, hq, rfl⟩ := List.mem_map.1 hr
  obtain ⟨q1, q2⟩ := h1.rows q hq
  refine ⟨by simp [rowOf, q1], fun v hv => ?_⟩
  obtain ⟨n, hn, rfl⟩ := List.mem_map.1 hv
  rw [getD_lt (q2 n hn)]
  exact h1.bareL _ (List.getElem_mem _)
theorem Rln.nodup (h : Rln w B F rb ar c M s1 s2) : M.Nodup := by
  obtain ⟨FT, FR, L, RS, to, rv, h1, h2, rfl, h4, h5⟩ := h
  refine List.pairwise_map.2 (List.Pairwise.imp_of_mem (fun {a b} ha hb hab => ?_) h1.nd)
  exact fun e => hab (rowOf_inj h1.ndL (h1.rows a ha).2 (h1.rows b hb).2 e)
theorem Rln.apart (h : Rln w B F rb ar c M s1 s2) {x : Value} (hx : ∀ a n c, x = .slice (some a) n c → a.block < B ∨ w.heap.size ≤ a.block) : Apart F x := fun a n c e _ g => by
  have := h.low.1 _ g
  have := hx a n c e
  omega
end
set_option maxHeartbeats 800000 in
theorem new_rel (w : World) (n : Nat) (h6 : n ≤ 6) :
    Calls Try.prog 7 #[.int .i64 (n : Int)] w fun e w' => e = .returned (.pointer (some ⟨w.heap.size, 0, none⟩)) ∧ Below w.heap.size w w' ∧ Rln w' w.heap.size (fun k => k = w.heap.size) w.heap.size n 0 [] 0 0 := by
  have n0 : ¬ (n : Int) < 0 := by omega
  have n6 : ¬ (n : Int) > 6 := by omega
  go_enter Try.func7, Try.ntmps7
  go_wp2
  go_ret
  refine ⟨rfl, (Below.refl _ _).alloc (Nat.le_refl _) _, fun k => k = w.heap.size, fun _ => False, [], [], none, .slice none 0 0, ?_, fun k => by simp, rfl, by simp, by simp⟩
  refine ⟨⟨none, .slice none 0 0, (MapKept.heap_alloc w _).1, World.ownsRow_nil _ _ _ _, fun _ => rfl, (fun _ e => by cases e), rfl, (fun _ e => by cases e), (fun _ e => by simp [Value.ownBlock] at e), (fun k hk => by subst hk; simp), fun _ h => by simp at h⟩, fun _ => rfl, (fun _ e => by cases e), World.ownsRow_nil _ _ _ _, (fun _ e => by cases e), (fun _ e => by simp [Value.ownBlock] at e), fun _ e => e.elim, fun _ e => e.elim, (fun _ h => by simp at h), List.Pairwise.nil, List.Pairwise.nil, (fun _ h => by simp at h), h6, Nat.le_refl _, Nat.zero_le _⟩

set_option maxHeartbeats 800000 in
theorem new_none (w : World) (n : Int) (h : n < 0 ∨ n > 6) :
    Calls Try.prog 7 #[.int .i64 n] w fun e w' => e = .returned (.pointer none) ∧ w' = w := by
  go_enter Try.func7, Try.ntmps7
  by_cases h0 : n < 0
  · go_wp2
    go_ret
    exact ⟨rfl, rfl⟩
  · have h6 : n > 6 := by omega
    go_wp2
    go_ret
    exact ⟨rfl, rfl⟩

set_option maxHeartbeats 800000 in
theorem len_rel {w : World} {B : Nat} {F : Nat → Prop} {rb ar c : Nat} {M : List (List V)} {s1 s2 : Nat} (hR : Rln w B F rb ar c M s1 s2) :
    Calls Try.prog 17 #[.pointer (some ⟨rb, 0, none⟩)] w fun e w' => e = .returned (.int .i64 (M.length : Nat)) ∧ w' = w := by
  obtain ⟨FT, FR, L, RS, to, rv, h1, h2, h3, h4, h5⟩ := hR
  obtain ⟨ro, rc, rfl⟩ := h1.form
  obtain ⟨c2, c3, c4, c5, c6, c7, hrb, hfz⟩ := h1.cells
  have e : M.length = RS.length := by rw [h3]; simp
  rw [e]
  clear h1 h2 h3 h4 h5 e hfz
  go_enter Try.func17, Try.ntmps17
  go_wp2
  go_ret
  exact ⟨rfl, rfl⟩

theorem Rl.turn {w : World} {B : Nat} {FT FR : Nat → Prop} {rb ar : Nat} {L : List V} {RS : List (List Nat)} {to : Option Nat} {rv : Value} {s1 s2 : Nat} (h : Rl w B FT FR rb ar L RS to rv s1 s2) :
    Rl ((w.setCell ⟨rb, 6, none⟩ (.int .i64 (s2 : Int))).setCell ⟨rb, 7, none⟩ (.int .i64 (RS.length : Int))) B FT FR rb ar L RS to rv s2 RS.length := by
  have ht : Turns (fun k => k = rb) w ((w.setCell ⟨rb, 6, none⟩ (.int .i64 (s2 : Int))).setCell ⟨rb, 7, none⟩ (.int .i64 (RS.length : Int))) :=
    ((Turns.refl (fun k => k = rb) w).setCell (p := ⟨rb, 6, none⟩) (fun _ => rfl) _).setCell (p := ⟨rb, 7, none⟩) (fun _ => rfl) _
  have nr : ¬ FR rb := fun g => h.dis rb g h.lowT.1
  exact ⟨(h.tab.set (Y := ⟨.int .i64 (ar : Int), .map to, rv, .int .i64 0, .int .i64 (s2 : Int), .int .i64 (s2 : Int)⟩) 6 _ (fun m s => rfl)).set (Y := ⟨.int .i64 (ar : Int), .map to, rv, .int .i64 0, .int .i64 (s2 : Int), .int .i64 (RS.length : Int)⟩) 7 _ (fun m s => rfl), h.nomap,
    fun mb e => let ⟨D, a, b⟩ := h.map mb e; ⟨D, ownsMap_block a (ht.block mb (h.low mb (h.fm mb e)).2 (fun g => nr (g ▸ h.fm mb e))), b⟩,
    ownsRow_block h.row (fun k hk => ht.block k (h.low k (h.fr k hk)).2 (fun g => nr (g ▸ h.fr k hk))), h.fm, h.fr, fun k hk => ⟨(h.low k hk).1, Nat.lt_of_lt_of_le (h.low k hk).2 ht.size⟩, h.dis, h.rows, h.nd, h.ndL, h.bareL, h.ar6, h.h2, Nat.le_refl _⟩

set_option maxHeartbeats 1600000 in
theorem turn_rel {w : World} {B : Nat} {F : Nat → Prop} {rb ar c : Nat} {M : List (List V)} {s1 s2 : Nat} (hR : Rln w B F rb ar c M s1 s2) (hc : c ≤ 100000) :
    Calls Try.prog 10 #[.pointer (some ⟨rb, 0, none⟩)] w fun e w' => e = .returned (.bool (decide (s2 < M.length))) ∧ Turns F w w' ∧ Rln w' B F rb ar c M s2 M.length := by
  obtain ⟨FT, FR, L, RS, to, rv, h1, h2, h3, h4, h5⟩ := hR
  obtain ⟨ro, rc, rfl⟩ := h1.form
  obtain ⟨c2, c3, c4, c5, c6, c7, hrb, hfz⟩ := h1.cells
  have e : M.length = RS.length := by rw [h3]; simp
  rw [e]
  have hT := h1.turn
  have HD : Hid (∀ W, W.heap = ((w.setCell ⟨rb, 6, none⟩ (.int .i64 (s2 : Int))).setCell ⟨rb, 7, none⟩ (.int .i64 (RS.length : Int))).heap → W.os = w.os → W.tape = w.tape → W.output = w.output → Turns F w W ∧ Rln W B F rb ar c M s2 RS.length) := fun W a1 a2 a3 a4 => by
    have t0 : Turns F w ((w.setCell ⟨rb, 6, none⟩ (.int .i64 (s2 : Int))).setCell ⟨rb, 7, none⟩ (.int .i64 (RS.length : Int))) :=
      ((Turns.refl F w).setCell (p := ⟨rb, 6, none⟩) (fun _ => (h2 rb).2 (.inl h1.lowT.1)) _).setCell (p := ⟨rb, 7, none⟩) (fun _ => (h2 rb).2 (.inl h1.lowT.1)) _
    have t1 : Turns (fun _ => False) ((w.setCell ⟨rb, 6, none⟩ (.int .i64 (s2 : Int))).setCell ⟨rb, 7, none⟩ (.int .i64 (RS.length : Int))) W := ⟨a2, a3, a4, by rw [a1]; exact Nat.le_refl _, fun k _ _ => by rw [a1]⟩
    exact ⟨t0.trans t1 (fun _ h => h.elim), FT, FR, L, RS, to, _, hT.turns t1 (fun _ h => h.elim), h2, h3, h4, h5⟩
  have f6 := hfz 6
  have f7 := hfz 7
  have r9 : (RS.length : Int) ≤ 100000 := by omega
  have s9 : (s2 : Int) ≤ 100000 := by have := h1.h2; omega
  clear h1 h2 h3 h4 h5 e hfz hT
  go_enter Try.func10, Try.ntmps10
  go_wp2_with fail
  go_region
  all_goals
    go_wp2_with fail
    go_region
    all_goals
      go_wp2_with fail
      go_quiet (fail)
      go_wp2
      go_ret
      exact ⟨rfl, HD.out _ rfl rfl rfl rfl⟩

/-- A piece of a list of rows. -/
theorem Mtx.piece {w : World} {b off n c i m c' : Nat} {QS : List (List Nat)} (h : Mtx w (.slice (some ⟨b, off, none⟩) n c) QS) (hi : i + m ≤ QS.length) : Mtx w (.slice (some ⟨b, off + i * 6, none⟩) m c') ((QS.drop i).take m) := by
  obtain ⟨ao', cap', e, h2, h4⟩ := h
  injection e with e1 e2 e3
  subst e1
  refine ⟨some ⟨b, off + i * 6, none⟩, c', by simp; omega, by simp; omega, fun k hk => ?_⟩
  simp at hk
  obtain ⟨b', off', e, hlt, hc⟩ := h4 (i + k) (by omega)
  cases e
  refine ⟨b, off + i * 6, rfl, hlt, fun j u hj => ?_⟩
  have e' : ((QS.drop i).take m)[k]'(by simp; omega) = QS[i + k]'(by omega) := by simp
  rw [e'] at hj
  have := hc j u hj
  rw [show off + i * 6 + k * 6 + j = off + (i + k) * 6 + j by omega]
  exact this
end Go.Proofs.Ytkkpcphmojegmaa

/-
  Contracts of a relation's Add and Has, told by its rows; of a row of another arity, and of no relation.
-/
namespace Go.Proofs.Ytkkpcphmojegmaa
set_option linter.unusedSimpArgs false
set_option linter.unusedVariables false
set_option linter.unusedSectionVars false
set_option maxRecDepth 100000
open Go.RowKit Go.Maps
variable [DecidableEq V]

theorem rows_grow {L E : List V} {RS : List (List Nat)} (h : ∀ q ∈ RS, ∀ n ∈ q, n < L.length) : RS.map (rowOf (L ++ E)) = RS.map (rowOf L) := List.map_congr_left fun q hq => rowOf_pre (h q hq)
/-- What Add answers, told by rows. -/
def AddTold (w : World) (B : Nat) (F : Nat → Prop) (rb ar c : Nat) (M : List (List V)) (s1 s2 : Nat) (r : List V) (e : Ending) (w' : World) : Prop :=
  ∃ (F' : Nat → Prop) (b : Bool) (M' : List (List V)), e = .returned (.tuple #[.bool b, .int .i64 0]) ∧ Turns F w w' ∧ (∀ k, F' k → F k ∨ w.heap.size ≤ k ∧ k < w'.heap.size) ∧ Rln w' B F' rb ar (c + 1) M' s1 s2 ∧ ((b = false ∧ r ∈ M ∧ M' = M) ∨ (b = true ∧ r ∉ M ∧ M' = M ++ [r]))
theorem add_rln {w : World} {B : Nat} {F : Nat → Prop} {rb ar c : Nat} {M : List (List V)} {s1 s2 : Nat} (hR : Rln w B F rb ar c M s1 s2) {x : Value} {vs : List V} (hx : Vals w x vs) (ha : Apart F x) (hlen : vs.length = ar) (hc : c < 10000) :
    Calls Try.prog 8 #[.pointer (some ⟨rb, 0, none⟩), x] w fun e w' => AddTold w B F rb ar c M s1 s2 (vs.map V.bare) e w' := by
  obtain ⟨FT, FR, L, RS, to, rv, h1, h2, h3, h4, h5⟩ := hR
  refine (add_rel h1 hx (fun a n c e h0 g => ha a n c e h0 ((h2 _).2 (.inl g))) hlen (by omega) (by omega)).mono ?_
  rintro e w' ⟨FT', FR', L', RS', to', rv', b, rfl, ht, hR', hF, rfl, hcase⟩
  obtain ⟨E, hE⟩ := addAll_pre vs L
  have hM : M = RS.map (rowOf (addAll L vs)) := by rw [h3, hE, rows_grow (fun q hq => (h1.rows q hq).2)]
  have hin := addAll_in vs L
  have hrow := rowOf_nums (L := addAll L vs) hin
  have hlen' := addAll_len vs L
  have har := h1.ar6
  have hnl : ∀ n ∈ numsOf (addAll L vs) vs, n < (addAll L vs).length := fun n hn => by
    obtain ⟨v, hv, rfl⟩ := List.mem_map.1 hn
    exact List.idxOf_lt_length_iff.2 (hin v hv)
  refine ⟨fun k => FT' k ∨ FR' k, b, RS'.map (rowOf (addAll L vs)), rfl, ht.mono (fun k hk => (h2 k).2 hk), fun k hk => (hF k hk).imp (h2 k).2 id, ⟨FT', FR', _, RS', to', rv', hR', fun _ => Iff.rfl, rfl, by omega, ?_⟩, ?_⟩
  · rcases hcase with ⟨_, _, rfl⟩ | ⟨_, _, rfl⟩
    · omega
    · simp; omega
  · rcases hcase with ⟨rfl, hm, rfl⟩ | ⟨rfl, hm, rfl⟩
    · exact .inl ⟨rfl, by rw [hM, ← hrow]; exact List.mem_map_of_mem hm, hM.symm⟩
    · refine .inr ⟨rfl, fun hr => hm ?_, by rw [List.map_append, hM]; simp [hrow]⟩
      rw [hM, ← hrow] at hr
      obtain ⟨q, hq, he⟩ := List.mem_map.1 hr
      have := rowOf_inj hR'.ndL (fun n hn => by have := (h1.rows q hq).2 n hn; rw [hE, List.length_append]; omega) hnl he
      rw [← this]; exact hq

set_option maxHeartbeats 800000 in
theorem add_nil {w : World} {x : Value} :
    Calls Try.prog 8 #[.pointer none, x] w fun e w' => e = .returned (.tuple #[.bool false, .int .i64 1]) ∧ w' = w := by
  go_enter Try.func8, Try.ntmps8
  go_wp2
  go_ret2
  exact ⟨rfl, rfl⟩
set_option maxHeartbeats 800000 in
theorem add_bad {w : World} {B : Nat} {F : Nat → Prop} {rb ar c : Nat} {M : List (List V)} {s1 s2 : Nat} (hR : Rln w B F rb ar c M s1 s2) {x : Value} {vs : List V} (hx : Vals w x vs) (hlen : vs.length ≠ ar) :
    Calls Try.prog 8 #[.pointer (some ⟨rb, 0, none⟩), x] w fun e w' => e = .returned (.tuple #[.bool false, .int .i64 1]) ∧ w' = w := by
  obtain ⟨ao, cap, rfl, -⟩ := hx.len
  obtain ⟨FT, FR, L, RS, to, rv, h1, -⟩ := hR
  obtain ⟨c2, c3, c4, c5, c6, c7, hrb, hfz⟩ := h1.cells
  have hlb : ((vs.length : Int) != (ar : Int)) = true := by simp; omega
  clear h1 hx hfz hlen
  go_enter Try.func8, Try.ntmps8
  go_wp2
  go_ret2
  exact ⟨rfl, rfl⟩

theorem NumsN.src {w : World} {B : Nat} {x : Value} {q : List Nat} (h : NumsN w B x q) : ∃ ao cap, x = .slice ao q.length cap ∧ (0 < q.length → ∃ g, ao = some ⟨g, 0, none⟩ ∧ B ≤ g ∧ g < w.heap.size ∧ ∀ j v, (q.map (fun n : Nat => Value.int .i64 (n : Int)))[j]? = some v → w.cell? ⟨g, j, none⟩ = some v) := by
  have h' : w.ownsRow B 3 1 x q.length (q.map (fun n : Nat => Value.int .i64 (n : Int))) := h
  rcases h'.2 with ⟨h1, h2⟩ | ⟨g, cap, cur, h1, h2, h3, h4, h5, h6, h7⟩
  · exact ⟨none, 0, by rw [h1, h2], fun h0 => by omega⟩
  · subst h1
    exact ⟨some ⟨g, 0, none⟩, cap, rfl, fun _ => ⟨g, rfl, h2, (Array.getElem?_eq_some_iff.1 h3).1, fun j v hj => by have := h'.cells (g := g) rfl _ _ hj; rw [add_none, Nat.zero_add] at this; exact this⟩⟩
theorem splice_six {q : List Nat} (h : q.length ≤ 6) : splice (six []) 0 (q.map (fun n : Nat => Value.int .i64 (n : Int))) = six q := by
  match q, h with
  | [], _ => rfl
  | [a], _ => rfl
  | [a, b], _ => rfl
  | [a, b, c], _ => rfl
  | [a, b, c, d], _ => rfl
  | [a, b, c, d, e], _ => rfl
  | [a, b, c, d, e, f], _ => rfl
  | a :: b :: c :: d :: e :: f :: g :: l, h => simp at h

/-- copy of a row's numbers into an array of six. -/
theorem copy_six (w2 : World) {no : Option Addr} {nc : Nat} {q : List Nat} (h6 : q.length ≤ 6) (hs : 0 < q.length → ∃ g, no = some ⟨g, 0, none⟩ ∧ g < w2.heap.size ∧ ∀ j v, (q.map (fun n : Nat => Value.int .i64 (n : Int)))[j]? = some v → w2.cell? ⟨g, j, none⟩ = some v) :
    ∃ w4, (Builtin.copy_ #[31, 31] 3 #[.slice (some ⟨w2.heap.size, 0, none⟩) 6 6, .slice no q.length nc]).run Try.prog (w2.alloc (.cells #[.int .i64 0, .int .i64 0, .int .i64 0, .int .i64 0, .int .i64 0, .int .i64 0] 72)) = .ok (.int .i64 (q.length : Int)) w4 ∧ SixAt w4 w2.heap.size q ∧ Below w2.heap.size w2 w4 := by
  have hb : Below w2.heap.size w2 (w2.alloc (.cells #[.int .i64 0, .int .i64 0, .int .i64 0, .int .i64 0, .int .i64 0, .int .i64 0] 72)) := (Below.refl _ _).alloc (Nat.le_refl _) _
  have hh : (w2.alloc (.cells #[.int .i64 0, .int .i64 0, .int .i64 0, .int .i64 0, .int .i64 0, .int .i64 0] 72)).heap[w2.heap.size]? = some (.cells (six []).toArray 72 (0, 0)) := (MapKept.heap_alloc w2 _).1
  by_cases h0 : q.length = 0
  · obtain rfl : q = [] := List.eq_nil_of_length_eq_zero h0
    exact ⟨_, run_copy_none (P := Try.prog) _ 31 31 3 3 _ _ _ _ _ _ Try.underlying31 (by kernel_rfl) rfl, hh, hb⟩
  · obtain ⟨g, rfl, hgl, hsrc⟩ := hs (by omega)
    have hrun := run_copy_row (P := Try.prog) (w2.alloc (.cells #[.int .i64 0, .int .i64 0, .int .i64 0, .int .i64 0, .int .i64 0, .int .i64 0] 72)) 31 31 3 3 w2.heap.size 0 6 6 ⟨g, 0, none⟩ q.length nc _ _ (q.map (fun n : Nat => Value.int .i64 (n : Int))) Try.underlying31 (by kernel_rfl) hh (by simp [Nat.min_def]; omega)
      (fun j v hj => by rw [add_none, Nat.zero_add]; exact (hb.cell (p := ⟨g, j, none⟩) hgl).trans (hsrc j v hj)) (by simp [six_len]; omega) (by intro v hv; obtain ⟨n, -, rfl⟩ := List.mem_map.1 hv; rfl)
    refine ⟨_, by rw [hrun, List.length_map]; rfl, ?_, below_setRow hb (Nat.le_refl _) _⟩
    have := setRow_heap (w2.alloc (.cells #[.int .i64 0, .int .i64 0, .int .i64 0, .int .i64 0, .int .i64 0, .int .i64 0] 72)) w2.heap.size _ ((six []).toArray.toList.take 0 ++ q.map (fun n : Nat => Value.int .i64 (n : Int)) ++ (six []).toArray.toList.drop (0 + (q.map (fun n : Nat => Value.int .i64 (n : Int))).length)).toArray _ _ hh
    rw [List.length_map] at this
    rw [SixAt, this, ← splice_six h6]
    simp [splice]

theorem Rln.mem_len {w : World} {B : Nat} {F : Nat → Prop} {rb ar c : Nat} {M : List (List V)} {s1 s2 : Nat} (h : Rln w B F rb ar c M s1 s2) {vs : List V} (hl : vs.length ≠ ar) : vs.map V.bare ∉ M := fun hm => hl (by have := (h.rows _ hm).1; simpa using this)

set_option maxHeartbeats 1600000 in
theorem has_rln {w : World} {B : Nat} {F : Nat → Prop} {rb ar c : Nat} {M : List (List V)} {s1 s2 : Nat} (hR : Rln w B F rb ar c M s1 s2) {x : Value} {vs : List V} (hx : Vals w x vs) (hc : c < 10000) :
    Calls Try.prog 15 #[.pointer (some ⟨rb, 0, none⟩), x] w fun e w' => e = .returned (.bool (decide (vs.map V.bare ∈ M))) ∧ Below w.heap.size w w' := by
  by_cases hlen : vs.length = ar
  case neg =>
    rw [decide_eq_false (hR.mem_len hlen)]
    obtain ⟨ao, cap, rfl, -⟩ := hx.len
    obtain ⟨FT, FR, L, RS, to, rv, h1, -⟩ := hR
    obtain ⟨c2, c3, c4, c5, c6, c7, hrb, hfz⟩ := h1.cells
    have hlb : ((vs.length : Int) != (ar : Int)) = true := by simp; omega
    clear h1 hx hfz hlen
    go_enter Try.func15, Try.ntmps15
    go_wp2
    go_ret
    exact ⟨rfl, Below.refl _ _⟩
  obtain ⟨ao, cap, rfl, -⟩ := hx.len
  obtain ⟨FT, FR, L, RS, to, rv, h1, h2, h3, h4, h5⟩ := hR
  obtain ⟨ro, rc, rfl⟩ := h1.form
  obtain ⟨c2, c3, c4, c5, c6, c7, hrb, hfz⟩ := h1.cells
  have h6 : vs.length ≤ 6 := by have := h1.ar6; omega
  have hF := Lib.hid (find_rel h1.tab hx (by omega))
  have hlb : ((vs.length : Int) != (ar : Int)) = false := by simp [hlen]
  have HLK : Hid ((∀ v ∈ vs, v.bare ∈ L) → decide (numsOf L vs ∈ RS) = decide (vs.map V.bare ∈ M) ∧ QOk (numsOf L vs) ∧ (numsOf L vs).length = ar) := fun hin => by
    obtain ⟨q1, q2⟩ := nums_ok (L := L) (vs := vs) (by omega) h6 hin
    have hrow := rowOf_nums (L := L) hin
    refine ⟨?_, q1, by simp [numsOf, hlen]⟩
    by_cases hm : numsOf L vs ∈ RS
    · rw [decide_eq_true hm, decide_eq_true]
      rw [h3, ← hrow]; exact List.mem_map_of_mem hm
    · rw [decide_eq_false hm, decide_eq_false]
      rw [h3, ← hrow]
      intro hr
      obtain ⟨q, hq, he⟩ := List.mem_map.1 hr
      exact hm (by rw [← rowOf_inj h1.ndL (h1.rows q hq).2 q2 he]; exact hq)
  have HNO : Hid ((∃ v ∈ vs, v.bare ∉ L) → decide (vs.map V.bare ∈ M) = false) := fun ⟨v, hv, hn⟩ => by
    apply decide_eq_false
    rw [h3]
    intro hr
    obtain ⟨q, hq, he⟩ := List.mem_map.1 hr
    have : v.bare ∈ rowOf L q := by rw [he]; exact List.mem_map_of_mem hv
    obtain ⟨n, hn', e⟩ := List.mem_map.1 this
    have hlt := (h1.rows q hq).2 n hn'
    rw [getD_lt hlt] at e
    exact hn (by rw [← e]; exact List.getElem_mem hlt)
  have HR := Lib.hid h1
  generalize decide (vs.map V.bare ∈ M) = z at *
  clear h1 h2 h3 h4 h5 hx hfz hlen
  go_enter Try.func15, Try.ntmps15
  go_wp2_with fail
  refine (hF.out).mono ?_
  rintro e w2 ⟨hb, ⟨hall, x', rfl, hN⟩ | ⟨hno, rfl⟩⟩
  · obtain ⟨z1, hQ, hQl⟩ := HLK.out hall
    obtain ⟨q, hq⟩ : ∃ q, numsOf L vs = q := ⟨_, rfl⟩
    rw [hq] at hN z1 hQ hQl
    obtain ⟨no, nc, rfl, hsrc⟩ := hN.src
    have HN := Lib.hid hN
    have HB := Lib.hid hb
    have hs := hb.size
    have HSRC := Lib.hid hsrc
    have hq6 := hQ.len
    have q9 : (q.length : Int) ≤ 6 := by omega
    have d3 : w2.cell? ⟨rb, 3, none⟩ = some (.map to) := (hb.cell (p := ⟨rb, 3, none⟩) hrb).trans c3
    have hrb2 : rb < w2.heap.size := by omega
    have HLOOK : Hid (∀ W : World, (∀ k, k < w.heap.size → W.heap[k]? = w.heap[k]?) → (Instr.lookup 66 (.map to) (.agg #[.int .i64 (q.getD 0 0 : Nat), .int .i64 (q.getD 1 0 : Nat), .int .i64 (q.getD 2 0 : Nat), .int .i64 (q.getD 3 0 : Nat), .int .i64 (q.getD 4 0 : Nat), .int .i64 (q.getD 5 0 : Nat)]) true).run Try.prog W = .ok (.tuple #[.agg #[], .bool z]) W) := fun W hw => by
      rw [← z1]; exact HR.out.look hQ hQl hw
    clear hN hb hsrc hF HLK HNO hQ hQl z1 hq hall hlb c2 c3 c4 c5 c6 c7
    obtain ⟨w4, hcopy, h6w, hb4⟩ := copy_six w2 (no := no) (nc := nc) hq6 (fun h0 => let ⟨g, e1, e2, e3, e4⟩ := HSRC.out h0; ⟨g, e1, e3, e4⟩)
    have HB4 := Lib.hid hb4
    have H6W := Lib.hid h6w
    clear h6w hb4
    go_wp2_with fail
    have h6w := H6W.out
    obtain ⟨k0, k1, k2, k3, k4, k5⟩ := h6w.cells
    have kl := h6w.lt
    have e3 : w4.cell? ⟨rb, 3, none⟩ = some (.map to) := (HB4.out.cell (p := ⟨rb, 3, none⟩) hrb2).trans d3
    have hrb4 : rb < w4.heap.size := by omega
    have HE : Hid (Below w.heap.size w w4) := HB.out.trans (HB4.out.mono hs)
    have hrun : ∀ nq, (Instr.lookup 66 (.map to) (.agg #[.int .i64 (q.getD 0 0 : Nat), .int .i64 (q.getD 1 0 : Nat), .int .i64 (q.getD 2 0 : Nat), .int .i64 (q.getD 3 0 : Nat), .int .i64 (q.getD 4 0 : Nat), .int .i64 (q.getD 5 0 : Nat)]) true).run Try.prog (w4.drewN nq) = .ok (.tuple #[.agg #[], .bool z]) (w4.drewN nq) := fun nq => HLOOK.out _ (fun k hk => HE.out.block k hk)
    clear h6w H6W hcopy HB4 HLOOK HSRC HN HR
    generalize ((q.getD 0 0 : Nat) : Int) = x0 at *
    generalize ((q.getD 1 0 : Nat) : Int) = x1 at *
    generalize ((q.getD 2 0 : Nat) : Int) = x2 at *
    generalize ((q.getD 3 0 : Nat) : Int) = x3 at *
    generalize ((q.getD 4 0 : Nat) : Int) = x4 at *
    generalize ((q.getD 5 0 : Nat) : Int) = x5 at *
    go_quiet (fail)
    go_wp2
    go_ret
    exact ⟨rfl, below_drewN' HE.out _⟩
  · have hz := HNO.out hno
    subst hz
    have HB := Lib.hid hb
    clear hb hno hF HNO HLK
    go_wp2
    go_ret
    exact ⟨rfl, HB.out⟩
set_option maxHeartbeats 800000 in
theorem has_nil {w : World} {x : Value} :
    Calls Try.prog 15 #[.pointer none, x] w fun e w' => e = .returned (.bool false) ∧ w' = w := by
  go_enter Try.func15, Try.ntmps15
  go_wp2
  go_ret
  exact ⟨rfl, rfl⟩
end Go.Proofs.Ytkkpcphmojegmaa
