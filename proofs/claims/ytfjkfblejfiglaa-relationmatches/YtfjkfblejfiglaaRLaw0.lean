/-
  Plain facts for the walks of layer 4's laws; All and Delta told with their lengths; short rows made for a call.
-/
import Derived.Test.YtfjkfblejfiglaaRHas
import Derived.Test.YtfjkfblejfiglaaRAll
namespace Go.Proofs.Ytfjkfblejfiglaa
set_option linter.unusedSimpArgs false
set_option linter.unusedVariables false
set_option linter.unusedSectionVars false
set_option maxRecDepth 100000
open Go.RowKit Go.Maps
variable [DecidableEq V]

/-- Rows without stray fields. -/
def Bare (M : List (List V)) : Prop := ∀ r ∈ M, ∀ v ∈ r, v.bare = v
theorem map_bare {r : List V} (h : ∀ v ∈ r, v.bare = v) : r.map V.bare = r := by
  conv => rhs; rw [← List.map_id r]
  exact List.map_congr_left fun v hv => h v hv
theorem bare_eq {a b : List V} (ha : ∀ v ∈ a, v.bare = v) (hb : ∀ v ∈ b, v.bare = v) : rcmp a b = 0 ↔ a = b := by
  rw [rcmp_bare, map_bare ha, map_bare hb]
theorem unlike_of {M : List (List V)} (hn : M.Nodup) (hb : Bare M) : Unlike M :=
  List.Pairwise.imp_of_mem (fun {a b} ha hm hab h => hab ((bare_eq (hb a ha) (hb b hm)).1 h)) hn
section
variable {w w' : World} {B : Nat} {F : Nat → Prop} {rb ar c : Nat} {M : List (List V)} {s1 s2 : Nat}
theorem Rln.bare (h : Rln w B F rb ar c M s1 s2) : Bare M := fun r hr => (h.rows r hr).2
theorem Rln.unlike (h : Rln w B F rb ar c M s1 s2) : Unlike M := unlike_of h.nodup h.bare
theorem Rln.cut (h : Rln w B F rb ar c M s1 s2) (i j : Nat) : Unlike ((M.drop i).take j) := (h.unlike.sublist (List.drop_sublist _ _)).sublist (List.take_sublist _ _)
/-- Behind what turns the relation alone, of old memory nothing has turned. -/
theorem Rln.step (h : Rln w B F rb ar c M s1 s2) (ht : Turns F w w') {w0 : World} (hb : Below w0.heap.size w0 w) (hB : w0.heap.size ≤ B) : Below w0.heap.size w0 w' :=
  hb.trans (ht.below hb.size (fun k hk => Nat.le_trans hB (h.low.1 k hk).1))
end
/-- Rows told: how many there are; in order. -/
def TellOut (w : World) (M : List (List V)) (e : Ending) (w' : World) : Prop := ∃ xo xc D, e = .returned (.slice xo M.length xc) ∧ Below w.heap.size w w' ∧ OwnG w' w.heap.size (.slice xo M.length xc) D ∧ D.map R.vs = srt M
theorem SortOut.tell {w w' : World} {M : List (List V)} {e : Ending} (h : SortOut w M e w') (hu : Unlike M) : TellOut w M e w' := by
  obtain ⟨x, D, rfl, hb, hO, hE⟩ := h
  obtain ⟨xo, xc, ex, -⟩ := hO.grid.len
  have hl : D.length = M.length := by have := congrArg List.length hE; rw [srt_len hu] at this; simpa using this
  rw [hl] at ex
  subst ex
  exact ⟨xo, xc, D, rfl, hb, hO, hE⟩
theorem all_told {w : World} {B : Nat} {F : Nat → Prop} {rb ar c : Nat} {M : List (List V)} {s1 s2 : Nat} (hR : Rln w B F rb ar c M s1 s2) (hc : c < 10000) :
    Calls Try.prog 23 #[.pointer (some ⟨rb, 0, none⟩)] w fun e w' => TellOut w M e w' := (all_rln hR hc).mono fun _ _ h => h.tell hR.unlike
theorem delta_told {w : World} {B : Nat} {F : Nat → Prop} {rb ar c : Nat} {M : List (List V)} {s1 s2 : Nat} (hR : Rln w B F rb ar c M s1 s2) (hc : c < 10000) :
    Calls Try.prog 25 #[.pointer (some ⟨rb, 0, none⟩)] w fun e w' => TellOut w ((M.drop s1).take (s2 - s1)) e w' := (delta_rln hR hc).mono fun _ _ h => h.tell (hR.cut _ _)

theorem vals_new1 (w : World) {u : V} (hu : u.Ok) : Vals (w.alloc (.cells #[.bool u.k, .string u.s, .int .i64 u.n] 55)) (.slice (some ⟨w.heap.size, 0, none⟩) 1 1) [u] := by
  refine ⟨some ⟨w.heap.size, 0, none⟩, 1, rfl, by simp [maxLen], fun v hv => by rw [List.mem_singleton.1 hv]; exact hu, fun i hi => ?_⟩
  obtain rfl : i = 0 := by simpa using hi
  exact ⟨w.heap.size, 0, rfl, by simp, by simp, by simp, by simp⟩
theorem vals_new2 (w : World) {u v : V} (hu : u.Ok) (hv : v.Ok) : Vals (w.alloc (.cells #[.bool u.k, .string u.s, .int .i64 u.n, .bool v.k, .string v.s, .int .i64 v.n] 55)) (.slice (some ⟨w.heap.size, 0, none⟩) 2 2) [u, v] := by
  refine ⟨some ⟨w.heap.size, 0, none⟩, 2, rfl, by simp [maxLen], fun x hx => by simp at hx; rcases hx with rfl | rfl <;> assumption, fun i hi => ?_⟩
  have : i = 0 ∨ i = 1 := by simp at hi; omega
  rcases this with rfl | rfl
  · exact ⟨w.heap.size, 0, rfl, by simp, by simp, by simp, by simp⟩
  · exact ⟨w.heap.size, 0, rfl, by simp, by simp, by simp, by simp⟩
theorem Apart.at {F : Nat → Prop} {a : Addr} {n c : Nat} (h : ¬ F a.block) : Apart F (.slice (some a) n c) := fun a' n' c' e _ => by injection e with e; injection e with e; subst e; exact h
theorem Apart.old {F : Nat → Prop} {B : Nat} {w : World} {x : Value} {vs : List V} (hx : Vals w x vs) (hF : ∀ k, F k → B ≤ k) (hB : w.heap.size ≤ B) : Apart F x := fun a n c e h0 g => by
  obtain ⟨ao, cap, e', -⟩ := hx.len
  rw [e] at e'
  injection e' with e1 e2 e3
  subst e
  have := vals_lt hx (by omega)
  have := hF _ g
  omega
end Go.Proofs.Ytfjkfblejfiglaa
