/-
  Plain facts for the walks of layer 4's laws; All and Delta told with their lengths; short rows made for a call.
-/
import Derived.Test.YtkkpcphmojegmaaRSmall
import Derived.Test.YtkkpcphmojegmaaRAll
namespace Go.Proofs.Ytkkpcphmojegmaa
set_option linter.unusedSimpArgs false
set_option linter.unusedVariables false
set_option linter.unusedSectionVars false
set_option maxRecDepth 100000
open Go.RowKit Go.Maps
variable [DecidableEq V]

/-- Rows without stray fields. -/
def Bare (M : List (List V)) : Prop := ∀ r ∈ M, ∀ v ∈ r, v.bare = v
theorem map_bare {r : List V} (h : ∀ v ∈ r, v.bare = v) : r.map V.bare = r := by
  conv => rhs; rw [← List.map_id r]
  exact List.map_congr_left fun v hv => h v hv
theorem bare_eq {a b : List V} (ha : ∀ v ∈ a, v.bare = v) (hb : ∀ v ∈ b, v.bare = v) : rcmp a b = 0 ↔ a = b := by
  rw [rcmp_bare, map_bare ha, map_bare hb]
theorem unlike_of {M : List (List V)} (hn : M.Nodup) (hb : Bare M) : Unlike M :=
  List.Pairwise.imp_of_mem (fun {a b} ha hm hab h => hab ((bare_eq (hb a ha) (hb b hm)).1 h)) hn
section
variable {w w' : World} {B : Nat} {F : Nat → Prop} {rb ar c : Nat} {M : List (List V)} {s1 s2 : Nat}
theorem Rln.bare (h : Rln w B F rb ar c M s1 s2) : Bare M := fun r hr => (h.rows r hr).2
theorem Rln.unlike (h : Rln w B F rb ar c M s1 s2) : Unlike M := unlike_of h.nodup h.bare
theorem Rln.cut (h : Rln w B F rb ar c M s1 s2) (i j : Nat) : Unlike ((M.drop i).take j) := (h.unlike.sublist (List.drop_sublist _ _)).sublist (List.take_sublist _ _)
/-- Behind what turns the relation alone, of old memory nothing has turned. -/
theorem Rln.step (h : Rln w B F rb ar c M s1 s2) (ht : Turns F w w') {w0 : World} (hb : Below w0.heap.size w0 w) (hB : w0.heap.size ≤ B) : Below w0.heap.size w0 w' :=
  hb.trans (ht.below hb.size (fun k hk => Nat.le_trans hB (h.low.1 k hk).1))
end
/-- Rows told: how many there are; in order. -/
def TellOut (w : World) (M : List (List V)) (e : Ending) (w' : World) : Prop := ∃ xo xc D, e = .returned (.slice xo M.length xc) ∧ Below w.heap.size w w' ∧ OwnG w' w.heap.size (.slice xo M.length xc) D ∧ D.map R.vs = srt M
theorem SortOut.tell {w w' : World} {M : List (List V)} {e : Ending} (h : SortOut w M e w') (hu : Unlike M) : TellOut w M e w' := by
  obtain ⟨x, D, rfl, hb, hO, hE⟩ := h
  obtain ⟨xo, xc, ex, -⟩ := hO.grid.len
  have hl : D.length = M.length := by have := congrArg List.length hE; rw [srt_len hu] at this; simpa using this
  rw [hl] at ex
  subst ex
  exact ⟨xo, xc, D, rfl, hb, hO, hE⟩
theorem all_told {w : World} {B : Nat} {F : Nat → Prop} {rb ar c : Nat} {M : List (List V)} {s1 s2 : Nat} (hR : Rln w B F rb ar c M s1 s2) (hc : c < 10000) :
    Calls Try.prog 19 #[.pointer (some ⟨rb, 0, none⟩)] w fun e w' => TellOut w M e w' := (all_rln hR hc).mono fun _ _ h => h.tell hR.unlike
theorem delta_told {w : World} {B : Nat} {F : Nat → Prop} {rb ar c : Nat} {M : List (List V)} {s1 s2 : Nat} (hR : Rln w B F rb ar c M s1 s2) (hc : c < 10000) :
    Calls Try.prog 21 #[.pointer (some ⟨rb, 0, none⟩)] w fun e w' => TellOut w ((M.drop s1).take (s2 - s1)) e w' := (delta_rln hR hc).mono fun _ _ h => h.tell (hR.cut _ _)

theorem vals_new1 (w : World) {u : V} (hu : u.Ok) : Vals (w.alloc (.cells #[.bool u.k, .string u.s, .int .i64 u.n] 55)) (.slice (some ⟨w.heap.size, 0, none⟩) 1 1) [u] := by
  refine ⟨some ⟨w.heap.size, 0, none⟩, 1, rfl, by simp [maxLen], fun v hv => by rw [List.mem_singleton.1 hv]; exact hu, fun i hi => ?_⟩
  obtain rfl : i = 0 := by simpa using hi
  exact ⟨w.heap.size, 0, rfl, by simp, by simp, by simp, by simp⟩
theorem vals_new2 (w : World) {u v : V} (hu : u.Ok) (hv : v.Ok) : Vals (w.alloc (.cells #[.bool u.k, .string u.s, .int .i64 u.n, .bool v.k, .string v.s, .int .i64 v.n] 55)) (.slice (some ⟨w.heap.size, 0, none⟩) 2 2) [u, v] := by
  refine ⟨some ⟨w.heap.size, 0, none⟩, 2, rfl, by simp [maxLen], fun x hx => by simp at hx; rcases hx with rfl | rfl <;> assumption, fun i hi => ?_⟩
  have : i = 0 ∨ i = 1 := by simp at hi; omega
  rcases this with rfl | rfl
  · exact ⟨w.heap.size, 0, rfl, by simp, by simp, by simp, by simp⟩
  · exact ⟨w.heap.size, 0, rfl, by simp, by simp, by simp, by simp⟩
theorem Apart.at {F : Nat → Prop} {a : Addr} {n c : Nat} (h : ¬ F a.block) : Apart F (.slice (some a) n c) := fun a' n' c' e _ => by injection e with e; injection e with e; subst e; exact h
theorem Apart.old {F : Nat → Prop} {B : Nat} {w : World} {x : Value} {vs : List V} (hx : Vals w x vs) (hF : ∀ k, F k → B ≤ k) (hB : w.heap.size ≤ B) : Apart F x := fun a n c e h0 g => by
  obtain ⟨ao, cap, e', -⟩ := hx.len
  rw [e] at e'
  injection e' with e1 e2 e3
  subst e
  have := vals_lt hx (by omega)
  have := hF _ g
  omega
end Go.Proofs.Ytkkpcphmojegmaa

/-
  Contract of the fourth law's shown: true; of old memory nothing turns.
-/
namespace Go.Proofs.Ytkkpcphmojegmaa
set_option linter.unusedSimpArgs false
set_option linter.unusedVariables false
set_option linter.unusedSectionVars false
set_option maxRecDepth 100000
open Go.RowKit Go.Maps
variable [DecidableEq V]

set_option maxHeartbeats 3200000 in
theorem shown4_any (w : World) : Calls Try.prog 5 #[] w fun e w' => e = .returned (.bool true) ∧ Below w.heap.size w w' := by
  obtain ⟨u, hu⟩ : ∃ u : V, u = ⟨true, ⟨#[97]⟩, 0⟩ := ⟨_, rfl⟩
  have hok : u.Ok := by subst hu; exact ⟨by decide, by decide, by decide⟩
  have HU : Hid (u = ⟨true, ⟨#[97]⟩, 0⟩) := hu
  have hN := Lib.hid (new_rel w 1 (by decide))
  go_enter Try.func5, Try.ntmps5
  go_wp2_with fail
  refine (hN.out).mono ?_
  rintro e w1 ⟨rfl, hb1, hR1⟩
  have hs1 : w.heap.size < w1.heap.size := hR1.low.2.1
  have HB1 := Lib.hid hb1
  have HR1 := Lib.hid hR1
  clear hb1 hR1 hN
  go_wp2_with fail
  obtain ⟨w2, hw2⟩ : ∃ w2, w2 = w1.alloc (.cells #[.bool true, .string ⟨#[97]⟩, .int .i64 0] 55) := ⟨_, rfl⟩
  rw [← hw2]
  have hb2 : Below w1.heap.size w1 w2 := by rw [hw2]; exact (Below.refl _ _).alloc (Nat.le_refl _) _
  have hV2 : Vals w2 (.slice (some ⟨w1.heap.size, 0, none⟩) 1 1) [u] := by rw [hw2]; subst hu; exact vals_new1 w1 hok
  have hsz : w2.heap.size = w1.heap.size + 1 := by rw [hw2]; simp
  have HB2 : Hid (Below w.heap.size w w2) := HB1.out.trans (hb2.mono HB1.out.size)
  have HR2 := Lib.hid (HR1.out.below hb2)
  have HV2 := Lib.hid hV2
  have hA := Lib.hid (add_rln HR2.out hV2 (Apart.at (by simp; omega)) rfl (by decide))
  clear hw2 hb2 hV2 HB1 HR1 hu
  refine (hA.out).mono ?_
  rintro e w3 ⟨F3, b3, M3, rfl, ht3, hF3, hR3, hc3⟩
  obtain ⟨rfl, rfl⟩ : b3 = true ∧ M3 = [[u].map V.bare] := by
    rcases hc3 with ⟨-, h, -⟩ | ⟨h1, -, h2⟩
    · simp at h
    · exact ⟨h1, by simpa using h2⟩
  have HB3 := Lib.hid (HR2.out.step ht3 HB2.out (Nat.le_refl _))
  have hV3 := HV2.out.turns ht3 (Apart.at (by simp; omega))
  have hA3 := Lib.hid (add_rln hR3 hV3 (Apart.at (by intro g; rcases hF3 _ g with g | g <;> simp at g <;> omega)) rfl (by decide))
  have HR3 := Lib.hid hR3
  clear hc3 hF3 ht3 hR3 hV3 HR2 HV2 hA HB2
  go_wp2_with fail
  refine (hA3.out).mono ?_
  rintro e w4 ⟨F4, b4, M4, rfl, ht4, hF4, hR4, hc4⟩
  obtain ⟨rfl, rfl⟩ : b4 = false ∧ M4 = [[u].map V.bare] := by
    rcases hc4 with ⟨h1, -, h2⟩ | ⟨-, h1, h2⟩
    · exact ⟨h1, h2⟩
    · simp at h1
  have HB4 := Lib.hid (HR3.out.step ht4 HB3.out (Nat.le_refl _))
  have hT4 := Lib.hid (turn_rel hR4 (by decide))
  have HR4 := Lib.hid hR4
  clear hc4 hF4 ht4 hR4 HR3 HB3 hA3
  go_wp2_with fail
  refine (hT4.out).mono ?_
  rintro e w5 ⟨rfl, ht5, hR5⟩
  have HB5 := Lib.hid (HR4.out.step ht5 HB4.out (Nat.le_refl _))
  have hD5 := Lib.hid (delta_told hR5 (by decide))
  have HR5 := Lib.hid hR5
  simp at hD5
  clear ht5 hR5 HR4 HB4 hT4
  go_wp2_with fail
  refine (hD5.out).mono ?_
  rintro e w6 ⟨xo, xc, D6, rfl, hb6, -, -⟩
  have HB6 : Hid (Below w.heap.size w w6) := HB5.out.trans (hb6.mono HB5.out.size)
  have HR6 := Lib.hid (HR5.out.below hb6)
  have hT6 := Lib.hid (turn_rel HR6.out (by decide))
  clear hb6 HR5 HB5 hD5
  go_wp2_with fail
  refine (hT6.out).mono ?_
  rintro e w7 ⟨rfl, ht7, hR7⟩
  have HB7 := Lib.hid (HR6.out.step ht7 HB6.out (Nat.le_refl _))
  have hD7 := Lib.hid (delta_told hR7 (by decide))
  have HR7 := Lib.hid hR7
  simp at hD7
  clear ht7 hR7 HR6 HB6 hT6
  go_wp2_with fail
  refine (hD7.out).mono ?_
  rintro e w8 ⟨xo8, xc8, D8, rfl, hb8, -, -⟩
  have HB8 : Hid (Below w.heap.size w w8) := HB7.out.trans (hb8.mono HB7.out.size)
  have hL8 := Lib.hid (all_told (HR7.out.below hb8) (by decide))
  clear hb8 HR7 HB7 hD7
  go_wp2_with fail
  refine (hL8.out).mono ?_
  rintro e w9 ⟨xo9, xc9, D9, rfl, hb9, -, -⟩
  have HB9 : Hid (Below w.heap.size w w9) := HB8.out.trans (hb9.mono HB8.out.size)
  clear hb9 HB8 hL8
  go_wp2
  go_ret
  exact ⟨rfl, HB9.out⟩
end Go.Proofs.Ytkkpcphmojegmaa
