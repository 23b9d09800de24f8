/-
  Contracts of the document's answers for tables (lambrequinref01.Same, lambrequinref02.Find): a list is searched.
-/
import Derived.Test.YtffibgladjmeaaaRefCmpV
import Derived.Deep.RegionHeld3
namespace Go.Proofs.Ytffibgladjmeaaa
set_option linter.unusedSimpArgs false
set_option linter.unusedVariables false
set_option linter.unusedSectionVars false
open Go.RowKit Go.Maps
variable [DecidableEq V]

theorem same_bare (u v : V) : (vcmp u.k u.s u.n v.k v.s v.n == 0) = decide (u.bare = v.bare) := by
  obtain ⟨uk, us, un⟩ := u
  obtain ⟨vk, vs, vn⟩ := v
  cases uk <;> cases vk
  · by_cases h : un = vn
    · subst h; simp [vcmp, icmp_self, V.bare, bareS, bareN]
    · have : icmp un vn ≠ 0 := fun e => h (icmp_eq e)
      simp [vcmp, this, V.bare, bareS, bareN, h]
  · simp [vcmp, V.bare]
  · simp [vcmp, V.bare]
  · by_cases h : us = vs
    · subst h; simp [vcmp, cb_self, V.bare, bareS, bareN]
    · have : Lib.compareBytes us.data.toList vs.data.toList ≠ 0 := fun e => h (by
        have := (cb_eq _ _).1 e
        have e2 : us.data = vs.data := by cases hu : us.data; cases hv : vs.data; simp_all
        cases us; cases vs; simp_all)
      simp [vcmp, this, V.bare, bareS, bareN, h]

theorem same_any {u v : V} (hu : u.Ok) (hv : v.Ok) (w : World) :
    Calls Try.prog 16 #[.agg #[.bool u.k, .string u.s, .int .i64 u.n], .agg #[.bool v.k, .string v.s, .int .i64 v.n]] w
      fun e w' => e = .returned (.bool (decide (u.bare = v.bare))) ∧ Below w.heap.size w w' := by
  refine (refSame_any u.k u.s u.n v.k v.s v.n hu.s hv.s w).mono ?_
  rintro e w' ⟨rfl, h⟩
  exact ⟨by rw [same_bare], h⟩

theorem idx_first {L : List V} {b : V} {k : Nat} (hk : k < L.length) (hb : L[k] = b) (hn : b ∉ L.take k) : b ∈ L ∧ L.idxOf b = k := by
  have e : L = L.take k ++ (b :: L.drop (k + 1)) := by rw [← hb, ← List.drop_eq_getElem_cons hk, List.take_append_drop]
  refine ⟨hb ▸ List.getElem_mem hk, ?_⟩
  rw [e, List.idxOf_append, if_neg hn]
  simp
  omega

/-- Three cells of an element and three of a box, kept. -/
theorem six_keep {w W w' : World} {b1 o1 b2 : Nat} {a0 a1 a2 c0 c1 c2 : Value}
    (h : W.cell? ⟨b1, o1, none⟩ = some a0 ∧ W.cell? ⟨b1, o1 + 1, none⟩ = some a1 ∧ W.cell? ⟨b1, o1 + 2, none⟩ = some a2 ∧ W.cell? ⟨b2, 0, none⟩ = some c0 ∧ W.cell? ⟨b2, 1, none⟩ = some c1 ∧ W.cell? ⟨b2, 2, none⟩ = some c2 ∧ b1 < W.heap.size ∧ b2 < W.heap.size ∧ Below w.heap.size w W)
    (hb : Below W.heap.size W w') : w'.cell? ⟨b1, o1, none⟩ = some a0 ∧ w'.cell? ⟨b1, o1 + 1, none⟩ = some a1 ∧ w'.cell? ⟨b1, o1 + 2, none⟩ = some a2 ∧ w'.cell? ⟨b2, 0, none⟩ = some c0 ∧ w'.cell? ⟨b2, 1, none⟩ = some c1 ∧ w'.cell? ⟨b2, 2, none⟩ = some c2 ∧ b1 < w'.heap.size ∧ b2 < w'.heap.size ∧ Below w.heap.size w w' := by
  obtain ⟨h1, h2, h3, h4, h5, h6, h7, h8, h9⟩ := h
  have hs := hb.size
  exact ⟨(hb.cell (p := ⟨b1, o1, none⟩) h7).trans h1, (hb.cell (p := ⟨b1, o1 + 1, none⟩) h7).trans h2, (hb.cell (p := ⟨b1, o1 + 2, none⟩) h7).trans h3, (hb.cell (p := ⟨b2, 0, none⟩) h8).trans h4, (hb.cell (p := ⟨b2, 1, none⟩) h8).trans h5, (hb.cell (p := ⟨b2, 2, none⟩) h8).trans h6, by omega, by omega, h9.trans (hb.mono h9.size)⟩

set_option maxHeartbeats 3200000 in
set_option maxRecDepth 100000 in
theorem refFind_any {x : Value} {L : List V} {v : V} {w : World} (hx : Vals w x L) (hv : v.Ok) (hbare : ∀ u ∈ L, u.bare = u) :
    Calls Try.prog 14 #[x, .agg #[.bool v.k, .string v.s, .int .i64 v.n]] w fun e w' => e = .returned (.tuple #[.int .i64 (at0 L v.bare), .bool (decide (v.bare ∈ L))]) ∧ Below w.heap.size w w' := by
  obtain ⟨ao, cap, rfl, hm⟩ := hx.len
  unfold maxLen at hm
  have HX := Lib.hid hx
  have HV := Lib.hid hv
  have HU := Lib.hid hbare
  have X0 := Lib.hid (Box.new w v)
  clear hx hv hbare
  go_enter Try.func14, Try.ntmps14
  go_wp2_with fail
  go_loopw [6] (fun i wr => ∃ (k : Nat), k ≤ L.length ∧ i = .int .i64 k ∧ Hid (v.bare ∉ L.take k) ∧ Hid (Box wr w.heap.size v) ∧ Hid (Below w.heap.size w wr)) (fun i _ => L.length - (intOf i).toNat)
  case atStart => exact ⟨0, Nat.zero_le _, rfl, by simp [Hid], X0, (Below.refl _ _).alloc (Nat.le_refl _) _⟩
  case round =>
    obtain ⟨k, hk, rfl, HK, HB1, HB⟩ := hrel
    by_cases hlt : k < L.length
    · obtain ⟨b, off, rfl, c0, c1, c2, hok, hbl⟩ := HX.out.at HB.out k hlt
      have h1I : (k : Int) < (L.length : Int) := by omega
      obtain ⟨x0, x1, x2, x3⟩ := HB1.out
      have hbw : b < wr.heap.size := Nat.lt_of_lt_of_le hbl HB.out.size
      have HE := Lib.hid (HU.out L[k] (List.getElem_mem hlt))
      have hS : Hid (∀ W, Calls Try.prog 16 #[.agg #[.bool L[k].k, .string L[k].s, .int .i64 L[k].n], .agg #[.bool v.k, .string v.s, .int .i64 v.n]] W
        fun e w' => e = .returned (.bool (decide (L[k] = v.bare))) ∧ Below W.heap.size W w') := fun W => by
          have := same_any hok HV.out W
          rwa [HE.out] at this
      by_cases hc : L[k] = v.bare
      · have hd : decide (L[k] = v.bare) = true := by simp [hc]
        obtain ⟨f1, f2⟩ := idx_first hlt hc HK.out
        have F1 : Hid (decide (v.bare ∈ L) = true) := decide_eq_true f1
        have F2 : Hid (at0 L v.bare = (k : Int)) := by rw [← f2]; exact at0_in f1
        rw [hd] at hS
        generalize L[k] = u at *
        clear hc hd f1 f2 HE HK hok
        go_wp2_with fail
        go_region_held3 (fun w' => w'.cell? ⟨b, off + k * 3, none⟩ = some (.bool u.k) ∧ w'.cell? ⟨b, off + k * 3 + 1, none⟩ = some (.string u.s) ∧ w'.cell? ⟨b, off + k * 3 + 2, none⟩ = some (.int .i64 u.n) ∧ w'.cell? ⟨w.heap.size, 0, none⟩ = some (.bool v.k) ∧ w'.cell? ⟨w.heap.size, 1, none⟩ = some (.string v.s) ∧ w'.cell? ⟨w.heap.size, 2, none⟩ = some (.int .i64 v.n) ∧ b < w'.heap.size ∧ w.heap.size < w'.heap.size ∧ Below w.heap.size w w')
          (first | assumption | exact six_keep (by assumption) hbN | exact ⟨c0, c1, c2, x0, x1, x2, hbw, x3, HB.out.drew⟩)
          (first
            | (go_at_call 16; refine (hS.out _).mono ?_; rintro e w' ⟨rfl, hbN⟩))
        go_wp2
        go_ret2
        go_split_ands
        rename_i hbW
        exact ⟨by rw [F1.out, F2.out]; rfl, hbW⟩
      · have hd : decide (L[k] = v.bare) = false := by simp [hc]
        have HK2 : Hid (v.bare ∉ L.take (k + 1)) := fun hm => by
          rw [List.take_succ_eq_append_getElem hlt] at hm
          rcases List.mem_append.1 hm with h | h
          · exact HK.out h
          · exact hc (List.mem_singleton.1 h).symm
        rw [hd] at hS
        generalize L[k] = u at *
        clear hc hd HE HK hok
        go_wp2_with fail
        go_region_held3 (fun w' => w'.cell? ⟨b, off + k * 3, none⟩ = some (.bool u.k) ∧ w'.cell? ⟨b, off + k * 3 + 1, none⟩ = some (.string u.s) ∧ w'.cell? ⟨b, off + k * 3 + 2, none⟩ = some (.int .i64 u.n) ∧ w'.cell? ⟨w.heap.size, 0, none⟩ = some (.bool v.k) ∧ w'.cell? ⟨w.heap.size, 1, none⟩ = some (.string v.s) ∧ w'.cell? ⟨w.heap.size, 2, none⟩ = some (.int .i64 v.n) ∧ b < w'.heap.size ∧ w.heap.size < w'.heap.size ∧ Below w.heap.size w w')
          (first | assumption | exact six_keep (by assumption) hbN | exact ⟨c0, c1, c2, x0, x1, x2, hbw, x3, HB.out.drew⟩)
          (first
            | (go_at_call 16; refine (hS.out _).mono ?_; rintro e w' ⟨rfl, hbN⟩))
        go_wp2
        go_roundw
        case rel =>
          go_split_ands
          rename_i y0 y1 y2 y3 y4 y5 y6 y7 y8
          exact ⟨k + 1, by omega, by go_num, HK2, ⟨y3, y4, y5, y7⟩, y8⟩
        case measure => simp [intOf]; omega
    · have hn : v.bare ∉ L := by have := HK.out; rwa [List.take_of_length_le (by omega)] at this
      have F1 : Hid (decide (v.bare ∈ L) = false) := decide_eq_false hn
      have F2 : Hid (at0 L v.bare = 0) := if_neg hn
      clear hn
      go_wp2
      go_ret2
      exact ⟨by rw [F1.out, F2.out]; rfl, HB.out⟩
end Go.Proofs.Ytffibgladjmeaaa
