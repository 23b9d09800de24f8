/-
  Contract of the third law's shown: the document's example of a row holds, in every world that holds the library's table; of old memory nothing turns.
-/
import Derived.Test.YtfjkfblejfiglaaDoorTKey
import Derived.Test.YtfjkfblejfiglaaDoorTOf
namespace Go.Proofs.YtfjkfblejfiglaaDoor
set_option linter.unusedSimpArgs false
set_option linter.unusedVariables false
set_option linter.unusedSectionVars false
set_option maxRecDepth 100000
open Go.RowKit
variable [DecidableEq V]

def va : V := ⟨true, ⟨#[97]⟩, 0⟩
def v12 : V := ⟨false, ⟨#[]⟩, 12⟩
theorem va_ok : va.Ok := ⟨by decide, by decide, by decide⟩
theorem v12_ok : v12.Ok := ⟨by decide, by decide, by decide⟩
theorem ex_key : keyL [va, v12] = [115, 49, 58, 97, 110, 50, 58, 49, 50] := by
  have e12 : Lib.itoa 12 = [49, 50] := by simp [Lib.itoa, Lib.decDigits]
  have e1 : Lib.itoa 1 = [49] := by simp [Lib.itoa, Lib.decDigits]
  have e2 : Lib.itoa 2 = [50] := by simp [Lib.itoa, Lib.decDigits]
  have b1 : va.body = ⟨#[97]⟩ := rfl
  have b2 : v12.body = ⟨#[49, 50]⟩ := by rw [V.body, if_neg (by decide), show v12.n = 12 from rfl, e12]
  have s1 : ((va.body.size : Nat) : Int) = 1 := by rw [b1]; rfl
  have s2 : ((v12.body.size : Nat) : Int) = 2 := by rw [b2]; rfl
  have p1 : va.part = [115, 49, 58, 97] := by rw [V.part, s1, e1, b1]; rfl
  have p2 : v12.part = [110, 50, 58, 49, 50] := by rw [V.part, s2, e2, b2]; rfl
  simp [keyL, p1, p2]
theorem ex_cmp : rcmp [va, v12] [va] = 1 := by
  have : va.cmp va = 0 := by simp [V.cmp, vcmp, va, cb_self]
  rw [rcmp, if_pos this, rcmp]

theorem vals_lit2 (w : World) (u v : V) (hu : u.Ok) (hv : v.Ok) : Vals (w.alloc (.cells #[.bool u.k, .string u.s, .int .i64 u.n, .bool v.k, .string v.s, .int .i64 v.n] 32)) (.slice (some ⟨w.heap.size, 0, none⟩) 2 2) [u, v] := by
  refine ⟨_, _, rfl, by simp [maxLen], by simp [hu, hv], fun i hi => ⟨w.heap.size, 0, rfl, by simp, ?_⟩⟩
  match i, hi with
  | 0, _ => simp
  | 1, _ => simp
/-- The first of a list. -/
theorem Vals.take {w : World} {ao : Option Addr} {n cap : Nat} {vs : List V} (h : Vals w (.slice ao n cap) vs) (k : Nat) (hk : k ≤ vs.length) : Vals w (.slice ao k cap) (vs.take k) := by
  obtain ⟨ao', cap', e, h2, h3, h4⟩ := h
  injection e with e1 e2 e3
  subst e1 e3
  have hl : (vs.take k).length = k := by simp; omega
  refine ⟨ao, cap, by rw [hl], by omega, fun v hv => h3 v (List.mem_of_mem_take hv), fun i hi => ?_⟩
  obtain ⟨b, off, e, hlt, c0, c1, c2⟩ := h4 i (by omega)
  exact ⟨b, off, e, hlt, by simpa using c0, by simpa using c1, by simpa using c2⟩

set_option maxHeartbeats 1600000 in
theorem shown3_any (w : World) (ht : Tab w) :
    Calls Tryd.prog 5 #[] w fun e w' => e = .returned (.bool true) ∧ Below w.heap.size w w' := by
  have hT : ∀ w1, Below w.heap.size w w1 → Tab w1 := fun w1 hb => ht.on hb
  have HT := Lib.hid hT
  have HV := Lib.hid (vals_lit2 w va v12 va_ok v12_ok)
  clear hT ht
  go_enter Tryd.func5, Tryd.ntmps5
  go_wp2_with fail
  refine (of_any HV.out (by simp)).mono ?_
  rintro e w1 ⟨x', rfl, hb1, hO⟩
  have HB1 : Hid (Below w.heap.size w w1) := ((Below.refl _ _).alloc (Nat.le_refl _) _).trans (hb1.mono (by simp))
  rw [show [va, v12].map V.bare = [va, v12] from rfl] at hO
  rcases hO.own.2 with ⟨-, h0⟩ | ⟨g, cap, cur, rfl, -, -, hc1, hc2, -, -⟩
  · simp at h0
  have HO := Lib.hid hO.vals
  simp only [List.length_cons, List.length_nil] at hc1 HO ⊢
  unfold maxLen at hc2
  have hcI : (2 : Int) ≤ (cap : Int) := by omega
  clear hO hb1 HV hc1
  go_wp2_with fail
  refine (key_any HO.out (by rw [ex_key]; simp) (HT.out _ HB1.out)).mono ?_
  rintro e w2 ⟨rfl, hb2⟩
  rw [ex_key]
  have HO2 := Lib.hid (HO.out.below hb2)
  have HB2 : Hid (Below w.heap.size w w2) := HB1.out.trans (hb2.mono HB1.out.size)
  clear hb2 HO HB1
  go_wp2_with fail
  refine (tcmp_any HO2.out (HO2.out.take 1 (by simp))).mono ?_
  rintro e w3 ⟨rfl, hb3⟩
  rw [show [va, v12].take 1 = [va] from rfl, ex_cmp]
  have HB3 : Hid (Below w.heap.size w w3) := HB2.out.trans (hb3.mono HB2.out.size)
  clear hb3 HO2 HB2
  go_wp2
  go_ret
  exact ⟨rfl, HB3.out⟩
end Go.Proofs.YtfjkfblejfiglaaDoor
