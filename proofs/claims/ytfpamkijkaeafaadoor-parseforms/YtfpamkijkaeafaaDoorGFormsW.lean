/-
  ParseForms' walk.
-/
import Derived.Test.YtfpamkijkaeafaaDoorGShown
import Derived.Test.YtfpamkijkaeafaaDoorGFacts
namespace Go.Proofs.YtfpamkijkaeafaaDoor
set_option linter.unusedSimpArgs false
set_option linter.unusedVariables false
set_option linter.unusedSectionVars false
set_option maxRecDepth 100000
open Go.RowKit Go.Maps

theorem small_leG {c : UInt8} (h : smallQ c = true) : (97 : Int) ≤ (c.toNat : Int) ∧ (c.toNat : Int) ≤ 122 := by simp [smallQ] at h; omega
theorem great_leG {c : UInt8} (h : greatQ c = true) : (65 : Int) ≤ (c.toNat : Int) ∧ (c.toNat : Int) ≤ 90 := by simp [greatQ] at h; omega
theorem notEmptyG {s : ByteArray} (h : 0 < s.size) : s.toList.isEmpty = false := by
  rw [toList_data]
  cases hl : s.data.toList with
  | nil =>
    have h2 : s.data.toList.length = s.size := data_len s
    rw [hl] at h2
    exact absurd h2 (by simp; omega)
  | cons c r => rfl
theorem at_off {α : Type} {R : RelM α} {ty : TypeId} {k : Nat} {w : World} {B : Nat} {ao : Option Addr} {n cap : Nat} {L : List α} (h : OwnL R ty k w B (.slice ao n cap) L) (i : Nat) (hi : i < L.length) :
    ∃ b off c, ao = some ⟨b, off, none⟩ ∧ b < w.heap.size ∧ R w B L[i] c ∧ ∀ j u, c[j]? = some u → w.cell? ⟨b, off + i * k + j, none⟩ = some u := by
  obtain ⟨ao', cap', e, -, h2⟩ := h.cells
  cases e
  obtain ⟨g, c, rfl, -, hl, hR, hc⟩ := h2 i hi
  exact ⟨g, 0, c, rfl, hl, hR, fun j u hj => by rw [Nat.zero_add]; exact hc j u hj⟩
theorem tms_at {w : World} {B : Nat} {ao : Option Addr} {n cap : Nat} {L : List Tm} (h : TmsO w B (.slice ao n cap) L) (i : Nat) (hi : i < L.length) :
    ∃ b off, ao = some ⟨b, off, none⟩ ∧ b < w.heap.size ∧ w.cell? ⟨b, off + i * 5, none⟩ = some (.bool L[i].v) ∧ w.cell? ⟨b, off + i * 5 + 1, none⟩ = some (.string L[i].name) ∧ w.cell? ⟨b, off + i * 5 + 2, none⟩ = some (.bool L[i].k) ∧ w.cell? ⟨b, off + i * 5 + 3, none⟩ = some (.string L[i].s) ∧ w.cell? ⟨b, off + i * 5 + 4, none⟩ = some (.int .i64 L[i].n) := by
  obtain ⟨b, off, c, e, hl, rfl, hc⟩ := at_off h i hi
  exact ⟨b, off, e, hl, hc 0 _ rfl, hc 1 _ rfl, hc 2 _ rfl, hc 3 _ rfl, hc 4 _ rfl⟩
theorem lts_at {w : World} {B : Nat} {ao : Option Addr} {n cap : Nat} {L : List Lt} (h : LtsO w B (.slice ao n cap) L) (i : Nat) (hi : i < L.length) :
    ∃ b off x, ao = some ⟨b, off, none⟩ ∧ b < w.heap.size ∧ TmsO w B x L[i].atom.args ∧ w.cell? ⟨b, off + i * 14, none⟩ = some (.int .i64 L[i].kind) ∧ w.cell? ⟨b, off + i * 14 + 1, none⟩ = some (.string L[i].atom.p) ∧ w.cell? ⟨b, off + i * 14 + 2, none⟩ = some x ∧ w.cell? ⟨b, off + i * 14 + 3, none⟩ = some (.string L[i].op) ∧
      w.cell? ⟨b, off + i * 14 + 4, none⟩ = some (.bool L[i].l.v) ∧ w.cell? ⟨b, off + i * 14 + 5, none⟩ = some (.string L[i].l.name) ∧ w.cell? ⟨b, off + i * 14 + 6, none⟩ = some (.bool L[i].l.k) ∧ w.cell? ⟨b, off + i * 14 + 7, none⟩ = some (.string L[i].l.s) ∧ w.cell? ⟨b, off + i * 14 + 8, none⟩ = some (.int .i64 L[i].l.n) ∧
      w.cell? ⟨b, off + i * 14 + 9, none⟩ = some (.bool L[i].r.v) ∧ w.cell? ⟨b, off + i * 14 + 10, none⟩ = some (.string L[i].r.name) ∧ w.cell? ⟨b, off + i * 14 + 11, none⟩ = some (.bool L[i].r.k) ∧ w.cell? ⟨b, off + i * 14 + 12, none⟩ = some (.string L[i].r.s) ∧ w.cell? ⟨b, off + i * 14 + 13, none⟩ = some (.int .i64 L[i].r.n) := by
  obtain ⟨b, off, c, e, hl, ⟨x, rfl, hx⟩, hc⟩ := at_off h i hi
  exact ⟨b, off, x, e, hl, hx, hc 0 _ rfl, hc 1 _ rfl, hc 2 _ rfl, hc 3 _ rfl, hc 4 _ rfl, hc 5 _ rfl, hc 6 _ rfl, hc 7 _ rfl, hc 8 _ rfl, hc 9 _ rfl, hc 10 _ rfl, hc 11 _ rfl, hc 12 _ rfl, hc 13 _ rfl⟩
theorem rus_at {w : World} {B : Nat} {ao : Option Addr} {n cap : Nat} {L : List Ru} (h : RusO w B (.slice ao n cap) L) (i : Nat) (hi : i < L.length) :
    ∃ b off x y, ao = some ⟨b, off, none⟩ ∧ b < w.heap.size ∧ TmsO w B x L[i].head.args ∧ LtsO w B y L[i].body ∧ w.cell? ⟨b, off + i * 3, none⟩ = some (.string L[i].head.p) ∧ w.cell? ⟨b, off + i * 3 + 1, none⟩ = some x ∧ w.cell? ⟨b, off + i * 3 + 2, none⟩ = some y := by
  obtain ⟨b, off, c, e, hl, ⟨x, y, rfl, hx, hy⟩, hc⟩ := at_off h i hi
  exact ⟨b, off, x, y, e, hl, hx, hy, hc 0 _ rfl, hc 1 _ rfl, hc 2 _ rfl⟩

set_option maxHeartbeats 2000000 in
theorem oneT_any (t : Tm) (w : World) (h : TmOk t) :
    Calls Tryd.prog 10 #[.agg #[.bool t.v, .string t.name, .bool t.k, .string t.s, .int .i64 t.n]] w fun e w' => e = .returned (.bool true) ∧ Below w.heap.size w w' := by
  obtain ⟨v, name, k, s, n⟩ := t
  have hb := al_below w (.cells #[.bool v, .string name, .bool k, .string s, .int .i64 n] 44)
  have he : ∀ W : World, (binOp .eql 42 (.agg #[.bool false, .string ⟨#[]⟩, .int .i64 0]) (.agg #[.bool false, .string ⟨#[]⟩, .int .i64 0])).run Tryd.prog W = .ok (.bool true) W := fun _ => by kernel_rfl
  rcases h with ⟨rfl, ⟨hz, hg⟩, rfl, rfl, rfl⟩ | ⟨rfl, rfl, h⟩
  · obtain ⟨l1, l2⟩ := great_leG hg
    have hE0 := notEmptyG hz
    have hzI : (0 : Int) < (name.size : Int) := by simp only at hz; omega
    clear hg
    go_enter Tryd.func10, Tryd.ntmps10
    go_wp2
    go_ret
    exact ⟨rfl, hb⟩
  · rcases h with ⟨rfl, rfl⟩ | ⟨rfl, rfl⟩
    all_goals
      go_enter Tryd.func10, Tryd.ntmps10
      go_wp2
      go_ret
      exact ⟨rfl, hb⟩
end Go.Proofs.YtfpamkijkaeafaaDoor
