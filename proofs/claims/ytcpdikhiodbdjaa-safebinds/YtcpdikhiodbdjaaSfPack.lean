/-
  A rule in a box of its own, its body put together; the same literals in another order, and one less. Plain facts; no walk.
-/
import Derived.Test.YtcpdikhiodbdjaaSfHead
namespace Go.Proofs.Ytcpdikhiodbdjaa
set_option linter.unusedSimpArgs false
set_option linter.unusedVariables false
set_option linter.unusedSectionVars false
set_option maxRecDepth 100000
open Go.RowKit Go.Maps

/-- What Check's error is. -/
def errC : Option (ByteArray × Int) → Int
  | some _ => 6
  | none => 0
theorem chkV_err (o : Option (ByteArray × Int)) : ∃ s p, chkV o = .tuple #[.string s, .int .i64 p, .int .i64 (errC o)] := by
  rcases o with _ | ⟨s, p⟩
  · exact ⟨_, _, rfl⟩
  · exact ⟨_, _, rfl⟩
theorem errC_congr {a b : Option (ByteArray × Int)} (h : a = none ↔ b = none) : errC a = errC b := by
  cases a <;> cases b <;> simp_all [errC]
theorem box9r {w : World} {b : Nat} {x y z : Value} {t : TypeId} (h : w.heap[b]? = some (.cells #[x, y, z] t (0, 0))) : w.cell? ⟨b, 0, none⟩ = some x ∧ w.cell? ⟨b, 1, none⟩ = some y ∧ w.cell? ⟨b, 2, none⟩ = some z ∧ w.frozen? ⟨b, 0, none⟩ = false ∧ w.frozen? ⟨b, 1, none⟩ = false ∧ w.frozen? ⟨b, 2, none⟩ = false ∧ b < w.heap.size :=
  ⟨by simp [World.cell?, h], by simp [World.cell?, h], by simp [World.cell?, h], by simp [World.frozen?, h], by simp [World.frozen?, h], by simp [World.frozen?, h], (Array.getElem?_eq_some_iff.1 h).1⟩
/-- What a world X is behind the packing of a rule of body L in block b9. -/
structure PackR (w0 w X : World) (b9 : Nat) (p h v : Value) (L : List Lt) : Prop where
  box : X.heap[b9]? = some (.cells #[p, h, v] 27 (0, 0))
  lts : Lts X v L
  bel : Below w.heap.size w X
theorem packR_alloc {w0 w w3 : World} {B m vc : Nat} {v p h : Value} {vo : Option Addr} {L : List Lt} (hO : OwnW LtI 53 14 w0 w3 B v L) (hv : v = .slice vo m vc) (h0 : Below w0.heap.size w0 w3) (hb : Below w.heap.size w w3) (hm : L.length ≤ maxLen) :
    PackR w0 w (w3.alloc (.cells #[p, h, .slice vo m vc] 27)) w3.heap.size p h (.slice vo m vc) L := by
  subst hv
  have ha := al_bel w3 (.cells #[p, h, .slice vo m vc] 27)
  exact ⟨heap1L _ _, (hO.below ha).rd stayLt (h0.trans (ha.mono h0.size)) hm, hb.trans (ha.mono hb.size)⟩
theorem packR_set {w0 w w3 : World} {B m vc b9 : Nat} {v p h z0 z1 z2 : Value} {vo : Option Addr} {L : List Lt} (hO : OwnW LtI 53 14 w0 w3 B v L) (hv : v = .slice vo m vc) (h0 : Below w0.heap.size w0 w3) (hb : Below w.heap.size w w3) (hm : L.length ≤ maxLen)
    (h9 : w3.heap[b9]? = some (.cells #[z0, z1, z2] 27 (0, 0))) (hne : v.ownBlock ≠ some b9) (hn : w.heap.size ≤ b9) (hn0 : w0.heap.size ≤ b9) :
    PackR w0 w (((w3.setCell ⟨b9, 0, none⟩ p).setCell ⟨b9, 1, none⟩ h).setCell ⟨b9, 2, none⟩ (.slice vo m vc)) b9 p h (.slice vo m vc) L := by
  subst hv
  have h8 := heap_set (o := 2) (heap_set (o := 1) (heap_set (o := 0) h9 p) h) (.slice vo m vc)
  refine ⟨by rw [h8]; rfl, (hO.far (fun g hg => ?_)).rd stayLt (((h0.setCell (p := ⟨b9, 0, none⟩) hn0 p).setCell (p := ⟨b9, 1, none⟩) hn0 h).setCell (p := ⟨b9, 2, none⟩) hn0 (.slice vo m vc)) hm, ((hb.setCell (p := ⟨b9, 0, none⟩) hn p).setCell (p := ⟨b9, 1, none⟩) hn h).setCell (p := ⟨b9, 2, none⟩) hn (.slice vo m vc)⟩
  have hg9 : g ≠ b9 := fun e => hne (by rw [hg, e])
  exact (Below.heap_setCell _ ⟨b9, 2, none⟩ _ g hg9).trans ((Below.heap_setCell _ ⟨b9, 1, none⟩ _ g hg9).trans (Below.heap_setCell _ ⟨b9, 0, none⟩ _ g hg9))

theorem sub_sm {r : Ru} {L : List Lt} (h : SmRu r) (hl : L.length ≤ 1000) (hs : ∀ l ∈ L, l ∈ r.body) : SmRu ⟨r.head, L⟩ := ⟨h.head, hl, fun l hm => h.each l (hs l hm)⟩
theorem sub_ok {r : Ru} {L : List Lt} (h : OkRu r) (hs : ∀ l ∈ L, l ∈ r.body) : OkRu ⟨r.head, L⟩ := ⟨h.1, fun l hm => h.2 l (hs l hm)⟩
theorem turn_mem {B : List Lt} {k : Nat} (l : Lt) : l ∈ B ↔ l ∈ ([] ++ B.drop k) ++ B.take k := by
  have e : B.take k ++ B.drop k = B := List.take_append_drop _ _
  simp only [List.nil_append, List.mem_append]
  constructor
  · intro h
    rw [← e] at h
    rcases List.mem_append.1 h with h | h
    · exact .inr h
    · exact .inl h
  · rintro (h | h)
    · exact List.mem_of_mem_drop h
    · exact List.mem_of_mem_take h
theorem turn_check (h : Am) (B : List Lt) (k : Nat) : errC (checkR ⟨h, B⟩) = errC (checkR ⟨h, ([] ++ B.drop k) ++ B.take k⟩) := errC_congr (check_perm (fun l => turn_mem l)).1
theorem turn_bnd (h : Am) (B : List Lt) (k : Nat) : bndR ⟨h, B⟩ = bndR ⟨h, ([] ++ B.drop k) ++ B.take k⟩ :=
  rising_unique (sort_rising _) (sort_rising _) (fun s => (bnd_mem _ s).trans (((check_perm (h := h) (fun l => turn_mem (B := B) (k := k) l)).2 s).trans (bnd_mem ⟨h, ([] ++ B.drop k) ++ B.take k⟩ s).symm))
/-- A literal less. -/
theorem less_split {B : List Lt} {k : Nat} (hk : k < B.length) : B = B.take k ++ (B[k]'hk) :: B.drop (k + 1) := by rw [List.getElem_cons_drop, List.take_append_drop]
theorem less_mem {B : List Lt} {k : Nat} (l : Lt) (h : l ∈ ([] ++ B.take k) ++ B.drop (k + 1)) : l ∈ B := by
  simp only [List.nil_append, List.mem_append] at h
  rcases h with h | h
  · exact List.mem_of_mem_take h
  · exact List.mem_of_mem_drop h
theorem less_bnd {h : Am} {B : List Lt} {k : Nat} (hk : k < B.length) : ∀ s ∈ bndR ⟨h, ([] ++ B.take k) ++ B.drop (k + 1)⟩, inN (bndR ⟨h, B⟩) s = true := by
  intro s hs
  have h1 := (bnd_mem _ s).1 hs
  simp only [List.nil_append] at h1
  refine (inN_iff _ _).2 ((bnd_mem _ s).2 ?_)
  show s ∈ posN B
  rw [less_split hk]
  exact drop_pos h1
theorem less_same {h : Am} {B : List Lt} {k : Nat} (hk : k < B.length) (hn : (B[k]'hk).kind ≠ 1) : bndR ⟨h, ([] ++ B.take k) ++ B.drop (k + 1)⟩ = bndR ⟨h, B⟩ := by
  have e : posN B = posN (B.take k ++ B.drop (k + 1)) := by
    conv => lhs; rw [less_split hk]
    exact drop_same hn
  show sortN (posN (([] ++ B.take k) ++ B.drop (k + 1))) = sortN (posN B)
  rw [e, List.nil_append]
theorem less_safe {h : Am} {B : List Lt} {k : Nat} (hk : k < B.length) (hn : (B[k]'hk).kind ≠ 1) (hs : checkR ⟨h, B⟩ = none) : checkR ⟨h, ([] ++ B.take k) ++ B.drop (k + 1)⟩ = none := by
  rw [List.nil_append]
  rw [less_split hk] at hs
  exact drop_safe hn hs
end Go.Proofs.Ytcpdikhiodbdjaa
