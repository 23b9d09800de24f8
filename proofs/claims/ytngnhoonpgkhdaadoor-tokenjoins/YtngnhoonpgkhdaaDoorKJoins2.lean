/-
  Two texts with a line's end between, as token.Scan tells them; append of a whole list of tokens. No walk.
-/
import Derived.Test.YtngnhoonpgkhdaaDoorKJoinsP
import Derived.Test.YtngnhoonpgkhdaaDoorKBackP
import Derived.BigFrame
namespace Go.Proofs.YtngnhoonpgkhdaaDoor
set_option linter.unusedSimpArgs false
set_option linter.unusedVariables false
set_option linter.unusedSectionVars false
set_option maxRecDepth 100000
open Go.RowKit

theorem app_sizeK (s : ByteArray) (l : List UInt8) : (s ++ ⟨l.toArray⟩ : ByteArray).size = s.size + l.length := by
  have h := ByteArray.size_append (a := s) (b := ⟨l.toArray⟩)
  have h2 : (⟨l.toArray⟩ : ByteArray).size = l.length := rfl
  rw [h, h2]
theorem scan_nil (p : Nat) : scanAt p [] = ⟨0, 0, []⟩ := by rw [scanAt_eq]; rfl
/-- What the three scans tell of each other. -/
theorem joins_scan {s t : ByteArray} (h8 : s.size ≤ 8000) (ht8 : t.size ≤ 8000) :
    (scanR (s ++ ⟨#[10]⟩)).toks.length ≤ 65536 ∧ (scanR t).toks.length ≤ 65536 ∧
    ((scanR (s ++ ⟨#[10]⟩)).bad ≠ 0 → scanR (s ++ ⟨#[10]⟩ ++ t) = scanR (s ++ ⟨#[10]⟩) ∧ (scanR (s ++ ⟨#[10]⟩)).pl ≤ s.size) ∧
    ((scanR (s ++ ⟨#[10]⟩)).bad = 0 → (scanR t).bad ≠ 0 → (scanR (s ++ ⟨#[10]⟩ ++ t)).bad = (scanR t).bad ∧ s.size < (scanR (s ++ ⟨#[10]⟩ ++ t)).pl) ∧
    ((scanR (s ++ ⟨#[10]⟩)).bad = 0 → (scanR t).bad = 0 → scanR (s ++ ⟨#[10]⟩ ++ t) = ⟨0, 0, (scanR (s ++ ⟨#[10]⟩)).toks ++ (scanR t).toks.map (Tk.move (s.size + 1))⟩) := by
  have z1 : (s ++ ⟨#[10]⟩ : ByteArray).size = s.size + 1 := app_sizeK s [10]
  have z2 : (s ++ ⟨#[10]⟩ ++ t : ByteArray).size = s.size + 1 + t.size := by
    have := ByteArray.size_append (a := s ++ ⟨#[10]⟩) (b := t)
    omega
  have d1 : (s ++ ⟨#[10]⟩ : ByteArray).data.toList = s.data.toList ++ 10 :: [] := by simp
  have d2 : (s ++ ⟨#[10]⟩ ++ t : ByteArray).data.toList = s.data.toList ++ 10 :: t.data.toList := by simp
  have e1 : scanR (s ++ ⟨#[10]⟩) = scanAt 0 (s.data.toList ++ 10 :: []) := by unfold scanR; rw [if_neg (by omega), d1]
  have e2 : scanR (s ++ ⟨#[10]⟩ ++ t) = scanAt 0 (s.data.toList ++ 10 :: t.data.toList) := by unfold scanR; rw [if_neg (by omega), d2]
  have e3 : scanR t = scanAt 0 t.data.toList := by unfold scanR; rw [if_neg (by omega)]
  have hm := scanF_move (t.data.toList.length + 1) 0 (s.size + 1) t.data.toList
  have hm' : scanAt (s.size + 1) t.data.toList = (scanAt 0 t.data.toList).move (s.size + 1) := by
    rw [Nat.zero_add] at hm
    exact hm
  have el : 0 + s.data.toList.length + 1 = s.size + 1 := by simp
  have l1 := scan_line [] _ s.data.toList (Nat.le_refl _) 0
  have l2 := scan_line t.data.toList _ s.data.toList (Nat.le_refl _) 0
  rw [el] at l1 l2
  rw [scan_nil] at l1
  rw [hm'] at l2
  have herr := scanF_err (s.data.toList.length + 1) 0 s.data.toList
  have herr' : (scanAt 0 s.data.toList).bad ≠ 0 → (scanAt 0 s.data.toList).pl ≤ s.size := fun h => by
    have := (herr h).2
    simp at this
    exact this
  refine ⟨scanR_len _, scanR_len _, ?_⟩
  rw [e1, e2, e3, l1, l2]
  generalize scanAt 0 s.data.toList = ra at *
  generalize scanAt 0 t.data.toList = rb at *
  obtain ⟨ba, pa, A⟩ := ra
  obtain ⟨bb, pb, B⟩ := rb
  by_cases hA : ba = 0
  · subst hA
    by_cases hB : bb = 0
    · subst hB
      simp [Res.app, Res.move]
    · simp [Res.app, Res.move, hB]
      omega
  · have hA' : ¬ (⟨ba, pa, A⟩ : Res).bad = 0 := hA
    rw [if_neg hA', if_neg hA']
    exact ⟨fun h => ⟨rfl, herr' hA⟩, fun h => absurd h hA, fun h => absurd h hA⟩

theorem tk_flat_one (L : List Tk) : ∀ u ∈ L.flatMap Tk.cells, u.oneCell' = true := by
  intro u hu
  obtain ⟨v, -, hv⟩ := List.mem_flatMap.1 hu
  exact tk_oneCell v u hv
theorem tk_len (L : List Tk) : (L.flatMap Tk.cells).length = L.length * 5 := by
  induction L with
  | nil => rfl
  | cons v L ih => simp [Tk.cells, ih, Nat.add_mul]
theorem TkOwn.empty {w : World} {B : Nat} (hB : B ≤ w.heap.size) : TkOwn (w.alloc (.cells #[] 58)) B (.slice (some ⟨w.heap.size, 0, none⟩) 0 0) [] :=
  ⟨rfl, Or.inr ⟨w.heap.size, 0, #[], rfl, hB, (MapKept.heap_alloc w _).1, Nat.le_refl _, Nat.zero_le _, rfl, rfl⟩⟩
theorem TkOwn.join {w' : World} {B : Nat} {x' : Value} {L M : List Tk} (hr : w'.ownsRow B 58 5 x' (L.length + M.length) (L.flatMap Tk.cells ++ M.flatMap Tk.cells)) : TkOwn w' B x' (L ++ M) := by
  unfold TkOwn
  rw [List.length_append, List.flatMap_append]
  exact hr
theorem wpList_append_toks {ops : Array Oper} {rest : List Oper} {o : Oper} {a : Act} {Q : Exit → Act → World → Prop} {w : World} (hw : Region.wanted o (yielded ops a.tmps) = true) (s x : Operand)
    (ho : o.op = .call { callee := .builtin .append, args := #[s, x], argTypes := #[23, 23] })
    (B : Nat) (v : Value) (L : List Tk) (hs : a.eval s = v) (hown : TkOwn w B v L) (xv : Value) (vs : List Tk) (hx : a.eval x = xv) {B2 : Nat} (hV : TkOwn w B2 xv vs)
    (hbytes : (L.length + vs.length) * 48 ≤ 140737488355328) (hB : B ≤ w.heap.size)
    (h : ∀ v' w', TkOwn w' B v' (L ++ vs) → Below B w w' → wpList Tryd.prog ops Q rest (a.put o.dst v') w') : wpList Tryd.prog ops Q (o :: rest) a w := by
  obtain ⟨i0, hi, hz0, hz1, hz2⟩ := info_parts infoTok
  refine wpList_step fun K hK => ?_
  rw [if_pos hw]
  have hV' := hV
  obtain ⟨h1, h2⟩ := hV
  rcases h2 with ⟨e, h0⟩ | ⟨g, cap, cur, e, hB2, hg, hc⟩
  · have hvs : vs = [] := List.length_eq_zero_iff.1 h0
    subst hvs e
    have hr := run_append_owned_none (P := Tryd.prog) w B 23 o.type 58 i0 5 Tryd.underlying23 hi v L.length (L.flatMap Tk.cells) hown
    unfold Oper.wp execOp
    simp only [ho, resolve, invoke, builtin, Sem.run_bind, Sem.run_pure, Result.andThen_ok, List.map_toArray, List.map_cons, List.map_nil, hs, hx, hr]
    exact hK _ _ (h v w (by rw [List.append_nil]; exact hown) (Below.refl _ _))
  · subst e
    obtain ⟨v', w', hr, h3, h4, h5⟩ := run_append_own (P := Tryd.prog) w B 23 o.type 58 i0 _ 5 48 Tryd.underlying23 hi hz0 hz1 hz2 rfl (by decide) v L.length (L.flatMap Tk.cells) hown ⟨g, 0, none⟩ vs.length cap (vs.flatMap Tk.cells) (tk_len vs) (fun j u hj => World.ownsRow.cells hV' rfl j u hj) (tk_flat_one vs) (by unfold maxLen; omega) hbytes hB
    unfold Oper.wp execOp
    simp only [ho, resolve, invoke, builtin, Sem.run_bind, Sem.run_pure, Result.andThen_ok, List.map_toArray, List.map_cons, List.map_nil, hs, hx, hr]
    exact hK _ _ (h v' w' (TkOwn.join h3) ((Below.refl _ _).grown h4 hB (fun k hk => (World.ownsRow.lt hown k hk).1)))
end Go.Proofs.YtngnhoonpgkhdaaDoor
