/-
  What the library's variables and the program's table of marks hold (Env). Contract of reader's number.
-/
import Derived.Test.YtbbmihojfcofdaaGreatDoorKTok
import Derived.Shelf.Strconv.ErrVarParseInt
namespace Go.Proofs.YtbbmihojfcofdaaGreatDoor
set_option linter.unusedSimpArgs false
set_option linter.unusedVariables false
set_option linter.unusedSectionVars false
set_option maxRecDepth 100000
open Go.RowKit

def marksA : Array Value := #[.string ⟨#[58, 45]⟩, .string ⟨#[60, 61]⟩, .string ⟨#[62, 61]⟩, .string ⟨#[33, 61]⟩, .string ⟨#[40]⟩, .string ⟨#[41]⟩, .string ⟨#[44]⟩, .string ⟨#[46]⟩, .string ⟨#[47]⟩, .string ⟨#[60]⟩, .string ⟨#[62]⟩, .string ⟨#[61]⟩]

/-- The variables read as the texts lay them; they lie in the first eight blocks. -/
structure Env (w : World) : Prop where
  big : 8 ≤ w.heap.size
  syn : ∃ tp p, w.var? Tryz.prog "strconv.ErrSyntax" = some #[.iface tp p]
  rng : ∃ tp p, w.var? Tryz.prog "strconv.ErrRange" = some #[.iface tp p]
  tabl : ∃ t fr, w.heap[2]? = some (.cells marksA t fr)
theorem synG : (Tryz.prog).globalNamed "strconv.ErrSyntax" = some 6 := by kernel_rfl
theorem rngG : (Tryz.prog).globalNamed "strconv.ErrRange" = some 7 := by kernel_rfl
theorem Env.turns {F : Nat → Prop} {w w' : World} (h : Env w) (ht : Turns F w w') (hF : ∀ i, F i → 8 ≤ i) : Env w' := by
  have hb := ht.below h.big hF
  obtain ⟨h0, ⟨tp, p, h1⟩, ⟨tq, q, h2⟩, ⟨t, fr, h3⟩⟩ := h
  exact ⟨Nat.le_trans h0 ht.size, ⟨tp, p, var?_below hb synG (by decide) h1⟩, ⟨tq, q, var?_below hb rngG (by decide) h2⟩, ⟨t, fr, (hb.block _ (by decide)).trans h3⟩⟩
theorem Env.below {w w' : World} (h : Env w) (hb : Below w.heap.size w w') : Env w' :=
  h.turns (F := fun _ => False) (Turns.of_below hb) (fun _ h => h.elim)
theorem Left.env {n rb : Nat} {w w' : World} (h : Left n rb w w') (hE : Env w) (h7 : 8 ≤ rb) : Env w' :=
  hE.turns h.turns (fun i e => by omega)
theorem Left.below {n rb : Nat} {w w' w'' : World} (h : Left n rb w w') (hb : Below w'.heap.size w' w'') : Left n rb w w'' :=
  ⟨h.turns.then (Turns.of_below hb), (hb.block _ (Array.getElem?_eq_some_iff.1 h.fresh).1).trans h.fresh⟩

theorem parse_ok (x : ByteArray) (hs : x.size ≤ 65536) (v : Int) (hp : Lib.parseIntB 64 x.data.toList = .ok v) (w : World) :
    Calls Tryz.prog 128 #[.string x, .int .i64 10, .int .i64 64] w fun e w' => e = .returned (.tuple #[.int .i64 v, .nilIface]) ∧ Below w.heap.size w w' := by
  refine (Tryz.strconv_ParseInt_10_at64_ok x (by omega) v hp w).mono ?_
  rintro e w' ⟨rfl, h⟩
  refine ⟨rfl, ?_⟩
  rcases h with rfl | ⟨t, rfl⟩
  · exact Below.refl _ _
  · exact Lib.bytesWorld_below _ _ _
theorem parse_bad (x : ByteArray) (hs : x.size ≤ 65536) (hp : ∀ v, Lib.parseIntB 64 x.data.toList ≠ .ok v) (w : World) (hE : Env w) :
    Calls Tryz.prog 128 #[.string x, .int .i64 10, .int .i64 64] w fun e w' => ∃ v t p, e = .returned (.tuple #[.int .i64 v, .iface t p]) ∧ Below w.heap.size w w' := by
  cases hq : Lib.parseIntB 64 x.data.toList
  · exact absurd hq (hp _)
  · obtain ⟨tp, p, hv⟩ := hE.syn
    refine (Any.strconv_ParseInt_10_at64_syntax_var Tryz.laysC174 x (by omega) hq tp p w hv).mono ?_
    rintro e w' ⟨N, rfl, -, -, hb⟩
    exact ⟨_, _, _, rfl, hb⟩
  · obtain ⟨tp, p, hv⟩ := hE.rng
    refine (Any.strconv_ParseInt_10_at64_range_var Tryz.laysC174 x (by omega) hq tp p w hv).mono ?_
    rintro e w' ⟨N, rfl, -, -, hb⟩
    exact ⟨_, _, _, rfl, hb⟩

def numOf (n : Nat) (l : List UInt8) : Got :=
  match Lib.parseIntB 64 l with
  | .ok v => ⟨0, ⟨3, ⟨#[]⟩, v, false, 0⟩, n⟩
  | _ => ⟨3, Tk.zero, 0⟩
/-- A number: a first byte, and figures behind it. -/
def numL (l : List UInt8) : Got := numOf (1 + runLen figureQ l.tail) (l.take (1 + runLen figureQ l.tail))
theorem numOf_ok {n : Nat} {l : List UInt8} {v : Int} (h : Lib.parseIntB 64 l = .ok v) : numOf n l = ⟨0, ⟨3, ⟨#[]⟩, v, false, 0⟩, n⟩ := by simp [numOf, h]
theorem numOf_bad {n : Nat} {l : List UInt8} (h : ∀ v, Lib.parseIntB 64 l ≠ .ok v) : numOf n l = ⟨3, Tk.zero, 0⟩ := by
  unfold numOf
  split
  · rename_i v hv; exact absurd hv (h v)
  · rfl

set_option maxHeartbeats 1200000 in
theorem number_any {w : World} {n rb : Nat} {s : ByteArray} {p : Nat} (hR : Rdr n w rb s p) (hs : s.size ≤ 65536) (hp : p < s.size) (hENV : Env w) (h7 : 8 ≤ rb) :
    Calls Tryz.prog 110 #[.pointer (some ⟨rb, 0, none⟩)] w fun e w' => TokOut n rb s p (numL (s.data.toList.drop p)) w e w' := by
  have hb0 : Below w.heap.size w (w.alloc (.cells #[.int .i64 0, .string ⟨#[]⟩, .int .i64 0, .bool false, .int .i64 0] 110)) := (Below.refl _ _).alloc (Nat.le_refl _) _
  have hR0 := hR.below hb0
  have hnn := hR.2.1
  obtain ⟨p1, hp1⟩ : ∃ p1, p1 = p + 1 := ⟨_, rfl⟩
  obtain ⟨m, hm⟩ : ∃ m, m = 1 + runLen figureQ (s.data.toList.drop p).tail := ⟨_, rfl⟩
  have hmt : runLen figureQ (s.data.toList.drop p).tail = runLen figureQ (s.data.toList.drop p1) := by rw [List.tail_drop, hp1]
  obtain ⟨E, hEe⟩ : ∃ E, E = p1 + runLen figureQ (s.data.toList.drop p1) := ⟨_, rfl⟩
  have hEm : E = p + m := by omega
  have hE : E ≤ s.size := by rw [hEe]; exact run_bound _ _ _ (by omega)
  have HTK := Lib.hid (take_left hR hs E (by omega) hE)
  obtain ⟨w0, hw0⟩ : ∃ w0, w0 = w.alloc (.cells #[.int .i64 0, .string ⟨#[]⟩, .int .i64 0, .bool false, .int .i64 0] 110) := ⟨_, rfl⟩
  rw [← hw0] at hR0 HTK
  have HW0 := Lib.hid hw0
  clear hw0
  obtain ⟨q2, q3, q4, q5, q6, q7, c0, c1, c2, c3, c4, c5, c6, c7, f1, a2, a3, a4, a5, a6, a7⟩ := hR0.cells
  have hrb0 := hR0.lt
  have HE := Lib.hid (end_rdr hR0 hs a6 p1 E (by omega) hEe)
  have HN : Hid (n ≤ w.heap.size) := hnn
  have hex : s.extract p E = ⟨((s.data.toList.drop p).take m).toArray⟩ := by rw [hEm]; exact extract_drop s p m
  have hxs : (s.extract p E).size ≤ 65536 := by rw [ByteArray.size_extract]; omega
  have HL : Hid (numL (s.data.toList.drop p) = numOf m (s.extract p E).data.toList) := by
    show numL _ = _
    unfold numL
    rw [hex, ← hm]
  have hw1 : IntKind.i64.wrap ((p : Int) + 1) = (p1 : Int) := by rw [IntKind.wrap_i64]; omega
  have hw3 : IntKind.i64.wrap (p1 : Int) = (p1 : Int) := by rw [IntKind.wrap_i64]; omega
  have hw2 : (p : Int) + 1 = (p1 : Int) := by omega
  have hw4 : (p1 : Int) ≤ 65536 := by omega
  have HEm := Lib.hid hEm
  have HENV := Lib.hid hENV
  have H7 : Hid (8 ≤ rb) := h7
  obtain ⟨x, hx⟩ : ∃ x, x = s.extract p E := ⟨_, rfl⟩
  rw [← hx] at HTK HL hxs
  by_cases hok : ∃ v, Lib.parseIntB 64 x.data.toList = .ok v
  · obtain ⟨v, hv⟩ := hok
    have HP := Lib.hid (fun W (_ : Env W) => parse_ok x hxs v hv W)
    have HG : Hid (numL (s.data.toList.drop p) = ⟨0, ⟨3, ⟨#[]⟩, v, false, 0⟩, m⟩) := HL.out.trans (numOf_ok hv)
    clear hv hx hEe hm hmt hex a2 a3 a4 a5 a6 a7 c2 c3 c4 c5 c7 hR hR0 hb0 hnn f1 hE hp hEm HL hENV h7 hp1 hxs
    go_enter Tryz.func110, Tryz.ntmps110
    go_wp2_with fail
    rw [← HW0.out]
    clear HW0
    go_region_with (first
      | (go_at_call 107; refine (HE.out _ (by first | exact Below.refl _ _ | exact (Below.refl _ _).drew)).mono ?_; rintro e w1 ⟨rfl, hbN, d1, df, hl, HR⟩; have HB := Lib.hid hbN; clear hbN)
      | (go_at_call 126; refine (HTK.out _ (Turns.of_below HB.out) HR.out).mono ?_; rintro e w2 ⟨rfl, HRT, HLT⟩)
      | (go_at_call 128; refine (HP.out _ (HLT.out.env HENV.out H7.out)).mono ?_; rintro e w3 ⟨rfl, hb3⟩; have HL3 := Lib.hid (HLT.out.below hb3); have HR3 := Lib.hid (HRT.out.below hb3); clear hb3))
    all_goals
      obtain ⟨g0, g1, g2, g3, g4, k0, k1, k2, k3, k4⟩ := HL3.out.fresh.cells
      clear HTK HE HB HR d1 df hl c0 c1 c6 HP HLT HRT hw1 hw2 hw3 hw4
      go_wp2
      obtain ⟨r0, r1, r2, r3, r4⟩ := lay5_cells HL3.out.fresh ⟨3, ⟨#[]⟩, v, false, 0⟩
      refine bodyPost_ret (w := lay5 w3 w.heap.size ⟨3, ⟨#[]⟩, v, false, 0⟩) (v := .tuple #[(⟨3, ⟨#[]⟩, v, false, 0⟩ : Tk).val, .int .i64 0]) ?_ rfl ?_
      · simp [results, Tryz.results110, go_sem, r0, r1, r2, r3, r4, Tk.val]
      · rw [HG.out]
        exact HL3.out.out HN.out (fun _ => by have := HR3.out; rw [HEm.out] at this; exact this) rfl
  · have hbad : ∀ v, Lib.parseIntB 64 x.data.toList ≠ .ok v := fun v h => hok ⟨v, h⟩
    have HP := Lib.hid (fun W (hW : Env W) => parse_bad x hxs hbad W hW)
    have HG : Hid (numL (s.data.toList.drop p) = ⟨3, Tk.zero, 0⟩) := HL.out.trans (numOf_bad hbad)
    clear hok hbad hx hEe hm hmt hex a2 a3 a4 a5 a6 a7 c2 c3 c4 c5 c7 hR hR0 hb0 hnn f1 hE hp hEm HL hENV h7 hp1 hxs
    go_enter Tryz.func110, Tryz.ntmps110
    go_wp2_with fail
    rw [← HW0.out]
    clear HW0
    go_region_with (first
      | (go_at_call 107; refine (HE.out _ (by first | exact Below.refl _ _ | exact (Below.refl _ _).drew)).mono ?_; rintro e w1 ⟨rfl, hbN, d1, df, hl, HR⟩; have HB := Lib.hid hbN; clear hbN)
      | (go_at_call 126; refine (HTK.out _ (Turns.of_below HB.out) HR.out).mono ?_; rintro e w2 ⟨rfl, HRT, HLT⟩)
      | (go_at_call 128; refine (HP.out _ (HLT.out.env HENV.out H7.out)).mono ?_; rintro e w3 ⟨v, t, pp, rfl, hb3⟩; have HL3 := Lib.hid (HLT.out.below hb3); clear hb3))
    all_goals
      obtain ⟨g0, g1, g2, g3, g4, k0, k1, k2, k3, k4⟩ := HL3.out.fresh.cells
      clear HTK HE HB HR d1 df hl c0 c1 c6 HP HLT HRT hw1 hw2 hw3 hw4
      go_wp2
      obtain ⟨r0, r1, r2, r3, r4⟩ := lay5_cells HL3.out.fresh Tk.zero
      refine bodyPost_ret (w := lay5 w3 w.heap.size Tk.zero) (v := .tuple #[Tk.zero.val, .int .i64 3]) ?_ rfl ?_
      · simp [results, Tryz.results110, go_sem, r0, r1, r2, r3, r4, Tk.val]
      · rw [HG.out]
        exact HL3.out.out HN.out (fun h => absurd h (by decide)) rfl
end Go.Proofs.YtbbmihojfcofdaaGreatDoor
