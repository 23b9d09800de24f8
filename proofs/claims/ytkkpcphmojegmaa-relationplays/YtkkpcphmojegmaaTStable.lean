/-
  Contract of slices.stableCmpFunc over rows: rows that stood in turn rise behind it.
-/
import Derived.Test.YtkkpcphmojegmaaTSymAll
namespace Go.Proofs.Ytkkpcphmojegmaa
set_option linter.unusedSimpArgs false
set_option linter.unusedVariables false
set_option linter.unusedSectionVars false
set_option maxRecDepth 100000
open Go.RowKit
variable [DecidableEq V]

theorem InTurn.sub {l l' : List R} (h : InTurn l) (hs : l'.Sublist l) : InTurn l' := List.Pairwise.sublist hs h

/-- What a sort answers. -/
def StOut (g cap : Nat) (D : List R) (w : World) (e : Ending) (w' : World) : Prop := e = .returned (.tuple #[]) ∧ Only g w w' ∧ ∃ Z, Z.Perm D ∧ Up Z ∧ Mat w' g cap Z
theorem StOut.mk {g cap : Nat} {D Z : List R} {w w' : World} (ho : Only g w w') (hp : Z.Perm D) (hu : Up Z) (hm : Mat w' g cap Z) : StOut g cap D w (.returned (.tuple #[])) w' := ⟨rfl, ho, Z, hp, hu, hm⟩

/-- Whole blocks of bs rows, each in its order. -/
def Whole (bs : Nat) (D M : List R) : Prop := ∃ L : List (List R × List R), D = (L.map Prod.fst).flatten ∧ M = (L.map Prod.snd).flatten ∧ ∀ p ∈ L, p.1.length = bs ∧ p.2.Perm p.1 ∧ Up p.2
/-- Blocks of bs rows that rise, the last one with fewer now and then. -/
def Segs (bs : Nat) (D M : List R) : Prop := ∃ D1 M1 X Z, Whole bs D1 M1 ∧ D = D1 ++ X ∧ M = M1 ++ Z ∧ X.length ≤ bs ∧ Z.Perm X ∧ Up Z
theorem Whole.none {bs : Nat} : Whole bs [] [] := ⟨[], rfl, rfl, fun _ h => by simp at h⟩
theorem Whole.append {bs : Nat} {D M D' M' : List R} (h : Whole bs D M) (h' : Whole bs D' M') : Whole bs (D ++ D') (M ++ M') := by
  obtain ⟨L, rfl, rfl, hL⟩ := h
  obtain ⟨L', rfl, rfl, hL'⟩ := h'
  refine ⟨L ++ L', by simp, by simp, fun p hp => ?_⟩
  rcases List.mem_append.1 hp with hp | hp
  · exact hL p hp
  · exact hL' p hp
theorem Whole.one {bs : Nat} {X Z : List R} (h : X.length = bs) (hp : Z.Perm X) (hu : Up Z) : Whole bs X Z := ⟨[(X, Z)], by simp, by simp, fun p hm => by rw [List.mem_singleton.1 hm]; exact ⟨h, hp, hu⟩⟩
theorem Whole.more {bs : Nat} {X Z D M : List R} (hr : Whole bs D M) (h : X.length = bs) (hp : Z.Perm X) (hu : Up Z) : Whole bs (D ++ X) (M ++ Z) := hr.append (Whole.one h hp hu)
theorem Whole.perm {bs : Nat} {D M : List R} (h : Whole bs D M) : M.Perm D := by
  obtain ⟨L, rfl, rfl, hL⟩ := h
  induction L with
  | nil => exact List.Perm.refl _
  | cons p L ih =>
    simp only [List.map_cons, List.flatten_cons]
    exact (hL p (by simp)).2.1.append (ih fun q hq => hL q (by simp [hq]))
theorem Segs.last {bs : Nat} {D Z : List R} (h : D.length ≤ bs) (hp : Z.Perm D) (hu : Up Z) : Segs bs D Z := ⟨[], [], D, Z, Whole.none, rfl, rfl, h, hp, hu⟩
theorem Segs.perm {bs : Nat} {D M : List R} (h : Segs bs D M) : M.Perm D := by
  obtain ⟨D1, M1, X, Z, hW, rfl, rfl, -, hp, -⟩ := h
  exact hW.perm.append hp
theorem Whole.join {bs : Nat} {A0 A : List R} (h : Whole bs A0 A) {S0 S : List R} (hs : Segs bs S0 S) : Segs bs (A0 ++ S0) (A ++ S) := by
  obtain ⟨D1, M1, X, Z, hW, rfl, rfl, hl, hp, hu⟩ := hs
  exact ⟨A0 ++ D1, A ++ M1, X, Z, h.append hW, by simp, by simp, hl, hp, hu⟩
theorem Segs.open' {bs : Nat} {D M : List R} (h : Segs bs D M) : (D.length ≤ bs ∧ M.Perm D ∧ Up M) ∨ ∃ X D' Z M', D = X ++ D' ∧ M = Z ++ M' ∧ X.length = bs ∧ Z.Perm X ∧ Up Z ∧ Segs bs D' M' := by
  obtain ⟨D1, M1, X, Z, ⟨L, rfl, rfl, hL⟩, rfl, rfl, hl, hp, hu⟩ := h
  cases L with
  | nil => exact .inl ⟨by simpa using hl, by simpa using hp, by simpa using hu⟩
  | cons p L =>
    obtain ⟨h1, h2, h3⟩ := hL p (by simp)
    exact .inr ⟨p.1, (L.map Prod.fst).flatten ++ X, p.2, (L.map Prod.snd).flatten ++ Z, by simp, by simp, h1, h2, h3, _, _, X, Z, ⟨L, rfl, rfl, fun q hq => hL q (by simp [hq])⟩, rfl, rfl, hl, hp, hu⟩
theorem Segs.short {bs : Nat} {D M : List R} (h : Segs bs D M) (hl : D.length ≤ bs) : Up M := by
  rcases h.open' with ⟨-, -, hu⟩ | ⟨X, D', Z, M', rfl, rfl, hx, hp, hu, hr⟩
  · exact hu
  · have h1 := hr.perm
    have : D' = [] := by
      rw [List.length_append] at hl
      exact List.eq_nil_of_length_eq_zero (by omega)
    subst this
    rw [h1.eq_nil, List.append_nil]; exact hu
theorem Segs.cut {bs : Nat} {D M : List R} (h : Segs bs D M) (hl : bs ≤ D.length) : ∃ X D' Z M', D = X ++ D' ∧ M = Z ++ M' ∧ X.length = bs ∧ Z.Perm X ∧ Up Z ∧ Segs bs D' M' := by
  rcases h.open' with ⟨h1, hp, hu⟩ | h2
  · exact ⟨D, [], M, [], by simp, by simp, by omega, hp, hu, .last (by simp) (List.Perm.refl _) List.Pairwise.nil⟩
  · exact h2

/-- The first a rows rise block by block; the rest is as it was. -/
def Blk (D : List R) (a b : Nat) (A S : List R) : Prop := ∃ A0, D = A0 ++ S ∧ Whole 20 A0 A ∧ A0.length = a ∧ b = a + 20
/-- Merged by twos up to a; the rest rises by blocks. -/
def Mrg (D : List R) (bs a b : Nat) (A S : List R) : Prop := ∃ A0 S0, D = A0 ++ S0 ∧ Whole (2 * bs) A0 A ∧ Segs bs S0 S ∧ A0.length = a ∧ b = a + 2 * bs
theorem Blk.start (D : List R) : Blk D 0 20 [] D := ⟨[], rfl, .none, rfl, rfl⟩
theorem Blk.le {D : List R} {a b : Nat} {A S : List R} (h : Blk D a b A S) : a ≤ D.length ∧ b = a + 20 := by
  obtain ⟨A0, rfl, _, h1, h2⟩ := h
  rw [List.length_append]; omega
theorem Mrg.le {D : List R} {bs a b : Nat} {A S : List R} (h : Mrg D bs a b A S) : a ≤ D.length ∧ b = a + 2 * bs := by
  obtain ⟨A0, S0, rfl, _, _, h1, h2⟩ := h
  rw [List.length_append]; omega
theorem Mrg.start {D M : List R} {bs : Nat} (h : Segs bs D M) : Mrg D bs 0 (2 * bs) [] M := ⟨[], D, rfl, .none, h, rfl, by omega⟩

theorem blk_next {w : World} {g cap N a b b1 : Nat} {D A S : List R} (hN : N = D.length) (hb : b ≤ N) (hcap : N ≤ 1000000) (hT : InTurn D) (h : Blk D a b A S) (hm : Mat w g cap (A ++ S)) (e1 : b1 = b + 20) :
    Calls Try.prog 57 #[.slice (some ⟨g, 0, none⟩) N cap, .int .i64 (a : Int), .int .i64 (b : Int), .func (.func 47) #[] #[]] w fun e w' => e = .returned (.tuple #[]) ∧ Only g w w' ∧ ∃ A' S', Blk D b b1 A' S' ∧ Mat w' g cap (A' ++ S') := by
  obtain ⟨A0, rfl, hW, ha, hb2⟩ := h
  have hl := hW.perm.length_eq
  rw [List.length_append] at hN
  have hm' : Mat w g cap (A ++ S.take 20 ++ S.drop 20) := by rwa [List.append_assoc, List.take_append_drop]
  refine (insertion_any (A := A) (X := S.take 20) (C := S.drop 20) (a := a) (b := b) (N := N) hm' (by omega) (by simp; omega) (by simp; omega) (by omega) (hT.sub ((List.take_sublist _ _).trans (List.sublist_append_right _ _)))).mono ?_
  rintro e w2 ⟨rfl, ho, Z, hp, hu, hm2⟩
  refine ⟨rfl, ho, A ++ Z, S.drop 20, ⟨A0 ++ S.take 20, by rw [List.append_assoc, List.take_append_drop], .more hW (by simp; omega) hp hu, by simp; omega, e1⟩, hm2⟩
theorem blk_last {w : World} {g cap N a b : Nat} {D A S : List R} (hN : N = D.length) (hb : ¬ b ≤ N) (hcap : N ≤ 1000000) (hT : InTurn D) (h : Blk D a b A S) (hm : Mat w g cap (A ++ S)) :
    Calls Try.prog 57 #[.slice (some ⟨g, 0, none⟩) N cap, .int .i64 (a : Int), .int .i64 (N : Int), .func (.func 47) #[] #[]] w fun e w' => e = .returned (.tuple #[]) ∧ Only g w w' ∧ ∃ M, Segs 20 D M ∧ Mat w' g cap M := by
  obtain ⟨A0, rfl, hW, ha, hb2⟩ := h
  have hl := hW.perm.length_eq
  rw [List.length_append] at hN
  have hm' : Mat w g cap (A ++ S ++ []) := by rwa [List.append_nil]
  refine (insertion_any (A := A) (X := S) (C := []) (a := a) (b := N) (N := N) hm' (by omega) (by omega) (by simp) (by omega) (hT.sub (List.sublist_append_right _ _))).mono ?_
  rintro e w2 ⟨rfl, ho, Z, hp, hu, hm2⟩
  exact ⟨rfl, ho, A ++ Z, hW.join (.last (by omega) hp hu), by simpa using hm2⟩
theorem mrg_next {w : World} {g cap N bs a m b b1 : Nat} {D A S : List R} (hN : N = D.length) (hbs : 0 < bs) (hb : b ≤ N) (hcap : N ≤ 1000000) (hT : InTurn D) (h : Mrg D bs a b A S) (hm : Mat w g cap (A ++ S)) (em : m = a + bs) (e1 : b1 = b + 2 * bs) :
    Calls Try.prog 58 #[.slice (some ⟨g, 0, none⟩) N cap, .int .i64 (a : Int), .int .i64 (m : Int), .int .i64 (b : Int), .func (.func 47) #[] #[]] w fun e w' => e = .returned (.tuple #[]) ∧ Only g w w' ∧ ∃ A' S', Mrg D bs b b1 A' S' ∧ Mat w' g cap (A' ++ S') := by
  obtain ⟨A0, S0, rfl, hW, hS, ha, hb2⟩ := h
  have hl := hW.perm.length_eq
  rw [List.length_append] at hN
  obtain ⟨X, D1, Z1, M1, rfl, rfl, x1, p1, u1, hS1⟩ := hS.cut (by omega)
  rw [List.length_append] at hN
  obtain ⟨Y, D2, Z2, M2, rfl, rfl, x2, p2, u2, hS2⟩ := hS1.cut (by omega)
  rw [List.length_append] at hN
  have q1 := p1.length_eq
  have q2 := p2.length_eq
  have q3 := hS2.perm.length_eq
  have hIx : ∀ x ∈ Z1, ∀ y ∈ Z2, x.ix < y.ix := fun x hx y hy => by
    have t := (List.pairwise_append.1 hT).2.1
    exact (List.pairwise_append.1 t).2.2 x (p1.mem_iff.1 hx) y (List.mem_append_left _ (p2.mem_iff.1 hy))
  refine (sym_all g cap N hcap (N + 1) w a m b A Z1 Z2 M2 (by omega) (by simpa using hm) (by omega) (by omega) (by omega) (by omega) u1 u2 hIx (by omega) (by omega)).mono ?_
  rintro e w5 ⟨rfl, ho, Z, hp, hu, hm⟩
  refine ⟨rfl, ho, A ++ Z, M2, ⟨A0 ++ (X ++ Y), D2, by simp, .more hW (by simp; omega) (hp.trans (p1.append p2)) hu, hS2, by simp; omega, e1⟩, hm⟩
theorem mrg_last {w : World} {g cap N bs a m b : Nat} {D A S : List R} (hN : N = D.length) (hbs : 0 < bs) (hb : ¬ b ≤ N) (hmN : m < N) (hcap : N ≤ 1000000) (hT : InTurn D) (h : Mrg D bs a b A S) (hm : Mat w g cap (A ++ S)) (em : m = a + bs) :
    Calls Try.prog 58 #[.slice (some ⟨g, 0, none⟩) N cap, .int .i64 (a : Int), .int .i64 (m : Int), .int .i64 (N : Int), .func (.func 47) #[] #[]] w fun e w' => e = .returned (.tuple #[]) ∧ Only g w w' ∧ ∃ M, Segs (2 * bs) D M ∧ Mat w' g cap M := by
  obtain ⟨A0, S0, rfl, hW, hS, ha, hb2⟩ := h
  have hl := hW.perm.length_eq
  rw [List.length_append] at hN
  obtain ⟨X, D1, Z1, M1, rfl, rfl, x1, p1, u1, hS1⟩ := hS.cut (by omega)
  rw [List.length_append] at hN
  have u2 := hS1.short (by omega)
  have p2 := hS1.perm
  have q1 := p1.length_eq
  have q2 := p2.length_eq
  have hIx : ∀ x ∈ Z1, ∀ y ∈ M1, x.ix < y.ix := fun x hx y hy => by
    have t := (List.pairwise_append.1 hT).2.1
    exact (List.pairwise_append.1 t).2.2 x (p1.mem_iff.1 hx) y (p2.mem_iff.1 hy)
  refine (sym_all g cap N hcap (N + 1) w a m N A Z1 M1 [] (by omega) (by simpa using hm) (by omega) (by omega) (by omega) (by simp) u1 u2 hIx (by omega) (by omega)).mono ?_
  rintro e w5 ⟨rfl, ho, Z, hp, hu, hm⟩
  refine ⟨rfl, ho, A ++ Z, hW.join (.last (by simp; omega) (hp.trans (p1.append p2)) hu), by simpa using hm⟩
theorem Mrg.done {D A S : List R} {bs a b m N : Nat} (h : Mrg D bs a b A S) (hN : N = D.length) (em : m = a + bs) (hm : ¬ m < N) : Segs (2 * bs) D (A ++ S) := by
  obtain ⟨A0, S0, rfl, hW, hS, ha, hb2⟩ := h
  rw [List.length_append] at hN
  exact hW.join (.last (by omega) hS.perm (hS.short (by omega)))

set_option maxHeartbeats 8000000 in
theorem stable_any {w : World} {g cap N : Nat} {D : List R} (h : Mat w g cap D) (hN : N = D.length) (hcap : N ≤ 1000000) (hT : InTurn D) :
    Calls Try.prog 54 #[.slice (some ⟨g, 0, none⟩) N cap, .int .i64 (N : Int), .func (.func 47) #[] #[]] w fun e w' => StOut g cap D w e w' := by
  have HM := Lib.hid h
  have HT := Lib.hid hT
  have HN := Lib.hid hN
  have N9 : (N : Int) ≤ 1000000 := by omega
  clear h hN hT
  go_enter Try.func54, Try.ntmps54
  go_wp2_with fail
  go_loopw [7, 8] (fun av bv wr => ∃ (a b : Nat) (A S : List R), av = .int .i64 (a : Int) ∧ bv = .int .i64 (b : Int) ∧ Hid (Blk D a b A S) ∧ Hid (Mat wr g cap (A ++ S)) ∧ Hid (Only g w wr)) (fun _ bv _ => 3000000 - (intOf bv).toNat)
  case atStart => exact ⟨0, 20, [], D, by first | rfl | go_num, by first | rfl | go_num, Blk.start D, HM, Only.refl _ _⟩
  case round =>
    clear HM
    obtain ⟨a, b, A, S, rfl, rfl, HS, HM, HO⟩ := hrel
    have a9 : (a : Int) ≤ 1000000 := by have := HS.out.le; have := HN.out; omega
    have b9 : (b : Int) ≤ 1000020 := by have := HS.out.le; omega
    by_cases hb : b ≤ N
    · have hbI : (b : Int) ≤ (N : Int) := by omega
      obtain ⟨b1, hb1⟩ : ∃ b1 : Nat, b1 = b + 20 := ⟨_, rfl⟩
      have hI := Lib.hid (blk_next HN.out hb hcap HT.out HS.out HM.out hb1)
      have hb1I : (b : Int) + 20 = (b1 : Int) := by omega
      have b19 : (b1 : Int) ≤ 1000040 := by omega
      have Hb1 := Lib.hid hb1
      clear hb1
      go_wp2_with fail
      refine (hI.out).mono ?_
      rintro e w2 ⟨rfl, ho, A', S', hB, hm⟩
      have HM2 := Lib.hid hm
      have HO2 := Lib.hid (HO.out.trans ho)
      have HB := Lib.hid hB
      clear ho hB hm HM HO hI HS
      go_wp2
      go_roundw
      case rel => exact ⟨b, b1, A', S', by first | rfl | go_num, by first | rfl | go_num, HB, HM2, HO2⟩
      case measure => simp [intOf]; have := Hb1.out; omega
    · have hbI : ¬ (b : Int) ≤ (N : Int) := by omega
      have hI := Lib.hid (blk_last HN.out hb hcap HT.out HS.out HM.out)
      go_wp2_with fail
      refine (hI.out).mono ?_
      rintro e w2 ⟨rfl, ho, M, h2, hm⟩
      have HM2 := Lib.hid hm
      have HO2 := Lib.hid (HO.out.trans ho)
      have H2 := Lib.hid h2
      clear ho h2 hm HM HO hI HS hb hbI a9 b9
      go_wp2_with fail
      go_loopw [6] (fun sv wr => ∃ (bs : Nat) (M : List R), sv = .int .i64 (bs : Int) ∧ Hid (0 < bs ∧ bs ≤ 2000020 ∧ Segs bs D M) ∧ Hid (Mat wr g cap M) ∧ Hid (Only g w wr)) (fun sv _ => 3000000 - (intOf sv).toNat)
      case atStart => exact ⟨20, M, by first | rfl | go_num, ⟨by omega, by omega, H2.out⟩, HM2, HO2⟩
      case round =>
        clear HM2 HO2 H2
        obtain ⟨bs, M, rfl, HZ, HM, HO⟩ := hrel
        have bs9 : (bs : Int) ≤ 2000020 := by have := HZ.out.2.1; omega
        have bs0 : (0 : Int) < (bs : Int) := by have := HZ.out.1; omega
        by_cases hlt : bs < N
        · have hltI : (bs : Int) < (N : Int) := by omega
          obtain ⟨b2, hb2⟩ : ∃ q : Nat, q = 2 * bs := ⟨_, rfl⟩
          have hb2I : 2 * (bs : Int) = (b2 : Int) := by omega
          have hb2J : (bs : Int) * 2 = (b2 : Int) := by omega
          have b29 : (b2 : Int) ≤ 2000000 := by omega
          have HB2 := Lib.hid hb2
          clear hb2
          have HST : Hid (Mrg D bs 0 b2 [] M) := by rw [HB2.out]; exact Mrg.start HZ.out.2.2
          go_wp2_with fail
          go_loopw [7, 8] (fun av bv wr => ∃ (a b : Nat) (A S : List R), av = .int .i64 (a : Int) ∧ bv = .int .i64 (b : Int) ∧ Hid (Mrg D bs a b A S) ∧ Hid (Mat wr g cap (A ++ S)) ∧ Hid (Only g w wr)) (fun _ bv _ => 9000000 - (intOf bv).toNat)
          case atStart => exact ⟨0, b2, [], M, by first | rfl | go_num, by first | rfl | go_num, HST, HM, HO⟩
          case round =>
            clear HM HO HST
            obtain ⟨a, b, A, S, rfl, rfl, HS, HM, HO⟩ := hrel
            have a9 : (a : Int) ≤ 1000000 := by have := HS.out.le; have := HN.out; omega
            have b9 : (b : Int) ≤ 4000000 := by have := HS.out.le; have := HN.out; omega
            obtain ⟨m, hm⟩ : ∃ q : Nat, q = a + bs := ⟨_, rfl⟩
            have hmI : (a : Int) + (bs : Int) = (m : Int) := by omega
            have m9 : (m : Int) ≤ 3000020 := by omega
            have HMM := Lib.hid hm
            clear hm
            by_cases hb : b ≤ N
            · have hbI : (b : Int) ≤ (N : Int) := by omega
              obtain ⟨b1, hb1⟩ : ∃ b1 : Nat, b1 = b + 2 * bs := ⟨_, rfl⟩
              have hI := Lib.hid (mrg_next HN.out HZ.out.1 hb hcap HT.out HS.out HM.out HMM.out hb1)
              have hb1I : (b : Int) + (b2 : Int) = (b1 : Int) := by omega
              have b19 : (b1 : Int) ≤ 5000040 := by omega
              have Hb1 := Lib.hid hb1
              clear hb1
              go_wp2_with fail
              refine (hI.out).mono ?_
              rintro e w2 ⟨rfl, ho, A', S', hB, hm⟩
              have HM2 := Lib.hid hm
              have HO2 := Lib.hid (HO.out.trans ho)
              have HB := Lib.hid hB
              clear ho hB hm HM HO hI HS
              go_wp2
              go_roundw
              case rel => exact ⟨b, b1, A', S', by first | rfl | go_num, by first | rfl | go_num, HB, HM2, HO2⟩
              case measure => simp [intOf]; have := Hb1.out; omega
            · have hbI : ¬ (b : Int) ≤ (N : Int) := by omega
              by_cases hmN : m < N
              · have hmNI : (m : Int) < (N : Int) := by omega
                have hI := Lib.hid (mrg_last HN.out HZ.out.1 hb hmN hcap HT.out HS.out HM.out HMM.out)
                go_wp2_with fail
                refine (hI.out).mono ?_
                rintro e w2 ⟨rfl, ho, M, hB, hm⟩
                have HM2 := Lib.hid hm
                have HO2 := Lib.hid (HO.out.trans ho)
                have HB : Hid (Segs b2 D M) := by rw [HB2.out]; exact hB
                clear ho hB hm HM HO hI HS
                go_wp2
                go_roundw
                case rel => exact ⟨b2, M, by first | rfl | go_num, ⟨by have := HZ.out.1; have := HB2.out; omega, by omega, HB.out⟩, HM2, HO2⟩
                case measure => simp [intOf]; have := HB2.out; omega
              · have hmNI : ¬ (m : Int) < (N : Int) := by omega
                have HB : Hid (Segs b2 D (A ++ S)) := by rw [HB2.out]; exact HS.out.done HN.out HMM.out hmN
                go_wp2
                go_roundw
                case rel => exact ⟨b2, A ++ S, by first | rfl | go_num, ⟨by have := HZ.out.1; have := HB2.out; omega, by omega, HB.out⟩, HM, HO⟩
                case measure => simp [intOf]; have := HB2.out; omega
        · have hltI : ¬ (bs : Int) < (N : Int) := by omega
          have HZ5 : Hid (M.Perm D ∧ Up M) := ⟨HZ.out.2.2.perm, HZ.out.2.2.short (by have := HN.out; omega)⟩
          clear HZ
          go_wp2
          refine bodyPost_end (results_none rfl _ _ _) rfl ?_
          exact StOut.mk HO.out HZ5.out.1 HZ5.out.2 HM.out
end Go.Proofs.Ytkkpcphmojegmaa
