/-
  Contract of the document's Key of rows (lambrequinref03).
-/
import Derived.Test.YtdjappfmjnjibaaDoorTRef03
namespace Go.Proofs.YtdjappfmjnjibaaDoor
set_option linter.unusedSimpArgs false
set_option linter.unusedVariables false
set_option linter.unusedSectionVars false
set_option maxRecDepth 100000
open Go.RowKit
variable [DecidableEq V]

set_option maxHeartbeats 3200000 in
theorem refKey_any {x : Value} {vs : List V} {w : World} (hx : Vals w x vs) (hK : (keyL vs).length ≤ 100000000) :
    Calls Tryd.prog 18 #[x] w fun e w' => e = .returned (.string ⟨(keyL vs).toArray⟩) ∧ Below w.heap.size w w' := by
  obtain ⟨ao, cap, rfl, hm⟩ := hx.len
  unfold maxLen at hm
  have HX := Lib.hid hx
  clear hx
  go_enter Tryd.func18, Tryd.ntmps18
  go_wp2_with fail
  go_loopw [3, 4] (fun sv i wr => ∃ (k : Nat) (t : ByteArray), k ≤ vs.length ∧ i = .int .i64 k ∧ sv = .string t ∧ Hid (t.data.toList = keyL (vs.take k)) ∧ Hid (Below w.heap.size w wr)) (fun _ i _ => vs.length - (intOf i).toNat)
  case atStart => exact ⟨0, ⟨#[]⟩, Nat.zero_le _, rfl, rfl, rfl, Below.refl _ _⟩
  case round =>
    obtain ⟨k, t, hk, rfl, rfl, HR, HB⟩ := hrel
    by_cases hlt : k < vs.length
    · have h1I : (k : Int) < (vs.length : Int) := by omega
      obtain ⟨b, off, rfl, c0, c1, c2, hok, hbl⟩ := HX.out.at HB.out k hlt
      have HS := Lib.hid (key_snoc vs k hlt)
      have hl1 := key_take vs (k + 1)
      rw [HS.out] at hl1
      have hbs := body_le vs[k] hok
      unfold maxLen at hbs
      have HF1 := Lib.hid (fun W => figures_any vs[k].n hok.lo hok.hi W)
      have HF2 := Lib.hid (fun W => figures_any (vs[k].body.size : Int) (by omega) (by omega) W)
      simp only [V.part] at hl1 HS
      have ht : t.size = (keyL (vs.take k)).length := by rw [← HR.out, data_len]
      have hl2 : t.size + (Lib.itoa (vs[k].body.size : Int)).length + vs[k].body.size + 2 ≤ 100000000 := by
        simp only [List.length_append, List.length_cons, data_len] at hl1
        omega
      clear hl1 ht
      rw [← HR.out] at HS
      clear HR
      obtain ⟨f2, hf2⟩ : ∃ f : ByteArray, f = ⟨(Lib.itoa (vs[k].body.size : Int)).toArray⟩ := ⟨_, rfl⟩
      rw [← hf2] at HF2
      have hf2s : f2.size = (Lib.itoa (vs[k].body.size : Int)).length := by rw [hf2]; show (Lib.itoa _).toArray.size = _; simp
      have hf2l : Lib.itoa (vs[k].body.size : Int) = f2.data.toList := by rw [hf2]
      rw [hf2l] at HS
      rw [← hf2s] at hl2
      clear hf2 hf2s hf2l hok
      generalize vs[k] = u at *
      obtain ⟨uk, us, un⟩ := u
      cases uk
      · obtain ⟨f1, hf1⟩ : ∃ f : ByteArray, f = ⟨(Lib.itoa un).toArray⟩ := ⟨_, rfl⟩
        have hbd : (V.mk false us un).body = f1 := by rw [hf1]; rfl
        have hmk : (V.mk false us un).mark = 110 := rfl
        rw [hbd] at HF2 HS hl2 hbs
        rw [hmk] at HS
        simp only [← hf1] at HF1
        clear hf1 hbd hmk
        go_wp2_with fail
        refine (HF1.out _).mono ?_
        rintro e w1 ⟨rfl, hb1⟩
        have HB1 : Hid (Below w.heap.size w w1) := HB.out.trans (hb1.mono HB.out.size)
        clear hb1 HB c0 c1 c2
        go_wp2_with fail
        refine (HF2.out _).mono ?_
        rintro e w2 ⟨rfl, hb2⟩
        have HB2 : Hid (Below w.heap.size w w2) := HB1.out.trans (hb2.mono HB1.out.size)
        clear hb2 HB1
        go_wp2
        go_roundw
        case rel => exact ⟨k + 1, t ++ ⟨#[110]⟩ ++ f2 ++ ⟨#[58]⟩ ++ f1, by omega, by go_num, rfl, by rw [Hid, HS.out]; simp only [Go.Joins.data_append]; simp, HB2⟩
        case measure => simp [intOf]; omega
      · have hbd : (V.mk true us un).body = us := rfl
        have hmk : (V.mk true us un).mark = 115 := rfl
        rw [hbd] at HF2 HS hl2 hbs
        rw [hmk] at HS
        clear hbd hmk HF1
        go_wp2_with fail
        refine (HF2.out _).mono ?_
        rintro e w2 ⟨rfl, hb2⟩
        have HB2 : Hid (Below w.heap.size w w2) := HB.out.trans (hb2.mono HB.out.size)
        clear hb2 HB c0 c1 c2
        go_wp2
        go_roundw
        case rel => exact ⟨k + 1, t ++ ⟨#[115]⟩ ++ f2 ++ ⟨#[58]⟩ ++ us, by omega, by go_num, rfl, by rw [Hid, HS.out]; simp only [Go.Joins.data_append]; simp, HB2⟩
        case measure => simp [intOf]; omega
    · obtain rfl : k = vs.length := by omega
      have HR' := HR.out
      rw [List.take_of_length_le (Nat.le_refl _)] at HR'
      have HT : Hid (t = ⟨(keyL vs).toArray⟩) := bytes_ext (by rw [HR'])
      clear HR HR'
      go_wp2
      go_ret
      exact ⟨by rw [← HT.out]; rfl, HB.out⟩
end Go.Proofs.YtdjappfmjnjibaaDoor
