/-
  Contract of the document's one (lambrequinref05): all of it.
-/
import Derived.Test.YtekhcaanjaoioaaDoorKRefE
import Derived.Test.YtekhcaanjaoioaaDoorKRefG
namespace Go.Proofs.YtekhcaanjaoioaaDoor
set_option linter.unusedSimpArgs false
set_option linter.unusedVariables false
set_option linter.unusedSectionVars false
set_option maxRecDepth 100000
open Go.RowKit

theorem oneL_atR {s : ByteArray} {p : Nat} (hp : p < s.size) : oneL (s.data.toList.drop p) =
    if smallQ s[p] then nameL 1 (s.data.toList.drop p) else if greatQ s[p] then nameL 2 (s.data.toList.drop p) else if s[p] = 39 then quoL (s.data.toList.drop p)
    else if (figureQ s[p] || (s[p] == 45 && decide (0 < runLen figureQ (s.data.toList.drop (p + 1))))) = true then numL (s.data.toList.drop p) else markL (s.data.toList.drop p) := by
  unfold oneL oneC
  have e1 : (s.data.toList.drop p).headD 0 = s[p] := by rw [drop_at hp]; rfl
  rw [e1, List.tail_drop]
theorem rone_any (s : ByteArray) (p : Nat) (w : World) (hs : s.size ≤ 65536) (hp : p < s.size) :
    Calls Tryd.prog 15 #[.string s, .int .i64 (p : Int)] w fun e w' => RGot (oneL (s.data.toList.drop p)) p w e w' := by
  rw [oneL_atR hp]
  cases h1 : smallQ s[p]
  case true => rw [if_pos rfl]; exact rone_name1 s p w hs hp h1
  rw [if_neg (by decide)]
  cases h2 : greatQ s[p]
  case true => rw [if_pos rfl]; exact rone_name2 s p w hs hp h2
  rw [if_neg (by decide)]
  by_cases h39 : s[p] = 39
  · rw [if_pos h39, quoL_of]; exact rone_quo s p w hs hp h39
  rw [if_neg h39]
  cases h3 : figureQ s[p]
  case true => rw [Bool.true_or, if_pos rfl]; exact rone_fig s p w hs hp h3
  rw [Bool.false_or]
  by_cases n45 : s[p] = 45
  · by_cases hf : ∃ h : p + 1 < s.size, figureQ s[p + 1] = true
    · obtain ⟨hp2, hf⟩ := hf
      have hr : 0 < runLen figureQ (s.data.toList.drop (p + 1)) := by rw [runLen_yes hp2 hf]; omega
      have e45 : (s[p] == 45) = true := by simpa using n45
      rw [e45, decide_eq_true hr, Bool.true_and, if_pos rfl]
      exact rone_low s p w hs hp n45 hp2 hf
    · have hno : ∀ h : p + 1 < s.size, figureQ s[p + 1] = false := fun h => by
        cases hq : figureQ s[p + 1]
        · rfl
        · exact absurd ⟨h, hq⟩ hf
      have hr : ¬ 0 < runLen figureQ (s.data.toList.drop (p + 1)) := by
        by_cases h : p + 1 < s.size
        · rw [runLen_no h (hno h)]; omega
        · rw [runLen_end (by omega)]; omega
      rw [decide_eq_false hr, Bool.and_false, if_neg (by decide)]
      exact rone_m45 s p w hs hp n45 hno
  have e45 : (s[p] == 45) = false := by simpa using n45
  rw [e45, Bool.false_and, if_neg (by decide)]
  by_cases n40 : s[p] = 40
  · exact rone_m40 s p w hs hp n40
  by_cases n41 : s[p] = 41
  · exact rone_m41 s p w hs hp n41
  by_cases n44 : s[p] = 44
  · exact rone_m44 s p w hs hp n44
  by_cases n46 : s[p] = 46
  · exact rone_m46 s p w hs hp n46
  by_cases n47 : s[p] = 47
  · exact rone_m47 s p w hs hp n47
  by_cases n60 : s[p] = 60
  · exact rone_m60 s p w hs hp n60
  by_cases n62 : s[p] = 62
  · exact rone_m62 s p w hs hp n62
  by_cases n61 : s[p] = 61
  · exact rone_m61 s p w hs hp n61
  by_cases n58 : s[p] = 58
  · exact rone_m58 s p w hs hp n58
  by_cases n33 : s[p] = 33
  · exact rone_m33 s p w hs hp n33
  exact rone_none s p w hs hp h1 h2 h3 h39 n40 n41 n44 n46 n47 n60 n62 n61 n58 n33 n45
end Go.Proofs.YtekhcaanjaoioaaDoor
