/-
  What the rows' list of variables gives (Tab, Env), and what a world that meets it holds.
-/
import Derived.Test.YtbbmihojfcofdaaGreatDoorCards
import Derived.Test.YtbbmihojfcofdaaGreatDoorTie
import Derived.Test.YtbbmihojfcofdaaGreatDoorLift
import Derived.Test.YtbbmihojfcofdaaGreatDoorKText
import Derived.Test.YtbbmihojfcofdaaGreatDoorGParse
import Derived.Stop.LaidErr
import Derived.LaidLaws
import Derived.Lib.LaidU8
namespace Go.Proofs.YtbbmihojfcofdaaGreatDoor
set_option linter.unusedSimpArgs false
set_option linter.unusedVariables false
set_option linter.unusedSectionVars false
set_option maxRecDepth 100000
open Go.ChangeShapes Go.WideShapes Go.ChangeAt Go.RowKit Go.Joins

theorem gPow : Tryz.prog.globalNamed "internal/strconv.uint64pow10" = some 0 := by kernel_rfl
theorem gPowType : (Tryz.prog.globals[0]?).map (·.type) = some 174 := by kernel_rfl
theorem cellsPow : Tryz.prog.cellsOf 174 = 20 := by kernel_rfl
theorem cellsU64 : Tryz.prog.cellsOf 148 = 1 := by kernel_rfl
theorem gMrk : Tryz.prog.globalNamed "lambrequin/token.marks" = some 2 := by kernel_rfl
theorem gMrkType : (Tryz.prog.globals[2]?).map (·.type) = some 185 := by kernel_rfl
theorem cellsMrk : Tryz.prog.cellsOf 185 = 12 := by kernel_rfl
theorem cellsStr : Tryz.prog.cellsOf 9 = 1 := by kernel_rfl
theorem gDeb : Tryz.prog.globalNamed "math/bits.deBruijn64tab" = some 5 := by kernel_rfl
theorem gRng : Tryz.prog.globalNamed "strconv.ErrRange" = some 7 := by kernel_rfl
theorem gSyn : Tryz.prog.globalNamed "strconv.ErrSyntax" = some 6 := by kernel_rfl
theorem gRngType : (Tryz.prog.globals[7]?).map (·.type) = some 97 := by kernel_rfl
theorem gSynType : (Tryz.prog.globals[6]?).map (·.type) = some 97 := by kernel_rfl
theorem star : "*" ++ "errors.errorString" = "*errors.errorString" := by decide
theorem rowErr (u : TypeId) (h : Tryz.prog.typeName? 3 u = some "*errors.errorString") : u = 207 :=
  typeName_ptr_named (nm := "errors.errorString") (by rw [star]; kernel_rfl) (by kernel_rfl) (by decide) u (by rw [star]; exact h)
theorem cellsErr : Tryz.prog.cellsOf 209 = 1 := by kernel_rfl

/-- An array of texts that reads as these texts holds them. -/
theorem cells_of_texts {H : Type} {enc : TypeId × Value → H} {P : Program} {w : World} {base : Nat} {sp : Nat → Bool} {held : Bool} {fuel : Nat} {t e : TypeId} {n : Nat} {cs : List Value} {zs : List (List UInt8)} {p : List MemPlace}
    (ht : P.underlying t = some (.array n e)) (he : P.underlying e = some .string) (hce : P.cellsOf e = 1) (hct : P.cellsOf t = n)
    (h : DataW.trod enc P w base sp held fuel t cs = some (.agg (zs.map fun z => .lit (.string z)), p)) : cs = zs.map fun z => Value.string ⟨z.toArray⟩ := by
  cases fuel with
  | zero => simp [DataW.trod] at h
  | succ fuel =>
    simp only [DataW.trod, ht, hce, hct, Nat.mul_one] at h
    split at h
    · rename_i hl
      obtain ⟨xs, hm, hx⟩ := Option.map_eq_some_iff.1 h
      have hxs : xs.map (·.1) = zs.map fun z => (DataW.lit (.string z) : DataW H) := by
        have := congrArg Prod.fst hx
        simpa using this
      have hxl : xs.length = n := by simpa using Lib.mapM_length hm
      have hzl : zs.length = n := by
        have := congrArg List.length hxs
        simp at this
        omega
      apply List.ext_getElem?
      intro i
      by_cases hi : i < n
      · obtain ⟨b, hb, hf⟩ := Lib.mapM_at hm i i (by simp [hi])
        obtain ⟨z, hc, hbz, -⟩ := DataW.trod_string he hf
        have h1 : cs[i]? = some (.string z) := by
          have := congrArg (·[0]?) hc
          simpa [List.getElem?_take, List.getElem?_drop] using this
        have h2 : (xs.map (·.1))[i]? = some b.1 := by simp [hb]
        rw [hxs] at h2
        rw [h1]
        cases hz : zs[i]? with
        | none => rw [List.getElem?_map, hz] at h2; cases h2
        | some u =>
          rw [List.getElem?_map, hz] at h2
          have e1 : (DataW.lit (.string u) : DataW H) = b.1 := Option.some.inj h2
          rw [hbz] at e1
          have e2 : u = z.data.toList := by simpa using e1
          rw [List.getElem?_map, hz, e2]
          simp
      · rw [List.getElem?_eq_none (by omega), List.getElem?_eq_none (by simp; omega)]
    · cases h

theorem heap_of_var {W : World} {name : String} {g : Nat} {cs : Array Value} (hg : Tryz.prog.globalNamed name = some g) (h : W.var? Tryz.prog name = some cs) : ∃ t fr, W.heap[g]? = some (.cells cs t fr) := by
  unfold World.var? at h
  rw [hg, Option.bind_some] at h
  split at h
  · rename_i c t fr hh
    cases h
    exact ⟨t, fr, hh⟩
  · cases h

theorem tab_of {W : World} (h : laidMetH Tryz.prog Rows.printerPrintsRow.laid W) : Tab W := by
  have h' : laidMet Tryz.prog Rows.printerPrintsRow.laid W := h
  exact Lib.tabIs_of_head gPow gPowType Tryz.underlying174 Tryz.underlying148 cellsU64 cellsPow h'.tail.tail
theorem env_of {W : World} (h : laidMetH Tryz.prog Rows.printerPrintsRow.laid W) : Env W := by
  have h' : laidMet Tryz.prog Rows.printerPrintsRow.laid W := h
  obtain ⟨a0, s0, hv0, -⟩ := laid_sentinel h'.tail.tail.tail gRng gRngType Tryz.underlying97 rowErr Tryz.underlying207 Tryz.underlying209 rfl rfl Tryz.underlying9 cellsErr cellsStr
  obtain ⟨a1, s1, hv1, -⟩ := laid_sentinel h'.tail.tail.tail.tail gSyn gSynType Tryz.underlying97 rowErr Tryz.underlying207 Tryz.underlying209 rfl rfl Tryz.underlying9 cellsErr cellsStr
  obtain ⟨t5', fr5, hh5⟩ := heap_of_var gRng hv0
  have big := (Array.getElem?_eq_some_iff.1 hh5).1
  obtain ⟨g6, t6, cs6, f6, p6, hg6, ht6, hv6, hd6⟩ := Lib.laidMet.reads h' (n := "lambrequin/token.marks") (.tail _ (.tail _ (.tail _ (.tail _ (.tail _ (.head _))))))
  obtain rfl := Option.some.inj (gMrk.symm.trans hg6)
  obtain rfl := Option.some.inj (gMrkType.symm.trans ht6)
  have hcs := cells_of_texts (zs := [[58, 45], [60, 61], [62, 61], [33, 61], [40], [41], [44], [46], [47], [60], [62], [61]]) Tryz.underlying185 Tryz.underlying9 cellsStr cellsMrk hd6
  obtain ⟨t6', fr6, hh6⟩ := heap_of_var gMrk hv6
  have hm : cs6 = marksA := by
    apply Array.toList_inj.1
    rw [hcs]; rfl
  rw [hm] at hh6
  exact ⟨by omega, ⟨_, _, hv1⟩, ⟨_, _, hv0⟩, ⟨_, _, hh6⟩⟩

theorem gOps : Tryz.prog.globalNamed "lambrequin/parse.operators" = some 3 := by kernel_rfl
theorem gOpsType : (Tryz.prog.globals[3]?).map (·.type) = some 193 := by kernel_rfl
theorem cellsOps : Tryz.prog.cellsOf 193 = 6 := by kernel_rfl
theorem penv_of {W : World} (h : laidMetH Tryz.prog Rows.printerPrintsRow.laid W) : PEnv W := by
  have h' : laidMet Tryz.prog Rows.printerPrintsRow.laid W := h
  obtain ⟨a0, s0, hv0, -⟩ := laid_sentinel h'.tail.tail.tail gRng gRngType Tryz.underlying97 rowErr Tryz.underlying207 Tryz.underlying209 rfl rfl Tryz.underlying9 cellsErr cellsStr
  obtain ⟨t5', fr5, hh5⟩ := heap_of_var gRng hv0
  have big := (Array.getElem?_eq_some_iff.1 hh5).1
  obtain ⟨g6, t6, cs6, f6, p6, hg6, ht6, hv6, hd6⟩ := Lib.laidMet.reads h' (n := "lambrequin/parse.operators") (.tail _ (.tail _ (.tail _ (.tail _ (.tail _ (.tail _ (.head _)))))))
  obtain rfl := Option.some.inj (gOps.symm.trans hg6)
  obtain rfl := Option.some.inj (gOpsType.symm.trans ht6)
  have hcs := cells_of_texts (zs := [[61], [33, 61], [60], [60, 61], [62], [62, 61]]) Tryz.underlying193 Tryz.underlying9 cellsStr cellsOps hd6
  obtain ⟨t6', fr6, hh6⟩ := heap_of_var gOps hv6
  have hm : cs6 = opsA := by
    apply Array.toList_inj.1
    rw [hcs]; rfl
  rw [hm] at hh6
  exact ⟨env_of h, ⟨_, _, hh6⟩, by omega⟩

/-- What each listed variable's cells hold. -/
def cellsOfVar4 : Array Value := #[.int .u8 0, .int .u8 1, .int .u8 28, .int .u8 2, .int .u8 29, .int .u8 14, .int .u8 24, .int .u8 3, .int .u8 30, .int .u8 22, .int .u8 20, .int .u8 15, .int .u8 25, .int .u8 17, .int .u8 4, .int .u8 8, .int .u8 31, .int .u8 27, .int .u8 13, .int .u8 23, .int .u8 21, .int .u8 19, .int .u8 16, .int .u8 7, .int .u8 26, .int .u8 12, .int .u8 18, .int .u8 6, .int .u8 11, .int .u8 5, .int .u8 10, .int .u8 9]
def cellsOfVar5 : Array Value := #[.int .u8 0, .int .u8 1, .int .u8 56, .int .u8 2, .int .u8 57, .int .u8 49, .int .u8 28, .int .u8 3, .int .u8 61, .int .u8 58, .int .u8 42, .int .u8 50, .int .u8 38, .int .u8 29, .int .u8 17, .int .u8 4, .int .u8 62, .int .u8 47, .int .u8 59, .int .u8 36, .int .u8 45, .int .u8 43, .int .u8 51, .int .u8 22, .int .u8 53, .int .u8 39, .int .u8 33, .int .u8 30, .int .u8 24, .int .u8 18, .int .u8 12, .int .u8 5, .int .u8 63, .int .u8 55, .int .u8 48, .int .u8 27, .int .u8 60, .int .u8 41, .int .u8 37, .int .u8 16, .int .u8 46, .int .u8 35, .int .u8 44, .int .u8 21, .int .u8 52, .int .u8 32, .int .u8 23, .int .u8 11, .int .u8 54, .int .u8 26, .int .u8 40, .int .u8 15, .int .u8 34, .int .u8 20, .int .u8 31, .int .u8 10, .int .u8 25, .int .u8 14, .int .u8 19, .int .u8 9, .int .u8 13, .int .u8 8, .int .u8 7, .int .u8 6]
def cellsOfVar0 : Array Value := #[.int .u64 1, .int .u64 10, .int .u64 100, .int .u64 1000, .int .u64 10000, .int .u64 100000, .int .u64 1000000, .int .u64 10000000, .int .u64 100000000, .int .u64 1000000000, .int .u64 10000000000, .int .u64 100000000000, .int .u64 1000000000000, .int .u64 10000000000000, .int .u64 100000000000000, .int .u64 1000000000000000, .int .u64 10000000000000000, .int .u64 100000000000000000, .int .u64 1000000000000000000, .int .u64 10000000000000000000]
def cellsOfVar2 : Array Value := #[.string ⟨#[58, 45]⟩, .string ⟨#[60, 61]⟩, .string ⟨#[62, 61]⟩, .string ⟨#[33, 61]⟩, .string ⟨#[40]⟩, .string ⟨#[41]⟩, .string ⟨#[44]⟩, .string ⟨#[46]⟩, .string ⟨#[47]⟩, .string ⟨#[60]⟩, .string ⟨#[62]⟩, .string ⟨#[61]⟩]
def cellsOfVar3 : Array Value := #[.string ⟨#[61]⟩, .string ⟨#[33, 61]⟩, .string ⟨#[60]⟩, .string ⟨#[60, 61]⟩, .string ⟨#[62]⟩, .string ⟨#[62, 61]⟩]
/-- A variable's block, holding these cells. -/
def lay (c : Array Value) : Obj → Obj
  | .cells _ t frozen => .cells c t frozen
  | o => o
end Go.Proofs.YtbbmihojfcofdaaGreatDoor
