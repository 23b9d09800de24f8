/-
  slices.Sort of names of the call's own, each once: they rise.
-/
import Derived.Test.YtcpdikhiodbdjaaShelf
import Derived.Test.YtcpdikhiodbdjaaSfSort
import Derived.Test.YtcpdikhiodbdjaaSfNam
import Derived.Sort.OwnSorted
namespace Go.Proofs.Ytcpdikhiodbdjaa
set_option linter.unusedSimpArgs false
set_option linter.unusedVariables false
set_option linter.unusedSectionVars false
set_option maxRecDepth 100000
open Go.RowKit Go.Maps Go.Sort

def leS (x y : List UInt8) : Bool := decide (x ≤ y)
theorem leS_trans (a b c : List UInt8) : leS a b = true → leS b c = true → leS a c = true := fun h k => decide_eq_true (List.le_trans (of_decide_eq_true h) (of_decide_eq_true k))
theorem leS_total (a b : List UInt8) : (leS a b || leS b a) = true := by
  rcases List.le_total a b with h | h
  · simp [leS, h]
  · simp [leS, h]
def toBs (l : List UInt8) : ByteArray := ⟨l.toArray⟩
theorem toBs_of (s : ByteArray) : toBs s.data.toList = s := by unfold toBs; simp
/-- The names, sorted. -/
def srtN (L : List ByteArray) : List ByteArray := ((L.map (fun s => s.data.toList)).mergeSort leS).map toBs
theorem srt_len (L : List ByteArray) : (srtN L).length = L.length := by simp [srtN]
theorem srt_mem (L : List ByteArray) (s : ByteArray) : s ∈ srtN L ↔ s ∈ L := by
  unfold srtN
  rw [List.mem_map]
  constructor
  · rintro ⟨l, hl, rfl⟩
    obtain ⟨t, ht, rfl⟩ := List.mem_map.1 ((List.mergeSort_perm _ _).mem_iff.1 hl)
    rw [toBs_of]
    exact ht
  · intro h
    exact ⟨s.data.toList, (List.mergeSort_perm _ _).mem_iff.2 (List.mem_map.2 ⟨s, h, rfl⟩), toBs_of s⟩
theorem bytes_back {a b : ByteArray} (h : a.data.toList = b.data.toList) : a = b := ByteArray.ext (Array.ext' h)
theorem srt_rising {L : List ByteArray} (hn : L.Nodup) : Rising (srtN L) := by
  have hp := List.pairwise_mergeSort leS_trans leS_total (L.map (fun s => s.data.toList))
  have hd : (L.map (fun s => s.data.toList)).Nodup := List.pairwise_map.2 (hn.imp (fun {a b} h e => h (bytes_back e)))
  have hd2 := (List.mergeSort_perm (L.map (fun s => s.data.toList)) leS).nodup_iff.2 hd
  unfold srtN Rising
  refine List.pairwise_map.2 ((hp.and hd2).imp ?_)
  rintro a b ⟨h1, h2⟩
  show a < b
  exact List.not_le.1 (fun h3 => h2 (List.le_antisymm (of_decide_eq_true h1) h3))
theorem enc_bs (s : ByteArray) : encStr s.data.toList = .string s := by show Value.string ⟨s.data.toList.toArray⟩ = _; rw [show (⟨s.data.toList.toArray⟩ : ByteArray) = s from toBs_of s]

theorem sort_any {w0 w : World} {B : Nat} {v : Value} {L : List ByteArray} (hv : OwnNm w0 w B v L) (hm : L.length ≤ 10000000) (hn : L.Nodup) :
    Calls Try.prog 27 #[v] w fun e w' => e = .returned (.tuple #[]) ∧ Rising (srtN L) ∧ OwnNm w0 w' B v (srtN L) ∧ w.grownBy w' v.ownBlock := by
  have hR := srt_rising hn
  obtain ⟨cs, hA, hrow⟩ := hv
  have hfl : cs.flatten = (L.map (fun s => s.data.toList)).map encStr := by
    clear hrow hR hn hm
    induction L generalizing cs with
    | nil => cases cs with
      | nil => rfl
      | cons c cs => exact hA.elim
    | cons a L ih => cases cs with
      | nil => exact hA.elim
      | cons c cs =>
        obtain ⟨⟨-, -, h1⟩, h2⟩ := hA
        obtain rfl : c = _ := h1
        rw [List.flatten_cons, ih _ h2]
        simp [enc_bs]
  rw [hfl] at hrow
  rcases hrow with ⟨hl, ⟨rfl, h0⟩ | ⟨g, cap, cur, rfl, hbase, hb, h1, h2, h3, h4⟩⟩
  · have hL : L = [] := List.length_eq_zero_iff.1 h0
    subst hL
    refine (Try.slices_Sort_string_none none 0 w).mono ?_
    rintro e w' ⟨rfl, rfl⟩
    exact ⟨rfl, hR, by rw [show srtN [] = [] by simp [srtN]]; exact OwnW.nil _ _ _, ⟨rfl, rfl, rfl, Nat.le_refl _, fun _ _ _ => rfl⟩⟩
  · obtain ⟨ss, hss⟩ : ∃ ss, ss = L.map (fun s => s.data.toList) := ⟨_, rfl⟩
    have hln : ss.length = L.length := by rw [hss]; simp
    have hs2 : srtN L = (ss.mergeSort leS).map toBs := by rw [hss]; rfl
    rw [← hss] at h4
    have ho := holds_of_block (ss := ss) hb (by rw [hln]; simpa using h4)
    have hq := Try.slices_Sort_string g 0 cap ss w ho (Array.getElem?_eq_some_iff.1 hb).1 (by omega)
    rw [hln] at hq
    refine hq.mono ?_
    clear hq
    rintro e w' ⟨rfl, n, os, rfl⟩
    refine ⟨rfl, hR, ⟨(srtN L).map (fun s => [.string s]), ?_, ?_⟩, grownBy_sorted _⟩
    · have : ∀ M : List ByteArray, AllR (CellW NmI 1 w0) M (M.map (fun s => [.string s])) := fun M => by
        induction M with
        | nil => trivial
        | cons a M ih => exact ⟨cellW_nm _ _, ih⟩
      exact this _
    · have := ownsRow_sorted (w := w) (n := n) (os := os) (ss := ss) (ts := ss.mergeSort leS) (by simp) hbase hb (by omega) h2 h3
      rw [hln] at this
      have e1 : ((srtN L).map (fun s => [Value.string s])).flatten = (ss.mergeSort leS).map encStr := by
        rw [hs2, List.map_map]
        clear this
        induction (ss.mergeSort leS) with
        | nil => rfl
        | cons a M ih => rw [List.map_cons, List.flatten_cons, ih]; rfl
      rw [e1, srt_len]
      exact this
end Go.Proofs.Ytcpdikhiodbdjaa
