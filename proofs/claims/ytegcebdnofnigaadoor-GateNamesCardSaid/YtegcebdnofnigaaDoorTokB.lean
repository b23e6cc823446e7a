/-
  Tokens: lists searched and held against each other.
-/
import Derived.Test.YtegcebdnofnigaaDoorTokA
import Derived.Laws.BytesArg
namespace Go.Proofs.YtegcebdnofnigaaDoor

open Go Go.RowKit

def bstr (ns : List Nat) : ByteArray := strOfNums (ns.map fun (n : Nat) => (n : Int))
theorem bstr_list (ns : List Nat) : (bstr ns).data.toList = ns.map UInt8.ofNat := by
  unfold bstr
  rw [strOfNums_data, List.map_map]
  apply List.map_congr_left
  intro n _
  simp
theorem bstr_size (ns : List Nat) : (bstr ns).size = ns.length := by
  unfold bstr
  rw [strOfNums_size, List.length_map]
theorem bstr_inj {ns ms : List Nat} (h1 : ∀ n ∈ ns, n < 256) (h2 : ∀ n ∈ ms, n < 256) (h : bstr ns = bstr ms) : ns = ms := by
  have e : ns.map UInt8.ofNat = ms.map UInt8.ofNat := by rw [← bstr_list, ← bstr_list, h]
  have k : ∀ l : List Nat, (∀ n ∈ l, n < 256) → (l.map UInt8.ofNat).map UInt8.toNat = l := by
    intro l hl
    rw [List.map_map]
    conv => rhs; rw [← List.map_id l]
    apply List.map_congr_left
    intro n hn
    have := hl n hn
    simp
    omega
  rw [← k ns h1, ← k ms h2, e]
theorem conv_by {W : World} {A : Option Addr} {ns : List Nat} (h : RByt W A ns) (c : Nat) : (convert 30 9 (.slice A ns.length c)).run Tryd.prog W = .ok (.string (bstr ns)) W := by
  rcases Nat.eq_zero_or_pos ns.length with hz | hp
  · rw [hz]
    obtain rfl : ns = [] := List.length_eq_zero_iff.1 hz
    rw [run_convert_bytes_string W _ _ 5 A 0 c Tryd.underlying30 Tryd.underlying5 Tryd.underlying9]
    cases A with
    | none =>
      have := run_convert_bytes_nil (P := Tryd.prog) W 30 5 Tryd.underlying30 Tryd.underlying5 0 c 9 Tryd.underlying9
      rw [run_convert_bytes_string W _ _ 5 none 0 c Tryd.underlying30 Tryd.underlying5 Tryd.underlying9] at this
      exact this
    | some a =>
      rw [run_bytesToString W a 0 c [] (by
        have := run_loadCells_list (P := Tryd.prog) W a [] (fun j v hj => by simp at hj)
        simpa using this)]
      rfl
  · obtain ⟨ad, rfl, _, hc⟩ := h.2 hp
    rw [run_convert_bytes_string W _ _ 5 (some ad) ns.length c Tryd.underlying30 Tryd.underlying5 Tryd.underlying9]
    have hl : (loadCells ad ns.length).run Tryd.prog W = .ok ((ns.map fun (n : Nat) => (n : Int)).map (Value.int .u8)).toArray W := by
      have := run_loadCells_list (P := Tryd.prog) W ad (ns.map fun (n : Nat) => Value.int .u8 (n : Int)) hc
      rw [List.map_map]
      rw [List.length_map] at this
      exact this
    rw [run_bytesToString W ad ns.length c _ hl, foldl_push_bytes]
    simp [bstr, strOfNums, ByteArray.empty, ByteArray.emptyWithCapacity]
    rfl
theorem str_eq {a b : ByteArray} : (a.toList == b.toList) = decide (a = b) := by
  rw [Bool.eq_iff_iff, beq_iff_eq, decide_eq_true_iff, ByteArray.toList_eq, ByteArray.toList_eq]
  constructor
  · intro h
    exact ByteArray.ext (Array.ext' h)
  · rintro rfl
    rfl






end Go.Proofs.YtegcebdnofnigaaDoor
