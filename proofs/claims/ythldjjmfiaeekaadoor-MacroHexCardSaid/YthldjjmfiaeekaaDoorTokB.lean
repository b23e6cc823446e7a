/-
  Tokens: lists searched and held against each other.
-/
import Derived.Test.YthldjjmfiaeekaaDoorTokA
import Derived.Laws.BytesArg
namespace Go.Proofs.YthldjjmfiaeekaaDoor

open Go Go.RowKit

def bstr (ns : List Nat) : ByteArray := strOfNums (ns.map fun (n : Nat) => (n : Int))
theorem bstr_list (ns : List Nat) : (bstr ns).data.toList = ns.map UInt8.ofNat := by
  unfold bstr
  rw [strOfNums_data, List.map_map]
  apply List.map_congr_left
  intro n _
  simp
theorem bstr_size (ns : List Nat) : (bstr ns).size = ns.length := by
  unfold bstr
  rw [strOfNums_size, List.length_map]
theorem bstr_inj {ns ms : List Nat} (h1 : ∀ n ∈ ns, n < 256) (h2 : ∀ n ∈ ms, n < 256) (h : bstr ns = bstr ms) : ns = ms := by
  have e : ns.map UInt8.ofNat = ms.map UInt8.ofNat := by rw [← bstr_list, ← bstr_list, h]
  have k : ∀ l : List Nat, (∀ n ∈ l, n < 256) → (l.map UInt8.ofNat).map UInt8.toNat = l := by
    intro l hl
    rw [List.map_map]
    conv => rhs; rw [← List.map_id l]
    apply List.map_congr_left
    intro n hn
    have := hl n hn
    simp
    omega
  rw [← k ns h1, ← k ms h2, e]
theorem conv_by {W : World} {A : Option Addr} {ns : List Nat} (h : RByt W A ns) (c : Nat) : (convert 40 9 (.slice A ns.length c)).run Tryd.prog W = .ok (.string (bstr ns)) W := by
  rcases Nat.eq_zero_or_pos ns.length with hz | hp
  · rw [hz]
    obtain rfl : ns = [] := List.length_eq_zero_iff.1 hz
    rw [run_convert_bytes_string W _ _ 5 A 0 c Tryd.underlying40 Tryd.underlying5 Tryd.underlying9]
    cases A with
    | none =>
      have := run_convert_bytes_nil (P := Tryd.prog) W 40 5 Tryd.underlying40 Tryd.underlying5 0 c 9 Tryd.underlying9
      rw [run_convert_bytes_string W _ _ 5 none 0 c Tryd.underlying40 Tryd.underlying5 Tryd.underlying9] at this
      exact this
    | some a =>
      rw [run_bytesToString W a 0 c [] (by
        have := run_loadCells_list (P := Tryd.prog) W a [] (fun j v hj => by simp at hj)
        simpa using this)]
      rfl
  · obtain ⟨ad, rfl, _, hc⟩ := h.2 hp
    rw [run_convert_bytes_string W _ _ 5 (some ad) ns.length c Tryd.underlying40 Tryd.underlying5 Tryd.underlying9]
    have hl : (loadCells ad ns.length).run Tryd.prog W = .ok ((ns.map fun (n : Nat) => (n : Int)).map (Value.int .u8)).toArray W := by
      have := run_loadCells_list (P := Tryd.prog) W ad (ns.map fun (n : Nat) => Value.int .u8 (n : Int)) hc
      rw [List.map_map]
      rw [List.length_map] at this
      exact this
    rw [run_bytesToString W ad ns.length c _ hl, foldl_push_bytes]
    simp [bstr, strOfNums, ByteArray.empty, ByteArray.emptyWithCapacity]
    rfl
theorem str_eq {a b : ByteArray} : (a.toList == b.toList) = decide (a = b) := by
  rw [Bool.eq_iff_iff, beq_iff_eq, decide_eq_true_iff, ByteArray.toList_eq, ByteArray.toList_eq]
  constructor
  · intro h
    exact ByteArray.ext (Array.ext' h)
  · rintro rfl
    rfl
set_option maxHeartbeats 1000000 in
theorem bytesEqual_any (A B : Option Addr) (c d : Nat) (ns ms : List Nat) (w : World) (hr : RByt w A ns) (hs : RByt w B ms) :
    Calls Tryd.prog 140 #[.slice A ns.length c, .slice B ms.length d] w fun e w' => e = .returned (.bool (decide (bstr ns = bstr ms))) ∧ w = w' := by
  have h1 := conv_by hr c
  have h2 := conv_by hs d
  have H3 := Lib.hid (str_eq (a := bstr ns) (b := bstr ms))
  generalize decide (bstr ns = bstr ms) = q at *
  generalize bstr ns = s at *
  generalize bstr ms = t at *
  clear hr hs
  go_enter Tryd.func140, Tryd.ntmps140
  go_wp2_with fail
  go_ret
  exact ⟨ret_bool H3.out, rfl⟩
set_option maxHeartbeats 1000000 in
theorem indexI_any (G : Nat) (φ : Int → Bool) (hE : ∀ args W, (callFunc G args).run Tryd.prog W = .ok (.enter G args) W) (hG : ∀ n W, Calls Tryd.prog G #[.int .i64 n] W fun e w' => e = .returned (.bool (φ n)) ∧ Below W.heap.size W w') (A : Option Addr) (c : Nat) (ns : List Int) (hl : ns.length ≤ maxLen) (w : World) (hr : RInts w A ns) :
    Calls Tryd.prog 138 #[.slice A ns.length c, .func (.func G) #[] #[]] w fun e w' => ∃ r : Int, e = .returned (.int .i64 r) ∧ decide (0 ≤ r) = ns.any φ ∧ Below w.heap.size w w' := by
  have HG := Lib.hid hG
  have HR := Lib.hid hr
  unfold maxLen at hl
  clear hr hG
  go_enter Tryd.func138, Tryd.ntmps138
  go_wp2_with fail
  go_loopw [8] (fun i wr => ∃ k : Nat, k ≤ ns.length ∧ i = .int .i64 k ∧ (ns.take k).any φ = false ∧ Below w.heap.size w wr) (fun i _ => ns.length - (intOf i).toNat)
  case atStart => exact ⟨0, by omega, rfl, rfl, Below.refl _ _⟩
  case round =>
    obtain ⟨k, hk, rfl, hany, hb⟩ := hrel
    have HB := Lib.hid hb; have HAny := Lib.hid hany
    clear hb hany
    by_cases hlt : k < ns.length
    · obtain ⟨ad, rfl, _, hc⟩ := (HR.out.next HB.out).at_ hlt
      have HT := Lib.hid (take_snoc ns k hlt)
      have HX := Lib.hid (fun W => HG.out ns[k] W)
      have HSome : Hid (φ ns[k] = true → ns.any φ = true) := Lib.hid (fun h => List.any_eq_true.2 ⟨_, List.getElem_mem hlt, h⟩)
      have HStep : Hid (φ ns[k] = false → (ns.take (k + 1)).any φ = false) := Lib.hid (fun h => by rw [HT.out, List.any_append, HAny.out]; simp [h])
      generalize ns[k] = x at *
      clear HT
      rcases hφ : φ x with _ | _
      · rw [hφ] at HX
        have HSt := Lib.hid (HStep.out hφ)
        clear hφ HStep HSome
        go_wp2_with fail
        refine (HX.out _).mono ?_
        rintro e w1 ⟨rfl, hb1⟩
        have HB1 := Lib.hid (HB.out.trans (hb1.mono HB.out.size))
        clear hb1 hc
        go_wp2_with fail
        go_roundw
        case rel => exact ⟨k + 1, by omega, by go_num, HSt.out, HB1.out⟩
        case measure => simp [intOf]; omega
      · rw [hφ] at HX
        have HSo := Lib.hid (HSome.out hφ)
        clear hφ HStep HSome
        go_wp2_with fail
        refine (HX.out _).mono ?_
        rintro e w1 ⟨rfl, hb1⟩
        have HB1 := Lib.hid (HB.out.trans (hb1.mono HB.out.size))
        clear hb1 hc
        go_wp2_with fail
        go_ret
        exact ⟨k, rfl, by rw [HSo.out]; simp, HB1.out⟩
    · obtain rfl : k = ns.length := by omega
      go_wp2_with fail
      go_ret
      exact ⟨-1, rfl, by have := HAny.out; rw [List.take_length] at this; rw [this]; rfl, HB.out⟩
set_option maxHeartbeats 1000000 in
theorem containsI_any (G : Nat) (φ : Int → Bool) (hE : ∀ args W, (callFunc G args).run Tryd.prog W = .ok (.enter G args) W) (hG : ∀ n W, Calls Tryd.prog G #[.int .i64 n] W fun e w' => e = .returned (.bool (φ n)) ∧ Below W.heap.size W w') (A : Option Addr) (c : Nat) (ns : List Int) (hl : ns.length ≤ maxLen) (w : World) (hr : RInts w A ns) :
    Calls Tryd.prog 129 #[.slice A ns.length c, .func (.func G) #[] #[]] w fun e w' => e = .returned (.bool (ns.any φ)) ∧ Below w.heap.size w w' := by
  have HI := Lib.hid (indexI_any G φ hE hG A c ns hl w hr)
  clear hE hG hr
  generalize ns.any φ = q at *
  go_enter Tryd.func129, Tryd.ntmps129
  go_wp2_with fail
  refine HI.out.mono ?_
  rintro e w1 ⟨r, rfl, hr, hb⟩
  have HR := Lib.hid hr
  clear hr
  go_wp2_with fail
  go_ret
  exact ⟨ret_bool HR.out, hb⟩
set_option maxHeartbeats 1000000 in
theorem indexB_any (G : Nat) (φ : Nat → Bool) (hE : ∀ args W, (callFunc G args).run Tryd.prog W = .ok (.enter G args) W) (hG : ∀ (n : Nat) W, Calls Tryd.prog G #[.int .u8 (n : Int)] W fun e w' => e = .returned (.bool (φ n)) ∧ Below W.heap.size W w') (A : Option Addr) (c : Nat) (ns : List Nat) (hl : ns.length ≤ maxLen) (w : World) (hr : RByt w A ns) :
    Calls Tryd.prog 142 #[.slice A ns.length c, .func (.func G) #[] #[]] w fun e w' => ∃ r : Int, e = .returned (.int .i64 r) ∧ decide (0 ≤ r) = ns.any φ ∧ Below w.heap.size w w' := by
  have HG := Lib.hid hG
  have HR := Lib.hid hr
  unfold maxLen at hl
  clear hr hG
  go_enter Tryd.func142, Tryd.ntmps142
  go_wp2_with fail
  go_loopw [8] (fun i wr => ∃ k : Nat, k ≤ ns.length ∧ i = .int .i64 k ∧ (ns.take k).any φ = false ∧ Below w.heap.size w wr) (fun i _ => ns.length - (intOf i).toNat)
  case atStart => exact ⟨0, by omega, rfl, rfl, Below.refl _ _⟩
  case round =>
    obtain ⟨k, hk, rfl, hany, hb⟩ := hrel
    have HB := Lib.hid hb; have HAny := Lib.hid hany
    clear hb hany
    by_cases hlt : k < ns.length
    · obtain ⟨ad, rfl, _, hc⟩ := (HR.out.next HB.out).at_ hlt
      have HT := Lib.hid (take_snoc ns k hlt)
      have HX := Lib.hid (fun W => HG.out ns[k] W)
      have HSome : Hid (φ ns[k] = true → ns.any φ = true) := Lib.hid (fun h => List.any_eq_true.2 ⟨_, List.getElem_mem hlt, h⟩)
      have HStep : Hid (φ ns[k] = false → (ns.take (k + 1)).any φ = false) := Lib.hid (fun h => by rw [HT.out, List.any_append, HAny.out]; simp [h])
      generalize ns[k] = x at *
      clear HT
      rcases hφ : φ x with _ | _
      · rw [hφ] at HX
        have HSt := Lib.hid (HStep.out hφ)
        clear hφ HStep HSome
        go_wp2_with fail
        refine (HX.out _).mono ?_
        rintro e w1 ⟨rfl, hb1⟩
        have HB1 := Lib.hid (HB.out.trans (hb1.mono HB.out.size))
        clear hb1 hc
        go_wp2_with fail
        go_roundw
        case rel => exact ⟨k + 1, by omega, by go_num, HSt.out, HB1.out⟩
        case measure => simp [intOf]; omega
      · rw [hφ] at HX
        have HSo := Lib.hid (HSome.out hφ)
        clear hφ HStep HSome
        go_wp2_with fail
        refine (HX.out _).mono ?_
        rintro e w1 ⟨rfl, hb1⟩
        have HB1 := Lib.hid (HB.out.trans (hb1.mono HB.out.size))
        clear hb1 hc
        go_wp2_with fail
        go_ret
        exact ⟨k, rfl, by rw [HSo.out]; simp, HB1.out⟩
    · obtain rfl : k = ns.length := by omega
      go_wp2_with fail
      go_ret
      exact ⟨-1, rfl, by have := HAny.out; rw [List.take_length] at this; rw [this]; rfl, HB.out⟩
set_option maxHeartbeats 1000000 in
theorem containsB_any (G : Nat) (φ : Nat → Bool) (hE : ∀ args W, (callFunc G args).run Tryd.prog W = .ok (.enter G args) W) (hG : ∀ (n : Nat) W, Calls Tryd.prog G #[.int .u8 (n : Int)] W fun e w' => e = .returned (.bool (φ n)) ∧ Below W.heap.size W w') (A : Option Addr) (c : Nat) (ns : List Nat) (hl : ns.length ≤ maxLen) (w : World) (hr : RByt w A ns) :
    Calls Tryd.prog 133 #[.slice A ns.length c, .func (.func G) #[] #[]] w fun e w' => e = .returned (.bool (ns.any φ)) ∧ Below w.heap.size w w' := by
  have HI := Lib.hid (indexB_any G φ hE hG A c ns hl w hr)
  clear hE hG hr
  generalize ns.any φ = q at *
  go_enter Tryd.func133, Tryd.ntmps133
  go_wp2_with fail
  refine HI.out.mono ?_
  rintro e w1 ⟨r, rfl, hr, hb⟩
  have HR := Lib.hid hr
  clear hr
  go_wp2_with fail
  go_ret
  exact ⟨ret_bool HR.out, hb⟩
set_option maxHeartbeats 800000 in
theorem equalI_any (A B : Option Addr) (c d : Nat) (ns ms : List Int) (hn : ns.length ≤ maxLen) (hm : ms.length ≤ maxLen) (w : World) (hr : RInts w A ns) (hs : RInts w B ms) :
    Calls Tryd.prog 139 #[.slice A ns.length c, .slice B ms.length d] w fun e w' => e = .returned (.bool (ns == ms)) ∧ Below w.heap.size w w' := by
  unfold maxLen at hn hm
  by_cases hl : ns.length = ms.length
  · have hl0 : ((ns.length : Int) != ms.length) = false := by simp; omega
    have HL := Lib.hid hl
    clear hl
    go_enter Tryd.func139, Tryd.ntmps139
    go_wp2
    go_loopw [13] (fun i wr => ∃ k : Nat, k ≤ ns.length ∧ i = .int .i64 k ∧ ns.take k = ms.take k ∧ Below w.heap.size w wr) (fun i _ => ns.length - (intOf i).toNat)
    case atStart => exact ⟨0, by omega, rfl, rfl, Below.refl _ _⟩
    case round =>
      obtain ⟨k, hk, rfl, heq, hb⟩ := hrel
      have HEq := Lib.hid heq
      clear heq hl0
      by_cases hlt : k < ns.length
      · have hlt2 : k < ms.length := by rw [← HL.out]; exact hlt
        obtain ⟨ad, rfl, hbd, hc⟩ := (hr.next hb).at_ hlt
        obtain ⟨bd, rfl, hbe, hd⟩ := (hs.next hb).at_ hlt2
        have HT := Lib.hid (take_snoc ns k hlt)
        have HU := Lib.hid (take_snoc ms k hlt2)
        by_cases e : ns[k] = ms[k]
        · have E := Lib.hid e
          have t : (ns[k] == ms[k]) = true := by simpa using e
          have t2 : (ns[k] != ms[k]) = false := by simpa using e
          clear e
          go_wp2_with fail
          go_quiet (fail)
          go_wp2
          go_roundw
          case rel => exact ⟨k + 1, by omega, by go_num, by rw [HT.out, HU.out, HEq.out, E.out], below_drewN hb _⟩
          case measure => simp [intOf]; omega
        · have hne : (ns == ms) = false := by
            rw [beq_eq_false_iff_ne]; rintro rfl; exact e rfl
          have HNe := Lib.hid hne
          clear hne
          have t : (ns[k] == ms[k]) = false := by simpa using e
          have t2 : (ns[k] != ms[k]) = true := by simpa using e
          clear e
          go_wp2_with fail
          go_quiet (fail)
          go_wp2
          go_ret
          exact ⟨ret_bool HNe.out.symm, below_drewN hb _⟩
      · obtain rfl : k = ns.length := by omega
        go_wp2
        go_ret
        exact ⟨ret_bool (by
          have := HEq.out
          rw [List.take_length, HL.out, List.take_length] at this
          simp [this]), hb⟩
  · have hl0 : ((ns.length : Int) != ms.length) = true := by simp; omega
    have hne : (ns == ms) = false := by
      rw [beq_eq_false_iff_ne]; rintro rfl; exact hl rfl
    go_enter Tryd.func139, Tryd.ntmps139
    go_wp2
    go_ret
    exact ⟨ret_bool hne.symm, Below.refl _ _⟩
end Go.Proofs.YthldjjmfiaeekaaDoor
