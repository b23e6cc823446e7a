/-
  Tokens: what one is in memory; the small calls.
  Tokens: lists searched and held against each other.
  Tokens: are two alike?
  Tokens: are two alike, for the reference?
  Tokens: is nothing too great, is a code one of its kind, are there such bytes alone as may be?
  Tokens: are there such bytes alone as may be, is all zero that the kind doesn't use, can it be?
-/
import Derived.Test.YtfnamfkjbkhgeaaGreatDoorParP
import Derived.Test.YtfnamfkjbkhgeaaGreatDoorMixE
import Derived.Test.YtfnamfkjbkhgeaaGreatDoorKit3
import Derived.Laws.BytesArg
import Derived.Deep.DeepCutAuto
import Derived.Test.YtfnamfkjbkhgeaaGreatDoorSame
import Derived.Lib.Bytealg
import Derived.Lib.Strings
import Derived.Laws.Externs
import Derived.Laws.Strings3
namespace Go.Proofs.YtfnamfkjbkhgeaaGreatDoor

open Go Go.RowKit

/-- A slice of bytes that reads as ns. -/
def RByt (W : World) (A : Option Addr) (ns : List Nat) : Prop := Reads W W.heap.size 1 A ns.length (ns.map fun (n : Nat) => Value.int .u8 (n : Int))
theorem RByt.next {w w' : World} {A : Option Addr} {ns : List Nat} (h : RByt w A ns) (hb : Below w.heap.size w w') : RByt w' A ns := (Reads.below h hb).more hb.size
theorem RByt.at_ {w : World} {A : Option Addr} {ns : List Nat} (h : RByt w A ns) {k : Nat} (hk : k < ns.length) :
    ∃ ad, A = some ad ∧ ad.block < w.heap.size ∧ w.cell? (ad.add k) = some (.int .u8 (ns[k] : Int)) := by
  obtain ⟨ad, u, e, hb, hu, hc⟩ := Reads.at_ h hk
  refine ⟨ad, e, hb, ?_⟩
  rw [hc, ← hu, List.getElem?_map, List.getElem?_eq_getElem hk]
  rfl
/-- A token, as its parts. -/
structure Tok where
  kd : Int
  cd : Nat
  mr : Nat
  ps : List Int
  it : ByteArray
  dt : List Nat
def Tok.cs (t : Tok) (A : Option Addr) (c : Nat) (B : Option Addr) (d : Nat) : Array Value := #[.int .i64 t.kd, .int .u8 (t.cd : Int), .int .u8 (t.mr : Int), .slice A t.ps.length c, .string t.it, .slice B t.dt.length d]
structure Tok.ok (t : Tok) : Prop where
  cd : t.cd < 256
  mr : t.mr < 256
  ps : t.ps.length ≤ maxLen
  it : t.it.size ≤ maxLen
  dt : t.dt.length ≤ maxLen
  by_ : ∀ n ∈ t.dt, n < 256
theorem six {w : World} {g : Nat} {T : TypeId} {v0 v1 v2 v3 v4 v5 : Value} (h : Blk w g T #[v0, v1, v2, v3, v4, v5]) :
    w.cell? ⟨g, 0, none⟩ = some v0 ∧ w.cell? ⟨g, 1, none⟩ = some v1 ∧ w.cell? ⟨g, 2, none⟩ = some v2 ∧ w.cell? ⟨g, 3, none⟩ = some v3 ∧ w.cell? ⟨g, 4, none⟩ = some v4 ∧ w.cell? ⟨g, 5, none⟩ = some v5 :=
  ⟨h.cell 0, h.cell 1, h.cell 2, h.cell 3, h.cell 4, h.cell 5⟩
theorem six_fr {w : World} {g : Nat} {T : TypeId} {cs : Array Value} (h : Blk w g T cs) :
    w.frozen? ⟨g, 0, none⟩ = false ∧ w.frozen? ⟨g, 1, none⟩ = false ∧ w.frozen? ⟨g, 2, none⟩ = false ∧ w.frozen? ⟨g, 3, none⟩ = false ∧ w.frozen? ⟨g, 4, none⟩ = false ∧ w.frozen? ⟨g, 5, none⟩ = false :=
  ⟨h.frozen 0, h.frozen 1, h.frozen 2, h.frozen 3, h.frozen 4, h.frozen 5⟩
def amongB (n lo hi : Nat) : Bool := decide (lo ≤ n) && decide (n ≤ hi)
set_option maxHeartbeats 1000000 in
theorem among_any (n lo hi : Nat) (w : World) : Calls Tryz.prog 159 #[.int .u8 (n : Int), .int .u8 (lo : Int), .int .u8 (hi : Int)] w fun e w' => e = .returned (.bool (amongB n lo hi)) ∧ w = w' := by
  unfold amongB
  rcases h1 : decide (lo ≤ n) with _ | _
  · go_enter Tryz.func159, Tryz.ntmps159
    go_wp2_with fail
    go_ret
    exact ⟨rfl, rfl⟩
  · rcases h2 : decide (n ≤ hi) with _ | _
    all_goals
      go_enter Tryz.func159, Tryz.ntmps159
      go_wp2_with fail
      go_ret
      exact ⟨rfl, rfl⟩
def outB (n : Int) : Bool := n != clipP n 0 65535
set_option maxHeartbeats 1000000 in
theorem out_any (n : Int) (w : World) : Calls Tryz.prog 184 #[.int .i64 n] w fun e w' => e = .returned (.bool (outB n)) ∧ Below w.heap.size w w' := by
  have HC := Lib.hid (fun W => clip_any n 0 65535 W)
  unfold outB
  generalize clipP n 0 65535 = c at *
  go_enter Tryz.func184, Tryz.ntmps184
  go_wp2_with fail
  refine (HC.out _).mono ?_
  rintro e w1 ⟨rfl, rfl⟩
  go_wp2_with fail
  go_ret
  exact ⟨rfl, Below.refl _ _⟩
def noDataB (n : Nat) : Bool := !amongB n 8 13 && (!amongB n 32 126 && decide (n < 160))
set_option maxHeartbeats 1000000 in
theorem noData_any (n : Nat) (w : World) : Calls Tryz.prog 188 #[.int .u8 (n : Int)] w fun e w' => e = .returned (.bool (noDataB n)) ∧ Below w.heap.size w w' := by
  have HA : Hid (∀ W, Calls Tryz.prog 159 #[.int .u8 (n : Int), .int .u8 8, .int .u8 13] W fun e w' => e = .returned (.bool (amongB n 8 13)) ∧ W = w') := Lib.hid (fun W => among_any n 8 13 W)
  have HB : Hid (∀ W, Calls Tryz.prog 159 #[.int .u8 (n : Int), .int .u8 32, .int .u8 126] W fun e w' => e = .returned (.bool (amongB n 32 126)) ∧ W = w') := Lib.hid (fun W => among_any n 32 126 W)
  unfold noDataB
  have h3 : decide ((n : Int) < 160) = decide (n < 160) := by simp; omega
  generalize decide (n < 160) = q3 at *
  rcases h1 : amongB n 8 13 with _ | _
  · rcases h2 : amongB n 32 126 with _ | _
    all_goals
      rw [h1] at HA
      rw [h2] at HB
      clear h1 h2
      go_enter Tryz.func188, Tryz.ntmps188
      go_wp2_with fail
      refine (HA.out _).mono ?_
      rintro e w1 ⟨rfl, rfl⟩
      go_wp2_with fail
      refine (HB.out _).mono ?_
      rintro e w1 ⟨rfl, rfl⟩
      go_wp2_with fail
      go_ret
      exact ⟨rfl, Below.refl _ _⟩
  · rw [h1] at HA
    clear h1
    go_enter Tryz.func188, Tryz.ntmps188
    go_wp2_with fail
    refine (HA.out _).mono ?_
    rintro e w1 ⟨rfl, rfl⟩
    go_wp2_with fail
    go_ret
    exact ⟨rfl, Below.refl _ _⟩
end Go.Proofs.YtfnamfkjbkhgeaaGreatDoor

namespace Go.Proofs.YtfnamfkjbkhgeaaGreatDoor

open Go Go.RowKit

def bstr (ns : List Nat) : ByteArray := strOfNums (ns.map fun (n : Nat) => (n : Int))
theorem bstr_list (ns : List Nat) : (bstr ns).data.toList = ns.map UInt8.ofNat := by
  unfold bstr
  rw [strOfNums_data, List.map_map]
  apply List.map_congr_left
  intro n _
  simp
theorem bstr_size (ns : List Nat) : (bstr ns).size = ns.length := by
  unfold bstr
  rw [strOfNums_size, List.length_map]
theorem bstr_inj {ns ms : List Nat} (h1 : ∀ n ∈ ns, n < 256) (h2 : ∀ n ∈ ms, n < 256) (h : bstr ns = bstr ms) : ns = ms := by
  have e : ns.map UInt8.ofNat = ms.map UInt8.ofNat := by rw [← bstr_list, ← bstr_list, h]
  have k : ∀ l : List Nat, (∀ n ∈ l, n < 256) → (l.map UInt8.ofNat).map UInt8.toNat = l := by
    intro l hl
    rw [List.map_map]
    conv => rhs; rw [← List.map_id l]
    apply List.map_congr_left
    intro n hn
    have := hl n hn
    simp
    omega
  rw [← k ns h1, ← k ms h2, e]
theorem conv_by {W : World} {A : Option Addr} {ns : List Nat} (h : RByt W A ns) (c : Nat) : (convert 63 9 (.slice A ns.length c)).run Tryz.prog W = .ok (.string (bstr ns)) W := by
  rcases Nat.eq_zero_or_pos ns.length with hz | hp
  · rw [hz]
    obtain rfl : ns = [] := List.length_eq_zero_iff.1 hz
    rw [run_convert_bytes_string W _ _ 5 A 0 c Tryz.underlying63 Tryz.underlying5 Tryz.underlying9]
    cases A with
    | none =>
      have := run_convert_bytes_nil (P := Tryz.prog) W 63 5 Tryz.underlying63 Tryz.underlying5 0 c 9 Tryz.underlying9
      rw [run_convert_bytes_string W _ _ 5 none 0 c Tryz.underlying63 Tryz.underlying5 Tryz.underlying9] at this
      exact this
    | some a =>
      rw [run_bytesToString W a 0 c [] (by
        have := run_loadCells_list (P := Tryz.prog) W a [] (fun j v hj => by simp at hj)
        simpa using this)]
      rfl
  · obtain ⟨ad, rfl, _, hc⟩ := h.2 hp
    rw [run_convert_bytes_string W _ _ 5 (some ad) ns.length c Tryz.underlying63 Tryz.underlying5 Tryz.underlying9]
    have hl : (loadCells ad ns.length).run Tryz.prog W = .ok ((ns.map fun (n : Nat) => (n : Int)).map (Value.int .u8)).toArray W := by
      have := run_loadCells_list (P := Tryz.prog) W ad (ns.map fun (n : Nat) => Value.int .u8 (n : Int)) hc
      rw [List.map_map]
      rw [List.length_map] at this
      exact this
    rw [run_bytesToString W ad ns.length c _ hl, foldl_push_bytes]
    simp [bstr, strOfNums, ByteArray.empty, ByteArray.emptyWithCapacity]
    rfl
theorem str_eq {a b : ByteArray} : (a.toList == b.toList) = decide (a = b) := by
  rw [Bool.eq_iff_iff, beq_iff_eq, decide_eq_true_iff, ByteArray.toList_eq, ByteArray.toList_eq]
  constructor
  · intro h
    exact ByteArray.ext (Array.ext' h)
  · rintro rfl
    rfl
set_option maxHeartbeats 1000000 in
theorem bytesEqual_any (A B : Option Addr) (c d : Nat) (ns ms : List Nat) (w : World) (hr : RByt w A ns) (hs : RByt w B ms) :
    Calls Tryz.prog 196 #[.slice A ns.length c, .slice B ms.length d] w fun e w' => e = .returned (.bool (decide (bstr ns = bstr ms))) ∧ w = w' := by
  have h1 := conv_by hr c
  have h2 := conv_by hs d
  have H3 := Lib.hid (str_eq (a := bstr ns) (b := bstr ms))
  generalize decide (bstr ns = bstr ms) = q at *
  generalize bstr ns = s at *
  generalize bstr ms = t at *
  clear hr hs
  go_enter Tryz.func196, Tryz.ntmps196
  go_wp2_with fail
  go_ret
  exact ⟨ret_bool H3.out, rfl⟩
set_option maxHeartbeats 1000000 in
theorem indexI_any (G : Nat) (φ : Int → Bool) (hE : ∀ args W, (callFunc G args).run Tryz.prog W = .ok (.enter G args) W) (hG : ∀ n W, Calls Tryz.prog G #[.int .i64 n] W fun e w' => e = .returned (.bool (φ n)) ∧ Below W.heap.size W w') (A : Option Addr) (c : Nat) (ns : List Int) (hl : ns.length ≤ maxLen) (w : World) (hr : RInts w A ns) :
    Calls Tryz.prog 195 #[.slice A ns.length c, .func (.func G) #[] #[]] w fun e w' => ∃ r : Int, e = .returned (.int .i64 r) ∧ decide (0 ≤ r) = ns.any φ ∧ Below w.heap.size w w' := by
  have HG := Lib.hid hG
  have HR := Lib.hid hr
  unfold maxLen at hl
  clear hr hG
  go_enter Tryz.func195, Tryz.ntmps195
  go_wp2_with fail
  go_loopw [8] (fun i wr => ∃ k : Nat, k ≤ ns.length ∧ i = .int .i64 k ∧ (ns.take k).any φ = false ∧ Below w.heap.size w wr) (fun i _ => ns.length - (intOf i).toNat)
  case atStart => exact ⟨0, by omega, rfl, rfl, Below.refl _ _⟩
  case round =>
    obtain ⟨k, hk, rfl, hany, hb⟩ := hrel
    have HB := Lib.hid hb; have HAny := Lib.hid hany
    clear hb hany
    by_cases hlt : k < ns.length
    · obtain ⟨ad, rfl, _, hc⟩ := (HR.out.next HB.out).at_ hlt
      have HT := Lib.hid (take_snoc ns k hlt)
      have HX := Lib.hid (fun W => HG.out ns[k] W)
      have HSome : Hid (φ ns[k] = true → ns.any φ = true) := Lib.hid (fun h => List.any_eq_true.2 ⟨_, List.getElem_mem hlt, h⟩)
      have HStep : Hid (φ ns[k] = false → (ns.take (k + 1)).any φ = false) := Lib.hid (fun h => by rw [HT.out, List.any_append, HAny.out]; simp [h])
      generalize ns[k] = x at *
      clear HT
      rcases hφ : φ x with _ | _
      · rw [hφ] at HX
        have HSt := Lib.hid (HStep.out hφ)
        clear hφ HStep HSome
        go_wp2_with fail
        refine (HX.out _).mono ?_
        rintro e w1 ⟨rfl, hb1⟩
        have HB1 := Lib.hid (HB.out.trans (hb1.mono HB.out.size))
        clear hb1 hc
        go_wp2_with fail
        go_roundw
        case rel => exact ⟨k + 1, by omega, by go_num, HSt.out, HB1.out⟩
        case measure => simp [intOf]; omega
      · rw [hφ] at HX
        have HSo := Lib.hid (HSome.out hφ)
        clear hφ HStep HSome
        go_wp2_with fail
        refine (HX.out _).mono ?_
        rintro e w1 ⟨rfl, hb1⟩
        have HB1 := Lib.hid (HB.out.trans (hb1.mono HB.out.size))
        clear hb1 hc
        go_wp2_with fail
        go_ret
        exact ⟨k, rfl, by rw [HSo.out]; simp, HB1.out⟩
    · obtain rfl : k = ns.length := by omega
      go_wp2_with fail
      go_ret
      exact ⟨-1, rfl, by have := HAny.out; rw [List.take_length] at this; rw [this]; rfl, HB.out⟩
set_option maxHeartbeats 1000000 in
theorem containsI_any (G : Nat) (φ : Int → Bool) (hE : ∀ args W, (callFunc G args).run Tryz.prog W = .ok (.enter G args) W) (hG : ∀ n W, Calls Tryz.prog G #[.int .i64 n] W fun e w' => e = .returned (.bool (φ n)) ∧ Below W.heap.size W w') (A : Option Addr) (c : Nat) (ns : List Int) (hl : ns.length ≤ maxLen) (w : World) (hr : RInts w A ns) :
    Calls Tryz.prog 183 #[.slice A ns.length c, .func (.func G) #[] #[]] w fun e w' => e = .returned (.bool (ns.any φ)) ∧ Below w.heap.size w w' := by
  have HI := Lib.hid (indexI_any G φ hE hG A c ns hl w hr)
  clear hE hG hr
  generalize ns.any φ = q at *
  go_enter Tryz.func183, Tryz.ntmps183
  go_wp2_with fail
  refine HI.out.mono ?_
  rintro e w1 ⟨r, rfl, hr, hb⟩
  have HR := Lib.hid hr
  clear hr
  go_wp2_with fail
  go_ret
  exact ⟨ret_bool HR.out, hb⟩
set_option maxHeartbeats 1000000 in
theorem indexB_any (G : Nat) (φ : Nat → Bool) (hE : ∀ args W, (callFunc G args).run Tryz.prog W = .ok (.enter G args) W) (hG : ∀ (n : Nat) W, Calls Tryz.prog G #[.int .u8 (n : Int)] W fun e w' => e = .returned (.bool (φ n)) ∧ Below W.heap.size W w') (A : Option Addr) (c : Nat) (ns : List Nat) (hl : ns.length ≤ maxLen) (w : World) (hr : RByt w A ns) :
    Calls Tryz.prog 198 #[.slice A ns.length c, .func (.func G) #[] #[]] w fun e w' => ∃ r : Int, e = .returned (.int .i64 r) ∧ decide (0 ≤ r) = ns.any φ ∧ Below w.heap.size w w' := by
  have HG := Lib.hid hG
  have HR := Lib.hid hr
  unfold maxLen at hl
  clear hr hG
  go_enter Tryz.func198, Tryz.ntmps198
  go_wp2_with fail
  go_loopw [8] (fun i wr => ∃ k : Nat, k ≤ ns.length ∧ i = .int .i64 k ∧ (ns.take k).any φ = false ∧ Below w.heap.size w wr) (fun i _ => ns.length - (intOf i).toNat)
  case atStart => exact ⟨0, by omega, rfl, rfl, Below.refl _ _⟩
  case round =>
    obtain ⟨k, hk, rfl, hany, hb⟩ := hrel
    have HB := Lib.hid hb; have HAny := Lib.hid hany
    clear hb hany
    by_cases hlt : k < ns.length
    · obtain ⟨ad, rfl, _, hc⟩ := (HR.out.next HB.out).at_ hlt
      have HT := Lib.hid (take_snoc ns k hlt)
      have HX := Lib.hid (fun W => HG.out ns[k] W)
      have HSome : Hid (φ ns[k] = true → ns.any φ = true) := Lib.hid (fun h => List.any_eq_true.2 ⟨_, List.getElem_mem hlt, h⟩)
      have HStep : Hid (φ ns[k] = false → (ns.take (k + 1)).any φ = false) := Lib.hid (fun h => by rw [HT.out, List.any_append, HAny.out]; simp [h])
      generalize ns[k] = x at *
      clear HT
      rcases hφ : φ x with _ | _
      · rw [hφ] at HX
        have HSt := Lib.hid (HStep.out hφ)
        clear hφ HStep HSome
        go_wp2_with fail
        refine (HX.out _).mono ?_
        rintro e w1 ⟨rfl, hb1⟩
        have HB1 := Lib.hid (HB.out.trans (hb1.mono HB.out.size))
        clear hb1 hc
        go_wp2_with fail
        go_roundw
        case rel => exact ⟨k + 1, by omega, by go_num, HSt.out, HB1.out⟩
        case measure => simp [intOf]; omega
      · rw [hφ] at HX
        have HSo := Lib.hid (HSome.out hφ)
        clear hφ HStep HSome
        go_wp2_with fail
        refine (HX.out _).mono ?_
        rintro e w1 ⟨rfl, hb1⟩
        have HB1 := Lib.hid (HB.out.trans (hb1.mono HB.out.size))
        clear hb1 hc
        go_wp2_with fail
        go_ret
        exact ⟨k, rfl, by rw [HSo.out]; simp, HB1.out⟩
    · obtain rfl : k = ns.length := by omega
      go_wp2_with fail
      go_ret
      exact ⟨-1, rfl, by have := HAny.out; rw [List.take_length] at this; rw [this]; rfl, HB.out⟩
set_option maxHeartbeats 1000000 in
theorem containsB_any (G : Nat) (φ : Nat → Bool) (hE : ∀ args W, (callFunc G args).run Tryz.prog W = .ok (.enter G args) W) (hG : ∀ (n : Nat) W, Calls Tryz.prog G #[.int .u8 (n : Int)] W fun e w' => e = .returned (.bool (φ n)) ∧ Below W.heap.size W w') (A : Option Addr) (c : Nat) (ns : List Nat) (hl : ns.length ≤ maxLen) (w : World) (hr : RByt w A ns) :
    Calls Tryz.prog 187 #[.slice A ns.length c, .func (.func G) #[] #[]] w fun e w' => e = .returned (.bool (ns.any φ)) ∧ Below w.heap.size w w' := by
  have HI := Lib.hid (indexB_any G φ hE hG A c ns hl w hr)
  clear hE hG hr
  generalize ns.any φ = q at *
  go_enter Tryz.func187, Tryz.ntmps187
  go_wp2_with fail
  refine HI.out.mono ?_
  rintro e w1 ⟨r, rfl, hr, hb⟩
  have HR := Lib.hid hr
  clear hr
  go_wp2_with fail
  go_ret
  exact ⟨ret_bool HR.out, hb⟩
set_option maxHeartbeats 800000 in
theorem equalI_any (A B : Option Addr) (c d : Nat) (ns ms : List Int) (hn : ns.length ≤ maxLen) (hm : ms.length ≤ maxLen) (w : World) (hr : RInts w A ns) (hs : RInts w B ms) :
    Calls Tryz.prog 51 #[.slice A ns.length c, .slice B ms.length d] w fun e w' => e = .returned (.bool (ns == ms)) ∧ Below w.heap.size w w' := by
  unfold maxLen at hn hm
  by_cases hl : ns.length = ms.length
  · have hl0 : ((ns.length : Int) != ms.length) = false := by simp; omega
    have HL := Lib.hid hl
    clear hl
    go_enter Tryz.func51, Tryz.ntmps51
    go_wp2
    go_loopw [13] (fun i wr => ∃ k : Nat, k ≤ ns.length ∧ i = .int .i64 k ∧ ns.take k = ms.take k ∧ Below w.heap.size w wr) (fun i _ => ns.length - (intOf i).toNat)
    case atStart => exact ⟨0, by omega, rfl, rfl, Below.refl _ _⟩
    case round =>
      obtain ⟨k, hk, rfl, heq, hb⟩ := hrel
      have HEq := Lib.hid heq
      clear heq hl0
      by_cases hlt : k < ns.length
      · have hlt2 : k < ms.length := by rw [← HL.out]; exact hlt
        obtain ⟨ad, rfl, hbd, hc⟩ := (hr.next hb).at_ hlt
        obtain ⟨bd, rfl, hbe, hd⟩ := (hs.next hb).at_ hlt2
        have HT := Lib.hid (take_snoc ns k hlt)
        have HU := Lib.hid (take_snoc ms k hlt2)
        by_cases e : ns[k] = ms[k]
        · have E := Lib.hid e
          have t : (ns[k] == ms[k]) = true := by simpa using e
          have t2 : (ns[k] != ms[k]) = false := by simpa using e
          clear e
          go_wp2_with fail
          go_quiet (fail)
          go_wp2
          go_roundw
          case rel => exact ⟨k + 1, by omega, by go_num, by rw [HT.out, HU.out, HEq.out, E.out], below_drewN hb _⟩
          case measure => simp [intOf]; omega
        · have hne : (ns == ms) = false := by
            rw [beq_eq_false_iff_ne]; rintro rfl; exact e rfl
          have HNe := Lib.hid hne
          clear hne
          have t : (ns[k] == ms[k]) = false := by simpa using e
          have t2 : (ns[k] != ms[k]) = true := by simpa using e
          clear e
          go_wp2_with fail
          go_quiet (fail)
          go_wp2
          go_ret
          exact ⟨ret_bool HNe.out.symm, below_drewN hb _⟩
      · obtain rfl : k = ns.length := by omega
        go_wp2
        go_ret
        exact ⟨ret_bool (by
          have := HEq.out
          rw [List.take_length, HL.out, List.take_length] at this
          simp [this]), hb⟩
  · have hl0 : ((ns.length : Int) != ms.length) = true := by simp; omega
    have hne : (ns == ms) = false := by
      rw [beq_eq_false_iff_ne]; rintro rfl; exact hl rfl
    go_enter Tryz.func51, Tryz.ntmps51
    go_wp2
    go_ret
    exact ⟨ret_bool hne.symm, Below.refl _ _⟩
end Go.Proofs.YtfnamfkjbkhgeaaGreatDoor

namespace Go.Proofs.YtfnamfkjbkhgeaaGreatDoor

open Go Go.RowKit

/-- The parts of a token in memory. -/
def tkC (k c m : Int) (P : Option Addr) (ps : List Int) (pc : Nat) (s : ByteArray) (D : Option Addr) (dt : List Nat) (dc : Nat) : Array Value := #[.int .i64 k, .int .u8 c, .int .u8 m, .slice P ps.length pc, .string s, .slice D dt.length dc]
/-- What is known with two boxes in memory. -/
def KW (w : World) (T : TypeId) (x y : Array Value) (W : World) : Prop := Blk W w.heap.size T x ∧ Blk W (w.heap.size + 1) T y ∧ Below w.heap.size w W
theorem KW.start (w : World) (T : TypeId) (x y : Array Value) : KW w T x y ((w.alloc (.cells x T)).alloc (.cells y T)) :=
  ⟨(Blk.new w T x).alloc _, by have := Blk.new (w.alloc (.cells x T)) T y; simpa using this, ((Below.refl _ _).alloc (Nat.le_refl _) _).alloc (by simp) _⟩
theorem KW.next {w W W' : World} {T : TypeId} {x y : Array Value} (h : KW w T x y W) (hb : Below W.heap.size W W') : KW w T x y W' := ⟨h.1.next hb, h.2.1.next hb, h.2.2.trans (hb.mono h.2.2.size)⟩
def sameQ (k1 c1 m1 : Int) (ps1 : List Int) (s1 : ByteArray) (dt1 : List Nat) (k2 c2 m2 : Int) (ps2 : List Int) (s2 : ByteArray) (dt2 : List Nat) : Bool :=
  (k1 == k2) && ((c1 == c2) && ((m1 == m2) && ((s1.toList == s2.toList) && ((ps1 == ps2) && decide (bstr dt1 = bstr dt2)))))
set_option maxRecDepth 100000 in
set_option maxHeartbeats 4000000 in
theorem same_any (k1 c1 m1 : Int) (P1 : Option Addr) (ps1 : List Int) (pc1 : Nat) (s1 : ByteArray) (D1 : Option Addr) (dt1 : List Nat) (dc1 : Nat) (k2 c2 m2 : Int) (P2 : Option Addr) (ps2 : List Int) (pc2 : Nat) (s2 : ByteArray) (D2 : Option Addr) (dt2 : List Nat) (dc2 : Nat)
    (hp1 : ps1.length ≤ maxLen) (hp2 : ps2.length ≤ maxLen) (w : World) (hr1 : RInts w P1 ps1) (hr2 : RInts w P2 ps2) (hd1 : RByt w D1 dt1) (hd2 : RByt w D2 dt2) :
    Calls Tryz.prog 185 #[.agg (tkC k1 c1 m1 P1 ps1 pc1 s1 D1 dt1 dc1), .agg (tkC k2 c2 m2 P2 ps2 pc2 s2 D2 dt2 dc2)] w fun e w' => e = .returned (.bool (sameQ k1 c1 m1 ps1 s1 dt1 k2 c2 m2 ps2 s2 dt2)) ∧ Below w.heap.size w w' := by
  have HE := Lib.hid (fun W h g => equalI_any P1 P2 pc1 pc2 ps1 ps2 hp1 hp2 W h g)
  have HB := Lib.hid (fun W h g => bytesEqual_any D1 D2 dc1 dc2 dt1 dt2 W h g)
  have HR := Lib.hid (And.intro (And.intro hr1 hr2) (And.intro hd1 hd2))
  have HK := Lib.hid (KW.start w 66 (tkC k1 c1 m1 P1 ps1 pc1 s1 D1 dt1 dc1) (tkC k2 c2 m2 P2 ps2 pc2 s2 D2 dt2 dc2))
  clear hr1 hr2 hd1 hd2 hp1 hp2
  unfold sameQ
  unfold tkC at *
  generalize (ps1 == ps2) = q5 at *
  generalize decide (bstr dt1 = bstr dt2) = q6 at *
  rcases q0 : (k1 == k2) with _ | _
  · go_enter Tryz.func185, Tryz.ntmps185
    go_upto_region 1 with fail
    generalize (w.alloc (.cells #[.int .i64 k1, .int .u8 c1, .int .u8 m1, .slice P1 ps1.length pc1, .string s1, .slice D1 dt1.length dc1] 66)).alloc (.cells #[.int .i64 k2, .int .u8 c2, .int .u8 m2, .slice P2 ps2.length pc2, .string s2, .slice D2 dt2.length dc2] 66) = w1 at *
    obtain ⟨a0, a1, a2, a3, a4, a5⟩ := six HK.out.1
    obtain ⟨b0, b1, b2, b3, b4, b5⟩ := six HK.out.2.1
    go_wp2_with fail
    go_ret
    exact ⟨rfl, HK.out.2.2⟩
  · skip
    rcases q1 : (c1 == c2) with _ | _
    · go_enter Tryz.func185, Tryz.ntmps185
      go_upto_region 1 with fail
      generalize (w.alloc (.cells #[.int .i64 k1, .int .u8 c1, .int .u8 m1, .slice P1 ps1.length pc1, .string s1, .slice D1 dt1.length dc1] 66)).alloc (.cells #[.int .i64 k2, .int .u8 c2, .int .u8 m2, .slice P2 ps2.length pc2, .string s2, .slice D2 dt2.length dc2] 66) = w1 at *
      obtain ⟨a0, a1, a2, a3, a4, a5⟩ := six HK.out.1
      obtain ⟨b0, b1, b2, b3, b4, b5⟩ := six HK.out.2.1
      go_wp2_with fail
      go_ret
      exact ⟨rfl, HK.out.2.2⟩
    · skip
      rcases q2 : (m1 == m2) with _ | _
      · go_enter Tryz.func185, Tryz.ntmps185
        go_upto_region 1 with fail
        generalize (w.alloc (.cells #[.int .i64 k1, .int .u8 c1, .int .u8 m1, .slice P1 ps1.length pc1, .string s1, .slice D1 dt1.length dc1] 66)).alloc (.cells #[.int .i64 k2, .int .u8 c2, .int .u8 m2, .slice P2 ps2.length pc2, .string s2, .slice D2 dt2.length dc2] 66) = w1 at *
        obtain ⟨a0, a1, a2, a3, a4, a5⟩ := six HK.out.1
        obtain ⟨b0, b1, b2, b3, b4, b5⟩ := six HK.out.2.1
        go_wp2_with fail
        go_ret
        exact ⟨rfl, HK.out.2.2⟩
      · skip
        rcases q3 : (s1.toList == s2.toList) with _ | _
        · go_enter Tryz.func185, Tryz.ntmps185
          go_upto_region 1 with fail
          generalize (w.alloc (.cells #[.int .i64 k1, .int .u8 c1, .int .u8 m1, .slice P1 ps1.length pc1, .string s1, .slice D1 dt1.length dc1] 66)).alloc (.cells #[.int .i64 k2, .int .u8 c2, .int .u8 m2, .slice P2 ps2.length pc2, .string s2, .slice D2 dt2.length dc2] 66) = w1 at *
          obtain ⟨a0, a1, a2, a3, a4, a5⟩ := six HK.out.1
          obtain ⟨b0, b1, b2, b3, b4, b5⟩ := six HK.out.2.1
          go_wp2_with fail
          go_ret
          exact ⟨rfl, HK.out.2.2⟩
        · skip
          go_enter Tryz.func185, Tryz.ntmps185
          go_upto_region 1 with fail
          generalize (w.alloc (.cells #[.int .i64 k1, .int .u8 c1, .int .u8 m1, .slice P1 ps1.length pc1, .string s1, .slice D1 dt1.length dc1] 66)).alloc (.cells #[.int .i64 k2, .int .u8 c2, .int .u8 m2, .slice P2 ps2.length pc2, .string s2, .slice D2 dt2.length dc2] 66) = w1 at *
          obtain ⟨a0, a1, a2, a3, a4, a5⟩ := six HK.out.1
          obtain ⟨b0, b1, b2, b3, b4, b5⟩ := six HK.out.2.1
          go_wp2_with fail
          refine (HE.out _ (HR.out.1.1.next HK.out.2.2) (HR.out.1.2.next HK.out.2.2)).mono ?_
          rintro e w2 ⟨rfl, hb2⟩
          have HK2 := Lib.hid (HK.out.next hb2)
          clear hb2 a0 a1 a2 a3 a4 a5 b0 b1 b2 b3 b4 b5 HK HE
          obtain ⟨a0, a1, a2, a3, a4, a5⟩ := six HK2.out.1
          obtain ⟨b0, b1, b2, b3, b4, b5⟩ := six HK2.out.2.1
          rcases q5 with _ | _
          · go_wp2_with fail
            go_ret
            exact ⟨rfl, HK2.out.2.2⟩
          · go_wp2_with fail
            refine (HB.out _ (HR.out.2.1.next HK2.out.2.2) (HR.out.2.2.next HK2.out.2.2)).mono ?_
            rintro e w3 ⟨rfl, rfl⟩
            go_wp2_with fail
            go_ret
            exact ⟨rfl, HK2.out.2.2⟩
end Go.Proofs.YtfnamfkjbkhgeaaGreatDoor

namespace Go.Proofs.YtfnamfkjbkhgeaaGreatDoor

open Go Go.RowKit



end Go.Proofs.YtfnamfkjbkhgeaaGreatDoor

namespace Go.Proofs.YtfnamfkjbkhgeaaGreatDoor

open Go Go.RowKit

set_option maxHeartbeats 1000000 in
set_option maxRecDepth 100000 in
theorem indexByte_any (s : ByteArray) (c : Int) (w : World) :
    Calls Tryz.prog 167 #[.string s, .int .u8 c] w fun e w' => e = .returned (.int .i64 (Lib.indexByte s.data.toList c.toNat.toUInt8)) ∧ w = w' := by
  go_enter Tryz.func167, Tryz.ntmps167
  go_wp2
  rw [run_callFunc_extern Tryz.func191 (by kernel_rfl) (by kernel_rfl) (by kernel_rfl) (e := Extern.BytealgIndexByte.indexByte) (by kernel_rfl), Lib.run_indexByteString]
  simp only [Result.andThen]
  rw [Oper.upon_value]
  go_wp2
  go_ret
  exact ⟨rfl, rfl⟩
theorem strIndexByte_any (s : ByteArray) (c : Int) (w : World) :
    Calls Tryz.prog 197 #[.string s, .int .u8 c] w fun e w' => e = .returned (.int .i64 (Lib.indexByte s.data.toList c.toNat.toUInt8)) ∧ w = w' := by
  have HI := Lib.hid (fun W => indexByte_any s c W)
  go_enter Tryz.func197, Tryz.ntmps197
  go_wp2_with (go_at_call 167; refine (HI.out _).mono ?_; rintro e w1 ⟨rfl, rfl⟩)
  go_ret
  exact ⟨rfl, rfl⟩
/-- What is known with one box in memory. -/
def K1 (w : World) (T : TypeId) (x : Array Value) (W : World) : Prop := Blk W w.heap.size T x ∧ Below w.heap.size w W
theorem K1.start (w : World) (T : TypeId) (x : Array Value) : K1 w T x (w.alloc (.cells x T)) := ⟨Blk.new w T x, (Below.refl _ _).alloc (Nat.le_refl _) _⟩
theorem K1.next {w W W' : World} {T : TypeId} {x : Array Value} (h : K1 w T x W) (hb : Below W.heap.size W W') : K1 w T x W' := ⟨h.1.next hb, h.2.trans (hb.mono h.2.size)⟩
/-- A byte that leads to another kind, or ends a string. -/
def leadsB (c : Nat) : Bool := [80, 88, 91, 92, 93, 94, 95].contains c
theorem leads_idx : ∀ c : Nat, c < 256 → decide (0 ≤ Lib.indexByte [91, 80, 93, 88, 94, 95] (c : Int).toNat.toUInt8) = (leadsB c && (c != 92)) := by decide +kernel
set_option maxHeartbeats 1000000 in
theorem leads_any (c : Nat) (hc : c < 256) (w : World) : Calls Tryz.prog 186 #[.int .u8 (c : Int)] w fun e w' => e = .returned (.bool (leadsB c)) ∧ w = w' := by
  have HI := Lib.hid (fun W => strIndexByte_any ⟨#[91, 80, 93, 88, 94, 95]⟩ (c : Int) W)
  have hx : decide (0 ≤ Lib.indexByte (ByteArray.mk #[91, 80, 93, 88, 94, 95]).data.toList (c : Int).toNat.toUInt8) = (leadsB c && (c != 92)) := leads_idx c hc
  generalize Lib.indexByte (ByteArray.mk #[91, 80, 93, 88, 94, 95]).data.toList (c : Int).toNat.toUInt8 = r at *
  by_cases h : c = 92
  · subst h
    clear hx HI
    go_enter Tryz.func186, Tryz.ntmps186
    go_wp2_with fail
    go_ret
    exact ⟨rfl, rfl⟩
  · have g0 : ((c : Int) == 92) = false := by simp; omega
    have e : leadsB c = (leadsB c && (c != 92)) := by rw [show (c != 92) = true from by simpa using h, Bool.and_true]
    rw [← e] at hx
    have HX := Lib.hid hx
    clear hx e h
    go_enter Tryz.func186, Tryz.ntmps186
    go_wp2_with fail
    refine (HI.out _).mono ?_
    rintro e w1 ⟨rfl, rfl⟩
    go_wp2_with fail
    go_ret
    exact ⟨ret_bool HX.out, rfl⟩
def smallB (ps : List Int) (s : ByteArray) (dt : List Nat) : Bool := decide (s.size ≤ 3) && (decide (ps.length ≤ 30) && (decide (dt.length ≤ 4096) && !(ps.any outB)))
def codedB (k : Int) (c : Nat) (s : ByteArray) : Bool :=
  if k = 1 then amongB c 32 126 || decide (160 ≤ c)
  else if k = 2 then amongB c 1 31 && ((c != 24) && (c != 27))
  else if k = 3 then amongB c 48 126 && (!decide (s.size = 0) || !leadsB c)
  else if k = 4 ∨ k = 5 then amongB c 64 126
  else true
set_option maxRecDepth 100000 in
set_option maxHeartbeats 4000000 in
theorem small_any (k : Int) (c m : Nat) (P : Option Addr) (ps : List Int) (pc : Nat) (s : ByteArray) (D : Option Addr) (dt : List Nat) (dc : Nat) (hp : ps.length ≤ maxLen) (w : World) (hr : RInts w P ps) :
    Calls Tryz.prog 155 #[.agg (tkC k (c : Int) (m : Int) P ps pc s D dt dc)] w fun e w' => e = .returned (.bool (smallB ps s dt)) ∧ Below w.heap.size w w' := by
  have HC := Lib.hid (fun W h => containsI_any 184 outB (fun args W => Tryz.call184 args W) (fun n W => out_any n W) P pc ps hp W h)
  have HR := Lib.hid hr
  have HK := Lib.hid (K1.start w 66 (tkC k (c : Int) (m : Int) P ps pc s D dt dc))
  clear hr hp
  unfold smallB
  unfold tkC at *
  generalize ps.any outB = q at *
  by_cases g0 : s.size ≤ 3
  · have t0 : decide ((s.size : Int) ≤ 3) = true := by simp; omega
    rw [decide_eq_true g0]
    by_cases g1 : ps.length ≤ 30
    · have t1 : decide ((ps.length : Int) ≤ 30) = true := by simp; omega
      rw [decide_eq_true g1]
      by_cases g2 : dt.length ≤ 4096
      · have t2 : decide ((dt.length : Int) ≤ 4096) = true := by simp; omega
        rw [decide_eq_true g2]
        clear g0 g1 g2
        go_enter Tryz.func155, Tryz.ntmps155
        go_upto_region 1 with fail
        generalize w.alloc (.cells #[.int .i64 k, .int .u8 (c : Int), .int .u8 (m : Int), .slice P ps.length pc, .string s, .slice D dt.length dc] 66) = w1 at *
        obtain ⟨a0, a1, a2, a3, a4, a5⟩ := six HK.out.1
        go_wp2_with fail
        refine (HC.out _ (HR.out.next HK.out.2)).mono ?_
        rintro e w2 ⟨rfl, hb2⟩
        have HB2 := Lib.hid (HK.out.2.trans (hb2.mono HK.out.2.size))
        clear hb2 a0 a1 a2 a3 a4 a5
        go_wp2_with fail
        go_ret
        exact ⟨rfl, HB2.out⟩
      · have t2 : decide ((dt.length : Int) ≤ 4096) = false := by simp; omega
        rw [decide_eq_false g2]
        clear g0 g1 g2
        go_enter Tryz.func155, Tryz.ntmps155
        go_upto_region 1 with fail
        generalize w.alloc (.cells #[.int .i64 k, .int .u8 (c : Int), .int .u8 (m : Int), .slice P ps.length pc, .string s, .slice D dt.length dc] 66) = w1 at *
        obtain ⟨a0, a1, a2, a3, a4, a5⟩ := six HK.out.1
        go_wp2_with fail
        go_ret
        exact ⟨rfl, HK.out.2⟩
    · have t1 : decide ((ps.length : Int) ≤ 30) = false := by simp; omega
      rw [decide_eq_false g1]
      clear g0 g1
      go_enter Tryz.func155, Tryz.ntmps155
      go_upto_region 1 with fail
      generalize w.alloc (.cells #[.int .i64 k, .int .u8 (c : Int), .int .u8 (m : Int), .slice P ps.length pc, .string s, .slice D dt.length dc] 66) = w1 at *
      obtain ⟨a0, a1, a2, a3, a4, a5⟩ := six HK.out.1
      go_wp2_with fail
      go_ret
      exact ⟨rfl, HK.out.2⟩
  · have t0 : decide ((s.size : Int) ≤ 3) = false := by simp; omega
    rw [decide_eq_false g0]
    clear g0
    go_enter Tryz.func155, Tryz.ntmps155
    go_upto_region 1 with fail
    generalize w.alloc (.cells #[.int .i64 k, .int .u8 (c : Int), .int .u8 (m : Int), .slice P ps.length pc, .string s, .slice D dt.length dc] 66) = w1 at *
    obtain ⟨a0, a1, a2, a3, a4, a5⟩ := six HK.out.1
    go_wp2_with fail
    go_ret
    exact ⟨rfl, HK.out.2⟩
set_option maxRecDepth 100000 in
set_option maxHeartbeats 8000000 in
theorem coded_any (k : Int) (c m : Nat) (P : Option Addr) (ps : List Int) (pc : Nat) (s : ByteArray) (D : Option Addr) (dt : List Nat) (dc : Nat) (hc : c < 256) (w : World) :
    Calls Tryz.prog 157 #[.agg (tkC k (c : Int) (m : Int) P ps pc s D dt dc)] w fun e w' => e = .returned (.bool (codedB k c s)) ∧ Below w.heap.size w w' := by
  have HA1 : Hid (∀ W, Calls Tryz.prog 159 #[.int .u8 (c : Int), .int .u8 32, .int .u8 126] W fun e w' => e = .returned (.bool (amongB c 32 126)) ∧ W = w') := Lib.hid (fun W => among_any c 32 126 W)
  have HA2 : Hid (∀ W, Calls Tryz.prog 159 #[.int .u8 (c : Int), .int .u8 1, .int .u8 31] W fun e w' => e = .returned (.bool (amongB c 1 31)) ∧ W = w') := Lib.hid (fun W => among_any c 1 31 W)
  have HA3 : Hid (∀ W, Calls Tryz.prog 159 #[.int .u8 (c : Int), .int .u8 48, .int .u8 126] W fun e w' => e = .returned (.bool (amongB c 48 126)) ∧ W = w') := Lib.hid (fun W => among_any c 48 126 W)
  have HA4 : Hid (∀ W, Calls Tryz.prog 159 #[.int .u8 (c : Int), .int .u8 64, .int .u8 126] W fun e w' => e = .returned (.bool (amongB c 64 126)) ∧ W = w') := Lib.hid (fun W => among_any c 64 126 W)
  have HLd := Lib.hid (fun W => leads_any c hc W)
  have HK := Lib.hid (K1.start w 66 (tkC k (c : Int) (m : Int) P ps pc s D dt dc))
  have e160 : decide ((160 : Int) ≤ (c : Int)) = decide (160 ≤ c) := by simp; omega
  have e24 : ((c : Int) != 24) = (c != 24) := by rw [Bool.eq_iff_iff, bne_iff_ne, bne_iff_ne]; omega
  have e27 : ((c : Int) != 27) = (c != 27) := by rw [Bool.eq_iff_iff, bne_iff_ne, bne_iff_ne]; omega
  unfold codedB
  unfold tkC at *
  generalize decide (160 ≤ c) = b160 at *
  generalize (c != 24) = b24 at *
  generalize (c != 27) = b27 at *
  generalize amongB c 32 126 = q1 at *
  generalize amongB c 1 31 = q2 at *
  generalize amongB c 48 126 = q3 at *
  generalize amongB c 64 126 = q4 at *
  generalize leadsB c = ql at *
  clear hc
  by_cases k1 : k = 1
  · subst k1; rw [if_pos rfl]
    rcases q1 with _ | _
    all_goals
      go_enter Tryz.func157, Tryz.ntmps157
      go_upto_region 1 with fail
      generalize w.alloc (.cells #[.int .i64 1, .int .u8 (c : Int), .int .u8 (m : Int), .slice P ps.length pc, .string s, .slice D dt.length dc] 66) = w1 at *
      obtain ⟨a0, a1, a2, a3, a4, a5⟩ := six HK.out.1
      go_wp2_with fail
      refine (HA1.out _).mono ?_
      rintro e w2 ⟨rfl, rfl⟩
      go_wp2_with fail
      go_ret
      exact ⟨rfl, HK.out.2⟩
  · by_cases k2 : k = 2
    · subst k2; rw [if_neg (by omega), if_pos rfl]
      rcases q2 with _ | _
      · skip
        go_enter Tryz.func157, Tryz.ntmps157
        go_upto_region 1 with fail
        generalize w.alloc (.cells #[.int .i64 2, .int .u8 (c : Int), .int .u8 (m : Int), .slice P ps.length pc, .string s, .slice D dt.length dc] 66) = w1 at *
        obtain ⟨a0, a1, a2, a3, a4, a5⟩ := six HK.out.1
        go_wp2_with fail
        refine (HA2.out _).mono ?_
        rintro e w2 ⟨rfl, rfl⟩
        go_wp2_with fail
        go_ret
        exact ⟨rfl, HK.out.2⟩
      · rcases b24 with _ | _
        all_goals
          go_enter Tryz.func157, Tryz.ntmps157
          go_upto_region 1 with fail
          generalize w.alloc (.cells #[.int .i64 2, .int .u8 (c : Int), .int .u8 (m : Int), .slice P ps.length pc, .string s, .slice D dt.length dc] 66) = w1 at *
          obtain ⟨a0, a1, a2, a3, a4, a5⟩ := six HK.out.1
          go_wp2_with fail
          refine (HA2.out _).mono ?_
          rintro e w2 ⟨rfl, rfl⟩
          go_wp2_with fail
          go_ret
          exact ⟨rfl, HK.out.2⟩
    · by_cases k3 : k = 3
      · subst k3; rw [if_neg (by omega), if_neg (by omega), if_pos rfl]
        rcases q3 with _ | _
        · skip
          go_enter Tryz.func157, Tryz.ntmps157
          go_upto_region 1 with fail
          generalize w.alloc (.cells #[.int .i64 3, .int .u8 (c : Int), .int .u8 (m : Int), .slice P ps.length pc, .string s, .slice D dt.length dc] 66) = w1 at *
          obtain ⟨a0, a1, a2, a3, a4, a5⟩ := six HK.out.1
          go_wp2_with fail
          refine (HA3.out _).mono ?_
          rintro e w2 ⟨rfl, rfl⟩
          go_wp2_with fail
          go_ret
          exact ⟨rfl, HK.out.2⟩
        · by_cases hs : s.size = 0
          · rw [decide_eq_true hs]
            have hnil : s.toList = [] := by rw [ByteArray.toList_eq]; exact List.length_eq_zero_iff.1 hs
            clear hs
            go_enter Tryz.func157, Tryz.ntmps157
            go_upto_region 1 with fail
            generalize w.alloc (.cells #[.int .i64 3, .int .u8 (c : Int), .int .u8 (m : Int), .slice P ps.length pc, .string s, .slice D dt.length dc] 66) = w1 at *
            obtain ⟨a0, a1, a2, a3, a4, a5⟩ := six HK.out.1
            go_wp2_with fail
            refine (HA3.out _).mono ?_
            rintro e w2 ⟨rfl, rfl⟩
            go_wp2_with fail
            refine (HLd.out _).mono ?_
            rintro e w3 ⟨rfl, rfl⟩
            go_wp2_with fail
            go_ret
            exact ⟨rfl, HK.out.2⟩
          · rw [decide_eq_false hs]
            have hnil : (s.toList != []) = true := by rw [ByteArray.toList_eq, bne_iff_ne]; intro e; apply hs; show s.data.toList.length = 0; rw [e]; rfl
            have hnil2 : s.toList.isEmpty = false := by rw [ByteArray.toList_eq]; rw [ByteArray.toList_eq] at hnil; cases h : s.data.toList with | nil => rw [h] at hnil; cases hnil | cons a b => rfl
            clear hs
            go_enter Tryz.func157, Tryz.ntmps157
            go_upto_region 1 with fail
            generalize w.alloc (.cells #[.int .i64 3, .int .u8 (c : Int), .int .u8 (m : Int), .slice P ps.length pc, .string s, .slice D dt.length dc] 66) = w1 at *
            obtain ⟨a0, a1, a2, a3, a4, a5⟩ := six HK.out.1
            go_wp2_with fail
            refine (HA3.out _).mono ?_
            rintro e w2 ⟨rfl, rfl⟩
            go_wp2_with fail
            go_ret
            exact ⟨rfl, HK.out.2⟩
      · by_cases k4 : k = 4
        · subst k4; rw [if_neg (by omega), if_neg (by omega), if_neg (by omega), if_pos (.inl rfl)]
          go_enter Tryz.func157, Tryz.ntmps157
          go_upto_region 1 with fail
          generalize w.alloc (.cells #[.int .i64 4, .int .u8 (c : Int), .int .u8 (m : Int), .slice P ps.length pc, .string s, .slice D dt.length dc] 66) = w1 at *
          obtain ⟨a0, a1, a2, a3, a4, a5⟩ := six HK.out.1
          go_wp2_with fail
          refine (HA4.out _).mono ?_
          rintro e w2 ⟨rfl, rfl⟩
          go_wp2_with fail
          go_ret
          exact ⟨rfl, HK.out.2⟩
        · by_cases k5 : k = 5
          · subst k5; rw [if_neg (by omega), if_neg (by omega), if_neg (by omega), if_pos (.inr rfl)]
            go_enter Tryz.func157, Tryz.ntmps157
            go_upto_region 1 with fail
            generalize w.alloc (.cells #[.int .i64 5, .int .u8 (c : Int), .int .u8 (m : Int), .slice P ps.length pc, .string s, .slice D dt.length dc] 66) = w1 at *
            obtain ⟨a0, a1, a2, a3, a4, a5⟩ := six HK.out.1
            go_wp2_with fail
            refine (HA4.out _).mono ?_
            rintro e w2 ⟨rfl, rfl⟩
            go_wp2_with fail
            go_ret
            exact ⟨rfl, HK.out.2⟩
          · rw [if_neg k1, if_neg k2, if_neg k3, if_neg (by omega)]
            have n1 : (k == 1) = false := by simpa using k1
            have n2 : (k == 2) = false := by simpa using k2
            have n3 : (k == 3) = false := by simpa using k3
            have n4 : (k == 4) = false := by simpa using k4
            have n5 : (k == 5) = false := by simpa using k5
            clear k1 k2 k3 k4 k5
            go_enter Tryz.func157, Tryz.ntmps157
            go_upto_region 1 with fail
            generalize w.alloc (.cells #[.int .i64 k, .int .u8 (c : Int), .int .u8 (m : Int), .slice P ps.length pc, .string s, .slice D dt.length dc] 66) = w1 at *
            obtain ⟨a0, a1, a2, a3, a4, a5⟩ := six HK.out.1
            go_wp2_with fail
            go_ret
            exact ⟨rfl, HK.out.2⟩
end Go.Proofs.YtfnamfkjbkhgeaaGreatDoor

namespace Go.Proofs.YtfnamfkjbkhgeaaGreatDoor

open Go Go.RowKit

def interB (b : UInt8) : Bool := amongB b.toNat 32 47
def writtenB (m : Nat) (s : ByteArray) (dt : List Nat) : Bool := ((m == 0) || amongB m 60 63) && (s.data.toList.all interB && !(dt.any noDataB))
theorem dlen (s : ByteArray) : s.data.toList.length = s.size := by show s.data.toList.length = s.data.size; simp
theorem dat (s : ByteArray) (k : Nat) (hk : k < s.size) : s.data.toList[k]'(by rw [dlen]; exact hk) = s[k] := by simp; rfl
theorem all_step {s : ByteArray} {k : Nat} (hk : k < s.size) (h : (s.data.toList.take k).all interB = true) : (interB s[k] = true → (s.data.toList.take (k + 1)).all interB = true) ∧ (interB s[k] = false → s.data.toList.all interB = false) := by
  have hl : k < s.data.toList.length := by rw [dlen]; exact hk
  constructor
  · intro hi
    rw [take_snoc _ k hl, List.all_append, h, dat s k hk]
    simp [hi]
  · intro hi
    rcases he : s.data.toList.all interB with _ | _
    · rfl
    · have := List.all_eq_true.1 he _ (List.getElem_mem hl)
      rw [dat s k hk, hi] at this
      cases this
theorem all_end {s : ByteArray} (h : (s.data.toList.take s.size).all interB = true) : s.data.toList.all interB = true := by
  rw [List.take_of_length_le (by rw [dlen]; exact Nat.le_refl _)] at h
  exact h
set_option maxRecDepth 100000 in
set_option maxHeartbeats 8000000 in
theorem written_any (k : Int) (c m : Nat) (P : Option Addr) (ps : List Int) (pc : Nat) (s : ByteArray) (D : Option Addr) (dt : List Nat) (dc : Nat) (hsz : s.size ≤ maxLen) (hd : dt.length ≤ maxLen) (w : World) (hr : RByt w D dt) :
    Calls Tryz.prog 158 #[.agg (tkC k (c : Int) (m : Int) P ps pc s D dt dc)] w fun e w' => e = .returned (.bool (writtenB m s dt)) ∧ Below w.heap.size w w' := by
  have HA : Hid (∀ W, Calls Tryz.prog 159 #[.int .u8 (m : Int), .int .u8 60, .int .u8 63] W fun e w' => e = .returned (.bool (amongB m 60 63)) ∧ W = w') := Lib.hid (fun W => among_any m 60 63 W)
  have HI : Hid (∀ (n : Nat) W, Calls Tryz.prog 159 #[.int .u8 (n : Int), .int .u8 32, .int .u8 47] W fun e w' => e = .returned (.bool (amongB n 32 47)) ∧ W = w') := Lib.hid (fun n W => among_any n 32 47 W)
  have HC := Lib.hid (fun W h => containsB_any 188 noDataB (fun args W => Tryz.call188 args W) (fun n W => noData_any n W) D dc dt hd W h)
  have HR := Lib.hid hr
  have HK := Lib.hid (K1.start w 66 (tkC k (c : Int) (m : Int) P ps pc s D dt dc))
  have HSt := Lib.hid (fun k hk h => all_step (s := s) (k := k) hk h)
  have HEn := Lib.hid (fun h => all_end (s := s) h)
  clear hr hd
  unfold maxLen at hsz
  have e0 : ((m : Int) != 0) = !(m == 0) := by rw [Bool.eq_iff_iff, bne_iff_ne]; simp
  unfold writtenB
  unfold tkC at *
  generalize amongB m 60 63 = qm at *
  generalize dt.any noDataB = qd at *
  generalize hqs : s.data.toList.all interB = qs at *
  clear hqs
  rcases hm0 : (m == 0) with _ | _
  · rw [hm0] at e0; clear hm0
    rcases qm with _ | _
    · go_enter Tryz.func158, Tryz.ntmps158
      go_upto_region 1 with fail
      generalize w.alloc (.cells #[.int .i64 k, .int .u8 (c : Int), .int .u8 (m : Int), .slice P ps.length pc, .string s, .slice D dt.length dc] 66) = w1 at *
      obtain ⟨a0, a1, a2, a3, a4, a5⟩ := six HK.out.1
      go_wp2_with fail
      refine (HA.out _).mono ?_
      rintro e w2 ⟨rfl, rfl⟩
      go_wp2_with fail
      go_ret
      exact ⟨rfl, HK.out.2⟩
    · go_enter Tryz.func158, Tryz.ntmps158
      go_upto_region 1 with fail
      generalize w.alloc (.cells #[.int .i64 k, .int .u8 (c : Int), .int .u8 (m : Int), .slice P ps.length pc, .string s, .slice D dt.length dc] 66) = w1 at *
      obtain ⟨a0, a1, a2, a3, a4, a5⟩ := six HK.out.1
      go_wp2_with fail
      refine (HA.out _).mono ?_
      rintro e w2 ⟨rfl, rfl⟩
      clear e0
      go_wp2_with fail
      go_loopw [16] (fun i wr => ∃ j : Nat, j ≤ s.size ∧ i = .int .i64 j ∧ (s.data.toList.take j).all interB = true ∧ wr = w1) (fun i _ => s.size - (intOf i).toNat)
      case atStart => exact ⟨0, by omega, rfl, rfl, rfl⟩
      case round =>
        obtain ⟨j, hj, rfl, hall, rfl⟩ := hrel
        have HAll := Lib.hid hall
        clear hall
        by_cases hlt : j < s.size
        · have HIj := Lib.hid (fun W => HI.out s[j].toNat W)
          have HSj := Lib.hid (HSt.out j hlt HAll.out)
          unfold interB at HSj
          generalize hq : amongB s[j].toNat 32 47 = q at *
          clear hq
          rcases q with _ | _
          · have HE := Lib.hid (HSj.out.2 rfl)
            clear HSj HSt HEn HAll
            go_wp2_with fail
            refine (HIj.out _).mono ?_
            rintro e w2 ⟨rfl, rfl⟩
            go_wp2_with fail
            go_ret
            exact ⟨ret_bool (by rw [HE.out]; rfl), HK.out.2⟩
          · have HN := Lib.hid (HSj.out.1 rfl)
            clear HSj
            go_wp2_with fail
            refine (HIj.out _).mono ?_
            rintro e w2 ⟨rfl, rfl⟩
            go_wp2_with fail
            go_roundw
            case rel => exact ⟨j + 1, by omega, by go_num, HN.out, trivial⟩
            case measure => simp [intOf]; omega
        · obtain rfl : j = s.size := by omega
          have HE := Lib.hid (HEn.out HAll.out)
          clear HSt HEn HAll
          go_wp2_with fail
          refine (HC.out _ (HR.out.next HK.out.2)).mono ?_
          rintro e w2 ⟨rfl, hb2⟩
          have HB2 := Lib.hid (HK.out.2.trans (hb2.mono HK.out.2.size))
          clear hb2 a0 a1 a2 a3 a4 a5
          go_wp2_with fail
          go_ret
          exact ⟨ret_bool (by rw [HE.out]; rfl), HB2.out⟩
  · rw [hm0] at e0; clear hm0
    go_enter Tryz.func158, Tryz.ntmps158
    go_upto_region 1 with fail
    generalize w.alloc (.cells #[.int .i64 k, .int .u8 (c : Int), .int .u8 (m : Int), .slice P ps.length pc, .string s, .slice D dt.length dc] 66) = w1 at *
    obtain ⟨a0, a1, a2, a3, a4, a5⟩ := six HK.out.1
    go_wp2_with fail
    clear e0
    go_loopw [16] (fun i wr => ∃ j : Nat, j ≤ s.size ∧ i = .int .i64 j ∧ (s.data.toList.take j).all interB = true ∧ wr = w1) (fun i _ => s.size - (intOf i).toNat)
    case atStart => exact ⟨0, by omega, rfl, rfl, rfl⟩
    case round =>
      obtain ⟨j, hj, rfl, hall, rfl⟩ := hrel
      have HAll := Lib.hid hall
      clear hall
      by_cases hlt : j < s.size
      · have HIj := Lib.hid (fun W => HI.out s[j].toNat W)
        have HSj := Lib.hid (HSt.out j hlt HAll.out)
        unfold interB at HSj
        generalize hq : amongB s[j].toNat 32 47 = q at *
        clear hq
        rcases q with _ | _
        · have HE := Lib.hid (HSj.out.2 rfl)
          clear HSj HSt HEn HAll
          go_wp2_with fail
          refine (HIj.out _).mono ?_
          rintro e w2 ⟨rfl, rfl⟩
          go_wp2_with fail
          go_ret
          exact ⟨ret_bool (by rw [HE.out]; rfl), HK.out.2⟩
        · have HN := Lib.hid (HSj.out.1 rfl)
          clear HSj
          go_wp2_with fail
          refine (HIj.out _).mono ?_
          rintro e w2 ⟨rfl, rfl⟩
          go_wp2_with fail
          go_roundw
          case rel => exact ⟨j + 1, by omega, by go_num, HN.out, trivial⟩
          case measure => simp [intOf]; omega
      · obtain rfl : j = s.size := by omega
        have HE := Lib.hid (HEn.out HAll.out)
        clear HSt HEn HAll
        go_wp2_with fail
        refine (HC.out _ (HR.out.next HK.out.2)).mono ?_
        rintro e w2 ⟨rfl, hb2⟩
        have HB2 := Lib.hid (HK.out.2.trans (hb2.mono HK.out.2.size))
        clear hb2 a0 a1 a2 a3 a4 a5
        go_wp2_with fail
        go_ret
        exact ⟨ret_bool (by rw [HE.out]; rfl), HB2.out⟩
def pureB (k : Int) (c m : Nat) (ps : List Int) (s : ByteArray) (dt : List Nat) : Bool :=
  if k = 1 ∨ k = 2 then sameQ k 0 m ps s dt k 0 0 [] (ByteArray.mk #[]) []
  else if k = 3 then sameQ k 0 m ps (ByteArray.mk #[]) dt k 0 0 [] (ByteArray.mk #[]) []
  else if k = 4 then sameQ k 0 0 [] (ByteArray.mk #[]) dt k 0 0 [] (ByteArray.mk #[]) []
  else if k = 5 then true
  else sameQ k c m ps s [] k 0 0 [] (ByteArray.mk #[]) []
theorem pure5 : sameQ 5 0 0 [] (ByteArray.mk #[]) [] 5 0 0 [] (ByteArray.mk #[]) [] = true := by decide +kernel
theorem rints_nil (W : World) : RInts W none [] := Reads.none_
theorem rbyt_nil (W : World) : RByt W none [] := Reads.none_
def put6 (w : World) (g : Nat) (v0 v1 v2 v3 v4 v5 : Value) : World := (((((w.setCell ⟨g, 0, none⟩ v0).setCell ⟨g, 1, none⟩ v1).setCell ⟨g, 2, none⟩ v2).setCell ⟨g, 3, none⟩ v3).setCell ⟨g, 4, none⟩ v4).setCell ⟨g, 5, none⟩ v5
theorem KW.set {w W : World} {T : TypeId} {x y : Array Value} (h : KW w T x y W) (i : Nat) (v : Value) : KW w T x (y.setIfInBounds i v) (W.setCell ⟨w.heap.size + 1, i, none⟩ v) :=
  ⟨h.1.far (p := ⟨w.heap.size + 1, i, none⟩) (by simp) v, h.2.1.set_ i v, h.2.2.setCell (p := ⟨w.heap.size + 1, i, none⟩) (by simp) v⟩
theorem KW.put {w W : World} {T : TypeId} {x : Array Value} {u0 u1 u2 u3 u4 u5 : Value} (h : KW w T x #[u0, u1, u2, u3, u4, u5] W) (v0 v1 v2 v3 v4 v5 : Value) : KW w T x #[v0, v1, v2, v3, v4, v5] (put6 W (w.heap.size + 1) v0 v1 v2 v3 v4 v5) := by
  have := (((((h.set 0 v0).set 1 v1).set 2 v2).set 3 v3).set 4 v4).set 5 v5
  simp only [List.setIfInBounds_toArray, List.set_cons_zero, List.set_cons_succ] at this
  exact this
set_option maxRecDepth 100000 in
set_option maxHeartbeats 8000000 in
theorem pure_any (k : Int) (c m : Nat) (P : Option Addr) (ps : List Int) (pc : Nat) (s : ByteArray) (D : Option Addr) (dt : List Nat) (dc : Nat) (hp : ps.length ≤ maxLen) (w : World) (hr : RInts w P ps) (hd : RByt w D dt) :
    Calls Tryz.prog 156 #[.agg (tkC k (c : Int) (m : Int) P ps pc s D dt dc)] w fun e w' => e = .returned (.bool (pureB k c m ps s dt)) ∧ Below w.heap.size w w' := by
  have HR := Lib.hid hr; have HD := Lib.hid hd
  have HS := Lib.hid (fun k1 c1 m1 P1 ps1 pc1 s1 D1 dt1 dc1 h1 W g1 g2 => same_any k1 c1 m1 P1 ps1 pc1 s1 D1 dt1 dc1 k1 0 0 none [] 0 (ByteArray.mk #[]) none [] 0 h1 (by decide) W g1 (rints_nil W) g2 (rbyt_nil W))
  have HK := Lib.hid (KW.start w 66 (tkC k (c : Int) (m : Int) P ps pc s D dt dc) (tkC k (c : Int) (m : Int) P ps pc s D dt dc))
  have HP := Lib.hid hp
  clear hr hd hp
  unfold pureB
  unfold tkC at *
  simp only [List.length_nil] at HS
  by_cases k1 : k = 1
  · subst k1; rw [if_pos (.inl rfl)]
    go_enter Tryz.func156, Tryz.ntmps156
    go_upto_region 2 with fail
    generalize (w.alloc (.cells #[.int .i64 1, .int .u8 (c : Int), .int .u8 (m : Int), .slice P ps.length pc, .string s, .slice D dt.length dc] 66)).alloc (.cells #[.int .i64 1, .int .u8 (c : Int), .int .u8 (m : Int), .slice P ps.length pc, .string s, .slice D dt.length dc] 66) = w1 at *
    obtain ⟨a0, a1, a2, a3, a4, a5⟩ := six HK.out.1
    obtain ⟨b0, b1, b2, b3, b4, b5⟩ := six HK.out.2.1
    obtain ⟨f0, f1, f2, f3, f4, f5⟩ := six_fr HK.out.2.1
    have HK2 := Lib.hid (HK.out.set 1 (.int .u8 0))
    try simp only [List.setIfInBounds_toArray, List.set_cons_zero, List.set_cons_succ] at HK2
    skip
    go_upto_region 13 with fail
    clear a0 a1 a2 a3 a4 a5 b0 b1 b2 b3 b4 b5 f0 f1 f2 f3 f4 f5
    generalize w1.setCell ⟨w.heap.size + 1, 1, none⟩ (.int .u8 0) = w2 at *
    obtain ⟨a0, a1, a2, a3, a4, a5⟩ := six HK2.out.1
    obtain ⟨b0, b1, b2, b3, b4, b5⟩ := six HK2.out.2.1
    go_wp2_with fail
    refine (HS.out 1 0 (m : Int) P ps pc s D dt dc HP.out _ (HR.out.next HK2.out.2.2) (HD.out.next HK2.out.2.2)).mono ?_
    rintro e w3 ⟨rfl, hb3⟩
    have HB3 := Lib.hid (HK2.out.2.2.trans (hb3.mono HK2.out.2.2.size))
    clear hb3 a0 a1 a2 a3 a4 a5 b0 b1 b2 b3 b4 b5
    go_wp2_with fail
    go_ret
    exact ⟨rfl, HB3.out⟩
  by_cases k2 : k = 2
  · subst k2; rw [if_pos (.inr rfl)]
    go_enter Tryz.func156, Tryz.ntmps156
    go_upto_region 2 with fail
    generalize (w.alloc (.cells #[.int .i64 2, .int .u8 (c : Int), .int .u8 (m : Int), .slice P ps.length pc, .string s, .slice D dt.length dc] 66)).alloc (.cells #[.int .i64 2, .int .u8 (c : Int), .int .u8 (m : Int), .slice P ps.length pc, .string s, .slice D dt.length dc] 66) = w1 at *
    obtain ⟨a0, a1, a2, a3, a4, a5⟩ := six HK.out.1
    obtain ⟨b0, b1, b2, b3, b4, b5⟩ := six HK.out.2.1
    obtain ⟨f0, f1, f2, f3, f4, f5⟩ := six_fr HK.out.2.1
    have HK2 := Lib.hid (HK.out.set 1 (.int .u8 0))
    try simp only [List.setIfInBounds_toArray, List.set_cons_zero, List.set_cons_succ] at HK2
    skip
    go_upto_region 13 with fail
    clear a0 a1 a2 a3 a4 a5 b0 b1 b2 b3 b4 b5 f0 f1 f2 f3 f4 f5
    generalize w1.setCell ⟨w.heap.size + 1, 1, none⟩ (.int .u8 0) = w2 at *
    obtain ⟨a0, a1, a2, a3, a4, a5⟩ := six HK2.out.1
    obtain ⟨b0, b1, b2, b3, b4, b5⟩ := six HK2.out.2.1
    go_wp2_with fail
    refine (HS.out 2 0 (m : Int) P ps pc s D dt dc HP.out _ (HR.out.next HK2.out.2.2) (HD.out.next HK2.out.2.2)).mono ?_
    rintro e w3 ⟨rfl, hb3⟩
    have HB3 := Lib.hid (HK2.out.2.2.trans (hb3.mono HK2.out.2.2.size))
    clear hb3 a0 a1 a2 a3 a4 a5 b0 b1 b2 b3 b4 b5
    go_wp2_with fail
    go_ret
    exact ⟨rfl, HB3.out⟩
  rw [if_neg (by omega)]
  by_cases k3 : k = 3
  · subst k3; rw [if_pos rfl]
    go_enter Tryz.func156, Tryz.ntmps156
    go_upto_region 2 with fail
    generalize (w.alloc (.cells #[.int .i64 3, .int .u8 (c : Int), .int .u8 (m : Int), .slice P ps.length pc, .string s, .slice D dt.length dc] 66)).alloc (.cells #[.int .i64 3, .int .u8 (c : Int), .int .u8 (m : Int), .slice P ps.length pc, .string s, .slice D dt.length dc] 66) = w1 at *
    obtain ⟨a0, a1, a2, a3, a4, a5⟩ := six HK.out.1
    obtain ⟨b0, b1, b2, b3, b4, b5⟩ := six HK.out.2.1
    obtain ⟨f0, f1, f2, f3, f4, f5⟩ := six_fr HK.out.2.1
    have fz := (HK.out.2.1.set_ 1 (.int .u8 0)).frozen 4
    have cz := (HK.out.2.1.set_ 1 (.int .u8 0)).cell 4
    have cz2 := cz.trans (show _ = some (.string s) from rfl)
    clear cz
    have HK2 := Lib.hid ((HK.out.set 1 (.int .u8 0)).set 4 (.string (ByteArray.mk #[])))
    try simp only [List.setIfInBounds_toArray, List.set_cons_zero, List.set_cons_succ] at HK2
    skip
    go_upto_region 13 with fail
    clear a0 a1 a2 a3 a4 a5 b0 b1 b2 b3 b4 b5 f0 f1 f2 f3 f4 f5
    generalize (w1.setCell ⟨w.heap.size + 1, 1, none⟩ (.int .u8 0)).setCell ⟨w.heap.size + 1, 4, none⟩ (.string (ByteArray.mk #[])) = w2 at *
    obtain ⟨a0, a1, a2, a3, a4, a5⟩ := six HK2.out.1
    obtain ⟨b0, b1, b2, b3, b4, b5⟩ := six HK2.out.2.1
    go_wp2_with fail
    refine (HS.out 3 0 (m : Int) P ps pc (ByteArray.mk #[]) D dt dc HP.out _ (HR.out.next HK2.out.2.2) (HD.out.next HK2.out.2.2)).mono ?_
    rintro e w3 ⟨rfl, hb3⟩
    have HB3 := Lib.hid (HK2.out.2.2.trans (hb3.mono HK2.out.2.2.size))
    clear hb3 a0 a1 a2 a3 a4 a5 b0 b1 b2 b3 b4 b5
    go_wp2_with fail
    go_ret
    exact ⟨rfl, HB3.out⟩
  rw [if_neg k3]
  by_cases k4 : k = 4
  · subst k4; rw [if_pos rfl]
    go_enter Tryz.func156, Tryz.ntmps156
    go_upto_region 2 with fail
    generalize (w.alloc (.cells #[.int .i64 4, .int .u8 (c : Int), .int .u8 (m : Int), .slice P ps.length pc, .string s, .slice D dt.length dc] 66)).alloc (.cells #[.int .i64 4, .int .u8 (c : Int), .int .u8 (m : Int), .slice P ps.length pc, .string s, .slice D dt.length dc] 66) = w1 at *
    obtain ⟨a0, a1, a2, a3, a4, a5⟩ := six HK.out.1
    obtain ⟨b0, b1, b2, b3, b4, b5⟩ := six HK.out.2.1
    obtain ⟨f0, f1, f2, f3, f4, f5⟩ := six_fr HK.out.2.1
    have HK2 := Lib.hid (HK.out.put (.int .i64 4) (.int .u8 0) (.int .u8 0) (.slice none 0 0) (.string (ByteArray.mk #[])) (.slice D dt.length dc))
    try simp only [List.setIfInBounds_toArray, List.set_cons_zero, List.set_cons_succ] at HK2
    unfold put6 at HK2
    go_upto_region 13 with fail
    clear a0 a1 a2 a3 a4 a5 b0 b1 b2 b3 b4 b5 f0 f1 f2 f3 f4 f5
    generalize (((((w1.setCell ⟨w.heap.size + 1, 0, none⟩ (.int .i64 4)).setCell ⟨w.heap.size + 1, 1, none⟩ (.int .u8 0)).setCell ⟨w.heap.size + 1, 2, none⟩ (.int .u8 0)).setCell ⟨w.heap.size + 1, 3, none⟩ (.slice none 0 0)).setCell ⟨w.heap.size + 1, 4, none⟩ (.string (ByteArray.mk #[]))).setCell ⟨w.heap.size + 1, 5, none⟩ (.slice D dt.length dc) = w2 at *
    obtain ⟨a0, a1, a2, a3, a4, a5⟩ := six HK2.out.1
    obtain ⟨b0, b1, b2, b3, b4, b5⟩ := six HK2.out.2.1
    go_wp2_with fail
    refine (HS.out 4 0 0 none [] 0 (ByteArray.mk #[]) D dt dc (by decide) _ (rints_nil _) (HD.out.next HK2.out.2.2)).mono ?_
    rintro e w3 ⟨rfl, hb3⟩
    have HB3 := Lib.hid (HK2.out.2.2.trans (hb3.mono HK2.out.2.2.size))
    clear hb3 a0 a1 a2 a3 a4 a5 b0 b1 b2 b3 b4 b5
    go_wp2_with fail
    go_ret
    exact ⟨rfl, HB3.out⟩
  rw [if_neg k4]
  by_cases k5 : k = 5
  · subst k5; rw [if_pos rfl, ← pure5]
    go_enter Tryz.func156, Tryz.ntmps156
    go_upto_region 2 with fail
    generalize (w.alloc (.cells #[.int .i64 5, .int .u8 (c : Int), .int .u8 (m : Int), .slice P ps.length pc, .string s, .slice D dt.length dc] 66)).alloc (.cells #[.int .i64 5, .int .u8 (c : Int), .int .u8 (m : Int), .slice P ps.length pc, .string s, .slice D dt.length dc] 66) = w1 at *
    obtain ⟨a0, a1, a2, a3, a4, a5⟩ := six HK.out.1
    obtain ⟨b0, b1, b2, b3, b4, b5⟩ := six HK.out.2.1
    obtain ⟨f0, f1, f2, f3, f4, f5⟩ := six_fr HK.out.2.1
    have HK2 := Lib.hid (HK.out.put (.int .i64 5) (.int .u8 0) (.int .u8 0) (.slice none 0 0) (.string (ByteArray.mk #[])) (.slice none 0 0))
    try simp only [List.setIfInBounds_toArray, List.set_cons_zero, List.set_cons_succ] at HK2
    unfold put6 at HK2
    go_upto_region 13 with fail
    clear a0 a1 a2 a3 a4 a5 b0 b1 b2 b3 b4 b5 f0 f1 f2 f3 f4 f5
    generalize (((((w1.setCell ⟨w.heap.size + 1, 0, none⟩ (.int .i64 5)).setCell ⟨w.heap.size + 1, 1, none⟩ (.int .u8 0)).setCell ⟨w.heap.size + 1, 2, none⟩ (.int .u8 0)).setCell ⟨w.heap.size + 1, 3, none⟩ (.slice none 0 0)).setCell ⟨w.heap.size + 1, 4, none⟩ (.string (ByteArray.mk #[]))).setCell ⟨w.heap.size + 1, 5, none⟩ (.slice none 0 0) = w2 at *
    obtain ⟨a0, a1, a2, a3, a4, a5⟩ := six HK2.out.1
    obtain ⟨b0, b1, b2, b3, b4, b5⟩ := six HK2.out.2.1
    go_wp2_with fail
    refine (HS.out 5 0 0 none [] 0 (ByteArray.mk #[]) none [] 0 (by decide) _ (rints_nil _) (rbyt_nil _)).mono ?_
    rintro e w3 ⟨rfl, hb3⟩
    have HB3 := Lib.hid (HK2.out.2.2.trans (hb3.mono HK2.out.2.2.size))
    clear hb3 a0 a1 a2 a3 a4 a5 b0 b1 b2 b3 b4 b5
    go_wp2_with fail
    go_ret
    exact ⟨rfl, HB3.out⟩
  rw [if_neg k5]
  have n1 : (k == 1) = false := by simpa using k1
  have n2 : (k == 2) = false := by simpa using k2
  have n3 : (k == 3) = false := by simpa using k3
  have n4 : (k == 4) = false := by simpa using k4
  have n5 : (k == 5) = false := by simpa using k5
  clear k1 k2 k3 k4 k5
  go_enter Tryz.func156, Tryz.ntmps156
  go_upto_region 2 with fail
  generalize (w.alloc (.cells #[.int .i64 k, .int .u8 (c : Int), .int .u8 (m : Int), .slice P ps.length pc, .string s, .slice D dt.length dc] 66)).alloc (.cells #[.int .i64 k, .int .u8 (c : Int), .int .u8 (m : Int), .slice P ps.length pc, .string s, .slice D dt.length dc] 66) = w1 at *
  obtain ⟨a0, a1, a2, a3, a4, a5⟩ := six HK.out.1
  obtain ⟨b0, b1, b2, b3, b4, b5⟩ := six HK.out.2.1
  obtain ⟨f0, f1, f2, f3, f4, f5⟩ := six_fr HK.out.2.1
  have HK2 := Lib.hid (HK.out.set 5 (.slice none 0 0))
  try simp only [List.setIfInBounds_toArray, List.set_cons_zero, List.set_cons_succ] at HK2
  skip
  go_upto_region 13 with fail
  clear a0 a1 a2 a3 a4 a5 b0 b1 b2 b3 b4 b5 f0 f1 f2 f3 f4 f5
  generalize w1.setCell ⟨w.heap.size + 1, 5, none⟩ (.slice none 0 0) = w2 at *
  obtain ⟨a0, a1, a2, a3, a4, a5⟩ := six HK2.out.1
  obtain ⟨b0, b1, b2, b3, b4, b5⟩ := six HK2.out.2.1
  go_wp2_with fail
  refine (HS.out k (c : Int) (m : Int) P ps pc s none [] 0 HP.out _ (HR.out.next HK2.out.2.2) (rbyt_nil _)).mono ?_
  rintro e w3 ⟨rfl, hb3⟩
  have HB3 := Lib.hid (HK2.out.2.2.trans (hb3.mono HK2.out.2.2.size))
  clear hb3 a0 a1 a2 a3 a4 a5 b0 b1 b2 b3 b4 b5
  go_wp2_with fail
  go_ret
  exact ⟨rfl, HB3.out⟩
end Go.Proofs.YtfnamfkjbkhgeaaGreatDoor
