/-
  Layer 21's law: a text of fours; what such definitions say.
  Layer 21's law: what is fixed.
  Layer 21's law: three definitions, each of a text of fours.
-/
import Derived.Test.YtlhabooeeohniaaDoorUdkG
import Derived.OwnWalk
namespace Go.Proofs.YtlhabooeeohniaaDoor
open Go Go.RowKit

theorem made_byt (N : Nat) : (madeCells (Value.int .u8 0).cells (N * 1)).toList = (List.replicate N 0).map fun (n : Nat) => Value.int .u8 (n : Int) := by
  apply List.ext_getElem?
  intro j
  by_cases hj : j < N
  · simp [madeCells, Value.cells, hj, Nat.mod_one]
  · rw [List.getElem?_eq_none (by simp [madeCells]; omega), List.getElem?_eq_none (by simp; omega)]
theorem below_noneU {B : Nat} {w w' : World} (h : w.grownBy w' none) (hB : B ≤ w.heap.size) : Below B w w' := (Below.refl _ _).grown h hB (fun k hk => by cases hk)
theorem OByt.set1 {W : World} {b g n c : Nat} {L : List Nat} (h : OByt W b (.slice (some ⟨g, 0, none⟩) n c) L) (hn : n = L.length) (k x : Nat) :
    OByt (W.setCell ⟨g, k, none⟩ (.int .u8 (x : Int))) b (.slice (some ⟨g, 0, none⟩) n c) (L.set k x) := by
  subst hn
  have h1 := (World.ownsRow.stored h k (.int .u8 (x : Int))).1
  unfold OByt
  rw [List.length_set, List.map_set]
  exact h1
theorem OByt.cell1 {W : World} {b g n c : Nat} {L : List Nat} (h : OByt W b (.slice (some ⟨g, 0, none⟩) n c) L) (hn : n = L.length) {k : Nat} (hk : k < L.length) :
    W.cell? ⟨g, k, none⟩ = some (.int .u8 (L[k] : Int)) ∧ W.frozen? ⟨g, k, none⟩ = false := by
  subst hn
  refine ⟨?_, World.ownsRow.frozenAt h k⟩
  rw [World.ownsRow.cellAt h _ (by omega)]
  simp [List.getElem?_eq_getElem hk]
/-- The first k of N bytes are fours, the others nought. -/
def fourK (N k : Nat) : List Nat := List.replicate k 52 ++ List.replicate (N - k) 0
theorem fourK_len (N k : Nat) (h : k ≤ N) : (fourK N k).length = N := by unfold fourK; simp; omega
theorem fourK_set (N k : Nat) (h : k < N) : (fourK N k).set k 52 = fourK N (k + 1) := by
  unfold fourK
  rw [List.set_append_right _ _ (by simp), show N - k = (N - (k + 1)) + 1 from by omega, List.replicate_succ]
  simp only [List.length_replicate, Nat.sub_self, List.set_cons_zero]
  rw [List.replicate_succ', List.append_assoc]
  rfl
theorem fourK_all (N : Nat) : fourK N N = List.replicate N 52 := by unfold fourK; simp
/-- A text of n bytes in digits, all four. -/
def fours (n : Nat) : List Nat := List.replicate (2 * n) 52
set_option maxRecDepth 100000 in
set_option maxHeartbeats 4000000 in
theorem lawHex_any (n : Nat) (hn : n ≤ 1000) (w : World) :
    Calls Tryd.prog 14 #[.int .i64 n] w fun e w' => e = .returned (.string (bstr (fours n))) ∧ Below w.heap.size w w' := by
  obtain ⟨i0, hi0, hz0, hz1, hz2⟩ := info_parts info_byte
  have HI := Lib.hid hi0; have HZ0 := Lib.hid hz0; have HZ1 := Lib.hid hz1; have HZ2 := Lib.hid hz2
  clear hi0 hz0 hz1 hz2
  obtain ⟨N, hN⟩ : ∃ N, N = 2 * n := ⟨_, rfl⟩
  have hw : IntKind.i64.wrap (2 * (n : Int)) = (N : Int) := (IntWalk.i64_in _ (by omega)).trans (by omega)
  have hf : fours n = List.replicate N 52 := by unfold fours; rw [hN]
  have hN2 : N ≤ 2000 := by omega
  rw [hf]
  clear hf hN hn
  --#1
  go_enter Tryd.func14, Tryd.ntmps14
  go_upto_region 3 with (at_make; refine wpList_make_full _ rfl _ _ 43 rfl w.heap.size 5 i0 _ 1 Tryd.underlying43 HI.out HZ0.out HZ1.out _ _ _ _ N rfl rfl rfl rfl (by rw [HZ2.out]; omega) (by unfold maxLen; omega) (Nat.le_refl _) ?_; intro w1 hown hgr; have HOwn : Hid (OByt w1 w.heap.size (.slice (some ⟨w.heap.size, 0, none⟩) N N) (fourK N 0)) := Lib.hid (by rw [made_byt] at hown; unfold OByt; rw [fourK_len N 0 (by omega)]; exact hown); have HB1 := Lib.hid (below_noneU hgr (Nat.le_refl _)); clear hown hgr)
  --#2
  clear hw
  go_loopw [10] (fun i wr => ∃ k : Nat, k ≤ N ∧ i = .int .i64 k ∧ OByt wr w.heap.size (.slice (some ⟨w.heap.size, 0, none⟩) N N) (fourK N k) ∧ Below w.heap.size w wr) (fun i _ => N - (intOf i).toNat)
  case atStart => exact ⟨0, by omega, rfl, HOwn.out, HB1.out⟩
  case round =>
    obtain ⟨k, hk, rfl, hown, hb⟩ := hrel
    have HO := Lib.hid hown; have HB := Lib.hid hb
    clear hown hb HOwn HB1
    by_cases hlt : k < N
    · obtain ⟨d0, f0⟩ := OByt.cell1 HO.out (fourK_len N k hk).symm (k := k) (by rw [fourK_len N k hk]; exact hlt)
      have HSt := Lib.hid (OByt.set1 HO.out (fourK_len N k hk).symm k 52)
      rw [fourK_set N k hlt] at HSt
      have HBt := Lib.hid (HB.out.setCell (p := ⟨w.heap.size, k, none⟩) (Nat.le_refl _) (.int .u8 ((52 : Nat) : Int)))
      have hwk : IntKind.i64.wrap ((k : Int) + 1) = (k : Int) + 1 := IntWalk.i64_in _ (by omega)
      have g0 : (0 : Int) ≤ (k : Int) := by omega
      generalize (fourK N k)[k]'(by rw [fourK_len N k hk]; exact hlt) = old at *
      --#3
      go_wp2_with fail
      go_roundw
      case rel => exact ⟨k + 1, by omega, by go_num, HSt.out, HBt.out⟩
      case measure => simp [intOf]; omega
    · obtain rfl : k = N := by omega
      have hcv : ∀ W, Below wr.heap.size wr W → (convert 43 9 (.slice (some ⟨w.heap.size, 0, none⟩) k k)).run Tryd.prog W = .ok (.string (bstr (List.replicate k 52))) W := fun W hW => by
        have h1 := HO.out
        rw [fourK_all] at h1
        have h2 : OByt W w.heap.size (.slice (some ⟨w.heap.size, 0, none⟩) (List.replicate k 52).length k) (List.replicate k 52) := by
          rw [List.length_replicate]; exact h1.next hW
        have := conv_by (OByt.reads h2) k
        rwa [List.length_replicate] at this
      have hcv0 := hcv _ (Below.refl _ _)
      clear hcv
      --#4
      go_wp2_with fail
      go_ret
      exact ⟨rfl, HB.out⟩

theorem fh_fours : ∀ n, fhL (fours n) = some (List.replicate n 68)
  | 0 => rfl
  | n + 1 => by
    have e : fours (n + 1) = 52 :: 52 :: fours n := by unfold fours; rw [show 2 * (n + 1) = 2 * n + 1 + 1 from by omega, List.replicate_succ, List.replicate_succ]
    rw [e]
    show (if hvN 52 < 16 ∧ hvN 52 < 16 then (fhL (fours n)).map (fun m => (16 * hvN 52 + hvN 52) :: m) else none) = _
    rw [fh_fours n, if_pos (by decide)]
    rfl
/-- A definition of a key by two digits. -/
theorem defS_two (a b : Nat) (r : List Nat) (ha : a ≠ 47) (hb : b ≠ 47) (key k : Nat) (hp : puK (bstr [a, b]) = some key) (hk : plc key = k) : defS (a :: b :: 47 :: r) = (fhL r).map fun t => (k, t) := by
  have hc : cutQ (a :: b :: 47 :: r) = ([a, b], r, true) := by simp [cutQ, ha, hb]
  unfold defS
  rw [hc]
  show defP (puK (bstr [a, b])) true r = _
  rw [hp]
  show (if true = true ∧ 0 ≤ plc key then (fhL r).map (fun b => ((plc key).toNat, b)) else none) = _
  rw [hk, if_pos ⟨rfl, by omega⟩]
  rfl
theorem key17 : puK (bstr [49, 55]) = some 17 := by decide +kernel
theorem key18 : puK (bstr [49, 56]) = some 18 := by decide +kernel
theorem key19 : puK (bstr [49, 57]) = some 19 := by decide +kernel
theorem key20 : puK (bstr [50, 48]) = some 20 := by decide +kernel
theorem fours_no (n : Nat) : ∀ c ∈ fours n, c ≠ 59 := fun c hc => by
  obtain ⟨_, rfl⟩ := List.mem_replicate.1 hc
  decide
theorem step_two (T : List ByteArray) (a b : Nat) (n : Nat) (ha : a ≠ 47) (hb : b ≠ 47) (key k : Nat) (hp : puK (bstr [a, b]) = some key) (hk : plc key = k) : stepU T (a :: b :: 47 :: fours n) = some (T.set k (bstr (List.replicate n 68))) := by
  unfold stepU
  rw [if_neg (by simp), defS_two a b _ ha hb key k hp hk, fh_fours]
  rfl
theorem take_two (T : List ByteArray) (a b : Nat) (n : Nat) (ha : a ≠ 47) (hb : b ≠ 47) (ha9 : a ≠ 59) (hb9 : b ≠ 59) (key k : Nat) (hp : puK (bstr [a, b]) = some key) (hk : plc key = k) : takeU T (pcs (a :: b :: 47 :: fours n)) = some (T.set k (bstr (List.replicate n 68))) := by
  rw [pcs_no _ (by
    intro c hc
    simp only [List.mem_cons] at hc
    rcases hc with rfl | rfl | rfl | hc
    · exact ha9
    · exact hb9
    · decide
    · exact fours_no n c hc), takeU_cons, step_two T a b n ha hb key k hp hk]
  rfl
end Go.Proofs.YtlhabooeeohniaaDoor

namespace Go.Proofs.YtlhabooeeohniaaDoor
open Go Go.RowKit

theorem FarU.new {w : World} (hu : UEnv w) {K : Nat} (hK : w.heap.size ≤ K) : FarU K := by
  obtain ⟨⟨h1, _⟩, ⟨h2, _⟩, h3, _⟩ := hu
  exact ⟨fun e => by omega, fun e => by omega, fun e => by omega⟩
theorem zero_keys : (#[.string ⟨#[]⟩, .string ⟨#[]⟩, .string ⟨#[]⟩, .string ⟨#[]⟩, .string ⟨#[]⟩, .string ⟨#[]⟩, .string ⟨#[]⟩, .string ⟨#[]⟩, .string ⟨#[]⟩, .string ⟨#[]⟩, .string ⟨#[]⟩, .string ⟨#[]⟩, .string ⟨#[]⟩, .string ⟨#[]⟩, .string ⟨#[]⟩, .bool false] : Array Value) = keyC noT false := rfl
def awT : List ByteArray := (noT.set 0 (bstr [65])).set 1 (bstr [66, 67])
theorem awT_short : ShortT awT := ⟨rfl, by
  intro t ht
  unfold awT at ht
  rcases List.mem_or_eq_of_mem_set ht with h | rfl
  · rcases List.mem_or_eq_of_mem_set h with h | rfl
    · exact noT_short.2 t h
    · rw [bstr_size]; decide
  · rw [bstr_size]; decide⟩
theorem aw_1 : defU noT false false true (nb ⟨#[49, 55, 47, 52, 49, 59, 49, 56, 47, 52, 50, 52, 51]⟩) = (0, awT, true) := by
  have h1 : takeU noT (pcs (nb ⟨#[49, 55, 47, 52, 49, 59, 49, 56, 47, 52, 50, 52, 51]⟩)) = some awT := by kernel_rfl
  unfold defU
  rw [show (if (false : Bool) = true then noT else noT) = noT from rfl, h1]
  rfl
theorem aw_2 : defU awT true false false (nb ⟨#[49, 55, 47, 52, 52]⟩) = (6, awT, true) := by
  have h1 : takeU awT (pcs (nb ⟨#[49, 55, 47, 52, 52]⟩)) = some (awT.set 0 (bstr [68])) := by kernel_rfl
  unfold defU
  rw [show (if (false : Bool) = true then noT else awT) = awT from rfl, h1]
  rfl
theorem aw_3 : defU awT true false false (nb ⟨#[50, 50, 47, 52, 52]⟩) = (3, awT, true) := by
  have h1 : takeU awT (pcs (nb ⟨#[50, 50, 47, 52, 52]⟩)) = none := by kernel_rfl
  unfold defU
  rw [show (if (false : Bool) = true then noT else awT) = awT from rfl, h1]
theorem aw_get : getU awT 18 = (⟨#[66, 67]⟩, true) := by kernel_rfl
/-- What is made in a call: the world behind turns nothing that was there. -/
theorem below_of_grown {A B : World} {K : Nat} (h : A.grownBy B (some K)) {n : Nat} (hn : n ≤ A.heap.size) (hK : n ≤ K) : Below n A B :=
  ⟨h.os, h.tape, h.output, h.size, fun k hk => h.block k (by omega) (fun e => by injection e with e; omega)⟩
set_option maxRecDepth 100000 in
set_option maxHeartbeats 4000000 in
theorem udkAwake_any (w : World) (hu : UEnv w) :
    Calls Tryd.prog 6 #[] w fun e w' => e = .returned (.bool true) ∧ Below w.heap.size w w' := by
  have HU := Lib.hid hu
  have HF := Lib.hid (FarU.new hu (Nat.le_refl _))
  have HB0 := Lib.hid (show Below w.heap.size w (w.alloc (.cells (keyC noT false) 26)) from (Below.refl _ _).alloc (Nat.le_refl _) _)
  have HK0 := Lib.hid (KeyB.new w noT false rfl)
  have HL : Hid (w.heap.size < (w.alloc (.cells (keyC noT false) 26)).heap.size) := Lib.hid (by simp)
  clear hu
  --#1
  go_enter Tryd.func6, Tryd.ntmps6
  go_wp2_with fail
  rw [zero_keys]
  generalize w.alloc (.cells (keyC noT false) 26) = w1 at *
  have HD := Lib.hid (define_any w.heap.size noT false false true ⟨#[49, 55, 47, 52, 49, 59, 49, 56, 47, 52, 50, 52, 51]⟩ (by decide) w1 HK0.out noT_short (HU.out.next HB0.out) HF.out)
  rw [aw_1] at HD
  clear HK0
  --#2
  refine HD.out.mono ?_
  rintro e w2 ⟨rfl, hk2, hg2⟩
  have HK2 := Lib.hid hk2
  have HB2 := Lib.hid (HB0.out.trans (below_of_grown hg2 (Nat.le_of_lt HL.out) (Nat.le_refl _)))
  have HU2 := Lib.hid (HU.out.next HB2.out)
  clear hk2 hg2 HD
  have HG := Lib.hid (uGet_any w.heap.size awT true 18 w2 HK2.out HU2.out.2.2)
  rw [aw_get] at HG
  go_wp2_with fail
  refine HG.out.mono ?_
  rintro e w3 ⟨rfl, rfl⟩
  have HLk := Lib.hid (locked_any w.heap.size awT true w2 HK2.out)
  --#3
  go_wp2_with fail
  refine HLk.out.mono ?_
  rintro e w3 ⟨rfl, rfl⟩
  have HD2 := Lib.hid (define_any w.heap.size awT true false false ⟨#[49, 55, 47, 52, 52]⟩ (by decide) w2 HK2.out awT_short HU2.out HF.out)
  rw [aw_2] at HD2
  go_wp2_with fail
  refine HD2.out.mono ?_
  rintro e w4 ⟨rfl, hk4, hg4⟩
  have HK4 := Lib.hid hk4
  have HB4 := Lib.hid (HB2.out.trans (below_of_grown hg4 (HB2.out.size) (Nat.le_refl _)))
  clear hk4 hg4 HD2 HG HLk
  have HD3 := Lib.hid (define_any w.heap.size awT true false false ⟨#[50, 50, 47, 52, 52]⟩ (by decide) w4 HK4.out awT_short (HU.out.next HB4.out) HF.out)
  rw [aw_3] at HD3
  --#4
  go_wp2_with fail
  refine HD3.out.mono ?_
  rintro e w5 ⟨rfl, _, hg5⟩
  have HB5 := Lib.hid (HB4.out.trans (below_of_grown hg5 (HB4.out.size) (Nat.le_refl _)))
  clear hg5
  go_wp2_with fail
  go_ret
  exact ⟨rfl, HB5.out⟩
end Go.Proofs.YtlhabooeeohniaaDoor

namespace Go.Proofs.YtlhabooeeohniaaDoor
open Go Go.RowKit

theorem short_set {T : List ByteArray} (h : ShortT T) (k : Nat) (x : ByteArray) (hx : x.size ≤ 100000) : ShortT (T.set k x) :=
  ⟨by rw [List.length_set]; exact h.1, fun t ht => by
    rcases List.mem_or_eq_of_mem_set ht with h1 | rfl
    · exact h.2 t h1
    · exact hx⟩
theorem fours_lt (n : Nat) : ∀ c ∈ fours n, c < 256 := fun c hc => by
  obtain ⟨_, rfl⟩ := List.mem_replicate.1 hc
  decide
theorem fours_len (n : Nat) : (fours n).length = 2 * n := by unfold fours; simp
theorem nb_bstr (l : List Nat) (h : ∀ x ∈ l, x < 256) : nb (bstr l) = l := nat_bstr l h
theorem used_1 (x : ByteArray) : usedT (noT.set 0 x) = x.size := by
  show x.size + (0 + (0 + (0 + (0 + (0 + (0 + (0 + (0 + (0 + (0 + (0 + (0 + (0 + (0 + 0)))))))))))))) = x.size
  omega
theorem used_3 (x y z : ByteArray) : usedT (((noT.set 0 x).set 1 y).set 2 z) = x.size + y.size + z.size := by
  show x.size + (y.size + (z.size + (0 + (0 + (0 + (0 + (0 + (0 + (0 + (0 + (0 + (0 + (0 + (0 + 0)))))))))))))) = x.size + y.size + z.size
  omega
theorem used_4 (x : ByteArray) : usedT (noT.set 3 x) = x.size := by
  show 0 + (0 + (0 + (x.size + (0 + (0 + (0 + (0 + (0 + (0 + (0 + (0 + (0 + (0 + (0 + 0)))))))))))))) = x.size
  omega
def defW (n : Nat) : ByteArray := bstr (List.replicate n 68)
theorem defW_size (n : Nat) : (defW n).size = n := by unfold defW; rw [bstr_size, List.length_replicate]
section
variable (N : Nat) (hN : FarU N)
include hN
theorem def1_any (n : Nat) (hn : n ≤ 1000) (W : World) (hk : KeyB W N noT false) (hu : UEnv W) :
    Calls Tryd.prog 15 #[.pointer (some ⟨N, 0, none⟩), .bool false, .bool false, .string (bstr ([49, 55, 47] ++ fours n))] W fun e w' => ((n ≤ 804 ∧ e = .returned (.int .i64 0) ∧ KeyB w' N (noT.set 0 (defW n)) false) ∨ (804 < n ∧ e = .returned (.int .i64 5) ∧ KeyB w' N (noT.set 0 ⟨#[]⟩) false)) ∧ W.grownBy w' (some N) := by
  have hl : ∀ c ∈ [49, 55, 47] ++ fours n, c < 256 := fun c hc => by
    rcases List.mem_append.1 hc with h | h
    · simp at h; omega
    · exact fours_lt n c h
  refine (define_any N noT false false false _ (by rw [bstr_size]; simp [fours_len]; omega) W hk noT_short hu hN).mono fun e w' ⟨he, hk', hg⟩ => ⟨?_, hg⟩
  rw [nb_bstr _ hl] at he hk'
  have h1 : takeU noT (pcs ([49, 55, 47] ++ fours n)) = some (noT.set 0 (defW n)) := take_two noT 49 55 n (by decide) (by decide) (by decide) (by decide) 17 0 key17 (by decide)
  unfold defU at he hk'
  rw [show (if (false : Bool) = true then noT else noT) = noT from rfl, h1] at he hk'
  simp only [used_1, defW_size] at he hk'
  by_cases hc : 804 < n
  · rw [if_pos hc] at he hk'; exact .inr ⟨hc, he, hk'⟩
  · rw [if_neg hc] at he hk'; exact .inl ⟨by omega, he, hk'⟩
theorem def2_any (x : ByteArray) (hx : x.size ≤ 1000) (m : Nat) (hm : m ≤ 1000) (W : World) (hk : KeyB W N (noT.set 0 x) false) (hu : UEnv W) :
    Calls Tryd.prog 15 #[.pointer (some ⟨N, 0, none⟩), .bool false, .bool false, .string (bstr ((([49, 56, 47] ++ fours m) ++ [59, 49, 57, 47]) ++ fours 1))] W fun e w' => ((x.size + m + 1 ≤ 804 ∧ e = .returned (.int .i64 0) ∧ ∃ T', KeyB w' N T' false ∧ ShortT T') ∨ (804 < x.size + m + 1 ∧ e = .returned (.int .i64 5) ∧ KeyB w' N (noT.set 0 x) false)) ∧ W.grownBy w' (some N) := by
  have hl : ∀ c ∈ (([49, 56, 47] ++ fours m) ++ [59, 49, 57, 47]) ++ fours 1, c < 256 := fun c hc => by
    rcases List.mem_append.1 hc with h | h
    · rcases List.mem_append.1 h with h | h
      · rcases List.mem_append.1 h with h | h
        · simp at h; omega
        · exact fours_lt m c h
      · simp at h; omega
    · exact fours_lt 1 c h
  have hsh := short_set noT_short 0 x (by omega)
  refine (define_any N (noT.set 0 x) false false false _ (by rw [bstr_size]; simp [fours_len]; omega) W hk hsh hu hN).mono fun e w' ⟨he, hk', hg⟩ => ⟨?_, hg⟩
  rw [nb_bstr _ hl] at he hk'
  have hp : pcs ((([49, 56, 47] ++ fours m) ++ [59, 49, 57, 47]) ++ fours 1) = [49 :: 56 :: 47 :: fours m, 49 :: 57 :: 47 :: fours 1] := by
    rw [show (([49, 56, 47] ++ fours m) ++ [59, 49, 57, 47]) ++ fours 1 = (49 :: 56 :: 47 :: fours m) ++ 59 :: (49 :: 57 :: 47 :: fours 1) from by simp]
    rw [pcs_yes _ _ (by
      intro c hc
      simp only [List.mem_cons] at hc
      rcases hc with rfl | rfl | rfl | hc
      · decide
      · decide
      · decide
      · exact fours_no m c hc)]
    rw [pcs_no _ (by
      intro c hc
      simp only [List.mem_cons] at hc
      rcases hc with rfl | rfl | rfl | hc
      · decide
      · decide
      · decide
      · exact fours_no 1 c hc)]
  have h1 : takeU (noT.set 0 x) (pcs ((([49, 56, 47] ++ fours m) ++ [59, 49, 57, 47]) ++ fours 1)) = some (((noT.set 0 x).set 1 (defW m)).set 2 (defW 1)) := by
    rw [hp, takeU_cons, step_two (noT.set 0 x) 49 56 m (by decide) (by decide) 18 1 key18 (by decide)]
    show takeU _ _ = _
    rw [takeU_cons, step_two _ 49 57 1 (by decide) (by decide) 19 2 key19 (by decide)]
    rfl
  unfold defU at he hk'
  rw [show (if (false : Bool) = true then noT else (noT.set 0 x)) = noT.set 0 x from rfl, h1] at he hk'
  simp only [used_3, defW_size] at he hk'
  by_cases hc : 804 < x.size + m + 1
  · rw [if_pos hc] at he hk'; exact .inr ⟨hc, he, hk'⟩
  · rw [if_neg hc] at he hk'
    exact .inl ⟨by omega, he, _, hk', short_set (short_set hsh 1 _ (by rw [defW_size]; omega)) 2 _ (by rw [defW_size]; omega)⟩
theorem def3_any (T : List ByteArray) (hT : ShortT T) (m : Nat) (hm : m ≤ 1000) (W : World) (hk : KeyB W N T false) (hu : UEnv W) :
    Calls Tryd.prog 15 #[.pointer (some ⟨N, 0, none⟩), .bool true, .bool false, .string (bstr ([50, 48, 47] ++ fours m))] W fun e w' => ((m ≤ 804 ∧ e = .returned (.int .i64 0) ∧ KeyB w' N (noT.set 3 (defW m)) false) ∨ (804 < m ∧ e = .returned (.int .i64 5))) ∧ W.grownBy w' (some N) := by
  have hl : ∀ c ∈ [50, 48, 47] ++ fours m, c < 256 := fun c hc => by
    rcases List.mem_append.1 hc with h | h
    · simp at h; omega
    · exact fours_lt m c h
  refine (define_any N T false true false _ (by rw [bstr_size]; simp [fours_len]; omega) W hk hT hu hN).mono fun e w' ⟨he, hk', hg⟩ => ⟨?_, hg⟩
  rw [nb_bstr _ hl] at he hk'
  have h1 : takeU noT (pcs ([50, 48, 47] ++ fours m)) = some (noT.set 3 (defW m)) := take_two noT 50 48 m (by decide) (by decide) (by decide) (by decide) 20 3 key20 (by decide)
  unfold defU at he hk'
  rw [show (if (true : Bool) = true then noT else T) = noT from rfl, h1] at he hk'
  simp only [used_4, defW_size] at he hk'
  by_cases hc : 804 < m
  · rw [if_pos hc] at he; exact .inr ⟨hc, he⟩
  · rw [if_neg hc] at he hk'; exact .inl ⟨by omega, he, hk'⟩
end
end Go.Proofs.YtlhabooeeohniaaDoor
