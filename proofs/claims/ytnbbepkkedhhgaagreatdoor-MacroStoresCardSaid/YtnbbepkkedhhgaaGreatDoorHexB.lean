/-
  Two hexadecimal digits, read by the library.
  The library's reading of two digits, with its error; and of all digits of a text.
-/
import Derived.Test.YtnbbepkkedhhgaaGreatDoorGen
import Derived.Test.YtnbbepkkedhhgaaGreatDoorKit2
import Derived.Lib.Strings
import Derived.Lib.ConvBytes
import Derived.Lib.ParseIntBMem
import Derived.Lib.Hide
import Derived.Laws.Strings3
import Derived.Laws.Closers25
import Derived.Laws.Closers25b
import Derived.WalkKit
import Derived.BigCall
import Derived.BigGuard
import Derived.Test.YtnbbepkkedhhgaaGreatDoorShelf
namespace Go.Proofs.YtnbbepkkedhhgaaGreatDoor

open Go Go.RowKit

/-- What a digit says; 16: it is none. -/
def hvN (c : Nat) : Nat := if 48 ≤ c ∧ c ≤ 57 then c - 48 else if 65 ≤ c ∧ c ≤ 70 then c - 55 else if 97 ≤ c ∧ c ≤ 102 then c - 87 else 16
theorem low_all : ∀ c : Nat, c < 256 → bits BinOp.or IntKind.u8 (c : Int) 32 = ((c ||| 32 : Nat) : Int) := by decide +kernel
theorem hv_dig (c : Nat) (h0 : 48 ≤ c) (h1 : c ≤ 57) : hvN c = c - 48 := by unfold hvN; rw [if_pos ⟨h0, h1⟩]
theorem hv_let : ∀ c : Nat, c < 256 → ¬ (48 ≤ c ∧ c ≤ 57) → (97 ≤ (c ||| 32) ∧ (c ||| 32) ≤ 102) → hvN c = (c ||| 32) - 87 ∧ hvN c < 16 := by decide +kernel
theorem hv_non : ∀ c : Nat, c < 256 → ¬ (48 ≤ c ∧ c ≤ 57) → ¬ (97 ≤ (c ||| 32) ∧ (c ||| 32) ≤ 102) → hvN c = 16 := by decide +kernel
theorem hv_le : ∀ c : Nat, c < 256 → hvN c ≤ 16 := by decide +kernel
theorem let_95 : ∀ c : Nat, (97 ≤ (c ||| 32) ∧ (c ||| 32) ≤ 102) → ¬ c = 95 := by
  rintro c h rfl
  revert h
  decide
theorem lower_any (c : Int) (w : World) : Calls Tryz.prog 90 #[.int .u8 c] w fun e w' => e = .returned (.int .u8 (bits .or .u8 c 32)) ∧ w' = w := by
  go_enter Tryz.func90, Tryz.ntmps90
  go_wp2
  go_ret
  exact ⟨rfl, rfl⟩
/-- What the library answers of two digits. -/
def hx2V (p q : Nat) : Value := if p < 16 ∧ q < 16 then .tuple #[.int .u64 ((16 * p + q : Nat) : Int), .nilIface] else .tuple #[.int .u64 0, .iface 135 (.int .i64 2)]
theorem hx2_no {p q : Nat} (h : ¬ (p < 16 ∧ q < 16)) : hx2V p q = .tuple #[.int .u64 0, .iface 135 (.int .i64 2)] := if_neg h
theorem hx2_yes {p q : Nat} (h : p < 16 ∧ q < 16) : hx2V p q = .tuple #[.int .u64 ((16 * p + q : Nat) : Int), .nilIface] := if_pos h
def InvH (a b k acc : Nat) : Prop := (k = 0 → acc = 0) ∧ (k = 1 → hvN a < 16 ∧ acc = hvN a) ∧ (k = 2 → hvN a < 16 ∧ hvN b < 16 ∧ acc = 16 * hvN a + hvN b)
theorem inv_step {a b k acc c : Nat} (h : InvH a b k acc) (hk : k < 2) (hc : c = if k = 0 then a else b) (hv : hvN c < 16) : InvH a b (k + 1) (acc * 16 + hvN c) := by
  obtain ⟨h0, h1, _⟩ := h
  have : k = 0 ∨ k = 1 := by omega
  rcases this with rfl | rfl
  · simp only [if_pos] at hc
    subst hc
    have := h0 rfl
    refine ⟨fun h => absurd h (by omega), fun _ => ⟨hv, by omega⟩, fun h => absurd h (by omega)⟩
  · rw [if_neg (by omega)] at hc
    subst hc
    obtain ⟨g0, g1⟩ := h1 rfl
    refine ⟨fun h => absurd h (by omega), fun h => absurd h (by omega), fun _ => ⟨g0, hv, by omega⟩⟩
theorem inv_le {a b k acc : Nat} (h : InvH a b k acc) (hk : k < 2) : acc ≤ 15 := by
  obtain ⟨h0, h1, _⟩ := h
  have : k = 0 ∨ k = 1 := by omega
  rcases this with rfl | rfl
  · have := h0 rfl; omega
  · have := h1 rfl; omega
theorem inv_no {a b k acc c : Nat} (_h : InvH a b k acc) (hk : k < 2) (hc : c = if k = 0 then a else b) (hv : hvN c = 16) : ¬ (hvN a < 16 ∧ hvN b < 16) := by
  have : k = 0 ∨ k = 1 := by omega
  rcases this with rfl | rfl
  · simp only [if_pos] at hc
    subst hc; omega
  · rw [if_neg (by omega)] at hc
    subst hc; omega
set_option maxRecDepth 100000 in
set_option maxHeartbeats 16000000 in
theorem pu2_any (t : ByteArray) (h2 : t.size = 2) (w : World) :
    Calls Tryz.prog 70 #[.string t, .int .i64 16, .int .i64 8] w fun e w' => e = .returned (hx2V (hvN (t.data.toList.getD 0 0).toNat) (hvN (t.data.toList.getD 1 0).toNat)) ∧ w' = Lib.bytesWorld w 5 t := by
  have hemp : t.toList.isEmpty = false := by
    rw [← decide_eq_emptyBytes]
    exact decide_eq_false (fun h => by rw [h] at h2; exact absurd h2 (by decide))
  have hcv := Lib.run_convert_string_bytes (P := Tryz.prog) w 9 59 5 t (u := .string) Tryz.underlying9 Tryz.underlying59 Tryz.underlying5
  have hB : ∀ j, j < t.size → (Lib.bytesWorld w 5 t).cell? ⟨w.heap.size, j, none⟩ = some (.int .u8 (t.data.toList.getD j 0).toNat) := fun j hj => Lib.bytesWorld_cell w 5 t j hj
  obtain ⟨W1, hW1⟩ : ∃ W1, W1 = Lib.bytesWorld w 5 t := ⟨_, rfl⟩
  rw [← hW1] at hcv hB ⊢
  clear hW1
  obtain ⟨a, ha⟩ : ∃ a, a = (t.data.toList.getD 0 0).toNat := ⟨_, rfl⟩
  obtain ⟨b, hb⟩ : ∃ b, b = (t.data.toList.getD 1 0).toNat := ⟨_, rfl⟩
  have ha2 : a < 256 := by rw [ha]; exact UInt8.toNat_lt _
  have hb2 : b < 256 := by rw [hb]; exact UInt8.toNat_lt _
  have hB0 := hB 0 (by omega)
  have hB1 := hB 1 (by omega)
  rw [← ha] at hB0 ⊢
  rw [← hb] at hB1 ⊢
  clear hB ha hb
  have hlen : t.size = 2 := h2
  have hmv : IntKind.u64.wrap (IntKind.u64.wrap 256 - 1) = 255 := by
    rw [IntKind.wrap_u64, IntKind.wrap_u64]
    decide
  have HL := Lib.hid (fun c W => lower_any c W)
  obtain ⟨V, hV⟩ : ∃ V, V = hx2V (hvN a) (hvN b) := ⟨_, rfl⟩
  rw [← hV]
  replace hV := Lib.hid hV
  --#0
  go_enter Tryz.func70, Tryz.ntmps70
  go_wp2
  --#1
  go_loop [12, 13, 101] (fun vu vn vi => ∃ (k acc : Nat) (z : Int), vu = .bool false ∧ vn = .int .u64 z ∧ vi = .int .i64 k ∧ k ≤ 2 ∧ Hid (z = (acc : Int) ∧ InvH a b k acc))
    (fun _ _ vi => 2 - (intOf vi).toNat)
  case atStart => exact ⟨0, 0, 0, rfl, rfl, rfl, by omega, rfl, ⟨fun _ => rfl, fun h => absurd h (by decide), fun h => absurd h (by decide)⟩⟩
  case round =>
    obtain ⟨k, acc, z, rfl, rfl, rfl, hk, hh⟩ := hrel
    obtain ⟨hz, hI⟩ := hh.out
    clear hh
    by_cases hkn : k < 2
    · have hle := inv_le hI hkn
      have z0 : 0 ≤ z := by omega
      have z1 : z ≤ 15 := by omega
      obtain ⟨c, hc, hcc, hc256⟩ : ∃ c : Nat, c = (if k = 0 then a else b) ∧ W1.cell? ⟨w.heap.size, k, none⟩ = some (.int .u8 (c : Nat)) ∧ c < 256 := by
        have : k = 0 ∨ k = 1 := by omega
        rcases this with rfl | rfl
        · exact ⟨a, rfl, hB0, ha2⟩
        · exact ⟨b, rfl, hB1, hb2⟩
      have hin : k < t.size := by omega
      clear hB0 hB1 ha2 hb2
      have HI := Lib.hid hI
      clear hI
      by_cases hdig : 48 ≤ c ∧ c ≤ 57
      · obtain ⟨hd0, hd1⟩ := hdig
        have hv := hv_dig c hd0 hd1
        have HN : Hid (z * 16 + ((c : Int) - 48) = ((acc * 16 + hvN c : Nat) : Int) ∧ InvH a b (k + 1) (acc * 16 + hvN c)) := Lib.hid ⟨by omega, inv_step HI.out hkn hc (by omega)⟩
        clear hv hc hz hle HI
        go_wp2
        refine ⟨⟨k + 1, acc * 16 + hvN c, z * 16 + ((c : Int) - 48), rfl, (by first | rfl | (congr 1; omega)), (by first | rfl | (congr 1; omega)), by omega, HN⟩, by simp [intOf]; omega⟩
      · have hlo := low_all c hc256
        obtain ⟨m, hm⟩ : ∃ m, m = (c ||| 32) := ⟨_, rfl⟩
        have hA := hv_let c hc256 hdig
        have hN := hv_non c hc256 hdig
        have h95 := let_95 c
        rw [← hm] at hlo hA hN h95
        have hm256 : m < 256 := by rw [hm]; exact Nat.or_lt_two_pow (n := 8) hc256 (by decide)
        have hm2 := Lib.hid hm
        clear hm
        by_cases hlet : 97 ≤ m ∧ m ≤ 102
        · obtain ⟨hv, hv16⟩ := hA hlet
          have h95 : ¬ (c : Int) = 95 := by have := h95 hlet; omega
          obtain ⟨hl0, hl1⟩ := hlet
          have HN : Hid (z * 16 + ((m : Int) - 97 + 10) = ((acc * 16 + hvN c : Nat) : Int) ∧ InvH a b (k + 1) (acc * 16 + hvN c)) := Lib.hid ⟨by omega, inv_step HI.out hkn hc hv16⟩
          clear hv hv16 hc hz hle HI hA hN hm2
          have HLc : Hid (∀ W, Calls Tryz.prog 90 #[.int .u8 (c : Nat)] W fun e w' => e = .returned (.int .u8 (m : Nat)) ∧ w' = W) := Lib.hid (fun W => by have h := HL.out c W; rw [hlo] at h; exact h)
          clear hlo HL
          go_wp2_with (refine (HLc.out _).mono ?_; rintro e w' ⟨rfl, rfl⟩)
          all_goals refine ⟨⟨k + 1, acc * 16 + hvN c, z * 16 + ((m : Int) - 97 + 10), rfl, (by first | rfl | (congr 1; omega)), (by first | rfl | (congr 1; omega)), by omega, HN⟩, by simp [intOf]; omega⟩
        · have hv := hN hlet
          have hno := hx2_no (inv_no HI.out hkn hc hv)
          have hV2 := Lib.hid (hV.out.trans hno)
          have HLc : Hid (∀ W, Calls Tryz.prog 90 #[.int .u8 (c : Nat)] W fun e w' => e = .returned (.int .u8 (m : Nat)) ∧ w' = W) := Lib.hid (fun W => by have h := HL.out c W; rw [hlo] at h; exact h)
          clear hv hc hz hle HI hA hN hno hV hlo HL
          have h3 : m < 97 ∨ (103 ≤ m ∧ m ≤ 122) ∨ 123 ≤ m := by omega
          clear hlet h95
          have h95 : c = 95 ∨ ¬ (c : Int) = 95 := by omega
          rcases h95 with rfl | h95
          · have hmm : m = 127 := by rw [hm2.out]; rfl
            subst hmm
            clear h3
            go_wp2_with (refine (HLc.out _).mono ?_; rintro e w' ⟨rfl, rfl⟩)
            all_goals
              go_ret2
              exact ⟨by rw [hV2.out]; rfl, rfl⟩
          rcases h3 with h3 | ⟨h3, h4⟩ | h3
          · go_wp2_with (refine (HLc.out _).mono ?_; rintro e w' ⟨rfl, rfl⟩)
            all_goals
              go_ret2
              exact ⟨by rw [hV2.out]; rfl, rfl⟩
          · go_wp2_with (refine (HLc.out _).mono ?_; rintro e w' ⟨rfl, rfl⟩)
            all_goals
              go_ret2
              exact ⟨by rw [hV2.out]; rfl, rfl⟩
          · go_wp2_with (refine (HLc.out _).mono ?_; rintro e w' ⟨rfl, rfl⟩)
            all_goals
              go_ret2
              exact ⟨by rw [hV2.out]; rfl, rfl⟩
    · obtain rfl : k = 2 := by omega
      obtain ⟨_, _, h3⟩ := hI
      obtain ⟨g0, g1, g2⟩ := h3 rfl
      have hyes := hx2_yes (p := hvN a) (q := hvN b) ⟨g0, g1⟩
      have hV2 := Lib.hid (hV.out.trans hyes)
      have hz2 : z = ((16 * hvN a + hvN b : Nat) : Int) := by omega
      rw [← hz2] at hV2
      clear hyes g0 g1 g2 h3 hz hz2 hV
      replace hV2 := Lib.hid hV2.out
      go_wp2
      go_ret2
      rw [hV2.out]
      exact ⟨rfl, rfl⟩
end Go.Proofs.YtnbbepkkedhhgaaGreatDoor

namespace Go.Proofs.YtnbbepkkedhhgaaGreatDoor

open Go Go.RowKit

/-- The library's error of a text that is none lies where its initialiser laid it. -/
def ErrS (w : World) : Prop := 1 < w.heap.size ∧ ∃ te pe, w.cell? ⟨1, 0, none⟩ = some (.iface te pe)
theorem ErrS.next {w w' : World} (h : ErrS w) (hb : Below w.heap.size w w') : ErrS w' := by
  obtain ⟨h1, te, pe, h2⟩ := h
  exact ⟨Nat.lt_of_lt_of_le h1 hb.size, te, pe, (hb.cell (p := ⟨1, 0, none⟩) h1).trans h2⟩
theorem bytesW_below (w : World) (T : TypeId) (t : ByteArray) : Below w.heap.size w (Lib.bytesWorld w T t) := ⟨rfl, rfl, rfl, by rw [Lib.bytesWorld_size]; omega, fun k hk => Lib.bytesWorld_at_old w _ t k hk⟩
/-- What it answers. -/
def PuQ (p q : Nat) (e : Ending) : Prop := (p < 16 ∧ q < 16 ∧ e = .returned (.tuple #[.int .u64 ((16 * p + q : Nat) : Int), .nilIface])) ∨ (¬ (p < 16 ∧ q < 16) ∧ ∃ te pe, e = .returned (.tuple #[.int .u64 0, .iface te pe]))
set_option maxRecDepth 100000 in
set_option maxHeartbeats 4000000 in
theorem puPub_any (t : ByteArray) (h2 : t.size = 2) (w : World) (he : ErrS w) :
    Calls Tryz.prog 56 #[.string t, .int .i64 16, .int .i64 8] w fun e w' => PuQ (hvN (t.data.toList.getD 0 0).toNat) (hvN (t.data.toList.getD 1 0).toNat) e ∧ Below w.heap.size w w' := by
  have HP := Lib.hid (pu2_any t h2 w)
  have hE := Lib.hid (he.next (bytesW_below w 5 t))
  have hB := Lib.hid (bytesW_below w 5 t)
  generalize Lib.bytesWorld w 5 t = W1 at *
  generalize hvN (t.data.toList.getD 0 0).toNat = p at *
  generalize hvN (t.data.toList.getD 1 0).toNat = q at *
  clear he
  by_cases hpq : p < 16 ∧ q < 16
  · have hx := hx2_yes hpq
    rw [hx] at HP
    have hpost := fun e (h : e = Ending.returned (.tuple #[.int .u64 ((16 * p + q : Nat) : Int), .nilIface])) => (show PuQ p q e from .inl ⟨hpq.1, hpq.2, h⟩)
    replace hpost := Lib.hid hpost
    clear hx hpq
    generalize ((16 * p + q : Nat) : Int) = z at *
    go_enter Tryz.func56, Tryz.ntmps56
    go_wp2_with (refine HP.out.mono ?_; rintro e w' ⟨rfl, rfl⟩)
    go_ret2
    exact ⟨hpost.out _ rfl, hB.out⟩
  · have hx := hx2_no hpq
    rw [hx] at HP
    have hpost := fun te pe e (h : e = Ending.returned (.tuple #[.int .u64 0, .iface te pe])) => (show PuQ p q e from .inr ⟨hpq, te, pe, h⟩)
    replace hpost := Lib.hid hpost
    obtain ⟨hs, te, pe, hc⟩ := hE.out
    have HT := Lib.hid (Tryz.strconv_toError_syntax ⟨#[80, 97, 114, 115, 101, 85, 105, 110, 116]⟩ t 16 8 (.iface te pe) W1 (by rw [h2]; decide) hc (.inr ⟨te, pe, rfl⟩))
    clear hx hpq hE hc hs
    go_enter Tryz.func56, Tryz.ntmps56
    go_wp2_with (first | (refine HP.out.mono ?_; rintro e w' ⟨rfl, rfl⟩) | (refine HT.out.mono ?_; rintro e w' ⟨n, rfl, _, _, hb2⟩; have HB2 := Lib.hid hb2; clear hb2))
    go_ret2
    exact ⟨hpost.out _ _ _ rfl, hB.out.trans (HB2.out.mono hB.out.size)⟩
end Go.Proofs.YtnbbepkkedhhgaaGreatDoor
