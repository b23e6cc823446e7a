/-
  The walk of the reference that restores stops from a report.
-/
import Derived.Test.YtnfdgioapbkonaaDoorTabL
import Derived.OwnWalk
namespace Go.Proofs.YtnfdgioapbkonaaDoor

open Go Go.RowKit

def RefPost (A : Option Addr) (c L : Nat) (Z : Option (List Bool)) (w : World) (e : Ending) (w' : World) : Prop :=
  Below w.heap.size w w' ∧ ((∃ v out, Z = some out ∧ e = .returned (.tuple #[v, .int .i64 0]) ∧ OBools w' w.heap.size v out) ∨ (Z = none ∧ e = .returned (.tuple #[.slice A L c, .int .i64 3])))
theorem made_bools (N : Nat) : (madeCells (Value.bool false).cells (N * 1)).toList = (List.replicate N false).map Value.bool := by
  apply List.ext_getElem?
  intro j
  by_cases hj : j < N
  · simp [madeCells, Value.cells, hj, Nat.mod_one]
  · rw [List.getElem?_eq_none (by simp [madeCells]; omega), List.getElem?_eq_none (by simp; omega)]
theorem below_none {B : Nat} {w w' : World} (h : w.grownBy w' none) (hB : B ≤ w.heap.size) : Below B w w' := (Below.refl _ _).grown h hB (fun k hk => by cases hk)
theorem rstG_cons (c : UInt8) (cs : List UInt8) (n : Nat) (d : Bool) (out : List Bool) : rstG (c :: cs) n d out = if dgt c then rstG cs (accN n c) true out else if c = 47 ∧ d = true then rstG cs 0 false (mark out n) else none := rfl
theorem drop_byte (s : ByteArray) (k : Nat) (hk : k < s.size) : s.data.toList.drop k = s[k] :: s.data.toList.drop (k + 1) := by
  rw [List.drop_eq_getElem_cons (by rw [data_len]; exact hk), data_at s k hk]
theorem mark_min (out : List Bool) (b : Nat) (h : out.length ≤ 500) : mark out (min b 501) = mark out b := by
  unfold mark
  by_cases hb : b ≤ 501
  · rw [Nat.min_eq_left hb]
  · rw [if_neg (by omega), if_neg (by omega)]
/-- What is left to read at a place. -/
def LeftK (s : ByteArray) (k b d : Nat) (out : List Bool) (Z : Option (List Bool)) : Prop :=
  (k ≤ s.size → rstG (s.data.toList.drop k) (min b 501) (decide (0 < d)) out = Z) ∧ (k = s.size + 1 → some out = Z)

set_option maxRecDepth 100000 in
set_option maxHeartbeats 16000000 in
theorem refRestore_any (A : Option Addr) (c : Nat) (l : List Bool) (hl : l.length ≤ 500) (s : ByteArray) (hs : s.size ≤ 100000) (w : World) :
    Calls Tryd.prog 24 #[.slice A l.length c, .string s] w (RefPost A c l.length (rstP s.data.toList l.length) w) := by
  obtain ⟨i0, hi0, hz0, hz1, hz2⟩ := info_parts info_bool
  have HI := Lib.hid hi0; have HZ0 := Lib.hid hz0; have HZ1 := Lib.hid hz1; have HZ2 := Lib.hid hz2
  clear hi0 hz0 hz1 hz2
  have hcase : (s.toList.isEmpty = true ∧ rstP s.data.toList l.length = some (List.replicate l.length false)) ∨ (s.toList.isEmpty = false ∧ LeftK s 0 0 0 (List.replicate l.length false) (rstP s.data.toList l.length)) := by
    unfold rstP LeftK
    rw [ByteArray.toList_eq]
    cases hd : s.data.toList with
    | nil => exact .inl ⟨rfl, by simp⟩
    | cons a b => exact .inr ⟨rfl, fun _ => by simp, fun h => by omega⟩
  have HCa := Lib.hid hcase
  clear hcase
  generalize hL : l.length = L at *
  generalize rstP s.data.toList L = Z at *
  clear hL l
  rcases HCa.out with ⟨he, hz⟩ | ⟨he, hz⟩
  · have HZ := Lib.hid hz
    clear hz HCa
    go_enter Tryd.func24, Tryd.ntmps24
    go_wp2_with (at_make; refine wpList_make_full _ rfl _ _ 25 rfl w.heap.size 4 i0 _ 1 Tryd.underlying25 HI.out HZ0.out HZ1.out _ _ _ _ L rfl rfl rfl rfl (by rw [HZ2.out]; omega) (by unfold maxLen; omega) (Nat.le_refl _) ?_; intro w1 hown hgr; have HOwn : Hid (OBools w1 w.heap.size (.slice (some ⟨w.heap.size, 0, none⟩) L L) (List.replicate L false)) := Lib.hid (by rw [made_bools] at hown; unfold OBools; rw [List.length_replicate]; exact hown); have HB1 := Lib.hid (below_none hgr (Nat.le_refl _)); clear hown hgr)
    go_loop [9] (fun i => i = .int .i64 0) (fun i => 0)
    case atStart => exact rfl
    case round =>
      subst hrel
      go_wp2_with fail
      go_ret2
      exact ⟨HB1.out, .inl ⟨_, _, HZ.out, rfl, HOwn.out⟩⟩
  · have HZ := Lib.hid hz
    clear hz HCa
    go_enter Tryd.func24, Tryd.ntmps24
    go_wp2_with (at_make; refine wpList_make_full _ rfl _ _ 25 rfl w.heap.size 4 i0 _ 1 Tryd.underlying25 HI.out HZ0.out HZ1.out _ _ _ _ L rfl rfl rfl rfl (by rw [HZ2.out]; omega) (by unfold maxLen; omega) (Nat.le_refl _) ?_; intro w1 hown hgr; have HOwn : Hid (OBools w1 w.heap.size (.slice (some ⟨w.heap.size, 0, none⟩) L L) (List.replicate L false)) := Lib.hid (by rw [made_bools] at hown; unfold OBools; rw [List.length_replicate]; exact hown); have HB1 := Lib.hid (below_none hgr (Nat.le_refl _)); clear hown hgr)
    go_loopw [7, 8, 9] (fun n g i wr => ∃ (k b d : Nat) (out : List Bool), k ≤ s.size + 1 ∧ b ≤ 100000 ∧ d ≤ k ∧ n = .int .i64 b ∧ g = .int .i64 d ∧ i = .int .i64 k ∧ out.length = L ∧ OBools wr w.heap.size (.slice (some ⟨w.heap.size, 0, none⟩) L L) out ∧ Below w.heap.size w wr ∧ LeftK s k b d out Z) (fun _ _ i _ => s.size + 1 - (intOf i).toNat)
    case atStart => exact ⟨0, 0, 0, _, by omega, by omega, by omega, rfl, rfl, rfl, by simp, HOwn.out, HB1.out, HZ.out⟩
    case round =>
      obtain ⟨k, b, d, out, hk, hb1, hdk, rfl, rfl, rfl, hol, hown, hb, hleft⟩ := hrel
      have HO := Lib.hid hown; have HB := Lib.hid hb; have HLf := Lib.hid hleft
      clear hown hb hleft HOwn HB1 HZ
      by_cases hle : k ≤ s.size
      · have hrst := HLf.out.1 hle
        by_cases hlt : k < s.size
        · rw [drop_byte s k hlt, rstG_cons] at hrst
          rcases hd : dgt s[k] with _ | _
          · have hx : ¬ (48 ≤ s[k].toNat ∧ s[k].toNat ≤ 57) := by unfold dgt at hd; simpa using hd
            rw [hd, if_neg (by simp)] at hrst
            have hdl : decide (k < s.size) = true := by simpa using hlt
            by_cases h47 : s[k] = 47
            · have hx47 : s[k].toNat = 47 := by rw [h47]; rfl
              have g1 : decide (48 ≤ (s[k].toNat : Int)) = false := by simp; omega
              have g2 : ((s[k].toNat : Int) != 47) = false := by simp; omega
              by_cases h0 : 0 < d
              · have g3 : ((d : Int) == 0) = false := by rw [beq_eq_false_iff_ne]; omega
                rw [if_pos ⟨h47, by simpa using h0⟩, mark_min _ _ (by omega)] at hrst
                have HNext : Hid (LeftK s (k + 1) 0 0 (mark out b) Z) := Lib.hid ⟨fun _ => by simpa using hrst, fun h => absurd h (by omega)⟩
                clear hrst hd hx h47 hx47 HLf
                by_cases hm : 1 ≤ b ∧ b ≤ L
                · have hm1 : decide (1 ≤ (b : Int)) = true := by simp; omega
                  have hm2 : decide (b ≤ L) = true := by simp; omega
                  obtain ⟨j, hbj⟩ : ∃ j, j = b - 1 := ⟨_, rfl⟩
                  have hmk : mark out b = out.set j true := by unfold mark; rw [if_pos (by omega), hbj]
                  rw [hmk] at HNext
                  have hj : j < out.length := by omega
                  obtain ⟨d0, f0⟩ := OBools.cell1 HO.out hol.symm hj
                  have HSt := Lib.hid (OBools.set1 HO.out hol.symm j true)
                  have HBt := Lib.hid (HB.out.setCell (p := ⟨w.heap.size, j, none⟩) (Nat.le_refl _) (.bool true))
                  have hw : IntKind.i64.wrap ((b : Int) - 1) = (j : Int) := by rw [IntWalk.i64_in _ (by omega)]; omega
                  have hlen2 : (out.set j true).length = L := by rw [List.length_set]; exact hol
                  have HW := Lib.hid hw
                  have HL2 := Lib.hid hlen2
                  clear hm hmk hw hlen2 hbj
                  generalize out.set j true = out2 at *
                  generalize out[j] = old at *
                  have hw := HW.out
                  go_wp2_with fail
                  clear hw
                  go_roundw
                  case rel => exact ⟨k + 1, 0, 0, out2, by omega, by omega, by omega, rfl, rfl, by go_num, HL2.out, HSt.out, HBt.out, HNext.out⟩
                  case measure => first | (simp [intOf]; done) | (simp [intOf]; omega)
                · have hmk : mark out b = out := by unfold mark; rw [if_neg (by omega)]
                  rw [hmk] at HNext
                  clear hmk
                  have hm3 : (decide (1 ≤ (b : Int)) = false) ∨ (decide (1 ≤ (b : Int)) = true ∧ decide (b ≤ L) = false) := by simp; omega
                  clear hm
                  rcases hm3 with hm1 | ⟨hm1, hm2⟩
                  all_goals
                    go_wp2_with fail
                    go_roundw
                    case rel => exact ⟨k + 1, 0, 0, out, by omega, by omega, by omega, rfl, rfl, by go_num, hol, HO.out, HB.out, HNext.out⟩
                    case measure => first | (simp [intOf]; done) | (simp [intOf]; omega)
              · obtain rfl : d = 0 := by omega
                rw [if_neg (by simp)] at hrst
                have HZn := Lib.hid hrst
                clear hrst hd hx h47 hx47 HLf h0
                go_wp2_with fail
                go_ret2
                exact ⟨HB.out, .inr ⟨HZn.out.symm, rfl⟩⟩
            · rw [if_neg (fun e => h47 e.1)] at hrst
              have HZn := Lib.hid hrst
              have hne : s[k].toNat ≠ 47 := fun e => h47 (UInt8.toNat_inj.1 e)
              have g2 : ((s[k].toNat : Int) != 47) = true := by simp; omega
              have hc : (decide (48 ≤ (s[k].toNat : Int)) = false) ∨ (decide (48 ≤ (s[k].toNat : Int)) = true ∧ decide ((s[k].toNat : Int) ≤ 57) = false) := by simp; omega
              clear hrst hd hx h47 HLf hne
              rcases hc with g1 | ⟨g1, g3⟩
              all_goals
                go_wp2_with fail
                go_ret2
                exact ⟨HB.out, .inr ⟨HZn.out.symm, rfl⟩⟩
          · have hx : 48 ≤ s[k].toNat ∧ s[k].toNat ≤ 57 := by unfold dgt at hd; simpa using hd
            rw [hd, if_pos rfl] at hrst
            have hdl : decide (k < s.size) = true := by simpa using hlt
            have g1 : decide (48 ≤ (s[k].toNat : Int)) = true := by simp; omega
            have g2 : decide ((s[k].toNat : Int) ≤ 57) = true := by simp; omega
            have HNext : Hid (∀ b', b' = min (10 * b + (s[k].toNat - 48)) 100000 → LeftK s (k + 1) b' (d + 1) out Z) := Lib.hid (fun b' hb' => ⟨fun _ => by
              rw [show min b' 501 = accN (min b 501) s[k] from by unfold accN; omega, show decide (0 < d + 1) = true from by simp]; exact hrst, fun h => absurd h (by omega)⟩)
            clear hrst hd HLf
            by_cases hbig : 100000 < 10 * b + (s[k].toNat - 48)
            · have g3 : decide (100000 < 10 * (b : Int) + ((s[k].toNat : Int) - 48)) = true := by simp; omega
              go_wp2_with fail
              go_roundw
              case rel => exact ⟨k + 1, 100000, d + 1, out, by omega, by omega, by omega, rfl, by go_num, by go_num, hol, HO.out, HB.out, HNext.out _ (by omega)⟩
              case measure => first | (simp [intOf]; done) | (simp [intOf]; omega)
            · have g3 : decide (100000 < 10 * (b : Int) + ((s[k].toNat : Int) - 48)) = false := by simp; omega
              go_wp2_with fail
              go_roundw
              case rel => exact ⟨k + 1, 10 * b + (s[k].toNat - 48), d + 1, out, by omega, by omega, by omega, by congr 1; omega, by go_num, by go_num, hol, HO.out, HB.out, HNext.out _ (by omega)⟩
              case measure => first | (simp [intOf]; done) | (simp [intOf]; omega)
        · have hdl : decide (k < s.size) = false := by simpa using hlt
          obtain rfl : k = s.size := by omega
          have hdr : s.data.toList.drop s.size = [] := List.drop_eq_nil_of_le (by rw [data_len]; exact Nat.le_refl _)
          rw [hdr] at hrst
          clear hdr hle hlt
          by_cases h0 : 0 < d
          · have g3 : ((d : Int) == 0) = false := by rw [beq_eq_false_iff_ne]; omega
            have hz : some (mark out b) = Z := by rw [← mark_min _ _ (by omega), ← hrst]; unfold rstG; rw [if_pos (by simpa using h0)]
            obtain ⟨k, hk2⟩ : ∃ k, k = s.size := ⟨_, rfl⟩
            have HNext : Hid (LeftK s (s.size + 1) 0 0 (mark out b) Z) := Lib.hid ⟨fun h => absurd h (by omega), fun _ => hz⟩
            clear hrst hz HLf
            by_cases hm : 1 ≤ b ∧ b ≤ L
            · have hm1 : decide (1 ≤ (b : Int)) = true := by simp; omega
              have hm2 : decide (b ≤ L) = true := by simp; omega
              obtain ⟨j, hbj⟩ : ∃ j, j = b - 1 := ⟨_, rfl⟩
              have hmk : mark out b = out.set j true := by unfold mark; rw [if_pos (by omega), hbj]
              rw [hmk] at HNext
              have hj : j < out.length := by omega
              obtain ⟨d0, f0⟩ := OBools.cell1 HO.out hol.symm hj
              have HSt := Lib.hid (OBools.set1 HO.out hol.symm j true)
              have HBt := Lib.hid (HB.out.setCell (p := ⟨w.heap.size, j, none⟩) (Nat.le_refl _) (.bool true))
              have hw : IntKind.i64.wrap ((b : Int) - 1) = (j : Int) := by rw [IntWalk.i64_in _ (by omega)]; omega
              have hlen2 : (out.set j true).length = L := by rw [List.length_set]; exact hol
              have HW := Lib.hid hw
              have HL2 := Lib.hid hlen2
              clear hm hmk hw hlen2 hbj
              generalize out.set j true = out2 at *
              generalize out[j] = old at *
              have hw := HW.out
              go_wp2_with fail
              clear hw
              go_roundw
              case rel => exact ⟨s.size + 1, 0, 0, out2, by omega, by omega, by omega, rfl, rfl, by go_num, HL2.out, HSt.out, HBt.out, HNext.out⟩
              case measure => first | (simp [intOf]; done) | (simp [intOf]; omega)
            · have hmk : mark out b = out := by unfold mark; rw [if_neg (by omega)]
              rw [hmk] at HNext
              clear hmk
              have hm3 : (decide (1 ≤ (b : Int)) = false) ∨ (decide (1 ≤ (b : Int)) = true ∧ decide (b ≤ L) = false) := by simp; omega
              clear hm
              rcases hm3 with hm1 | ⟨hm1, hm2⟩
              all_goals
                go_wp2_with fail
                go_roundw
                case rel => exact ⟨s.size + 1, 0, 0, out, by omega, by omega, by omega, rfl, rfl, by go_num, hol, HO.out, HB.out, HNext.out⟩
                case measure => first | (simp [intOf]; done) | (simp [intOf]; omega)
          · obtain rfl : d = 0 := by omega
            have HZn : Hid (none = Z) := Lib.hid (by rw [← hrst]; rfl)
            clear hrst HLf h0
            go_wp2_with fail
            go_ret2
            exact ⟨HB.out, .inr ⟨HZn.out.symm, rfl⟩⟩
      · obtain rfl : k = s.size + 1 := by omega
        have HZ2 := Lib.hid (HLf.out.2 rfl)
        clear hle
        go_wp2_with fail
        go_ret2
        exact ⟨HB.out, .inl ⟨_, out, HZ2.out.symm, rfl, HO.out⟩⟩
end Go.Proofs.YtnfdgioapbkonaaDoor
