/-
  What a field of the cursor's report says: a number within reach, a byte's bits.
-/
import Derived.Test.YtfnamfkjbkhgeaaGreatDoorStaM
import Derived.Test.YtfnamfkjbkhgeaaGreatDoorParV
namespace Go.Proofs.YtfnamfkjbkhgeaaGreatDoor

open Go Go.RowKit

def rdNear (lo hi : Int) (s : ByteArray) : Int × Bool := match (parseV s.data.toList).1, (parseV s.data.toList).2 with
  | [n], 0 => (clipP n lo hi, true)
  | _, _ => (0, false)
def rdBits (lo hi : Int) (s : ByteArray) : Int × Bool := if s.size = 1 then (((s.data.toList.getD 0 0).toNat : Int) - 64, decide (((s.data.toList.getD 0 0).toNat : Int) - 64 = clipP (((s.data.toList.getD 0 0).toNat : Int) - 64) lo hi)) else (0, false)
def rdV (p : Int × Bool) : Value := .tuple #[.int .i64 p.1, .bool p.2]
def rchV (lo hi : Int) : Value := .agg #[.int .i64 lo, .int .i64 hi]
set_option maxRecDepth 100000 in
set_option maxHeartbeats 4000000 in
theorem rdNear_any (lo hi : Int) (s : ByteArray) (hs : s.size ≤ maxLen) (w : World) :
    Calls Tryz.prog 80 #[rchV lo hi, .string s] w fun e w' => e = .returned (rdV (rdNear lo hi s)) ∧ Below w.heap.size w w' := by
  have HP := Lib.hid (fun W => parse_all s hs W)
  obtain ⟨_, _, her⟩ := parseV_range s.data.toList
  unfold rdNear
  generalize (parseV s.data.toList).1 = ns at *
  generalize (parseV s.data.toList).2 = er at *
  have HC := Lib.hid (fun n W => clip_any n lo hi W)
  have hal : Below w.heap.size w (w.alloc (.cells #[.int .i64 lo, .int .i64 hi] 144)) := (Below.refl _ _).alloc (Nat.le_refl _) _
  have hB : Blk (w.alloc (.cells #[.int .i64 lo, .int .i64 hi] 144)) w.heap.size 144 #[.int .i64 lo, .int .i64 hi] := Blk.new _ _ _
  have HAl := Lib.hid hal; have HBk := Lib.hid hB
  clear hal hB
  unfold rchV
  by_cases hok : er = 0 ∧ ns.length = 1
  · obtain ⟨rfl, hl⟩ := hok
    obtain ⟨n, rfl⟩ : ∃ n, ns = [n] := by
      match ns, hl with
      | [n], _ => exact ⟨n, rfl⟩
    clear hl her
    show Calls _ _ _ _ fun e w' => e = .returned (.tuple #[.int .i64 (clipP n lo hi), .bool true]) ∧ _
    go_enter Tryz.func80, Tryz.ntmps80
    go_wp2_with fail
    refine (HP.out _).mono ?_
    rintro e w2 ⟨⟨A, c, rfl, hown⟩, hb⟩
    have HB2 := Lib.hid (HAl.out.trans (hb.mono HAl.out.size))
    have hBk2 := HBk.out.next hb
    have c0 := hBk2.cell 0
    have c1 := hBk2.cell 1
    obtain ⟨g, cur, rfl, _, hgB, hcur⟩ := hown.blk12 (by simp)
    have l0 : w2.cell? ⟨g, 0, none⟩ = some (.int .i64 n) := (Blk.cell hgB 0).trans (hcur 0 n rfl)
    have d0 : w2.drew.cell? ⟨w.heap.size, 0, none⟩ = some (.int .i64 lo) := c0
    have d1 : w2.drew.cell? ⟨w.heap.size, 1, none⟩ = some (.int .i64 hi) := c1
    have e0 : w2.drew.cell? ⟨g, 0, none⟩ = some (.int .i64 n) := l0
    clear hb hBk2 hown hgB hcur
    --#1
    go_upto_region 4 with fail
    go_region_with (go_at_call 68; refine (HC.out _ _).mono ?_; rintro e w3 ⟨rfl, rfl⟩)
    all_goals
      go_wp2_with fail
      go_ret2
      exact ⟨rfl, HB2.out.drew⟩
  · have hr : (match ns, er with
      | [n], 0 => (clipP n lo hi, true)
      | _, _ => ((0 : Int), false)) = (0, false) := by
      split
      · exact absurd ⟨rfl, rfl⟩ hok
      · rfl
    rw [hr]
    show Calls _ _ _ _ fun e w' => e = .returned (.tuple #[.int .i64 0, .bool false]) ∧ _
    have hcs : (er = 3) ∨ (er = 0 ∧ ((ns.length : Int) != 1) = true) := by
      rcases her with h | h
      · refine .inr ⟨h, ?_⟩
        have : ns.length ≠ 1 := fun g => hok ⟨h, g⟩
        simp; omega
      · exact .inl h
    clear hr hok her
    rcases hcs with rfl | ⟨rfl, hl⟩
    all_goals
      go_enter Tryz.func80, Tryz.ntmps80
      go_wp2_with fail
      refine (HP.out _).mono ?_
      rintro e w2 ⟨⟨A, c, rfl, _⟩, hb⟩
      have HB2 := Lib.hid (HAl.out.trans (hb.mono HAl.out.size))
      clear hb
      go_wp2_with fail
      go_ret2
      exact ⟨rfl, HB2.out⟩
set_option maxRecDepth 100000 in
set_option maxHeartbeats 4000000 in
theorem rdBits_any (lo hi : Int) (s : ByteArray) (hs : s.size ≤ maxLen) (w : World) :
    Calls Tryz.prog 81 #[rchV lo hi, .string s] w fun e w' => e = .returned (rdV (rdBits lo hi s)) ∧ Below w.heap.size w w' := by
  have HC := Lib.hid (fun n W => clip_any n lo hi W)
  have hal : Below w.heap.size w (w.alloc (.cells #[.int .i64 lo, .int .i64 hi] 144)) := (Below.refl _ _).alloc (Nat.le_refl _) _
  have hB : Blk (w.alloc (.cells #[.int .i64 lo, .int .i64 hi] 144)) w.heap.size 144 #[.int .i64 lo, .int .i64 hi] := Blk.new _ _ _
  have HAl := Lib.hid hal
  have c0 := hB.cell 0
  have c1 := hB.cell 1
  clear hal hB
  unfold rchV rdBits
  by_cases h1 : s.size = 1
  · rw [if_pos h1]
    have hc : (s.data.toList.getD 0 0).toNat = (s[0]'(by omega)).toNat := by
      obtain ⟨⟨l⟩⟩ := s
      match l, h1 with
      | [a], _ => rfl
    rw [hc]
    have hlt : (s[0]'(by omega)).toNat < 256 := UInt8.toNat_lt _
    have hw0 : IntKind.i64.wrap ((s[0]'(by omega)).toNat : Int) = ((s[0]'(by omega)).toNat : Int) := IntWalk.i64_in _ (by omega)
    have hw1 : IntKind.i64.wrap (((s[0]'(by omega)).toNat : Int) - 64) = ((s[0]'(by omega)).toNat : Int) - 64 := IntWalk.i64_in _ (by omega)
    have g1 : ((s.size : Int) != 1) = false := by simp; omega
    have g0 : (0 : Int) < (s.size : Int) := by omega
    show Calls _ _ _ _ fun e w' => e = .returned (.tuple #[.int .i64 (((s[0]'(by omega)).toNat : Int) - 64), .bool (decide (((s[0]'(by omega)).toNat : Int) - 64 = clipP (((s[0]'(by omega)).toNat : Int) - 64) lo hi))]) ∧ _
    clear hc
    --#2
    go_enter Tryz.func81, Tryz.ntmps81
    go_wp2_with (refine (HC.out _ _).mono ?_; rintro e w3 ⟨rfl, rfl⟩)
    go_ret2
    exact ⟨by rfl, HAl.out⟩
  · rw [if_neg h1]
    have g1 : ((s.size : Int) != 1) = true := by simp; omega
    show Calls _ _ _ _ fun e w' => e = .returned (.tuple #[.int .i64 0, .bool false]) ∧ _
    go_enter Tryz.func81, Tryz.ntmps81
    go_wp2_with fail
    go_ret2
    exact ⟨rfl, HAl.out⟩
end Go.Proofs.YtfnamfkjbkhgeaaGreatDoor
