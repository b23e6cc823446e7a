/-
  The walks of the reference: a number of digits, a text of numbers piece by piece.
-/
import Derived.Test.YtpiliicphoacfaaDoorParE
namespace Go.Proofs.YtpiliicphoacfaaDoor

open Go.RowKit

/-- The number of the digits so far, where it stops growing. -/
theorem sat_snoc (l : List UInt8) (k : Nat) (h : k < l.length) : sat (l.take (k + 1)) = sat1 (sat (l.take k)) (dgt l[k]) := by
  unfold sat; rw [take_snoc l k h, List.foldl_append]; rfl
theorem sat_stop (l : List UInt8) (h : ∀ b ∈ l, 48 ≤ b.toNat ∧ b.toNat ≤ 57) (k : Nat) (hk : sat (l.take k) = 65535) : sat l = 65535 := by
  have key : ∀ m : List UInt8, (∀ b ∈ m, 48 ≤ b.toNat ∧ b.toNat ≤ 57) → m.foldl (fun n b => sat1 n (dgt b)) 65535 = 65535 := by
    intro m
    induction m with
    | nil => intro _; rfl
    | cons b m ih =>
      intro hm
      have hb := hm b (by simp)
      have : sat1 65535 (dgt b) = 65535 := by unfold sat1 dgt; omega
      rw [List.foldl_cons, this]
      exact ih (fun c hc => hm c (by simp [hc]))
  have e : l = l.take k ++ l.drop k := (List.take_append_drop k l).symm
  rw [e]; unfold sat; rw [List.foldl_append]
  have hk' : (l.take k).foldl (fun n b => sat1 n (dgt b)) 0 = 65535 := hk
  rw [hk']
  exact key _ (fun b hb => h b (List.mem_of_mem_drop hb))
theorem sat_range (l : List UInt8) (h : ∀ b ∈ l, 48 ≤ b.toNat ∧ b.toNat ≤ 57) : 0 ≤ sat l ∧ sat l ≤ 65535 := by
  have key : ∀ (m : List UInt8) (x : Int), 0 ≤ x → x ≤ 65535 → (∀ b ∈ m, 48 ≤ b.toNat ∧ b.toNat ≤ 57) → 0 ≤ m.foldl (fun n b => sat1 n (dgt b)) x ∧ m.foldl (fun n b => sat1 n (dgt b)) x ≤ 65535 := by
    intro m
    induction m with
    | nil => intro x h0 h1 _; exact ⟨h0, h1⟩
    | cons b m ih =>
      intro x h0 h1 hm
      have hb := hm b (by simp)
      have := sat1_range (n := x) (d := dgt b) h0 (by unfold dgt; omega)
      exact ih _ this.1 this.2 (fun c hc => hm c (by simp [hc]))
  exact key l 0 (by omega) (by omega) h

set_option maxHeartbeats 1000000 in
theorem number_any (s : ByteArray) (hs : s.size ≤ maxLen) (hd : ∀ b ∈ s.data.toList, 48 ≤ b.toNat ∧ b.toNat ≤ 57) (w : World) :
    Calls Tryd.prog 98 #[.string s] w fun e w' => e = .returned (.int .i64 (sat s.data.toList)) ∧ w = w' := by
  unfold maxLen at hs
  have HD := Lib.hid hd
  clear hd
  go_enter Tryd.func98, Tryd.ntmps98
  go_wp2_with fail
  go_loop [3, 4] (fun n i => ∃ k : Nat, k ≤ s.size ∧ i = .int .i64 k ∧ n = .int .i64 (sat (s.data.toList.take k))) (fun _ i => s.size - (intOf i).toNat)
  case atStart => exact ⟨0, by omega, rfl, rfl⟩
  case round =>
    obtain ⟨k, hk, rfl, rfl⟩ := hrel
    by_cases hlt : k < s.size
    · have hl : k < s.data.toList.length := by simpa using hlt
      have HS := Lib.hid (sat_snoc s.data.toList k hl)
      have HStop := Lib.hid (sat_stop s.data.toList HD.out (k + 1))
      obtain ⟨r0, r1⟩ := sat_range (s.data.toList.take k) (fun b hb => HD.out b (List.mem_of_mem_take hb))
      have hb := HD.out s.data.toList[k] (List.getElem_mem hl)
      have eb : s.data.toList[k] = s[k] := by simp; rfl
      rw [eb] at hb HS
      have HG : Hid (dgt s[k] = (s[k].toNat : Int) - 48) := Lib.hid rfl
      obtain ⟨b0, b1⟩ := hb
      clear eb
      generalize sat (s.data.toList.take k) = x at *
      generalize dgt s[k] = d at *
      have e1 : ((s[k].toNat : Int) - 48) % 256 = (s[k].toNat : Int) - 48 := by omega
      by_cases hgt : 65535 < 10 * x + ((s[k].toNat : Int) - 48)
      · go_wp2_with fail
        go_ret
        exact ⟨ret_int (by rw [HStop.out (by rw [HS.out]; unfold sat1; have := HG.out; omega)]), rfl⟩
      · go_wp2_with fail
        go_round
        case rel => exact ⟨k + 1, by omega, by go_num, by rw [HS.out, show sat1 x d = 10 * x + ((s[k].toNat : Int) - 48) from by unfold sat1; have := HG.out; omega]⟩
        case measure => simp [intOf]; omega
    · obtain rfl : k = s.size := by omega
      go_wp2_with fail
      go_ret
      exact ⟨ret_int (by rw [List.take_of_length_le (by show s.data.toList.length ≤ s.data.size; simp)]), rfl⟩
end Go.Proofs.YtpiliicphoacfaaDoor
