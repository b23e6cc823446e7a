/-
  What the laws of the parser share: a fixed fact, the first bytes of a stream.
-/
import Derived.Test.YtdmiihmaijbkfaaPrsR
import Derived.Lib.SlBytesConst
namespace Go.Proofs.Ytdmiihmaijbkfaa
open Go Go.RowKit

theorem short_any (A : Option Addr) (cap : Nat) (ns : List Nat) (k : Nat) (hk : k < 100000000) (hcap : ns.length ≤ cap) (w : World) :
    Calls Try.prog 12 #[.slice A ns.length cap, .int .i64 k] w fun e w' => ∃ c2, e = .returned (.slice A (ns.take k).length c2) ∧ w' = w ∧ (ns.take k).length ≤ c2 := by
  by_cases h : k < ns.length
  · have hl : (ns.take k).length = k := by simp; omega
    rw [hl]
    have m1 : ((k : Int) < (ns.length : Int)) = True := eq_true (by omega)
    have m2 : ((k : Int) ≤ (cap : Int)) = True := eq_true (by omega)
    have m3 : (0 : Int) ≤ (k : Int) := by omega
    clear hl
    go_enter Try.func12, Try.ntmps12
    go_wp2_with fail
    go_ret
    exact ⟨_, rfl, rfl, by omega⟩
  · have hl : ns.take k = ns := List.take_of_length_le (by omega)
    rw [hl]
    have m1 : ((k : Int) < (ns.length : Int)) = False := eq_false (by omega)
    go_enter Try.func12, Try.ntmps12
    go_wp2_with fail
    go_ret
    exact ⟨_, rfl, rfl, hcap⟩
def awkNs : List Nat := [97, 27, 91, 49, 59, 10, 50, 109]
theorem awk_feed : (feedL ps0 awkNs).2 = [prtT 97, ctlT 10, ⟨4, 109, 0, [1, 2], ⟨#[]⟩, []⟩] := by kernel_rfl
set_option maxRecDepth 100000 in
set_option maxHeartbeats 4000000 in
theorem prsAwake_any (w : World) : Calls Try.prog 11 #[] w fun e w' => e = .returned (.bool true) ∧ Below w.heap.size w w' := by
  have hcv := Lib.run_convert_bytes_const (P := Try.prog) w 22 5 #[.int .u8 97, .int .u8 27, .int .u8 91, .int .u8 49, .int .u8 59, .int .u8 10, .int .u8 50, .int .u8 109] 8 8 Try.underlying22 Try.underlying5
  have HB : Hid (Below w.heap.size w (w.alloc (.cells #[.int .u8 97, .int .u8 27, .int .u8 91, .int .u8 49, .int .u8 59, .int .u8 10, .int .u8 50, .int .u8 109] 5 (8, 9)))) := Lib.hid ((Below.refl _ w).alloc (Nat.le_refl _) _)
  have HS : Hid (Calls Try.prog 17 #[.slice (some ⟨w.heap.size, 0, none⟩) 8 8] (w.alloc (.cells #[.int .u8 97, .int .u8 27, .int .u8 91, .int .u8 49, .int .u8 59, .int .u8 10, .int .u8 50, .int .u8 109] 5 (8, 9))) fun e w' => ∃ v, e = .returned v ∧ OTks w' (w.alloc (.cells #[.int .u8 97, .int .u8 27, .int .u8 91, .int .u8 49, .int .u8 59, .int .u8 10, .int .u8 50, .int .u8 109] 5 (8, 9))).heap.size v [prtT 97, ctlT 10, ⟨4, 109, 0, [1, 2], ⟨#[]⟩, []⟩] ∧ Below (w.alloc (.cells #[.int .u8 97, .int .u8 27, .int .u8 91, .int .u8 49, .int .u8 59, .int .u8 10, .int .u8 50, .int .u8 109] 5 (8, 9))).heap.size (w.alloc (.cells #[.int .u8 97, .int .u8 27, .int .u8 91, .int .u8 49, .int .u8 59, .int .u8 10, .int .u8 50, .int .u8 109] 5 (8, 9))) w') := Lib.hid (by
    have hb : (w.alloc (.cells #[.int .u8 97, .int .u8 27, .int .u8 91, .int .u8 49, .int .u8 59, .int .u8 10, .int .u8 50, .int .u8 109] 5 (8, 9))).heap[w.heap.size]? = some (.cells #[.int .u8 97, .int .u8 27, .int .u8 91, .int .u8 49, .int .u8 59, .int .u8 10, .int .u8 50, .int .u8 109] 5 (8, 9)) := by
      show (w.heap.push _)[w.heap.size]? = _
      simp
    have hr : RByt (w.alloc (.cells #[.int .u8 97, .int .u8 27, .int .u8 91, .int .u8 49, .int .u8 59, .int .u8 10, .int .u8 50, .int .u8 109] 5 (8, 9))) (some ⟨w.heap.size, 0, none⟩) awkNs := ⟨rfl, fun _ => ⟨_, rfl, by simp, fun j u hu => by rw [add_here, cell_of_row _ _ j _ _ _ hb, List.getElem?_toArray]; exact hu⟩⟩
    have := split_any (some ⟨w.heap.size, 0, none⟩) 8 awkNs (by decide) (by decide) _ hr
    rw [awk_feed] at this
    exact this)
  change (convert 22 22 (.slice (some ⟨w.heap.size, 0, none⟩) 8 8)).run Try.prog (w.alloc (.cells #[.int .u8 97, .int .u8 27, .int .u8 91, .int .u8 49, .int .u8 59, .int .u8 10, .int .u8 50, .int .u8 109] 5)) = .ok (.slice (some ⟨w.heap.size, 0, none⟩) 8 8) (w.alloc (.cells #[.int .u8 97, .int .u8 27, .int .u8 91, .int .u8 49, .int .u8 59, .int .u8 10, .int .u8 50, .int .u8 109] 5 (8, 9))) at hcv
  go_enter Try.func11, Try.ntmps11
  go_wp2_with fail
  refine HS.out.mono ?_
  rintro e w2 ⟨v, rfl, ho, hb⟩
  obtain ⟨A, c, rfl, hr⟩ := OTks.reads ho
  have HB2 := Lib.hid (HB.out.trans (hb.mono HB.out.size))
  obtain ⟨ad, P1, pc1, D1, dc1, rfl, _, _, x0, x1, _⟩ := hr.at_ (k := 1) (by decide)
  obtain ⟨ad', P2, pc2, D2, dc2, e', hi2, _, y0, y1, y2, y3, _⟩ := hr.at_ (k := 2) (by decide)
  injection e' with e'
  subst e'
  obtain ⟨ad2, u2, e2, _, z1, z2⟩ := Reads.at_ hi2 (k := 1) (by decide)
  subst e2
  obtain rfl : u2 = .int .i64 2 := by
    have : some (Value.int .i64 2) = some u2 := z1
    injection this with this
    exact this.symm
  change w2.cell? ⟨ad.block, ad.off + 6 + 1, none⟩ = some (.int .u8 10) at x1
  change w2.cell? ⟨ad.block, ad.off + 12, none⟩ = some (.int .i64 4) at y0
  change w2.cell? ⟨ad2.block, ad2.off + 1, none⟩ = some (.int .i64 2) at z2
  change w2.cell? ⟨ad.block, ad.off + 12 + 3, none⟩ = some (.slice (some ad2) 2 pc2) at y3
  clear ho hb hr HS hi2 x0 z1 y1 y2 hcv
  go_upto_region 2 with fail
  go_wp2_with fail
  go_ret
  exact ⟨rfl, HB2.out⟩
end Go.Proofs.Ytdmiihmaijbkfaa
