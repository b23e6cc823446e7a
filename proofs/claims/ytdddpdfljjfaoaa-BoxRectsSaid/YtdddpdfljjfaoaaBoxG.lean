/-
  Boxes: margins.
-/
import Derived.Test.YtdddpdfljjfaoaaBoxC
import Derived.Test.YtdddpdfljjfaoaaBoxD
namespace Go.Proofs.Ytdddpdfljjfaoaa
open Go Go.RowKit

def spanT (n first last : Int) : Int × Int × Bool :=
  if (partT 0 n first last).2.2 = false ∨ cntP (partT 0 n first last).1 (partT 0 n first last).2.1 < 2 then (0, 0, false) else ((partT 0 n first last).1, (partT 0 n first last).2.1, true)
theorem partT_in (f b first last : Int) (h : (partT f b first last).2.2 = true) : f ≤ (partT f b first last).1 ∧ (partT f b first last).1 < (partT f b first last).2.1 ∧ (partT f b first last).2.1 ≤ b := by
  rcases part_cases f b first last with ⟨_, e⟩ | ⟨_, _, e⟩ | ⟨g0, g1, F, hF, ⟨_, e⟩ | ⟨h1, h2, _, y, hy, ⟨_, e⟩ | ⟨h3, e⟩⟩⟩
  all_goals rw [e] at h ⊢
  all_goals first | (cases h; done) | skip
  refine ⟨?_, ?_, ?_⟩ <;> simp only <;> omega
set_option maxRecDepth 100000 in
set_option maxHeartbeats 4000000 in
theorem span_any (n first last : Int) (h0 : -9223372036854775808 ≤ n) (h1 : n ≤ 9223372036854775807) (w : World) :
    Calls Try.prog 22 #[.int .i64 n, .int .i64 first, .int .i64 last] w fun e w' => e = .returned (.tuple #[.int .i64 (spanT n first last).1, .int .i64 (spanT n first last).2.1, .bool (spanT n first last).2.2]) ∧ Below w.heap.size w w' := by
  have HP := Lib.hid (fun W => part_any 0 n first last (by omega) (by omega) (by omega) h0 h1 W)
  have HI : Hid ((partT 0 n first last).2.2 = true → 0 ≤ (partT 0 n first last).1 ∧ (partT 0 n first last).1 < (partT 0 n first last).2.1 ∧ (partT 0 n first last).2.1 ≤ n) := Lib.hid (partT_in 0 n first last)
  have HV : Hid (spanT n first last = if (partT 0 n first last).2.2 = false ∨ cntP (partT 0 n first last).1 (partT 0 n first last).2.1 < 2 then (0, 0, false) else ((partT 0 n first last).1, (partT 0 n first last).2.1, true)) := Lib.hid rfl
  generalize spanT n first last = res at *
  obtain ⟨p, hp⟩ : ∃ p, p = partT 0 n first last := ⟨_, rfl⟩
  rw [← hp] at HP HI HV
  clear hp
  obtain ⟨x, y, ok⟩ := p
  simp only at HP HI HV
  unfold sV at *
  cases ok
  · have hv : res = (0, 0, false) := by rw [HV.out]; simp
    subst hv
    clear HV HI
    go_enter Try.func22, Try.ntmps22
    go_wp2_with fail
    refine (HP.out _).mono ?_
    rintro e w1 ⟨rfl, hb1⟩
    have HB1 := Lib.hid (bstep hb1 (new1 w1 48 (sC x y)).2)
    clear hb1
    go_wp2_with fail
    go_ret3
    exact ⟨rfl, HB1.out⟩
  · obtain ⟨g0, g1, g2⟩ := HI.out rfl
    have HC := Lib.hid (fun W => count_any x y (by omega) (by omega) W)
    rw [show cntP x y = y - x from if_neg (by omega)] at HC HV
    clear HI
    by_cases hlt : y - x < 2
    · have hv : res = (0, 0, false) := by rw [HV.out]; simp [hlt]
      subst hv
      clear HV g0 g1 g2
      generalize y - x = c at *
      unfold sV at *
      go_enter Try.func22, Try.ntmps22
      go_wp2_with fail
      refine (HP.out _).mono ?_
      rintro e w1 ⟨rfl, hb1⟩
      have HB1 := Lib.hid (bstep hb1 (new1 w1 48 (sC x y)).2)
      clear hb1
      go_wp2_with fail
      refine (HC.out _).mono ?_
      rintro e w2 ⟨rfl, hb2⟩
      have HB2 := Lib.hid (bstep HB1.out hb2)
      clear hb2
      go_wp2_with fail
      go_ret3
      exact ⟨rfl, HB2.out⟩
    · have hv : res = (x, y, true) := by rw [HV.out]; simp [hlt]
      subst hv
      clear HV g0 g1 g2
      generalize y - x = c at *
      unfold sV at *
      go_enter Try.func22, Try.ntmps22
      go_wp2_with fail
      refine (HP.out _).mono ?_
      rintro e w1 ⟨rfl, hb1⟩
      have HB1 := Lib.hid (bstep hb1 (new1 w1 48 (sC x y)).2)
      have HN := Lib.hid (new1 w1 48 (sC x y)).1
      clear hb1
      go_wp2_with fail
      refine (HC.out _).mono ?_
      rintro e w2 ⟨rfl, hb2⟩
      have HB2 := Lib.hid (bstep HB1.out hb2)
      obtain ⟨c0, c1, _⟩ := blk2 (HN.out.next hb2)
      clear hb2
      go_wp2_with fail
      go_quiet (fail)
      go_wp2
      go_ret3
      exact ⟨rfl, below_drewN HB2.out _⟩
end Go.Proofs.Ytdddpdfljjfaoaa
