/-
  Boxes, the document's own answers: a place that numbers tell; numbers that are no greater than they need be.
-/
import Derived.Test.YtdddpdfljjfaoaaBoxN
import Derived.Test.YtdddpdfljjfaoaaBoxM
namespace Go.Proofs.Ytdddpdfljjfaoaa
open Go Go.RowKit

theorem calls_small {P : Program} {f : FuncId} {args : Array Value} {w : World} {v : Value} (h : Calls P f args w fun e w' => e = .returned v ∧ w = w') : Calls P f args w fun e w' => e = .returned v ∧ Below w.heap.size w w' := calls_same h
def refPlaceT (t l b r : Int) (ns : List Int) (i : Int) : Int × Int :=
  if bEm t l b r = true then (t, l) else (t + nearP (atP (dropP ns i) (0 : Nat)) 1 (b - t + 1) - 1, l + nearP (atP (dropP ns i) (1 : Nat)) 1 (r - l + 1) - 1)
set_option maxRecDepth 100000 in
set_option maxHeartbeats 4000000 in
theorem refPlace_any (t l b r : Int) (ht : Sm t) (hl : Sm l) (hb0 : Sm b) (hr : Sm r) (A : Option Addr) (c : Nat) (ns : List Int) (hm : ns.length ≤ 17592186043904) (i : Int) (i0 : -9223372036854775808 ≤ i) (i1 : i ≤ 9223372036854775807) (w : World) (hR : RInts w A ns) :
    Calls Try.prog 28 #[bV t l b r, .slice A ns.length c, .int .i64 i] w fun e w' => e = .returned (pV (refPlaceT t l b r ns i).1 (refPlaceT t l b r ns i).2) ∧ Below w.heap.size w w' := by
  unfold Sm at *
  have HE := Lib.hid (fun W => refEmpty_any t l b r W)
  have HW0 := Lib.hid (fun W h => calls_same (number_any A c ns hm i i0 i1 0 (by omega) W h))
  have HW1 := Lib.hid (fun W h => calls_same (number_any A c ns hm i i0 i1 1 (by omega) W h))
  have HR := Lib.hid hR
  have HK := Lib.hid (new2 w 23 25 (bC t l b r) (sC 0 0))
  cases hx : bEm t l b r
  · obtain ⟨hlt1, hlt2⟩ := bEm_false hx
    have hq : refPlaceT t l b r ns i = (t + nearP (atP (dropP ns i) (0 : Nat)) 1 (b - t + 1) - 1, l + nearP (atP (dropP ns i) (1 : Nat)) 1 (r - l + 1) - 1) := by unfold refPlaceT; rw [hx]; simp
    have HV := Lib.hid hq
    generalize refPlaceT t l b r ns i = res at *
    rw [hx] at HE
    clear hq hx hR
    generalize atP (dropP ns i) (0 : Nat) = n0 at *
    generalize atP (dropP ns i) (1 : Nat) = n1 at *
    have HN1 := Lib.hid (fun W => calls_same (near_any n0 1 (b - t + 1) (by omega) (by omega) W))
    have HN2 := Lib.hid (fun W => calls_same (near_any n1 1 (r - l + 1) (by omega) (by omega) W))
    have hx1 : 1 ≤ nearP n0 1 (b - t + 1) ∧ nearP n0 1 (b - t + 1) ≤ b - t := by unfold nearP; split <;> (try split) <;> omega
    have hx2 : 1 ≤ nearP n1 1 (r - l + 1) ∧ nearP n1 1 (r - l + 1) ≤ r - l := by unfold nearP; split <;> (try split) <;> omega
    generalize nearP n0 1 (b - t + 1) = x at *
    generalize nearP n1 1 (r - l + 1) = y at *
    have s1 : IntKind.i64.wrap (b - t) = b - t := IntWalk.i64_in _ (by omega)
    have s2 : IntKind.i64.wrap (b - t + 1) = b - t + 1 := IntWalk.i64_in _ (by omega)
    have s3 : IntKind.i64.wrap (r - l) = r - l := IntWalk.i64_in _ (by omega)
    have s4 : IntKind.i64.wrap (r - l + 1) = r - l + 1 := IntWalk.i64_in _ (by omega)
    obtain rfl : res = (t + x - 1, l + y - 1) := HV.out
    clear HV hlt1 hlt2
    generalize hns : ns.length = n at *
    clear hns
    unfold bV pV at *
    go_enter Try.func28, Try.ntmps28
    go_wp2_with fail
    refine (HE.out _).mono ?_
    rintro e w1 ⟨rfl, hb1⟩
    go_wp2_with fail
    refine world_gen (fun W => Blk W w.heap.size 23 (bC t l b r) ∧ Blk W (w.heap.size + 1) 25 (sC 0 0) ∧ Below w.heap.size w W) ⟨HK.out.1.next hb1, HK.out.2.1.next hb1, bstep HK.out.2.2 hb1⟩ ?_
    intro W HP
    clear hb1
    have HB := Lib.hid HP
    clear HP
    have HC := Lib.hid (fun w' (h : Only [] W w') => blk4 (h.blk HB.out.1 (by simp)))
    have HRW : Hid (∀ w', Only [] W w' → RInts w' A ns) := Lib.hid (fun w' h => rints_only HR.out HB.out.2.2 (by simp) h)
    refine wp_region_mix_lit (by kernel_rfl) [(2, .call (.int .i64 n0)), (9, .call (.int .i64 x))] (by kernel_rfl) (by kernel_rfl) (by kernel_rfl) (by rfl) (by simp [apartK] <;> omega) (by simp [startK]) (by simp [stabK]) (⟨fun _ => undef, by simp [okK]⟩) (fun β hβ => ?_)
    repeat (
      refine lex_val (v := ?_) rfl rfl (fun w' hf => ?_) ?_
      rotate_left
      · obtain ⟨c0, c1, c2, c3, _⟩ := HC.out w' hf.only; go_simp
        try rfl
      try simp only [Act.put, List.setIfInBounds_toArray, List.set_cons_zero, List.set_cons_succ])
    refine lex_call (f := 41) (args := ?_) rfl rfl (fun w' hf => ?_) (fun w' hf => ?_) ?_
    rotate_left
    · go_simp
      try rfl
    · exact HW0.out w' (HRW.out w' hf.only)
    try simp only [Act.put, List.setIfInBounds_toArray, List.set_cons_zero, List.set_cons_succ]
    repeat (
      refine lex_val (v := ?_) rfl rfl (fun w' hf => ?_) ?_
      rotate_left
      · obtain ⟨c0, c1, c2, c3, _⟩ := HC.out w' hf.only; go_simp
        try rfl
      try simp only [Act.put, List.setIfInBounds_toArray, List.set_cons_zero, List.set_cons_succ])
    refine lex_call (f := 37) (args := ?_) rfl rfl (fun w' hf => ?_) (fun w' hf => ?_) ?_
    rotate_left
    · go_simp
      try rfl
    · exact HN1.out w'
    try simp only [Act.put, List.setIfInBounds_toArray, List.set_cons_zero, List.set_cons_succ]
    repeat (
      refine lex_val (v := ?_) rfl rfl (fun w' hf => ?_) ?_
      rotate_left
      · go_simp
        try rfl
      try simp only [Act.put, List.setIfInBounds_toArray, List.set_cons_zero, List.set_cons_succ])
    refine lex_nil fun w3 he => ?_
    have HB2 := Lib.hid (show Blk w3 w.heap.size 23 (bC t l b r) ∧ Blk w3 (w.heap.size + 1) 25 (sC 0 0) ∧ Below w.heap.size w w3 from ⟨HB.out.1.next he.only.below0, HB.out.2.1.next he.only.below0, bstep HB.out.2.2 he.only.below0⟩)
    clear he HC HRW hβ HB
    have HC := Lib.hid (fun w' (h : Only [] w3 w') => blk4 (h.blk HB2.out.1 (by simp)))
    have HRW : Hid (∀ w', Only [] w3 w' → RInts w' A ns) := Lib.hid (fun w' h => rints_only HR.out HB2.out.2.2 (by simp) h)
    go_wp2_with fail
    refine wp_region_mix_lit (by kernel_rfl) [(2, .call (.int .i64 n1)), (9, .call (.int .i64 y))] (by kernel_rfl) (by kernel_rfl) (by kernel_rfl) (by rfl) (by simp [apartK] <;> omega) (by simp [startK]) (by simp [stabK]) (⟨fun _ => undef, by simp [okK]⟩) (fun β hβ => ?_)
    repeat (
      refine lex_val (v := ?_) rfl rfl (fun w' hf => ?_) ?_
      rotate_left
      · obtain ⟨c0, c1, c2, c3, _⟩ := HC.out w' hf.only; go_simp
        try rfl
      try simp only [Act.put, List.setIfInBounds_toArray, List.set_cons_zero, List.set_cons_succ])
    refine lex_call (f := 41) (args := ?_) rfl rfl (fun w' hf => ?_) (fun w' hf => ?_) ?_
    rotate_left
    · go_simp
      try rfl
    · exact HW1.out w' (HRW.out w' hf.only)
    try simp only [Act.put, List.setIfInBounds_toArray, List.set_cons_zero, List.set_cons_succ]
    repeat (
      refine lex_val (v := ?_) rfl rfl (fun w' hf => ?_) ?_
      rotate_left
      · obtain ⟨c0, c1, c2, c3, _⟩ := HC.out w' hf.only; go_simp
        try rfl
      try simp only [Act.put, List.setIfInBounds_toArray, List.set_cons_zero, List.set_cons_succ])
    refine lex_call (f := 37) (args := ?_) rfl rfl (fun w' hf => ?_) (fun w' hf => ?_) ?_
    rotate_left
    · go_simp
      try rfl
    · exact HN2.out w'
    try simp only [Act.put, List.setIfInBounds_toArray, List.set_cons_zero, List.set_cons_succ]
    repeat (
      refine lex_val (v := ?_) rfl rfl (fun w' hf => ?_) ?_
      rotate_left
      · go_simp
        try rfl
      try simp only [Act.put, List.setIfInBounds_toArray, List.set_cons_zero, List.set_cons_succ])
    refine lex_nil fun w4 he => ?_
    have HB3 := Lib.hid (show Blk w4 w.heap.size 23 (bC t l b r) ∧ Blk w4 (w.heap.size + 1) 25 (sC 0 0) ∧ Below w.heap.size w w4 from ⟨HB2.out.1.next he.only.below0, HB2.out.2.1.next he.only.below0, bstep HB2.out.2.2 he.only.below0⟩)
    clear he HC HRW hβ HB2 s1 s2 s3 s4
    obtain ⟨c0, c1, c2, c3, _⟩ := blk4 HB3.out.1
    obtain ⟨_, _, z0, z1⟩ := blk2 HB3.out.2.1
    obtain ⟨e0, e1, _⟩ := blk2 (repl2 HB3.out.2.1 (.int .i64 (t + x - 1)) (.int .i64 (l + y - 1))).here
    obtain ⟨x1, x2⟩ := hx1
    obtain ⟨y1, y2⟩ := hx2
    obtain ⟨ht0, ht1⟩ := ht
    obtain ⟨hl0, hl1⟩ := hl
    obtain ⟨hb0, hb1⟩ := hb0
    obtain ⟨hr0, hr1⟩ := hr
    go_wp2_with fail
    exact bodyPost_ret (v := .agg #[.int .i64 (t + x - 1), .int .i64 (l + y - 1)]) (by simp [results, Try.results28, go_sem, e0, e1]) rfl ⟨rfl, (HB3.out.2.2.setCell (by simp) _).setCell (by simp) _⟩
  · have e : refPlaceT t l b r ns i = (t, l) := by unfold refPlaceT; rw [hx]; simp
    rw [e]
    rw [hx] at HE
    clear ht hl hb0 hr hm hR hx HW0 HW1 e
    unfold bV pV at *
    go_enter Try.func28, Try.ntmps28
    go_wp2_with fail
    refine (HE.out _).mono ?_
    rintro e w1 ⟨rfl, hb1⟩
    obtain ⟨c0, c1, c2, c3, _⟩ := blk4 (HK.out.1.next hb1)
    have HK1 := Lib.hid (HK.out.2.1.next hb1)
    obtain ⟨_, _, z0, z1⟩ := blk2 HK1.out
    have HB1 := Lib.hid (bstep HK.out.2.2 hb1)
    clear hb1
    go_wp2_with fail
    obtain ⟨e0, e1, _⟩ := blk2 (repl2 HK1.out (.int .i64 t) (.int .i64 l)).here
    exact bodyPost_ret (v := .agg #[.int .i64 t, .int .i64 l]) (by simp [results, Try.results28, go_sem, e0, e1]) rfl ⟨rfl, (HB1.out.setCell (by simp) _).setCell (by simp) _⟩

/-- Are these numbers no greater than they need be? -/
def smN (n : Int) : Bool := decide (-1000000 ≤ n) && decide (n ≤ 1000000)
def smB (t l b r : Int) : Bool := smN t && (smN l && (smN b && smN r))
set_option maxHeartbeats 8000000 in
theorem small_any (t l b r : Int) (w : World) :
    Calls Try.prog 18 #[bV t l b r] w fun e w' => e = .returned (.bool (smB t l b r)) ∧ Below w.heap.size w w' := by
  have HB := Lib.hid (new1 w 23 (bC t l b r)).2
  have i0 : ∀ w : World, (Instr.index 54 (.agg #[.int .i64 t, .int .i64 l, .int .i64 b, .int .i64 r]) (.int .i64 0)).run Try.prog w = .ok (.int .i64 t) w := fun _ => by kernel_rfl
  have i1 : ∀ w : World, (Instr.index 54 (.agg #[.int .i64 t, .int .i64 l, .int .i64 b, .int .i64 r]) (.int .i64 1)).run Try.prog w = .ok (.int .i64 l) w := fun _ => by kernel_rfl
  have i2 : ∀ w : World, (Instr.index 54 (.agg #[.int .i64 t, .int .i64 l, .int .i64 b, .int .i64 r]) (.int .i64 2)).run Try.prog w = .ok (.int .i64 b) w := fun _ => by kernel_rfl
  have i3 : ∀ w : World, (Instr.index 54 (.agg #[.int .i64 t, .int .i64 l, .int .i64 b, .int .i64 r]) (.int .i64 3)).run Try.prog w = .ok (.int .i64 r) w := fun _ => by kernel_rfl
  have HV : Hid (smB t l b r = (smN t && (smN l && (smN b && smN r)))) := Lib.hid rfl
  generalize smB t l b r = v at *
  unfold bV
  go_enter Try.func18, Try.ntmps18
  go_wp2_with fail
  go_loop [4, 14, 15, 16, 17, 18, 19, 20, 21, 22, 23] (fun _ i _ _ _ _ _ _ _ _ _ => i = .int .i64 0 ∨ (i = .int .i64 1 ∧ smN t = true) ∨ (i = .int .i64 2 ∧ smN t = true ∧ smN l = true) ∨ (i = .int .i64 3 ∧ smN t = true ∧ smN l = true ∧ smN b = true) ∨ (i = .int .i64 4 ∧ smN t = true ∧ smN l = true ∧ smN b = true ∧ smN r = true)) (fun _ i _ _ _ _ _ _ _ _ _ => 4 - (intOf i).toNat)
  case atStart => exact .inl rfl
  case round =>
    rcases hrel with rfl | ⟨rfl, h0⟩ | ⟨rfl, h0, h1⟩ | ⟨rfl, h0, h1, h2⟩ | ⟨rfl, h0, h1, h2, h3⟩
    · by_cases a1 : t < -1000000
      · have hv : v = false := by rw [HV.out]; unfold smN; simp; omega
        subst hv
        go_wp2_with fail
        go_ret
        exact ⟨rfl, HB.out⟩
      · by_cases a2 : t > 1000000
        · have hv : v = false := by rw [HV.out]; unfold smN; simp; omega
          have a1' : decide (t < -1000000) = false := by simpa using a1
          subst hv
          go_wp2_with fail
          go_ret
          exact ⟨rfl, HB.out⟩
        · have hs0 : Hid (smN t = true) := Lib.hid (by unfold smN; simp; omega)
          have a1' : decide (t < -1000000) = false := by simpa using a1
          have a2' : decide (t > 1000000) = false := by simpa using a2
          go_wp2_with fail
          go_round
          case rel => exact Or.inr (Or.inl ⟨rfl, hs0.out⟩)
          case measure => simp [intOf]
    · have H0 := Lib.hid h0; clear h0
      by_cases a1 : l < -1000000
      · have hv : v = false := by rw [HV.out]; unfold smN; simp; omega
        subst hv
        go_wp2_with fail
        go_ret
        exact ⟨rfl, HB.out⟩
      · by_cases a2 : l > 1000000
        · have hv : v = false := by rw [HV.out]; unfold smN; simp; omega
          have a1' : decide (l < -1000000) = false := by simpa using a1
          subst hv
          go_wp2_with fail
          go_ret
          exact ⟨rfl, HB.out⟩
        · have hs1 : Hid (smN l = true) := Lib.hid (by unfold smN; simp; omega)
          have a1' : decide (l < -1000000) = false := by simpa using a1
          have a2' : decide (l > 1000000) = false := by simpa using a2
          go_wp2_with fail
          go_round
          case rel => exact Or.inr (Or.inr (Or.inl ⟨rfl, H0.out, hs1.out⟩))
          case measure => simp [intOf]
    · have H0 := Lib.hid h0; have H1 := Lib.hid h1; clear h0 h1
      by_cases a1 : b < -1000000
      · have hv : v = false := by rw [HV.out]; unfold smN; simp; omega
        subst hv
        go_wp2_with fail
        go_ret
        exact ⟨rfl, HB.out⟩
      · by_cases a2 : b > 1000000
        · have hv : v = false := by rw [HV.out]; unfold smN; simp; omega
          have a1' : decide (b < -1000000) = false := by simpa using a1
          subst hv
          go_wp2_with fail
          go_ret
          exact ⟨rfl, HB.out⟩
        · have hs2 : Hid (smN b = true) := Lib.hid (by unfold smN; simp; omega)
          have a1' : decide (b < -1000000) = false := by simpa using a1
          have a2' : decide (b > 1000000) = false := by simpa using a2
          go_wp2_with fail
          go_round
          case rel => exact Or.inr (Or.inr (Or.inr (Or.inl ⟨rfl, H0.out, H1.out, hs2.out⟩)))
          case measure => simp [intOf]
    · have H0 := Lib.hid h0; have H1 := Lib.hid h1; have H2 := Lib.hid h2; clear h0 h1 h2
      by_cases a1 : r < -1000000
      · have hv : v = false := by rw [HV.out]; unfold smN; simp; omega
        subst hv
        go_wp2_with fail
        go_ret
        exact ⟨rfl, HB.out⟩
      · by_cases a2 : r > 1000000
        · have hv : v = false := by rw [HV.out]; unfold smN; simp; omega
          have a1' : decide (r < -1000000) = false := by simpa using a1
          subst hv
          go_wp2_with fail
          go_ret
          exact ⟨rfl, HB.out⟩
        · have hs3 : Hid (smN r = true) := Lib.hid (by unfold smN; simp; omega)
          have a1' : decide (r < -1000000) = false := by simpa using a1
          have a2' : decide (r > 1000000) = false := by simpa using a2
          go_wp2_with fail
          go_round
          case rel => exact Or.inr (Or.inr (Or.inr (Or.inr ⟨rfl, H0.out, H1.out, H2.out, hs3.out⟩)))
          case measure => simp [intOf]
    · have hv : v = true := by rw [HV.out, h0, h1, h2, h3]; rfl
      subst hv
      clear h0 h1 h2 h3
      go_wp2_with fail
      go_ret
      exact ⟨rfl, HB.out⟩
end Go.Proofs.Ytdddpdfljjfaoaa
