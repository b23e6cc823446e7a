/-
  Boxes: a place that numbers tell.
-/
import Derived.Test.YtdddpdfljjfaoaaBoxI
namespace Go.Proofs.Ytdddpdfljjfaoaa
open Go Go.RowKit

def placeQ (t l b r n0 n1 : Int) : Int × Int := if bEm t l b r = true then (t, l) else (t + clipP n0 1 (b - t) - 1, l + clipP n1 1 (r - l) - 1)
def placeT (t l b r : Int) (ns : List Int) (i : Int) : Int × Int := placeQ t l b r (atP (dropP ns i) 0) (atP (dropP ns i) 1)
set_option maxRecDepth 100000 in
set_option maxHeartbeats 4000000 in
theorem place_any (t l b r : Int) (ht : Sm t) (hl : Sm l) (hb0 : Sm b) (hr : Sm r) (A : Option Addr) (c : Nat) (ns : List Int) (hm : ns.length ≤ 17592186043904) (hc : ns.length ≤ c) (i : Int) (w : World) (hR : RInts w A ns) :
    Calls Try.prog 27 #[bV t l b r, .slice A ns.length c, .int .i64 i] w fun e w' => e = .returned (pV (placeT t l b r ns i).1 (placeT t l b r ns i).2) ∧ Below w.heap.size w w' := by
  unfold Sm at *
  have HF := Lib.hid (fun W => numbersFrom_any A c ns hm hc i W)
  have HS := Lib.hid (fun W => sides_any t l b r W)
  have HE := Lib.hid (fun W => empty_any t l b r W)
  have HW0 := Lib.hid (fun A' c' W h => calls_same (raw_any A' c' (dropP ns i) 0 W h))
  have HW1 := Lib.hid (fun A' c' W h => calls_same (raw_any A' c' (dropP ns i) 1 W h))
  have HR := Lib.hid hR
  have HK := Lib.hid (new2 w 23 25 (bC t l b r) (sC 0 0))
  have HV : Hid (placeT t l b r ns i = placeQ t l b r (atP (dropP ns i) 0) (atP (dropP ns i) 1)) := Lib.hid rfl
  generalize placeT t l b r ns i = res at *
  cases hx : bEm t l b r
  · obtain ⟨hlt1, hlt2⟩ := bEm_false hx
    have hq : placeQ t l b r (atP (dropP ns i) 0) (atP (dropP ns i) 1) = (t + clipP (atP (dropP ns i) 0) 1 (b - t) - 1, l + clipP (atP (dropP ns i) 1) 1 (r - l) - 1) := by unfold placeQ; rw [hx]; simp
    rw [hq] at HV
    rw [hx] at HE
    have HN1 := Lib.hid (fun n W => numbered_any t b n (by omega) hlt1 (by omega) (by omega) (by omega) W)
    have HN2 := Lib.hid (fun n W => numbered_any l r n (by omega) hlt2 (by omega) (by omega) (by omega) W)
    clear ht hl hb0 hr hm hc hR hq hx hlt1 hlt2
    generalize hns : ns.length = n at *
    clear hns
    generalize dropP ns i = ms at *
    have HN1' := Lib.hid (fun W => HN1.out (atP ms 0) W)
    have HN2' := Lib.hid (fun W => HN2.out (atP ms 1) W)
    clear HN1 HN2
    generalize t + clipP (atP ms 0) 1 (b - t) - 1 = x at *
    generalize l + clipP (atP ms 1) 1 (r - l) - 1 = y at *
    obtain rfl : res = (x, y) := HV.out
    clear HV
    generalize atP ms 0 = n0 at *
    generalize atP ms 1 = n1 at *
    unfold bV sV pV at *
    go_enter Try.func27, Try.ntmps27
    go_wp2_with fail
    refine (HE.out _).mono ?_
    rintro e w1 ⟨rfl, hb1⟩
    have HK1 := Lib.hid (show Blk w1 w.heap.size 23 (bC t l b r) ∧ Blk w1 (w.heap.size + 1) 25 (sC 0 0) ∧ Below w.heap.size w w1 from ⟨HK.out.1.next hb1, HK.out.2.1.next hb1, bstep HK.out.2.2 hb1⟩)
    clear hb1
    go_wp2_with fail
    refine (HF.out _).mono ?_
    rintro e w2 ⟨A', c', rfl, hr', rfl⟩
    have HR' := Lib.hid hr'
    clear hr' HF
    generalize hml : ms.length = m at *
    clear hml
    obtain ⟨c0, c1, c2, c3, _⟩ := blk4 HK1.out.1
    go_wp2_with fail
    refine (HS.out _).mono ?_
    rintro e w2 ⟨rfl, hb2⟩
    have HK2 := Lib.hid (show Blk w2 (w.heap.size + 1) 25 (sC 0 0) ∧ Below w.heap.size w w2 from ⟨HK1.out.2.1.next hb2, bstep HK1.out.2.2 hb2⟩)
    clear hb2 c0 c1 c2 c3
    go_wp2_with fail
    have HA2 := Lib.hid (new2 w2 48 48 (sC t b) (sC l r))
    refine world_gen (fun W => Blk W (w.heap.size + 1) 25 (sC 0 0) ∧ Below w.heap.size w W ∧ Blk W w2.heap.size 48 (sC t b) ∧ Blk W (w2.heap.size + 1) 48 (sC l r) ∧ w.heap.size + 1 < w2.heap.size)
      ⟨HK2.out.1.below HA2.out.2.2 HK2.out.1.lt, bstep HK2.out.2 HA2.out.2.2, HA2.out.1, HA2.out.2.1, HK2.out.1.lt⟩ ?_
    intro W ⟨k0, kb, k2, k3, hlt⟩
    have HC := Lib.hid (fun w' (h : Only [w.heap.size + 1] W w') => And.intro (blk2 (h.blk k2 (by simp; omega))) (blk2 (h.blk k3 (by simp; omega))))
    have HRW : Hid (∀ w', Only [w.heap.size + 1] W w' → RInts w' A' ms) := Lib.hid (fun w' h => HR'.out _ (rints_only HR.out kb (by simp) h))
    have HB := Lib.hid kb
    have HP := Lib.hid k0
    clear k0 k2 k3 kb hlt
    refine wp_region_mix_lit (by kernel_rfl) [(2, .call (.int .i64 n0)), (3, .call (.int .i64 x)), (6, .call (.int .i64 n1)), (7, .call (.int .i64 y)), (9, .store (w.heap.size + 1) 25 (sC 0 0) (fun _ => sC x y))] (by kernel_rfl) (by kernel_rfl) (by kernel_rfl) (by rfl) (by simp [apartK] <;> omega) (by simp [startK]; exact HP.out) (by simp [stabK]) (⟨fun _ => undef, by simp [okK]⟩) (fun β hβ => ?_)
    repeat (
      refine lex_val (v := ?_) rfl rfl (fun w' hf => ?_) ?_
      rotate_left
      · obtain ⟨⟨c0, c1, _⟩, d0, d1, _⟩ := HC.out w' hf.only; go_simp
        try rfl
      try simp only [Act.put, List.setIfInBounds_toArray, List.set_cons_zero, List.set_cons_succ])
    refine lex_call (f := 40) (args := ?_) rfl rfl (fun w' hf => ?_) (fun w' hf => ?_) ?_
    rotate_left
    · go_simp
      try rfl
    · exact HW0.out _ _ w' (HRW.out w' hf.only)
    try simp only [Act.put, List.setIfInBounds_toArray, List.set_cons_zero, List.set_cons_succ]
    refine lex_call (f := 42) (args := ?_) rfl rfl (fun w' hf => ?_) (fun w' hf => ?_) ?_
    rotate_left
    · go_simp
      try rfl
    · exact HN1'.out w'
    try simp only [Act.put, List.setIfInBounds_toArray, List.set_cons_zero, List.set_cons_succ]
    repeat (
      refine lex_val (v := ?_) rfl rfl (fun w' hf => ?_) ?_
      rotate_left
      · obtain ⟨⟨c0, c1, _⟩, d0, d1, _⟩ := HC.out w' hf.only; go_simp
        try rfl
      try simp only [Act.put, List.setIfInBounds_toArray, List.set_cons_zero, List.set_cons_succ])
    refine lex_call (f := 40) (args := ?_) rfl rfl (fun w' hf => ?_) (fun w' hf => ?_) ?_
    rotate_left
    · go_simp
      try rfl
    · exact HW1.out _ _ w' (HRW.out w' hf.only)
    try simp only [Act.put, List.setIfInBounds_toArray, List.set_cons_zero, List.set_cons_succ]
    refine lex_call (f := 42) (args := ?_) rfl rfl (fun w' hf => ?_) (fun w' hf => ?_) ?_
    rotate_left
    · go_simp
      try rfl
    · exact HN2'.out w'
    try simp only [Act.put, List.setIfInBounds_toArray, List.set_cons_zero, List.set_cons_succ]
    repeat (
      refine lex_val (v := ?_) rfl rfl (fun w' hf => ?_) ?_
      rotate_left
      · go_simp
        try rfl
      try simp only [Act.put, List.setIfInBounds_toArray, List.set_cons_zero, List.set_cons_succ])
    refine lex_store rfl rfl (fun w' hf hB => ⟨_, ?_, repl2 hB _ _⟩) ?_
    · have gB := blk2 hB
      go_simp
    try simp only [Act.put]
    refine lex_nil fun w' he => ?_
    obtain ⟨e0, e1, _⟩ := blk2 (he.facts 9)
    have HB3 := Lib.hid (HB.out.trans (he.only.below (B := w.heap.size) HB.out.size (by simp [stores, Kind.at_] <;> omega)))
    clear he
    go_wp2_with fail
    exact bodyPost_ret (v := .agg #[.int .i64 x, .int .i64 y]) (by simp [results, Try.results27, go_sem, e0, e1]) rfl ⟨rfl, HB3.out⟩
  · obtain rfl : res = (t, l) := by rw [HV.out]; unfold placeQ; rw [hx]; simp
    rw [hx] at HE
    clear ht hl hb0 hr hm hc hR hx HF HS HW0 HW1 HV
    unfold bV pV at *
    go_enter Try.func27, Try.ntmps27
    go_wp2_with fail
    refine (HE.out _).mono ?_
    rintro e w1 ⟨rfl, hb1⟩
    obtain ⟨c0, c1, c2, c3, _⟩ := blk4 (HK.out.1.next hb1)
    have HK1 := Lib.hid (HK.out.2.1.next hb1)
    obtain ⟨_, _, z0, z1⟩ := blk2 HK1.out
    have HB1 := Lib.hid (bstep HK.out.2.2 hb1)
    clear hb1
    go_wp2_with fail
    obtain ⟨e0, e1, _⟩ := blk2 (repl2 HK1.out (.int .i64 t) (.int .i64 l)).here
    exact bodyPost_ret (v := .agg #[.int .i64 t, .int .i64 l]) (by simp [results, Try.results27, go_sem, e0, e1]) rfl ⟨rfl, (HB1.out.setCell (by simp) _).setCell (by simp) _⟩
end Go.Proofs.Ytdddpdfljjfaoaa
