/-
  Boxes: a rectangle that numbers tell.
-/
import Derived.Test.YtdddpdfljjfaoaaBoxH
import Derived.Test.YtdddpdfljjfaoaaBoxF
namespace Go.Proofs.Ytdddpdfljjfaoaa
open Go Go.RowKit

/-- A rectangle that four numbers tell. -/
def rectQ (t l b r n0 n1 n2 n3 : Int) : (Int × Int × Int × Int) × Bool :=
  if (partT t b n0 n2).2.2 = true ∧ (partT l r n1 n3).2.2 = true then (((partT t b n0 n2).1, (partT l r n1 n3).1, (partT t b n0 n2).2.1, (partT l r n1 n3).2.1), true) else ((0, 0, 0, 0), false)
def rectT (t l b r : Int) (ns : List Int) (i : Int) : (Int × Int × Int × Int) × Bool := rectQ t l b r (atP (dropP ns i) 0) (atP (dropP ns i) 1) (atP (dropP ns i) 2) (atP (dropP ns i) 3)
theorem rints_only {S : List Nat} {w wr W : World} {A : Option Addr} {ns : List Int} (h : RInts w A ns) (hb : Below w.heap.size w wr) (hS : ∀ k ∈ S, w.heap.size ≤ k) (ho : Only S wr W) : RInts W A ns :=
  h.next (hb.trans (ho.below hb.size hS))
set_option maxRecDepth 100000 in
set_option maxHeartbeats 4000000 in
theorem rect_any (t l b r : Int) (ht : Sm t) (hl : Sm l) (hb0 : Sm b) (hr : Sm r) (A : Option Addr) (c : Nat) (ns : List Int) (hm : ns.length ≤ 17592186043904) (hc : ns.length ≤ c) (i : Int) (w : World) (hR : RInts w A ns) :
    Calls Try.prog 24 #[bV t l b r, .slice A ns.length c, .int .i64 i] w fun e w' => e = .returned (.tuple #[bV (rectT t l b r ns i).1.1 (rectT t l b r ns i).1.2.1 (rectT t l b r ns i).1.2.2.1 (rectT t l b r ns i).1.2.2.2, .bool (rectT t l b r ns i).2]) ∧ Below w.heap.size w w' := by
  unfold Sm at *
  have HF := Lib.hid (fun W => numbersFrom_any A c ns hm hc i W)
  have HS := Lib.hid (fun W => sides_any t l b r W)
  have HW := Lib.hid (fun A' c' j W h => calls_same (raw_any A' c' (dropP ns i) j W h))
  have HP1 := Lib.hid (fun x y W => part_any t b x y ht (by omega) (by omega) (by omega) (by omega) W)
  have HP2 := Lib.hid (fun x y W => part_any l r x y hl (by omega) (by omega) (by omega) (by omega) W)
  have HR := Lib.hid hR
  clear ht hl hb0 hr hm hc hR
  have HV : Hid (rectT t l b r ns i = rectQ t l b r (atP (dropP ns i) 0) (atP (dropP ns i) 1) (atP (dropP ns i) 2) (atP (dropP ns i) 3)) := Lib.hid rfl
  generalize rectT t l b r ns i = res at *
  generalize hns : ns.length = n at *
  clear hns
  generalize dropP ns i = ms at *
  have HW0 := Lib.hid (fun A' c' W h => HW.out A' c' 0 W h)
  have HW1 := Lib.hid (fun A' c' W h => HW.out A' c' 1 W h)
  have HW2 := Lib.hid (fun A' c' W h => HW.out A' c' 2 W h)
  have HW3 := Lib.hid (fun A' c' W h => HW.out A' c' 3 W h)
  clear HW
  have HQ : Hid (rectQ t l b r (atP ms 0) (atP ms 1) (atP ms 2) (atP ms 3) = if (partT t b (atP ms 0) (atP ms 2)).2.2 = true ∧ (partT l r (atP ms 1) (atP ms 3)).2.2 = true then (((partT t b (atP ms 0) (atP ms 2)).1, (partT l r (atP ms 1) (atP ms 3)).1, (partT t b (atP ms 0) (atP ms 2)).2.1, (partT l r (atP ms 1) (atP ms 3)).2.1), true) else ((0, 0, 0, 0), false)) := Lib.hid rfl
  rw [HQ.out] at HV
  clear HQ
  have HP1' := Lib.hid (fun W => HP1.out (atP ms 0) (atP ms 2) W)
  have HP2' := Lib.hid (fun W => HP2.out (atP ms 1) (atP ms 3) W)
  clear HP1 HP2
  obtain ⟨p1, hp1⟩ : ∃ p, p = partT t b (atP ms 0) (atP ms 2) := ⟨_, rfl⟩
  obtain ⟨p2, hp2⟩ : ∃ p, p = partT l r (atP ms 1) (atP ms 3) := ⟨_, rfl⟩
  rw [← hp1] at HP1' HV
  rw [← hp2] at HP2' HV
  clear hp1 hp2
  obtain ⟨x1, y1, ok1⟩ := p1
  obtain ⟨x2, y2, ok2⟩ := p2
  simp only at HP1' HP2' HV
  generalize atP ms 0 = n0 at *
  generalize atP ms 1 = n1 at *
  generalize atP ms 2 = n2 at *
  generalize atP ms 3 = n3 at *
  have HK := Lib.hid (new2 w 23 23 (bC t l b r) (bC 0 0 0 0))
  unfold bV sV at *
  go_enter Try.func24, Try.ntmps24
  go_wp2_with fail
  refine (HF.out _).mono ?_
  rintro e w1 ⟨A', c', rfl, hr', rfl⟩
  have HR' := Lib.hid hr'
  clear hr' HF
  generalize hml : ms.length = m at *
  clear hml
  go_wp2_with fail
  refine (HS.out _).mono ?_
  rintro e w2 ⟨rfl, hb2⟩
  have HK2 := Lib.hid (show Blk w2 (w.heap.size + 1) 23 (bC 0 0 0 0) ∧ Below w.heap.size w w2 ∧ RInts w2 A' ms from ⟨HK.out.2.1.next hb2, bstep HK.out.2.2 hb2, HR'.out _ (HR.out.next (bstep HK.out.2.2 hb2))⟩)
  clear hb2
  go_wp2_with fail
  have HA2 := Lib.hid (new2 w2 48 48 (sC t b) (sC l r))
  obtain ⟨B0, hB0⟩ : ∃ B, B = w2.heap.size := ⟨_, rfl⟩
  refine world_gen (fun W => Blk W (w.heap.size + 1) 23 (bC 0 0 0 0) ∧ Below w.heap.size w W ∧ Below w2.heap.size w2 W ∧ Blk W w2.heap.size 48 (sC t b) ∧ Blk W (w2.heap.size + 1) 48 (sC l r) ∧ w.heap.size + 1 < w2.heap.size)
    ⟨HK2.out.1.below HA2.out.2.2 HK2.out.1.lt, bstep HK2.out.2.1 HA2.out.2.2, HA2.out.2.2, HA2.out.1, HA2.out.2.1, HK2.out.1.lt⟩ ?_
  intro W ⟨k0, kb, kc, k2, k3, hlt⟩
  have HB := Lib.hid (And.intro k0 (And.intro kb (And.intro kc (And.intro k3 hlt))))
  have H2 := Lib.hid k2
  clear k0 k2 k3 kb kc hlt hB0
  have HRW : Hid (∀ w', Only [w2.heap.size] W w' → RInts w' A' ms) := Lib.hid (fun w' h => rints_only HK2.out.2.2 HB.out.2.2.1 (by simp) h)
  refine wp_region_mix_lit (by kernel_rfl) [(2, .call (.int .i64 n0)), (4, .call (.int .i64 n2)), (5, .call (.tuple #[.agg #[.int .i64 x1, .int .i64 y1], .bool ok1])), (9, .store w2.heap.size 48 (sC t b) (fun _ => sC x1 y1))] (by kernel_rfl) (by kernel_rfl) (by kernel_rfl) (by rfl) (by simp [apartK] <;> omega) (by simp [startK]; exact H2.out) (by simp [stabK]) (⟨fun _ => undef, by simp [okK]⟩) (fun β hβ => ?_)
  repeat (
    refine lex_val (v := ?_) rfl rfl (fun w' hf => ?_) ?_
    rotate_left
    · obtain ⟨c0, c1, _⟩ := blk2 (hf.old 9 _ _ _ _ rfl (by kernel_rfl)); go_simp
      try rfl
    try simp only [Act.put, List.setIfInBounds_toArray, List.set_cons_zero, List.set_cons_succ])
  refine lex_call (f := 40) (args := ?_) rfl rfl (fun w' hf => ?_) (fun w' hf => ?_) ?_
  rotate_left
  · go_simp
    try rfl
  · exact HW0.out _ _ w' (HRW.out w' hf.only)
  try simp only [Act.put, List.setIfInBounds_toArray, List.set_cons_zero, List.set_cons_succ]
  repeat (
    refine lex_val (v := ?_) rfl rfl (fun w' hf => ?_) ?_
    rotate_left
    · go_simp
      try rfl
    try simp only [Act.put, List.setIfInBounds_toArray, List.set_cons_zero, List.set_cons_succ])
  refine lex_call (f := 40) (args := ?_) rfl rfl (fun w' hf => ?_) (fun w' hf => ?_) ?_
  rotate_left
  · go_simp
    try rfl
  · exact HW2.out _ _ w' (HRW.out w' hf.only)
  try simp only [Act.put, List.setIfInBounds_toArray, List.set_cons_zero, List.set_cons_succ]
  refine lex_call (f := 38) (args := ?_) rfl rfl (fun w' hf => ?_) (fun w' hf => ?_) ?_
  rotate_left
  · go_simp
    try rfl
  · exact HP1'.out w'
  try simp only [Act.put, List.setIfInBounds_toArray, List.set_cons_zero, List.set_cons_succ]
  repeat (
    refine lex_val (v := ?_) rfl rfl (fun w' hf => ?_) ?_
    rotate_left
    · go_simp
      try rfl
    try simp only [Act.put, List.setIfInBounds_toArray, List.set_cons_zero, List.set_cons_succ])
  refine lex_store rfl rfl (fun w' hf hB => ⟨_, ?_, repl2 hB _ _⟩) ?_
  · have gB := blk2 hB
    go_simp
  try simp only [Act.put]
  repeat (
    refine lex_val (v := ?_) rfl rfl (fun w' hf => ?_) ?_
    rotate_left
    · go_simp
      try rfl
    try simp only [Act.put, List.setIfInBounds_toArray, List.set_cons_zero, List.set_cons_succ])
  refine lex_nil fun w' he => ?_
  have H1 := Lib.hid (he.facts 9)
  have HK3 := Lib.hid (show Blk w' (w.heap.size + 1) 23 (bC 0 0 0 0) ∧ Below w.heap.size w w' ∧ Below w2.heap.size w2 w' ∧ Blk w' w2.heap.size 48 (sC x1 y1) ∧ Blk w' (w2.heap.size + 1) 48 (sC l r) ∧ w.heap.size + 1 < w2.heap.size from
    ⟨he.only.blk HB.out.1 (by have := HB.out.2.2.2.2; simp [stores, Kind.at_] <;> omega), HB.out.2.1.trans (he.only.below HB.out.2.1.size (by have := HB.out.2.2.2.2; simp [stores, Kind.at_] <;> omega)), HB.out.2.2.1.trans (he.only.below HB.out.2.2.1.size (by simp [stores, Kind.at_])), he.facts 9, he.only.blk HB.out.2.2.2.1 (by simp [stores, Kind.at_]), HB.out.2.2.2.2⟩)
  clear he HB H1 H2 HRW hβ
  have H2 := Lib.hid HK3.out.2.2.2.2.1
  have HRW : Hid (∀ W, Only [w2.heap.size + 1] w' W → RInts W A' ms) := Lib.hid (fun W h => rints_only HK2.out.2.2 HK3.out.2.2.1 (by simp) h)
  go_wp2_with fail
  refine wp_region_mix_lit (by kernel_rfl) [(2, .call (.int .i64 n1)), (4, .call (.int .i64 n3)), (5, .call (.tuple #[.agg #[.int .i64 x2, .int .i64 y2], .bool ok2])), (9, .store (w2.heap.size + 1) 48 (sC l r) (fun _ => sC x2 y2))] (by kernel_rfl) (by kernel_rfl) (by kernel_rfl) (by rfl) (by simp [apartK] <;> omega) (by simp [startK]; exact H2.out) (by simp [stabK]) (⟨fun _ => undef, by simp [okK]⟩) (fun β hβ => ?_)
  repeat (
    refine lex_val (v := ?_) rfl rfl (fun w' hf => ?_) ?_
    rotate_left
    · obtain ⟨c0, c1, _⟩ := blk2 (hf.old 9 _ _ _ _ rfl (by kernel_rfl)); go_simp
      try rfl
    try simp only [Act.put, List.setIfInBounds_toArray, List.set_cons_zero, List.set_cons_succ])
  refine lex_call (f := 40) (args := ?_) rfl rfl (fun w' hf => ?_) (fun w' hf => ?_) ?_
  rotate_left
  · go_simp
    try rfl
  · exact HW1.out _ _ w' (HRW.out w' hf.only)
  try simp only [Act.put, List.setIfInBounds_toArray, List.set_cons_zero, List.set_cons_succ]
  repeat (
    refine lex_val (v := ?_) rfl rfl (fun w' hf => ?_) ?_
    rotate_left
    · go_simp
      try rfl
    try simp only [Act.put, List.setIfInBounds_toArray, List.set_cons_zero, List.set_cons_succ])
  refine lex_call (f := 40) (args := ?_) rfl rfl (fun w' hf => ?_) (fun w' hf => ?_) ?_
  rotate_left
  · go_simp
    try rfl
  · exact HW3.out _ _ w' (HRW.out w' hf.only)
  try simp only [Act.put, List.setIfInBounds_toArray, List.set_cons_zero, List.set_cons_succ]
  refine lex_call (f := 38) (args := ?_) rfl rfl (fun w' hf => ?_) (fun w' hf => ?_) ?_
  rotate_left
  · go_simp
    try rfl
  · exact HP2'.out w'
  try simp only [Act.put, List.setIfInBounds_toArray, List.set_cons_zero, List.set_cons_succ]
  repeat (
    refine lex_val (v := ?_) rfl rfl (fun w' hf => ?_) ?_
    rotate_left
    · go_simp
      try rfl
    try simp only [Act.put, List.setIfInBounds_toArray, List.set_cons_zero, List.set_cons_succ])
  refine lex_store rfl rfl (fun w' hf hB => ⟨_, ?_, repl2 hB _ _⟩) ?_
  · have gB := blk2 hB
    go_simp
  try simp only [Act.put]
  repeat (
    refine lex_val (v := ?_) rfl rfl (fun w' hf => ?_) ?_
    rotate_left
    · go_simp
      try rfl
    try simp only [Act.put, List.setIfInBounds_toArray, List.set_cons_zero, List.set_cons_succ])
  refine lex_nil fun w3 he => ?_
  have HK4 := Lib.hid (show Blk w3 (w.heap.size + 1) 23 (bC 0 0 0 0) ∧ Below w.heap.size w w3 ∧ Blk w3 w2.heap.size 48 (sC x1 y1) ∧ Blk w3 (w2.heap.size + 1) 48 (sC x2 y2) from
    ⟨he.only.blk HK3.out.1 (by have := HK3.out.2.2.2.2.2; simp [stores, Kind.at_] <;> omega), HK3.out.2.1.trans (he.only.below HK3.out.2.1.size (by have := HK3.out.2.2.2.2.2; simp [stores, Kind.at_] <;> omega)), he.only.blk HK3.out.2.2.2.1 (by simp [stores, Kind.at_]), he.facts 9⟩)
  clear he HK3 H2 HRW hβ HK2 HA2 HR HR' HK
  cases ok1 <;> cases ok2
  rotate_right
  · obtain rfl : res = ((x1, x2, y1, y2), true) := by rw [HV.out]; simp
    have HO := Lib.hid (fun W => boxOf_any x1 y1 x2 y2 W)
    unfold bV sV at *
    obtain ⟨c0, c1, _⟩ := blk2 HK4.out.2.2.1
    obtain ⟨d0, d1, _⟩ := blk2 HK4.out.2.2.2
    go_wp2_with fail
    refine (HO.out _).mono ?_
    rintro e w5 ⟨rfl, hb5⟩
    have HR5 := Lib.hid (HK4.out.1.next hb5)
    have HB5 := Lib.hid (bstep HK4.out.2.1 hb5)
    obtain ⟨_, _, _, _, z0, z1, z2, z3⟩ := blk4 HR5.out
    clear hb5 c0 c1 d0 d1
    go_wp2_with fail
    obtain ⟨e0, e1, e2, e3, _⟩ := blk4 (repl4 HR5.out (.int .i64 x1) (.int .i64 x2) (.int .i64 y1) (.int .i64 y2)).here
    exact bodyPost_ret (v := .tuple #[.agg #[.int .i64 x1, .int .i64 x2, .int .i64 y1, .int .i64 y2], .bool true]) (by simp [results, Try.results24, go_sem, e0, e1, e2, e3]) rfl ⟨rfl, (((HB5.out.setCell (by simp) _).setCell (by simp) _).setCell (by simp) _).setCell (by simp) _⟩
  all_goals
    obtain rfl : res = ((0, 0, 0, 0), false) := by rw [HV.out]; simp
    obtain ⟨_, _, _, _, z0, z1, z2, z3⟩ := blk4 HK4.out.1
    go_wp2_with fail
    obtain ⟨e0, e1, e2, e3, _⟩ := blk4 (repl4 HK4.out.1 (.int .i64 0) (.int .i64 0) (.int .i64 0) (.int .i64 0)).here
    exact bodyPost_ret (v := .tuple #[.agg #[.int .i64 0, .int .i64 0, .int .i64 0, .int .i64 0], .bool false]) (by simp [results, Try.results24, go_sem, e0, e1, e2, e3]) rfl ⟨rfl, (((HK4.out.2.1.setCell (by simp) _).setCell (by simp) _).setCell (by simp) _).setCell (by simp) _⟩
end Go.Proofs.Ytdddpdfljjfaoaa
