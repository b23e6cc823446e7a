/-
  Layer 22's law: what is fixed.
-/
import Derived.Test.YtigaaidacndeiaaGreatDoorKeyG
namespace Go.Proofs.YtigaaidacndeiaaGreatDoor

open Go Go.RowKit

theorem aw_up : encP 5 0 false false 0 5 false noT = [27, 91, 65] := by decide +kernel
theorem aw_with : withN 0 4 true = 16 := by decide +kernel
theorem aw_upc : encP 5 0 false false 16 5 false noT = [27, 79, 65] := by decide +kernel
theorem aw_f6 : encP 16 6 false false 0 5 false noT = [27, 91, 49, 55, 126] := by decide +kernel
set_option maxRecDepth 100000 in
set_option maxHeartbeats 8000000 in
theorem keyAwake_any (w : World) (h : KEnv w) : Calls Tryz.prog 15 #[] w fun e w' => e = .returned (.bool true) ∧ Below w.heap.size w w' := by
  have HE := Lib.hid h
  have hk0 := (KeyB.new w noT false rfl)
  have HW := Lib.hid (fun W => with_any 0 4 true W)
  rw [aw_with] at HW
  have b1 := Blk.new (w.alloc (.cells (keyC noT false) 41)) 46 #[.int .i64 5, .int .u8 0, .bool false, .bool false]
  rw [World.size_alloc] at b1
  have hB := ((Below.refl w.heap.size w).alloc (Nat.le_refl _) (.cells (keyC noT false) 41)).alloc (by simp) (.cells #[.int .i64 5, .int .u8 0, .bool false, .bool false] 46)
  have hK : KeyB ((w.alloc (.cells (keyC noT false) 41)).alloc (.cells #[.int .i64 5, .int .u8 0, .bool false, .bool false] 46)) w.heap.size noT false := hk0.next ((Below.refl _ _).alloc (Nat.le_refl _) _)
  clear h hk0
  --#1
  go_enter Tryz.func15, Tryz.ntmps15
  go_upto_region 2 with fail
  rw [zero_keys]
  go_upto_region 3 with fail
  generalize ((w.alloc (.cells (keyC noT false) 41)).alloc (.cells #[.int .i64 5, .int .u8 0, .bool false, .bool false] 46)) = W1 at *
  have HB := Lib.hid hB; have HB1 := Lib.hid b1
  have HKW := Lib.hid ((HE.out.next hB).key hK)
  have H1 := Lib.hid (fun W (hW : Below W1.heap.size W1 W) => enc_any 5 0 false false 0 5 false w.heap.size noT false (by decide) (by decide) W (HKW.out.next hW))
  have H2 := Lib.hid (fun W (hW : Below W1.heap.size W1 W) => enc_any 5 0 false false 16 5 false w.heap.size noT false (by decide) (by decide) W (HKW.out.next hW))
  have H3 := Lib.hid (fun W (hW : Below W1.heap.size W1 W) => enc_any 16 6 false false 0 5 false w.heap.size noT false (by decide) (by decide) W (HKW.out.next hW))
  rw [aw_up] at H1
  rw [aw_upc] at H2
  rw [aw_f6] at H3
  clear hB b1 hK
  --#2
  refine wp_region_mix_lit (by kernel_rfl) [(1, .letter (KyP 3) (KyF W1.heap.size [27, 91, 65])), (6, .call (.int .u32 16)), (7, .letter (KyP 3) (KyF W1.heap.size [27, 79, 65])), (13, .letter (KyP 5) (KyF W1.heap.size [27, 91, 49, 55, 126]))] (by kernel_rfl) (by kernel_rfl) (by kernel_rfl) (by rfl) (by simp [apartK] <;> omega) (by simp [startK]) (by simp only [List.forall_mem_cons]; exact ⟨kyF_stab _ _ _ (by simp [boxes, Kind.boxed]), trivial, kyF_stab _ _ _ (by simp [boxes, Kind.boxed]), kyF_stab _ _ _ (by simp [boxes, Kind.boxed]), by simp⟩) (⟨fun i => if i = 13 then .slice none 5 0 else .slice none 3 0, by simp only [List.forall_mem_cons]; exact ⟨⟨none, 0, rfl⟩, trivial, ⟨none, 0, rfl⟩, ⟨none, 0, rfl⟩, by simp⟩⟩) (fun β hβ => ?_)
  obtain ⟨A1, c1, e1⟩ := (hβ 1 : KyP 3 (β 1))
  obtain ⟨A7, c7, e7⟩ := (hβ 7 : KyP 3 (β 7))
  obtain ⟨A13, c13, e13⟩ := (hβ 13 : KyP 5 (β 13))
  --#3
  refine lex_val (v := ?_) rfl rfl (fun w' hf => ?_) ?_
  rotate_left
  · have hb := HB1.out.next hf.only.below0; have q0 := hb.cell 0; have q1 := hb.cell 1; have q2 := hb.cell 2; have q3 := hb.cell 3; go_simp
    try rfl
  try simp only [Act.put, List.setIfInBounds_toArray, List.set_cons_zero, List.set_cons_succ]
  refine lex_letter (f := 17) (args := ?_) rfl rfl (fun w' hf => ?_) (fun w' hf => ?_) ?_
  rotate_left
  · go_simp
    try rfl
  · exact ky_own rfl hf.only.size (H1.out w' hf.only.below0)
  try simp only [Act.put, List.setIfInBounds_toArray, List.set_cons_zero, List.set_cons_succ]
  rw [e1]
  refine lex_val (v := ?_) rfl rfl (fun w' hf => ?_) ?_
  rotate_left
  · have hcv : (convert 25 9 (.slice A1 3 c1)).run Tryz.prog w' = .ok (.string ⟨#[27, 91, 65]⟩) w' := ky_conv (B := W1.heap.size) (l := [27, 91, 65]) (A := A1) (n := 3) (c := c1) (by have := hf.got 1 _ _ rfl (by kernel_rfl); rw [e1] at this; exact this); go_simp
    try rfl
  try simp only [Act.put, List.setIfInBounds_toArray, List.set_cons_zero, List.set_cons_succ]
  refine lex_val (v := .bool true) rfl rfl (fun w' hf => ?_) ?_
  · go_simp
    try rfl
  try simp only [Act.put, List.setIfInBounds_toArray, List.set_cons_zero, List.set_cons_succ]
  refine lex_val (v := ?_) rfl rfl (fun w' hf => ?_) ?_
  rotate_left
  · go_simp
    try rfl
  try simp only [Act.put, List.setIfInBounds_toArray, List.set_cons_zero, List.set_cons_succ]
  refine lex_val (v := ?_) rfl rfl (fun w' hf => ?_) ?_
  rotate_left
  · have hb := HB1.out.next hf.only.below0; have q0 := hb.cell 0; have q1 := hb.cell 1; have q2 := hb.cell 2; have q3 := hb.cell 3; go_simp
    try rfl
  try simp only [Act.put, List.setIfInBounds_toArray, List.set_cons_zero, List.set_cons_succ]
  --#4
  refine lex_call (f := 29) (args := ?_) rfl rfl (fun w' hf => ?_) (fun w' hf => ?_) ?_
  rotate_left
  · go_simp
    try rfl
  · exact (HW.out w').mono fun e w2 ⟨he, hw⟩ => ⟨he, by rw [← hw]; exact Below.refl _ _⟩
  try simp only [Act.put, List.setIfInBounds_toArray, List.set_cons_zero, List.set_cons_succ]
  refine lex_letter (f := 17) (args := ?_) rfl rfl (fun w' hf => ?_) (fun w' hf => ?_) ?_
  rotate_left
  · go_simp
    try rfl
  · exact ky_own rfl hf.only.size (H2.out w' hf.only.below0)
  try simp only [Act.put, List.setIfInBounds_toArray, List.set_cons_zero, List.set_cons_succ]
  rw [e7]
  refine lex_val (v := ?_) rfl rfl (fun w' hf => ?_) ?_
  rotate_left
  · have hcv : (convert 25 9 (.slice A7 3 c7)).run Tryz.prog w' = .ok (.string ⟨#[27, 79, 65]⟩) w' := ky_conv (B := W1.heap.size) (l := [27, 79, 65]) (A := A7) (n := 3) (c := c7) (by have := hf.got 7 _ _ rfl (by kernel_rfl); rw [e7] at this; exact this); go_simp
    try rfl
  try simp only [Act.put, List.setIfInBounds_toArray, List.set_cons_zero, List.set_cons_succ]
  refine lex_val (v := .bool true) rfl rfl (fun w' hf => ?_) ?_
  · go_simp
    try rfl
  try simp only [Act.put, List.setIfInBounds_toArray, List.set_cons_zero, List.set_cons_succ]
  refine lex_val (v := .bool true) rfl rfl (fun w' hf => ?_) ?_
  · go_simp
    try rfl
  try simp only [Act.put, List.setIfInBounds_toArray, List.set_cons_zero, List.set_cons_succ]
  refine lex_val (v := ?_) rfl rfl (fun w' hf => ?_) ?_
  rotate_left
  · go_simp
    try rfl
  try simp only [Act.put, List.setIfInBounds_toArray, List.set_cons_zero, List.set_cons_succ]
  refine lex_val (v := ?_) rfl rfl (fun w' hf => ?_) ?_
  rotate_left
  · go_simp
    try rfl
  try simp only [Act.put, List.setIfInBounds_toArray, List.set_cons_zero, List.set_cons_succ]
  --#5
  refine lex_letter (f := 17) (args := ?_) rfl rfl (fun w' hf => ?_) (fun w' hf => ?_) ?_
  rotate_left
  · go_simp
    try rfl
  · exact ky_own rfl hf.only.size (H3.out w' hf.only.below0)
  try simp only [Act.put, List.setIfInBounds_toArray, List.set_cons_zero, List.set_cons_succ]
  rw [e13]
  refine lex_val (v := ?_) rfl rfl (fun w' hf => ?_) ?_
  rotate_left
  · have hcv : (convert 25 9 (.slice A13 5 c13)).run Tryz.prog w' = .ok (.string ⟨#[27, 91, 49, 55, 126]⟩) w' := ky_conv (B := W1.heap.size) (l := [27, 91, 49, 55, 126]) (A := A13) (n := 5) (c := c13) (by have := hf.got 13 _ _ rfl (by kernel_rfl); rw [e13] at this; exact this); go_simp
    try rfl
  try simp only [Act.put, List.setIfInBounds_toArray, List.set_cons_zero, List.set_cons_succ]
  repeat (
    refine lex_val (v := ?_) rfl rfl (fun w' hf => ?_) ?_
    rotate_left
    · go_simp
      try rfl
    try simp only [Act.put, List.setIfInBounds_toArray, List.set_cons_zero, List.set_cons_succ])
  refine lex_nil fun w' he => ?_
  --#6
  have HBz := Lib.hid (HB.out.trans (he.only.below0.mono HB.out.size))
  clear he
  go_wp2_with fail
  go_ret
  exact ⟨rfl, HBz.out⟩
end Go.Proofs.YtigaaidacndeiaaGreatDoor
