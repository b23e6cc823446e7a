/-
  The walks of what is asked of a set; the first set that fits; the set of an id.
-/
import Derived.Test.YtandfpghjbbalaaDoorChsL
import Derived.Test.YtandfpghjbbalaaDoorMixE
import Derived.Lib.SmallJoins
namespace Go.Proofs.YtandfpghjbbalaaDoor
open Go Go.RowKit

def metP (wide : Bool) (id : ByteArray) (k : Nat) : Bool := (wideP k == wide) && hasB (wordsP k) id
def wishV (wide : Bool) (id : ByteArray) : Value := .agg #[.bool wide, .string id]
theorem Blanks.next {w w' : World} (h : Blanks w) (hb : Below w.heap.size w w') : Blanks w' := Go.Joins.tab_stays (by kernel_rfl : Tryd.prog.globalNamed "strings.asciiSpace" = some 1) h hb (Nat.le_refl _)
/-- A slice of texts as a letter. -/
def StP (n : Nat) (u : Value) : Prop := ∃ g, u = .slice (some ⟨g, 0, none⟩) n n
def StF (B : Nat) (L : List ByteArray) (u : Value) (W : World) : Prop := ∃ g, u = .slice (some ⟨g, 0, none⟩) L.length L.length ∧ B ≤ g ∧ Blk W g 9 (strV L)
theorem stF_stab (ks : Kinds) (wr : World) (L : List ByteArray) (ht : 9 ∉ boxes ks) : ∀ v w w', Kept ks wr w w' → StF wr.heap.size L v w → StF wr.heap.size L v w' := by
  rintro v w w' hk ⟨g, e, hg, hb⟩
  refine ⟨g, e, hg, ?_⟩
  refine (hk.block g hb.lt hg (fun cs T fr e2 => ?_)).trans hb
  have e3 : some (Obj.cells (strV L) 9 (0, 0)) = some (.cells cs T fr) := (show w.heap[g]? = _ from hb).symm.trans e2
  injection e3 with e3
  injection e3 with _ e4 _
  rw [← e4]; exact ht
theorem fields_letter {W : World} {B : Nat} (k : Nat) (hk : k < 18) (hB : B ≤ W.heap.size) (ht : Blanks W) : Calls Tryd.prog 64 #[.string (idsP k)] W fun e w' => ∃ u, e = .returned u ∧ StP (wordsP k).length u ∧ StF B (wordsP k) u w' ∧ Below W.heap.size W w' :=
  (fields_any k hk W ht).mono fun e w' ⟨h1, h2⟩ => by
    subst h2
    exact ⟨_, h1, ⟨_, rfl⟩, ⟨_, rfl, hB, Blk.new W _ _⟩, (Below.refl _ _).alloc (Nat.le_refl _) _⟩
theorem contains_letter {W : World} {B : Nat} {L : List ByteArray} {v : Value} (hL : L.length ≤ 1000) (id : ByteArray) (h : StF B L v W) : Calls Tryd.prog 63 #[v, .string id] W fun e w' => e = .returned (.bool (hasB L id)) ∧ Below W.heap.size W w' := by
  obtain ⟨g, rfl, _, hb⟩ := h
  exact (contains_any g L hL id W hb).mono fun e w' ⟨h1, h2⟩ => ⟨h1, by subst h2; exact Below.refl _ _⟩
set_option maxRecDepth 100000 in
set_option maxHeartbeats 4000000 in
theorem met_any (wide : Bool) (id : ByteArray) (x : Int) (w : World) (ht : Faces w) (hs : Blanks w) :
    Calls Tryd.prog 51 #[wishV wide id, .int .i64 x] w fun e w' => e = .returned (.bool (metP wide id (setN x))) ∧ Below w.heap.size w w' := by
  have HF := Lib.hid (fun W t => faceOf_any x W t)
  unfold wishV metP
  unfold faceV at HF
  have hk := setN_lt x
  have HFi := Lib.hid (fun (W : World) (B : Nat) (hB : B ≤ W.heap.size) t => fields_letter (W := W) (B := B) (setN x) hk hB t)
  have hwl := words_len (setN x) hk
  generalize wideP (setN x) = wd at *
  generalize nmP (setN x) = nm at *
  generalize idsP (setN x) = ids at *
  generalize aboP (setN x) = ab at *
  have HC := Lib.hid (fun (W : World) (B : Nat) (v : Value) (h : StF B (wordsP (setN x)) v W) => contains_letter (by omega) id h)
  generalize hasB (wordsP (setN x)) id = has at *
  generalize wordsP (setN x) = L at *
  have HB0 := Lib.hid (show Below w.heap.size w (w.alloc (.cells #[.bool wide, .string id] 75)) from (Below.refl _ _).alloc (Nat.le_refl _) _)
  have HW0 := Lib.hid (Blk.new w 75 #[.bool wide, .string id])
  have HT := Lib.hid ht
  have HS := Lib.hid hs
  have hpos := ht.1
  clear hs
  go_enter Tryd.func51, Tryd.ntmps51
  go_wp2_with fail
  refine (HF.out _ (HT.out.below hpos HB0.out)).mono ?_
  rintro e w1 ⟨rfl, hb1⟩
  have HB1 := Lib.hid (HB0.out.trans (hb1.mono HB0.out.size)); have HW1 := Lib.hid (HW0.out.next hb1)
  clear hb1
  go_wp2_with fail
  have HB2 := Lib.hid (HB1.out.alloc HB1.out.size (.cells #[.string nm, .string ids, .bool wd, .int .i32 ab] 65))
  have HW2 := Lib.hid (Blk.alloc HW1.out (.cells #[.string nm, .string ids, .bool wd, .int .i32 ab] 65))
  have HF2 := Lib.hid (Blk.new w1 65 #[.string nm, .string ids, .bool wd, .int .i32 ab])
  generalize w1.heap.size = f at *
  generalize w1.alloc (.cells #[.string nm, .string ids, .bool wd, .int .i32 ab] 65) = W1 at *
  have HCe : Hid (∀ w', Only [] W1 w' → w'.cell? ⟨f, 1, none⟩ = some (.string ids) ∧ w'.cell? ⟨f, 2, none⟩ = some (.bool wd) ∧ w'.cell? ⟨w.heap.size, 0, none⟩ = some (.bool wide) ∧ w'.cell? ⟨w.heap.size, 1, none⟩ = some (.string id)) := Lib.hid (fun w' h => ⟨(HF2.out.next h.below0).cell 1, (HF2.out.next h.below0).cell 2, (HW2.out.next h.below0).cell 0, (HW2.out.next h.below0).cell 1⟩)
  rcases hq : (wd == wide) with _ | _
  · refine wp_region_mix_lit (by kernel_rfl) [] (by kernel_rfl) (by kernel_rfl) (by kernel_rfl) (by rfl) (by simp [apartK] <;> omega) (by simp [startK]) (by simp [stabK]) (⟨fun _ => undef, by simp [okK]⟩) (fun β hβ => ?_)
    repeat (
      refine lex_val (v := ?_) rfl rfl (fun w' hf => ?_) ?_
      rotate_left
      · obtain ⟨c0', c1', c2', c3'⟩ := HCe.out w' hf.only; go_simp
        try rfl
      try simp only [Act.put, List.setIfInBounds_toArray, List.set_cons_zero, List.set_cons_succ])
    repeat (
      refine lex_skip rfl rfl ?_
      try simp only [Act.put, List.setIfInBounds_toArray, List.set_cons_zero, List.set_cons_succ])
    repeat (
      refine lex_val (v := ?_) rfl rfl (fun w' hf => ?_) ?_
      rotate_left
      · obtain ⟨c0', c1', c2', c3'⟩ := HCe.out w' hf.only; go_simp
        try rfl
      try simp only [Act.put, List.setIfInBounds_toArray, List.set_cons_zero, List.set_cons_succ])
    refine lex_nil fun w' he => ?_
    have HB3 := Lib.hid (HB2.out.trans (he.only.below0.mono HB2.out.size))
    clear he
    go_wp2_with fail
    go_ret
    exact ⟨ret_bool (by rw [hq]; rfl), HB3.out⟩
  · refine wp_region_mix_lit (by kernel_rfl) [(8, .letter (StP L.length) (StF W1.heap.size L)), (11, .call (.bool has))] (by kernel_rfl) (by kernel_rfl) (by kernel_rfl) (by rfl) (by simp [apartK] <;> omega) (by simp [startK]) (by repeat (first | (refine List.forall_mem_cons.2 ⟨?_, ?_⟩; (first | exact trivial | exact stF_stab _ _ _ (by simp [boxes, Kind.boxed]))) | (intro x hx; cases hx; done))) (⟨fun _ => .slice (some ⟨0, 0, none⟩) L.length L.length, by repeat (first | (refine List.forall_mem_cons.2 ⟨?_, ?_⟩; (first | exact trivial | exact ⟨0, rfl⟩)) | (intro x hx; cases hx; done))⟩) (fun β hβ => ?_)
    repeat (
      refine lex_val (v := ?_) rfl rfl (fun w' hf => ?_) ?_
      rotate_left
      · obtain ⟨c0', c1', c2', c3'⟩ := HCe.out w' hf.only; go_simp
        try rfl
      try simp only [Act.put, List.setIfInBounds_toArray, List.set_cons_zero, List.set_cons_succ])
    refine lex_letter (f := 64) (args := ?_) rfl rfl (fun w' hf => ?_) (fun w' hf => ?_) ?_
    rotate_left
    · obtain ⟨c0', c1', c2', c3'⟩ := HCe.out w' hf.only; go_simp
      try rfl
    · obtain ⟨c0', c1', c2', c3'⟩ := HCe.out w' hf.only; exact HFi.out w' W1.heap.size hf.only.size (HS.out.next (HB2.out.trans (hf.only.below0.mono HB2.out.size)))
    try simp only [Act.put, List.setIfInBounds_toArray, List.set_cons_zero, List.set_cons_succ]
    repeat (
      refine lex_val (v := ?_) rfl rfl (fun w' hf => ?_) ?_
      rotate_left
      · obtain ⟨c0', c1', c2', c3'⟩ := HCe.out w' hf.only; go_simp
        try rfl
      try simp only [Act.put, List.setIfInBounds_toArray, List.set_cons_zero, List.set_cons_succ])
    refine lex_call (f := 63) (args := ?_) rfl rfl (fun w' hf => ?_) (fun w' hf => ?_) ?_
    rotate_left
    · obtain ⟨c0', c1', c2', c3'⟩ := HCe.out w' hf.only; go_simp
      try rfl
    · obtain ⟨c0', c1', c2', c3'⟩ := HCe.out w' hf.only; exact HC.out w' _ _ (hf.got 8 _ _ rfl (by kernel_rfl))
    try simp only [Act.put, List.setIfInBounds_toArray, List.set_cons_zero, List.set_cons_succ]
    repeat (
      refine lex_val (v := ?_) rfl rfl (fun w' hf => ?_) ?_
      rotate_left
      · obtain ⟨c0', c1', c2', c3'⟩ := HCe.out w' hf.only; go_simp
        try rfl
      try simp only [Act.put, List.setIfInBounds_toArray, List.set_cons_zero, List.set_cons_succ])
    refine lex_nil fun w' he => ?_
    have HB3 := Lib.hid (HB2.out.trans (he.only.below0.mono HB2.out.size))
    clear he
    go_wp2_with fail
    go_ret
    exact ⟨ret_bool (by rw [hq]; rfl), HB3.out⟩
end Go.Proofs.YtandfpghjbbalaaDoor
