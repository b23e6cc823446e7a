/-
  Tokens, the document's own answers: the bytes of an Esc with Inters.
-/
import Derived.Test.YtmaklogelidjaaaDoorTokW
namespace Go.Proofs.YtmaklogelidjaaaDoor
open Go Go.RowKit

def StrP (n : Nat) (u : Value) : Prop := ∃ g cap, u = .slice (some ⟨g, 0, none⟩) n cap
theorem own_slice {w : World} {B n : Nat} {T : TypeId} {v : Value} {xs : List Value} (h : w.ownsRow B T 1 v n xs) (hn : 0 < n) : ∃ g cap, v = .slice (some ⟨g, 0, none⟩) n cap := by
  rcases h.2 with ⟨_, h0⟩ | ⟨g, cap, cur, e, _⟩
  · omega
  · exact ⟨g, cap, e⟩
theorem exec_convert {P : Program} {o : Oper} {a : Act} (x : Operand) (t u : TypeId) (ho : o.op = .convert t u x) {y v : Value} {w w' : World} (hx : a.eval x = y) (hr : (convert t u y).run P w = .ok v w') : (execOp a.eval o).run P w = .ok (.value v) w' := by
  unfold execOp
  simp only [ho, Sem.run_bind, Sem.run_pure, hx, hr, Result.andThen_ok]
theorem strCells_one (s : ByteArray) : ∀ u ∈ Lib.strCells s, u.oneCell' = true := by
  intro u hu
  unfold Lib.strCells at hu
  obtain ⟨b, _, rfl⟩ := List.mem_map.1 hu
  rfl
set_option maxRecDepth 100000 in
set_option maxHeartbeats 16000000 in
theorem refBytes3_any (c m : Nat) (P : Option Addr) (ps : List Int) (pc : Nat) (s : ByteArray) (D : Option Addr) (dt : List Nat) (dc : Nat) (hne : s.size ≠ 0) (hsz : s.size ≤ 3) (eight : Bool) (w : World) :
    Calls Tryd.prog 9 #[.agg (tkC 3 (c : Int) (m : Int) P ps pc s D dt dc), .bool eight] w fun e w' => ∃ v, e = .returned v ∧ OByt w' w.heap.size v (27 :: (natL s.data.toList ++ [c])) ∧ Below w.heap.size w w' := by
  have HK := Lib.hid (K1.start w 25 (tkC 3 (c : Int) (m : Int) P ps pc s D dt dc))
  have hnil2 : s.toList.isEmpty = false := by rw [ByteArray.toList_eq]; cases h : s.data.toList with | nil => exact absurd (by rw [← dlen, h]; rfl) hne | cons a b => rfl
  have hnil : (s.toList == []) = false := by cases h : s.toList with | nil => rw [h] at hnil2; cases hnil2 | cons a b => rfl
  obtain ⟨i0, hi0, hz0, hz1, hz2⟩ := info_u8
  have HI := Lib.hid (And.intro hi0 (And.intro hz0 (And.intro hz1 hz2)))
  have HN := Lib.hid (And.intro hne hsz)
  have hcs : (Lib.strCells s).length = s.size := Lib.strCells_length s
  clear hi0 hz0 hz1 hz2 hne hsz hnil2
  unfold tkC at *
  go_enter Tryd.func9, Tryd.ntmps9
  go_upto_region 1 with fail
  generalize w.alloc (.cells #[.int .i64 3, .int .u8 (c : Int), .int .u8 (m : Int), .slice P ps.length pc, .string s, .slice D dt.length dc] 25) = w1 at *
  obtain ⟨a0, a1, a2, a3, a4, a5⟩ := six HK.out.1
  go_upto_region 6 with fail
  clear a0 a1 a2 a3 a4 a5 hnil
  have HX := Lib.hid (fun w' (h : Only [] w1 w') => six (h.blk HK.out.1 (by simp)))
  --#1
  refine wp_region_mix_lit (by kernel_rfl) [(0, .letter (SlcP 1) (OwnF 5 w1.heap.size 1 [.int .u8 27])), (3, .letter (StrP s.size) (StrF w1.heap.size s.size (Lib.strCells s))), (4, .letter (SlcP (1 + s.size)) (OwnF 5 w1.heap.size (1 + s.size) ([.int .u8 27] ++ Lib.strCells s))), (7, .letter (SlcP 1) (OwnF 5 w1.heap.size 1 [.int .u8 (c : Int)])), (8, .letter (SlcP (1 + s.size + 1)) (OwnF 5 w1.heap.size (1 + s.size + 1) ([.int .u8 27] ++ Lib.strCells s ++ [.int .u8 (c : Int)])))] (by kernel_rfl) (by kernel_rfl) (by kernel_rfl) (by rfl) (by simp [apartK] <;> omega) (by simp [startK]) (by simp only [List.forall_mem_cons, stabK]; exact ⟨own_stab _ _ _ _ _ rfl, str_stab _ _ _ _ rfl, own_stab _ _ _ _ _ rfl, own_stab _ _ _ _ _ rfl, own_stab _ _ _ _ _ rfl, by simp⟩) (⟨fun i => if i = 3 then .slice (some ⟨0, 0, none⟩) s.size s.size else if i = 4 then .slice none (1 + s.size) (1 + s.size) else if i = 8 then .slice none (1 + s.size + 1) (1 + s.size + 1) else .slice none 1 1, by simp only [List.forall_mem_cons, okK]; exact ⟨⟨_, _, rfl, Nat.le_refl _⟩, ⟨_, _, rfl⟩, ⟨_, _, rfl, Nat.le_refl _⟩, ⟨_, _, rfl, Nat.le_refl _⟩, ⟨_, _, rfl, Nat.le_refl _⟩, by simp⟩⟩) (fun β hβ => ?_)
  have hlet : ∀ x ∈ ([(0, .letter (SlcP 1) (OwnF 5 w1.heap.size 1 [.int .u8 27])), (3, .letter (StrP s.size) (StrF w1.heap.size s.size (Lib.strCells s))), (4, .letter (SlcP (1 + s.size)) (OwnF 5 w1.heap.size (1 + s.size) ([.int .u8 27] ++ Lib.strCells s))), (7, .letter (SlcP 1) (OwnF 5 w1.heap.size 1 [.int .u8 (c : Int)])), (8, .letter (SlcP (1 + s.size + 1)) (OwnF 5 w1.heap.size (1 + s.size + 1) ([.int .u8 27] ++ Lib.strCells s ++ [.int .u8 (c : Int)])))] : Kinds), ∃ p F, x.2 = .letter p F := by
    simp only [List.forall_mem_cons]
    exact ⟨⟨_, _, rfl⟩, ⟨_, _, rfl⟩, ⟨_, _, rfl⟩, ⟨_, _, rfl⟩, ⟨_, _, rfl⟩, by simp⟩
  refine lex_made rfl rfl (fun w' hf => ⟨.slice (some ⟨w'.heap.size, 0, none⟩) 1 1, w'.alloc (.cells #[.int .u8 27] 5), ?_, ⟨_, _, rfl, Nat.le_refl _⟩, World.ownsRow_lit (e := 5) (size := 1) w' #[.int .u8 27] 1 hf.only.size (by unfold maxLen; omega) rfl, (Below.refl _ _).alloc (Nat.le_refl _) _⟩) ?_
  · go_simp
  try simp only [Act.put, List.setIfInBounds_toArray, List.set_cons_zero, List.set_cons_succ]
  repeat (
    refine lex_val (v := ?_) rfl rfl (fun w' hf => ?_) ?_
    rotate_left
    · obtain ⟨a0, a1, a2, a3, a4, a5⟩ := HX.out w' hf.only; go_simp
      try rfl
    try simp only [Act.put, List.setIfInBounds_toArray, List.set_cons_zero, List.set_cons_succ])
  refine lex_made rfl rfl (fun w' hf => ?_) ?_
  · obtain ⟨u, w2, hrun, hp, hF, hb⟩ := str_made w1.heap.size s w' hf.only.size
    exact ⟨u, w2, exec_convert (.tmp 24) _ _ rfl rfl hrun, hp, hF, hb⟩
  try simp only [Act.put, List.setIfInBounds_toArray, List.set_cons_zero, List.set_cons_succ]
  --#2
  refine lex_mild rfl rfl (fun w' hf => ?_) ?_
  · have h0 : OwnF 5 w1.heap.size 1 [.int .u8 27] (β 0) w' := hf.got 0 _ _ rfl (by kernel_rfl)
    have h3 : StrF w1.heap.size s.size (Lib.strCells s) (β 3) w' := hf.got 3 _ _ rfl (by kernel_rfl)
    obtain ⟨g, cap, e0⟩ := own_slice h0 (by omega)
    obtain ⟨g3, cap3, e3⟩ : ∃ g cap, β 3 = .slice (some ⟨g, 0, none⟩) s.size cap := by obtain ⟨g, cap, _, _, e, _⟩ := h3; exact ⟨g, cap, e⟩
    have h0' : w'.ownsRow w1.heap.size 5 1 (.slice (some ⟨g, 0, none⟩) 1 cap) 1 [.int .u8 27] := by rw [← e0]; exact h0
    rw [e3] at h3
    obtain ⟨u, w2, hrun, hown, hbl, hk1, hk2⟩ := run_append_mild (P := Tryd.prog) w' w1.heap.size 23 23 5 i0 (.int .u8 0) 1 Tryd.underlying23 HI.out.1 HI.out.2.1 HI.out.2.2.1 HI.out.2.2.2 rfl g 1 cap _ h0' ⟨g3, 0, none⟩ s.size cap3 (Lib.strCells s) hcs (str_cell h3) (strCells_one s) (by have := HN.out.2; unfold maxLen; omega) (by have := HN.out.2; omega) hf.only.size
    refine ⟨u, w2, exec_append (.tmp 22) (.tmp 25) 23 rfl e0 e3 hrun, own_form hown, hown, mild_of hlet hbl ?_⟩
    simp only [List.forall_mem_cons]
    refine ⟨?_, ?_, ?_, ?_, ?_, by simp⟩
    · intro _ _ p F hF v hv; injection hF with _ _ e; subst e; exact hk1 _ _ _ (.inl (by omega)) hv
    · intro _ _ p F hF v hv; injection hF with _ _ e; subst e
      obtain ⟨g2, c2, cur, fz, ev, hb2, hf2, hg2, ht2⟩ := hv
      exact ⟨g2, c2, cur, fz, ev, hb2, hf2, hk2 _ _ _ _ hf2 hg2, ht2⟩
    · intro h; exact absurd rfl h
    · intro _ _ p F hF v hv; injection hF with _ _ e; subst e; exact hk1 _ _ _ (.inl (by omega)) hv
    · intro _ hd; exact absurd (hd.symm.trans (show _ = true by kernel_rfl)) (by decide)
  try simp only [Act.put, List.setIfInBounds_toArray, List.set_cons_zero, List.set_cons_succ]
  repeat (
    refine lex_val (v := ?_) rfl rfl (fun w' hf => ?_) ?_
    rotate_left
    · obtain ⟨a0, a1, a2, a3, a4, a5⟩ := HX.out w' hf.only; go_simp
      try rfl
    try simp only [Act.put, List.setIfInBounds_toArray, List.set_cons_zero, List.set_cons_succ])
  refine lex_made rfl rfl (fun w' hf => ⟨.slice (some ⟨w'.heap.size, 0, none⟩) 1 1, w'.alloc (.cells #[.int .u8 (c : Int)] 5), ?_, ⟨_, _, rfl, Nat.le_refl _⟩, World.ownsRow_lit (e := 5) (size := 1) w' #[.int .u8 (c : Int)] 1 hf.only.size (by unfold maxLen; omega) rfl, (Below.refl _ _).alloc (Nat.le_refl _) _⟩) ?_
  · go_simp
  try simp only [Act.put, List.setIfInBounds_toArray, List.set_cons_zero, List.set_cons_succ]
  --#3
  refine lex_mild rfl rfl (fun w' hf => ?_) ?_
  · have h4 : OwnF 5 w1.heap.size (1 + s.size) ([.int .u8 27] ++ Lib.strCells s) (β 4) w' := hf.got 4 _ _ rfl (by kernel_rfl)
    have h7 : OwnF 5 w1.heap.size 1 [.int .u8 (c : Int)] (β 7) w' := hf.got 7 _ _ rfl (by kernel_rfl)
    obtain ⟨g, cap, e4⟩ := own_slice h4 (by omega)
    obtain ⟨g7, cap7, e7⟩ := own_slice h7 (by omega)
    have h4' : w'.ownsRow w1.heap.size 5 1 (.slice (some ⟨g, 0, none⟩) (1 + s.size) cap) (1 + s.size) ([.int .u8 27] ++ Lib.strCells s) := by rw [← e4]; exact h4
    have h7' : w'.ownsRow w1.heap.size 5 1 (.slice (some ⟨g7, 0, none⟩) 1 cap7) 1 [.int .u8 (c : Int)] := by rw [← e7]; exact h7
    obtain ⟨u, w2, hrun, hown, hbl, hk1, hk2⟩ := run_append_mild (P := Tryd.prog) w' w1.heap.size 23 23 5 i0 (.int .u8 0) 1 Tryd.underlying23 HI.out.1 HI.out.2.1 HI.out.2.2.1 HI.out.2.2.2 rfl g (1 + s.size) cap _ h4' ⟨g7, 0, none⟩ 1 cap7 [.int .u8 (c : Int)] rfl (fun j u hu => by
      have ha : (⟨g7, 0, none⟩ : Addr).add j = ⟨g7, j, none⟩ := by unfold Addr.add; split <;> simp_all
      have hj : j < 1 := (List.getElem?_eq_some_iff.1 hu).1
      rw [ha, World.ownsRow.cellAt h7' j (by omega), hu]) (by intro u hu; rw [List.mem_singleton.1 hu]; rfl) (by have := HN.out.2; unfold maxLen; omega) (by have := HN.out.2; omega) hf.only.size
    refine ⟨u, w2, exec_append (.tmp 26) (.tmp 29) 23 rfl e4 e7 hrun, own_form hown, hown, mild_of hlet hbl ?_⟩
    simp only [List.forall_mem_cons]
    refine ⟨?_, ?_, ?_, ?_, ?_, by simp⟩
    · intro _ _ p F hF v hv; injection hF with _ _ e; subst e; exact hk1 _ _ _ (.inl (by omega)) hv
    · intro _ _ p F hF v hv; injection hF with _ _ e; subst e
      obtain ⟨g2, c2, cur, fz, ev, hb2, hf2, hg2, ht2⟩ := hv
      exact ⟨g2, c2, cur, fz, ev, hb2, hf2, hk2 _ _ _ _ hf2 hg2, ht2⟩
    · intro _ _ p F hF v hv; injection hF with _ _ e; subst e; exact hk1 _ _ _ (.inl (by omega)) hv
    · intro _ _ p F hF v hv; injection hF with _ _ e; subst e; exact hk1 _ _ _ (.inl (by omega)) hv
    · intro h; exact absurd rfl h
  try simp only [Act.put, List.setIfInBounds_toArray, List.set_cons_zero, List.set_cons_succ]
  repeat (
    refine lex_val (v := ?_) rfl rfl (fun w' hf => ?_) ?_
    rotate_left
    · go_simp
      try rfl
    try simp only [Act.put, List.setIfInBounds_toArray, List.set_cons_zero, List.set_cons_succ])
  refine lex_nil fun w2 he => ?_
  have ho : OwnF 5 w1.heap.size (1 + s.size + 1) ([.int .u8 27] ++ Lib.strCells s ++ [.int .u8 (c : Int)]) (β 8) w2 := (he.facts 8).2
  have HB := Lib.hid (HK.out.2.trans (he.only.below0.mono HK.out.2.size))
  have HO : Hid (OByt w2 w.heap.size (β 8) (27 :: (natL s.data.toList ++ [c]))) := Lib.hid (own_base (by
    have hl : (27 :: (natL s.data.toList ++ [c])).length = 1 + s.size + 1 := by simp [natL_len]; omega
    rw [hl]
    have := ho
    unfold OwnF at this
    rw [Lib.strCells] at this
    simpa [natL, Function.comp_def] using this) HK.out.2.size)
  clear he ho hβ
  generalize β 8 = v8 at *
  --#4
  go_wp2_with fail
  go_ret
  exact ⟨_, rfl, HO.out, HB.out⟩
end Go.Proofs.YtmaklogelidjaaaDoor
