/-
  Tokens: one of the program's own made of the document's, and told.
-/
import Derived.Test.YtpiliicphoacfaaDoorTokK
namespace Go.Proofs.YtpiliicphoacfaaDoor

open Go Go.RowKit

section

variable {P : Program} (w : World)

theorem run_append_zero (t ty e : TypeId) (i : TypeInfo) (ht : P.underlying t = some (.slice e)) (hi : P.info? e = some i) (g : Nat) (A : Option Addr) (c : Nat) :
    (Builtin.append_ #[t, t] ty #[.slice (some ⟨g, 0, none⟩) 0 0, .slice A 0 c]).run P w = .ok (.slice (some ⟨g, 0, none⟩) 0 0) w := by
  cases A with
  | none => simp [Builtin.append_, run_underlying ht, sizeOf, typeInfo, hi, Builtin.lenOf, Builtin.firstCells, storeCells]
  | some a =>
    have h0 : (loadCells a 0).run P w = .ok #[] w := by
      have := run_loadCells_list (P := P) w a [] (fun j v hj => by simp at hj)
      simpa using this
    simp [Builtin.append_, run_underlying ht, sizeOf, typeInfo, hi, Builtin.lenOf, Builtin.firstCells, h0, storeCells]
/-- What is copied into a new slice: 'append([]T{}, x...)', its empty slice being there. -/
theorem run_append_fresh (base : Nat) (t ty e : TypeId) (i : TypeInfo) (z : Value) (bytes : Nat) (ht : P.underlying t = some (.slice e)) (hi : P.info? e = some i) (hz : i.zero = some z)
    (hsize : i.size = 1) (hby : i.bytes = bytes) (hzs : z.cells.size = 1) (g : Nat) (hg : Blk w g e #[]) (hb : base ≤ g)
    (B : Nat) (A : Option Addr) (m c : Nat) (news : List Value) (hr : Reads w B 1 A m news) (h1 : ∀ u ∈ news, u.oneCell' = true) (h63 : m ≤ maxLen) (hbytes : m * bytes ≤ 140737488355328) :
    ∃ u w', (Builtin.append_ #[t, t] ty #[.slice (some ⟨g, 0, none⟩) 0 0, .slice A m c]).run P w = .ok u w' ∧ w'.ownsRow base e 1 u m news ∧ Below w.heap.size w w' := by
  have hown : w.ownsRow base e 1 (.slice (some ⟨g, 0, none⟩) 0 0) 0 [] := ⟨rfl, .inr ⟨g, 0, #[], rfl, hb, hg, Nat.le_refl _, by omega, rfl, rfl⟩⟩
  rcases Nat.eq_zero_or_pos m with h0 | h0
  · subst h0
    obtain rfl : news = [] := List.eq_nil_of_length_eq_zero (by simpa using hr.1)
    exact ⟨_, w, run_append_zero w t ty e i ht hi g A c, hown, Below.refl _ _⟩
  · obtain ⟨v', w', hrun, h2, h3, _⟩ := run_append_any (P := P) w base t ty e i z 1 bytes ht hi hz hsize hby hzs (by decide) _ 0 [] hown B A m c news hr h1 (by omega) (by simpa using hbytes) (by have := hg.lt; omega)
    obtain ⟨ad, rfl, _, hc⟩ := hr.2 h0
    have hm : m ≤ maxLen := h63
    have hg2 := run_append_grow (P := P) w t ty e i z ht hi hz ⟨g, 0, none⟩ 0 0 [] (by simp) (fun j v hj => by simp at hj) ad m c news (by rw [hr.1, hsize]) hc (by omega) (by unfold maxLen at hm; omega) (by rw [hby, Nat.zero_add, nextslicecap_zero h0]; omega)
    rw [hrun] at hg2
    injection hg2 with e1 e2
    refine ⟨v', w', hrun, by simpa using h2, ?_⟩
    rw [e2]
    exact ((Below.refl _ _).drew).alloc (by simp) _
end

theorem exec_append {P : Program} {o : Oper} {a : Act} (s x : Operand) (t : TypeId) (ho : o.op = .call { callee := .builtin .append, args := #[s, x], argTypes := #[t, t] }) {v y u : Value} {w w' : World} (hs : a.eval s = v) (hx : a.eval x = y)
    (hr : (Builtin.append_ #[t, t] o.type #[v, y]).run P w = .ok u w') : (execOp a.eval o).run P w = .ok (.value u) w' := by
  unfold execOp
  simp only [ho, resolve, invoke, builtin, Sem.run_bind, Sem.run_pure, Result.andThen_ok, List.map_toArray, List.map_cons, List.map_nil, hs, hx, hr]
/-- An empty slice that was just made. -/
def EmpP (u : Value) : Prop := ∃ g, u = .slice (some ⟨g, 0, none⟩) 0 0
def EmpF (T : TypeId) (B : Nat) (u : Value) (W : World) : Prop := ∃ g, u = .slice (some ⟨g, 0, none⟩) 0 0 ∧ B ≤ g ∧ Blk W g T #[]
def SlcP (n : Nat) (u : Value) : Prop := ∃ A c, u = .slice A n c ∧ n ≤ c
def OwnF (T : TypeId) (B n : Nat) (xs : List Value) (u : Value) (W : World) : Prop := W.ownsRow B T 1 u n xs
theorem emp_stab (ks : Kinds) (wr : World) (T : TypeId) (h : boxes ks = []) : ∀ v w w', Kept ks wr w w' → EmpF T wr.heap.size v w → EmpF T wr.heap.size v w' := by
  rintro v w w' hk ⟨g, e, hg, hb⟩
  exact ⟨g, e, hg, (hk.block g hb.lt hg (fun _ _ _ _ => by rw [h]; simp)).trans hb⟩
theorem own_stab (ks : Kinds) (wr : World) (T : TypeId) (n : Nat) (xs : List Value) (h : boxes ks = []) : ∀ v w w', Kept ks wr w w' → OwnF T wr.heap.size n xs v w → OwnF T wr.heap.size n xs v w' := by
  rintro v w w' hk ⟨hl, hr⟩
  rcases hr with ⟨rfl, hn⟩ | ⟨g, cap, cur, rfl, hb, hg, r⟩
  · exact ⟨hl, .inl ⟨rfl, hn⟩⟩
  · have hlt : g < w.heap.size := Blk.lt (show Blk w g T cur from hg)
    exact ⟨hl, .inr ⟨g, cap, cur, rfl, hb, (hk.block g hlt hb (fun _ _ _ _ => by rw [h]; simp)).trans hg, r⟩⟩
theorem own_form {w : World} {B n : Nat} {T : TypeId} {v : Value} {xs : List Value} (h : w.ownsRow B T 1 v n xs) : SlcP n v := by
  rcases h.2 with ⟨rfl, hn⟩ | ⟨g, cap, cur, rfl, _, _, hle, _⟩
  · exact ⟨none, 0, by rw [hn], by omega⟩
  · exact ⟨_, _, rfl, hle⟩
theorem int_one (ns : List Int) : ∀ u ∈ ns.map (Value.int .i64), u.oneCell' = true := by
  intro u hu
  obtain ⟨n, _, rfl⟩ := List.mem_map.1 hu
  rfl
theorem repl6 {w : World} {g : Nat} {T : TypeId} {u0 u1 u2 u3 u4 u5 : Value} (h : Blk w g T #[u0, u1, u2, u3, u4, u5]) (v0 v1 v2 v3 v4 v5 : Value) : Repl w (put6 w g v0 v1 v2 v3 v4 v5) g T #[v0, v1, v2, v3, v4, v5] := by
  have h1 := Repl.set h 0 v0
  have h2 := h1.trans (Repl.set h1.here 1 v1)
  have h3 := h2.trans (Repl.set h2.here 2 v2)
  have h4 := h3.trans (Repl.set h3.here 3 v3)
  have h5 := h4.trans (Repl.set h4.here 4 v4)
  have h6 := h5.trans (Repl.set h5.here 5 v5)
  simp only [List.setIfInBounds_toArray, List.set_cons_zero, List.set_cons_succ] at h6
  exact h6
theorem Repl.as {w w' : World} {b : Nat} {T : TypeId} {cs cs' : Array Value} (h : Repl w w' b T cs) (e : cs = cs') : Repl w w' b T cs' := e ▸ h
/-- What is known when a token of the program's own is made. -/
def OwnR (w w' : World) (e : Ending) (k : Int) (c m : Nat) (ps : List Int) (s : ByteArray) (dt : List Nat) : Prop :=
  ∃ P pc D dc, e = .returned (.agg (tkC k (c : Int) (m : Int) P ps pc s D dt dc)) ∧ ps.length ≤ pc ∧ dt.length ≤ dc ∧ OInts w' w.heap.size (.slice P ps.length pc) ps ∧ OByt w' w.heap.size (.slice D dt.length dc) dt
def zTok : Array Value := #[.int .i64 0, .int .u8 0, .int .u8 0, .slice none 0 0, .string ⟨#[]⟩, .slice none 0 0]
set_option maxRecDepth 100000 in
set_option maxHeartbeats 16000000 in
theorem lawOwn_any (k : Int) (c m : Nat) (P : Option Addr) (ps : List Int) (pc : Nat) (s : ByteArray) (D : Option Addr) (dt : List Nat) (dc : Nat) (hp : ps.length ≤ 17592186044416) (hd : dt.length ≤ 140737488355328) (w : World) (hr : RInts w P ps) (hb : RByt w D dt) :
    Calls Tryd.prog 7 #[.agg (tkC k (c : Int) (m : Int) P ps pc s D dt dc)] w fun e w' => OwnR w w' e k c m ps s dt ∧ Below w.heap.size w w' := by
  have HR := Lib.hid hr; have HD := Lib.hid hb
  have HPl := Lib.hid hp; have HDl := Lib.hid hd
  obtain ⟨i0, hi0, hz0, hz1, hz2⟩ := info_u8
  obtain ⟨i1, hj0, hj1, hj2, hj3⟩ := info_parts info_int
  have HI := Lib.hid (And.intro hi0 (And.intro hz0 (And.intro hz1 hz2))); have HJ := Lib.hid (And.intro hj0 (And.intro hj1 (And.intro hj2 hj3)))
  have HK : Hid (Blk ((w.alloc (.cells (tkC k (c : Int) (m : Int) P ps pc s D dt dc) 31)).alloc (.cells zTok 29)) w.heap.size 31 (tkC k (c : Int) (m : Int) P ps pc s D dt dc) ∧ Blk ((w.alloc (.cells (tkC k (c : Int) (m : Int) P ps pc s D dt dc) 31)).alloc (.cells zTok 29)) (w.heap.size + 1) 29 zTok ∧ Below w.heap.size w ((w.alloc (.cells (tkC k (c : Int) (m : Int) P ps pc s D dt dc) 31)).alloc (.cells zTok 29)) ∧ ((w.alloc (.cells (tkC k (c : Int) (m : Int) P ps pc s D dt dc) 31)).alloc (.cells zTok 29)).heap.size = w.heap.size + 2) := Lib.hid ⟨(Blk.new w _ _).alloc _, by have := Blk.new (w.alloc (.cells (tkC k (c : Int) (m : Int) P ps pc s D dt dc) 31)) 29 zTok; simpa using this, ((Below.refl _ _).alloc (Nat.le_refl _) _).alloc (by simp) _, by simp⟩
  clear hr hb hp hd hi0 hz0 hz1 hz2 hj0 hj1 hj2 hj3
  unfold OwnR
  unfold tkC zTok at *
  go_enter Tryd.func7, Tryd.ntmps7
  go_upto_region 1 with fail
  generalize (w.alloc (.cells #[.int .i64 k, .int .u8 (c : Int), .int .u8 (m : Int), .slice P ps.length pc, .string s, .slice D dt.length dc] 31)).alloc (.cells #[.int .i64 0, .int .u8 0, .int .u8 0, .slice none 0 0, .string ⟨#[]⟩, .slice none 0 0] 29) = w1 at *
  have hlt1 : w.heap.size + 2 = w1.heap.size := HK.out.2.2.2.symm
  have HLt := Lib.hid hlt1
  clear hlt1
  refine wp_region_mix_lit (by kernel_rfl) [(6, .letter EmpP (EmpF 3 w1.heap.size)), (9, .letter (SlcP ps.length) (OwnF 3 w1.heap.size ps.length (ps.map (Value.int .i64)))), (12, .letter EmpP (EmpF 5 w1.heap.size)), (15, .letter (SlcP dt.length) (OwnF 5 w1.heap.size dt.length (dt.map fun (n : Nat) => Value.int .u8 (n : Int)))), (17, .store (w.heap.size + 1) 29 #[.int .i64 0, .int .u8 0, .int .u8 0, .slice none 0 0, .string ⟨#[]⟩, .slice none 0 0] (fun β => #[.int .i64 k, .int .u8 (c : Int), .int .u8 (m : Int), β 9, .string s, β 15]))] (by kernel_rfl) (by kernel_rfl) (by kernel_rfl) (by rfl) (by simp [apartK] <;> omega) (by simp [startK]; exact HK.out.2.1) (by simp only [List.forall_mem_cons, stabK]; exact ⟨emp_stab _ _ _ rfl, own_stab _ _ _ _ _ rfl, emp_stab _ _ _ rfl, own_stab _ _ _ _ _ rfl, trivial, by simp⟩) (⟨fun i => if i = 9 then .slice none ps.length ps.length else if i = 15 then .slice none dt.length dt.length else .slice (some ⟨0, 0, none⟩) 0 0, by simp only [List.forall_mem_cons, okK]; exact ⟨⟨0, rfl⟩, ⟨none, _, rfl, Nat.le_refl _⟩, ⟨0, rfl⟩, ⟨none, _, rfl, Nat.le_refl _⟩, trivial, by simp⟩⟩) (fun β hβ => ?_)
  obtain ⟨A9, c9, e9, hc9⟩ := (hβ 9 : SlcP ps.length (β 9))
  obtain ⟨A15, c15, e15, hc15⟩ := (hβ 15 : SlcP dt.length (β 15))
  have HX := Lib.hid (fun w' (h : Only [w.heap.size + 1] w1 w') => six (h.blk HK.out.1 (by simp)))
  have HBe := Lib.hid (fun w' (h : Only [w.heap.size + 1] w1 w') => HK.out.2.2.1.trans (h.below HK.out.2.2.1.size (by simp)))
  repeat (
    refine lex_val (v := ?_) rfl rfl (fun w' hf => ?_) ?_
    rotate_left
    · obtain ⟨a0, a1, a2, a3, a4, a5⟩ := HX.out w' hf.only; go_simp
      try rfl
    try simp only [Act.put, List.setIfInBounds_toArray, List.set_cons_zero, List.set_cons_succ])
  refine lex_made rfl rfl (fun w' hf => ⟨.slice (some ⟨w'.heap.size, 0, none⟩) 0 0, w'.alloc (.cells #[] 3), ?_, ⟨_, rfl⟩, ⟨_, rfl, hf.only.size, Blk.new _ _ _⟩, (Below.refl _ _).alloc (Nat.le_refl _) _⟩) ?_
  · go_simp
  try simp only [Act.put, List.setIfInBounds_toArray, List.set_cons_zero, List.set_cons_succ]
  repeat (
    refine lex_val (v := ?_) rfl rfl (fun w' hf => ?_) ?_
    rotate_left
    · obtain ⟨a0, a1, a2, a3, a4, a5⟩ := HX.out w' hf.only; go_simp
      try rfl
    try simp only [Act.put, List.setIfInBounds_toArray, List.set_cons_zero, List.set_cons_succ])
  refine lex_made rfl rfl (fun w' hf => ?_) ?_
  · obtain ⟨g, e1, hg, hblk⟩ := (hf.got 6 _ _ rfl (by kernel_rfl) : EmpF 3 w1.heap.size (β 6) w')
    obtain ⟨u, w2, hrun, hown, hbl⟩ := run_append_fresh (P := Tryd.prog) w' w1.heap.size 27 27 3 i1 (.int .i64 0) 8 Tryd.underlying27 HJ.out.1 HJ.out.2.1 HJ.out.2.2.1 HJ.out.2.2.2 rfl g hblk hg w'.heap.size P ps.length pc (ps.map (Value.int .i64)) (HR.out.next (HBe.out w' hf.only)) (int_one ps) (by have := HPl.out; unfold maxLen; omega) (by have := HPl.out; omega)
    exact ⟨u, w2, exec_append (.tmp 9) (.tmp 11) 27 rfl e1 rfl hrun, own_form hown, hown, hbl⟩
  try simp only [Act.put, List.setIfInBounds_toArray, List.set_cons_zero, List.set_cons_succ]
  repeat (
    refine lex_val (v := ?_) rfl rfl (fun w' hf => ?_) ?_
    rotate_left
    · obtain ⟨a0, a1, a2, a3, a4, a5⟩ := HX.out w' hf.only; go_simp
      try rfl
    try simp only [Act.put, List.setIfInBounds_toArray, List.set_cons_zero, List.set_cons_succ])
  refine lex_made rfl rfl (fun w' hf => ⟨.slice (some ⟨w'.heap.size, 0, none⟩) 0 0, w'.alloc (.cells #[] 5), ?_, ⟨_, rfl⟩, ⟨_, rfl, hf.only.size, Blk.new _ _ _⟩, (Below.refl _ _).alloc (Nat.le_refl _) _⟩) ?_
  · go_simp
  try simp only [Act.put, List.setIfInBounds_toArray, List.set_cons_zero, List.set_cons_succ]
  repeat (
    refine lex_val (v := ?_) rfl rfl (fun w' hf => ?_) ?_
    rotate_left
    · obtain ⟨a0, a1, a2, a3, a4, a5⟩ := HX.out w' hf.only; go_simp
      try rfl
    try simp only [Act.put, List.setIfInBounds_toArray, List.set_cons_zero, List.set_cons_succ])
  refine lex_made rfl rfl (fun w' hf => ?_) ?_
  · obtain ⟨g, e1, hg, hblk⟩ := (hf.got 12 _ _ rfl (by kernel_rfl) : EmpF 5 w1.heap.size (β 12) w')
    obtain ⟨u, w2, hrun, hown, hbl⟩ := run_append_fresh (P := Tryd.prog) w' w1.heap.size 24 24 5 i0 (.int .u8 0) 1 Tryd.underlying24 HI.out.1 HI.out.2.1 HI.out.2.2.1 HI.out.2.2.2 rfl g hblk hg w'.heap.size D dt.length dc (dt.map fun (n : Nat) => Value.int .u8 (n : Int)) (HD.out.next (HBe.out w' hf.only)) (oby_one dt) (by have := HDl.out; unfold maxLen; omega) (by have := HDl.out; omega)
    exact ⟨u, w2, exec_append (.tmp 15) (.tmp 17) 24 rfl e1 rfl hrun, own_form hown, hown, hbl⟩
  try simp only [Act.put, List.setIfInBounds_toArray, List.set_cons_zero, List.set_cons_succ]
  repeat (
    refine lex_val (v := ?_) rfl rfl (fun w' hf => ?_) ?_
    rotate_left
    · go_simp
      try rfl
    try simp only [Act.put, List.setIfInBounds_toArray, List.set_cons_zero, List.set_cons_succ])
  refine lex_store rfl rfl (fun w' hf hB => ⟨_, ?_, (repl6 hB (.int .i64 k) (.int .u8 (c : Int)) (.int .u8 (m : Int)) (.slice A9 ps.length c9) (.string s) (.slice A15 dt.length c15)).as (by show _ = #[_, _, _, β 9, _, β 15]; rw [e9, e15])⟩) ?_
  · obtain ⟨z0, z1, z2, z3, z4, z5⟩ := six hB
    obtain ⟨f0, f1, f2, f3, f4, f5⟩ := six_fr hB
    unfold put6
    go_simp
  try simp only [Act.put]
  refine lex_nil fun w2 he => ?_
  have hblk : Blk w2 (w.heap.size + 1) 29 #[.int .i64 k, .int .u8 (c : Int), .int .u8 (m : Int), β 9, .string s, β 15] := he.facts 17
  have h9 : OwnF 3 w1.heap.size ps.length (ps.map (Value.int .i64)) (β 9) w2 := (he.facts 9).2
  have h15 : OwnF 5 w1.heap.size dt.length (dt.map fun (n : Nat) => Value.int .u8 (n : Int)) (β 15) w2 := (he.facts 15).2
  rw [e9] at hblk h9
  rw [e15] at hblk h15
  have HBl := Lib.hid hblk
  have H9 := Lib.hid (own_base h9 (b' := w.heap.size) (by have := HLt.out; omega)); have H15 := Lib.hid (own_base h15 (b' := w.heap.size) (by have := HLt.out; omega))
  have HB2 := Lib.hid (HBe.out w2 he.only)
  have HC := Lib.hid (And.intro hc9 hc15)
  clear he hβ hblk h9 h15 e9 e15 HX HBe HK hc9 hc15
  obtain ⟨z0, z1, z2, z3, z4, z5⟩ := six HBl.out
  go_wp2_with fail
  exact bodyPost_ret (v := .agg #[.int .i64 k, .int .u8 (c : Int), .int .u8 (m : Int), .slice A9 ps.length c9, .string s, .slice A15 dt.length c15]) (by simp [results, Tryd.results7, go_sem, z0, z1, z2, z3, z4, z5]) rfl ⟨⟨A9, c9, A15, c15, rfl, HC.out.1, HC.out.2, H9.out, H15.out⟩, HB2.out⟩
end Go.Proofs.YtpiliicphoacfaaDoor
