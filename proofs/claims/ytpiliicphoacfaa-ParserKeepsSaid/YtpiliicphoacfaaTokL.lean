/-
  Tokens: one of the program's own made of the document's, and told.
-/
import Derived.Test.YtpiliicphoacfaaTokK
namespace Go.Proofs.Ytpiliicphoacfaa

open Go Go.RowKit

section

variable {P : Program} (w : World)

theorem run_append_zero (t ty e : TypeId) (i : TypeInfo) (ht : P.underlying t = some (.slice e)) (hi : P.info? e = some i) (g : Nat) (A : Option Addr) (c : Nat) :
    (Builtin.append_ #[t, t] ty #[.slice (some ⟨g, 0, none⟩) 0 0, .slice A 0 c]).run P w = .ok (.slice (some ⟨g, 0, none⟩) 0 0) w := by
  cases A with
  | none => simp [Builtin.append_, run_underlying ht, sizeOf, typeInfo, hi, Builtin.lenOf, Builtin.firstCells, storeCells]
  | some a =>
    have h0 : (loadCells a 0).run P w = .ok #[] w := by
      have := run_loadCells_list (P := P) w a [] (fun j v hj => by simp at hj)
      simpa using this
    simp [Builtin.append_, run_underlying ht, sizeOf, typeInfo, hi, Builtin.lenOf, Builtin.firstCells, h0, storeCells]
/-- What is copied into a new slice: 'append([]T{}, x...)', its empty slice being there. -/
theorem run_append_fresh (base : Nat) (t ty e : TypeId) (i : TypeInfo) (z : Value) (bytes : Nat) (ht : P.underlying t = some (.slice e)) (hi : P.info? e = some i) (hz : i.zero = some z)
    (hsize : i.size = 1) (hby : i.bytes = bytes) (hzs : z.cells.size = 1) (g : Nat) (hg : Blk w g e #[]) (hb : base ≤ g)
    (B : Nat) (A : Option Addr) (m c : Nat) (news : List Value) (hr : Reads w B 1 A m news) (h1 : ∀ u ∈ news, u.oneCell' = true) (h63 : m ≤ maxLen) (hbytes : m * bytes ≤ 140737488355328) :
    ∃ u w', (Builtin.append_ #[t, t] ty #[.slice (some ⟨g, 0, none⟩) 0 0, .slice A m c]).run P w = .ok u w' ∧ w'.ownsRow base e 1 u m news ∧ Below w.heap.size w w' := by
  have hown : w.ownsRow base e 1 (.slice (some ⟨g, 0, none⟩) 0 0) 0 [] := ⟨rfl, .inr ⟨g, 0, #[], rfl, hb, hg, Nat.le_refl _, by omega, rfl, rfl⟩⟩
  rcases Nat.eq_zero_or_pos m with h0 | h0
  · subst h0
    obtain rfl : news = [] := List.eq_nil_of_length_eq_zero (by simpa using hr.1)
    exact ⟨_, w, run_append_zero w t ty e i ht hi g A c, hown, Below.refl _ _⟩
  · obtain ⟨v', w', hrun, h2, h3, _⟩ := run_append_any (P := P) w base t ty e i z 1 bytes ht hi hz hsize hby hzs (by decide) _ 0 [] hown B A m c news hr h1 (by omega) (by simpa using hbytes) (by have := hg.lt; omega)
    obtain ⟨ad, rfl, _, hc⟩ := hr.2 h0
    have hm : m ≤ maxLen := h63
    have hg2 := run_append_grow (P := P) w t ty e i z ht hi hz ⟨g, 0, none⟩ 0 0 [] (by simp) (fun j v hj => by simp at hj) ad m c news (by rw [hr.1, hsize]) hc (by omega) (by unfold maxLen at hm; omega) (by rw [hby, Nat.zero_add, nextslicecap_zero h0]; omega)
    rw [hrun] at hg2
    injection hg2 with e1 e2
    refine ⟨v', w', hrun, by simpa using h2, ?_⟩
    rw [e2]
    exact ((Below.refl _ _).drew).alloc (by simp) _
end

theorem exec_append {P : Program} {o : Oper} {a : Act} (s x : Operand) (t : TypeId) (ho : o.op = .call { callee := .builtin .append, args := #[s, x], argTypes := #[t, t] }) {v y u : Value} {w w' : World} (hs : a.eval s = v) (hx : a.eval x = y)
    (hr : (Builtin.append_ #[t, t] o.type #[v, y]).run P w = .ok u w') : (execOp a.eval o).run P w = .ok (.value u) w' := by
  unfold execOp
  simp only [ho, resolve, invoke, builtin, Sem.run_bind, Sem.run_pure, Result.andThen_ok, List.map_toArray, List.map_cons, List.map_nil, hs, hx, hr]
/-- An empty slice that was just made. -/
def EmpP (u : Value) : Prop := ∃ g, u = .slice (some ⟨g, 0, none⟩) 0 0
def EmpF (T : TypeId) (B : Nat) (u : Value) (W : World) : Prop := ∃ g, u = .slice (some ⟨g, 0, none⟩) 0 0 ∧ B ≤ g ∧ Blk W g T #[]
def SlcP (n : Nat) (u : Value) : Prop := ∃ A c, u = .slice A n c ∧ n ≤ c
def OwnF (T : TypeId) (B n : Nat) (xs : List Value) (u : Value) (W : World) : Prop := W.ownsRow B T 1 u n xs
theorem emp_stab (ks : Kinds) (wr : World) (T : TypeId) (h : boxes ks = []) : ∀ v w w', Kept ks wr w w' → EmpF T wr.heap.size v w → EmpF T wr.heap.size v w' := by
  rintro v w w' hk ⟨g, e, hg, hb⟩
  exact ⟨g, e, hg, (hk.block g hb.lt hg (fun _ _ _ _ => by rw [h]; simp)).trans hb⟩
theorem own_stab (ks : Kinds) (wr : World) (T : TypeId) (n : Nat) (xs : List Value) (h : boxes ks = []) : ∀ v w w', Kept ks wr w w' → OwnF T wr.heap.size n xs v w → OwnF T wr.heap.size n xs v w' := by
  rintro v w w' hk ⟨hl, hr⟩
  rcases hr with ⟨rfl, hn⟩ | ⟨g, cap, cur, rfl, hb, hg, r⟩
  · exact ⟨hl, .inl ⟨rfl, hn⟩⟩
  · have hlt : g < w.heap.size := Blk.lt (show Blk w g T cur from hg)
    exact ⟨hl, .inr ⟨g, cap, cur, rfl, hb, (hk.block g hlt hb (fun _ _ _ _ => by rw [h]; simp)).trans hg, r⟩⟩
theorem own_form {w : World} {B n : Nat} {T : TypeId} {v : Value} {xs : List Value} (h : w.ownsRow B T 1 v n xs) : SlcP n v := by
  rcases h.2 with ⟨rfl, hn⟩ | ⟨g, cap, cur, rfl, _, _, hle, _⟩
  · exact ⟨none, 0, by rw [hn], by omega⟩
  · exact ⟨_, _, rfl, hle⟩
theorem int_one (ns : List Int) : ∀ u ∈ ns.map (Value.int .i64), u.oneCell' = true := by
  intro u hu
  obtain ⟨n, _, rfl⟩ := List.mem_map.1 hu
  rfl
theorem repl6 {w : World} {g : Nat} {T : TypeId} {u0 u1 u2 u3 u4 u5 : Value} (h : Blk w g T #[u0, u1, u2, u3, u4, u5]) (v0 v1 v2 v3 v4 v5 : Value) : Repl w (put6 w g v0 v1 v2 v3 v4 v5) g T #[v0, v1, v2, v3, v4, v5] := by
  have h1 := Repl.set h 0 v0
  have h2 := h1.trans (Repl.set h1.here 1 v1)
  have h3 := h2.trans (Repl.set h2.here 2 v2)
  have h4 := h3.trans (Repl.set h3.here 3 v3)
  have h5 := h4.trans (Repl.set h4.here 4 v4)
  have h6 := h5.trans (Repl.set h5.here 5 v5)
  simp only [List.setIfInBounds_toArray, List.set_cons_zero, List.set_cons_succ] at h6
  exact h6
theorem Repl.as {w w' : World} {b : Nat} {T : TypeId} {cs cs' : Array Value} (h : Repl w w' b T cs) (e : cs = cs') : Repl w w' b T cs' := e ▸ h
/-- What is known when a token of the program's own is made. -/
def OwnR (w w' : World) (e : Ending) (k : Int) (c m : Nat) (ps : List Int) (s : ByteArray) (dt : List Nat) : Prop :=
  ∃ P pc D dc, e = .returned (.agg (tkC k (c : Int) (m : Int) P ps pc s D dt dc)) ∧ ps.length ≤ pc ∧ dt.length ≤ dc ∧ OInts w' w.heap.size (.slice P ps.length pc) ps ∧ OByt w' w.heap.size (.slice D dt.length dc) dt
def zTok : Array Value := #[.int .i64 0, .int .u8 0, .int .u8 0, .slice none 0 0, .string ⟨#[]⟩, .slice none 0 0]

end Go.Proofs.Ytpiliicphoacfaa
