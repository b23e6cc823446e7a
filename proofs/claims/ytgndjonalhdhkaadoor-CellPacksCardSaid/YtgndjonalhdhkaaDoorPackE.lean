/-
  The walk that writes a row as bytes.
-/
import Derived.Test.YtgndjonalhdhkaaDoorPackD
namespace Go.Proofs.YtgndjonalhdhkaaDoor

open Go.RowKit

theorem encL_snoc (rs : List Rn) (k : Nat) (hk : k < rs.length) : encL (rs.take (k + 1)) = encL (rs.take k) ++ run7 rs[k].1 rs[k].2 := by
  unfold encL
  rw [take_snoc rs k hk, List.flatMap_append]; simp
theorem encL_len (rs : List Rn) : (encL rs).length = 7 * rs.length := by
  induction rs with
  | nil => rfl
  | cons x rs ih =>
    have e : encL (x :: rs) = run7 x.1 x.2 ++ encL rs := rfl
    rw [e, List.length_append, ih, List.length_cons]
    simp [run7]; omega
/-- A slice of bytes of the call's own. -/
def OBs (w : World) (base : Nat) (v : Value) (bs : List Int) : Prop := w.ownsRow base 5 1 v bs.length (bs.map (Value.int .u8))

theorem own_mono {w : World} {b b' : Nat} {v : Value} {l : List Int} (h : OBs w b v l) (hb : b' ≤ b) : OBs w b' v l := by
  refine ⟨h.1, ?_⟩
  rcases h.2 with h | ⟨g, cap, cur, hv, hg, r⟩
  · exact .inl h
  · exact .inr ⟨g, cap, cur, hv, Nat.le_trans hb hg, r⟩
theorem obs_own {w : World} {base : Nat} {v : Value} {l : List Int} (h : OBs w base v l) : w.ownsRow base 5 1 v l.length (l.map (Value.int .u8)) := h
theorem OBs.next {w w' : World} {base : Nat} {v : Value} {l : List Int} (h : OBs w base v l) (hb : Below w.heap.size w w') : OBs w' base v l :=
  World.ownsRow.kept (row := none) h ⟨hb.os, hb.tape, hb.output, hb.size, fun k hk _ => hb.block k hk⟩ (by cases v.ownBlock <;> simp)
theorem bytes_one (bs : List Int) : ∀ u ∈ bs.map (Value.int .u8), u.oneCell' = true := by
  intro u hu
  obtain ⟨n, _, rfl⟩ := List.mem_map.1 hu
  rfl
/-- Some elements more, out of a new block. -/
theorem wpList_pushM {P : Program} {ops : Array Oper} {rest : List Oper} {o : Oper} {a : Act} {Q : Exit → Act → World → Prop} {W : World} (hgd : o.guard = none) (s x : Operand) (t : TypeId)
    (ho : o.op = .call { callee := .builtin .append, args := #[s, x], argTypes := #[t, t] })
    (base : Nat) (e : TypeId) (z : Value) (size bytes : Nat) (ht : P.underlying t = some (.slice e)) (hinfo : (P.info? e).map (fun i => (i.zero, i.size, i.bytes)) = some (some z, size, bytes)) (hzs : z.cells.size = size) (hsz : 0 < size)
    (v : Value) (n : Nat) (xs : List Value) (hs : a.eval s = v) (hown : W.ownsRow base e size v n xs)
    (us : List Value) (m : Nat) (hul : us.length = m * size) (hu : ∀ u ∈ us, u.oneCell' = true) (cs : Array Value) (hcs : cs = us.toArray) (T : TypeId) (g c : Nat) (hg : g = W.heap.size) (hx : a.eval x = .slice (some ⟨g, 0, none⟩) m c)
    (h63 : n + m ≤ maxLen) (hbytes : (n + m) * bytes ≤ 140737488355328) (hbase : base ≤ W.heap.size)
    (h : ∀ v' w', w'.ownsRow base e size v' (n + m) (xs ++ us) → W.grownBy w' v.ownBlock → Below base W w' → wpList P ops Q rest (a.put o.dst v') w') : wpList P ops Q (o :: rest) a (W.alloc (.cells cs T)) := by
  obtain ⟨i, hi, hz, hsize, hby⟩ := info_parts hinfo
  subst hcs
  have hB : Below W.heap.size W (W.alloc (.cells us.toArray T)) := (Below.refl _ _).alloc (Nat.le_refl _) _
  refine wpList_append_own _ hgd s x t ho base e i z size bytes ht hi hz hsize hby hzs hsz v n xs hs (hown.alloc _) ⟨g, 0, none⟩ m c us hx hul (fun j u' hj => ?_) hu h63 hbytes (Nat.le_trans hbase hB.size) (fun v' w' h2 h3 _ => h v' w' h2 (grown_own hB h3) (below_own hown hbase hB h3))
  subst hg
  have hadd : (⟨W.heap.size, 0, none⟩ : Addr).add j = ⟨W.heap.size, j, none⟩ := by unfold Addr.add; split <;> simp_all
  rw [hadd, (Blk.new W T _).cell j]
  simpa using hj

set_option maxHeartbeats 4000000 in
theorem encode_any (A : Option Addr) (c : Nat) (l : List Cl) (hl : l.length ≤ 100000) (hok : OkCells l) (w : World) (hr : RCells w A l) :
    Calls Tryd.prog 7 #[.slice A l.length c] w fun e w' => ∃ v, e = .returned v ∧ OBs w' w.heap.size v (encL (runsL l)) ∧ Below w.heap.size w w' := by
  obtain ⟨ro, _, rl⟩ := runsL_ok l hok
  have HR := Lib.hid (runs_any A c l hl hok)
  have hlen : (runsL l).length ≤ 100000 := by omega
  generalize runsL l = rs at *
  have HOk := Lib.hid ro
  clear ro hok rl
  go_enter Tryd.func7, Tryd.ntmps7
  go_wp2_with fail
  refine (HR.out _ hr).mono ?_
  rintro e w1 ⟨v, rfl, hruns, hb⟩
  obtain ⟨A3, c3, rfl⟩ := oruns_form hruns
  go_wp2_with fail
  go_loopw [3, 10] (fun s i wr => ∃ k : Nat, k ≤ rs.length ∧ i = .int .i64 k ∧ OBs wr w1.heap.size s (encL (rs.take k)) ∧ Below w1.heap.size w1 wr) (fun _ i _ => rs.length - (intOf i).toNat)
  case atStart => exact ⟨0, by omega, rfl, World.ownsRow_nil _ _ _ _, Below.refl _ _⟩
  case round =>
    obtain ⟨k, hk, rfl, hown, hbr⟩ := hrel
    by_cases hlt : k < rs.length
    · obtain ⟨gr, cr, hv, hge, hgl⟩ := oruns_head (hruns.next hbr) (by omega)
      simp only [Value.slice.injEq] at hv
      obtain ⟨rfl, -, rfl⟩ := hv
      obtain ⟨d0, d1, d2, d3, _⟩ := oruns_cell rfl (hruns.next hbr) hlt
      have HS := Lib.hid (encL_snoc rs k hlt)
      have hE := encL_len (rs.take k)
      have hkl : (rs.take k).length = k := by rw [List.length_take]; omega
      rw [hkl] at hE
      have hok := HOk.out rs[k] (List.getElem_mem hlt)
      have HO := Lib.hid hown
      clear hown hkl
      generalize encL (rs.take k) = bs at *
      generalize rs[k] = y at *
      obtain ⟨⟨g, r, b⟩, n⟩ := y
      obtain ⟨⟨_, hr0⟩, hn1, hn2⟩ := hok
      simp only at d0 d1 d2 d3 hr0 hn1 hn2
      have hB := bytes_any ⟨g, r, b⟩ n hr0 (by omega)
      obtain ⟨a0, a1, a2, a3, a4, a5, a6, h7⟩ : ∃ a0 a1 a2 a3 a4 a5 a6, run7 ⟨g, r, b⟩ n = [a0, a1, a2, a3, a4, a5, a6] := ⟨_, _, _, _, _, _, _, rfl⟩
      rw [h7] at hB HS
      simp only [List.map_cons, List.map_nil] at hB
      have HB := Lib.hid hB
      clear hB h7
      have hb0 : Below wr.heap.size wr (wr.alloc (.cells #[.int .i32 g, .int .u8 r, .bool b, .int .i64 n] 48)) := (Below.refl _ _).alloc (Nat.le_refl _) _
      go_wp2_with fail
      refine (HB.out _).mono ?_
      rintro e w2 ⟨rfl, hb2⟩
      have hbw : Below wr.heap.size wr w2 := hb0.trans (hb2.mono hb0.size)
      have HO2 := Lib.hid (HO.out.next hbw)
      have hbase := hbr.size
      have hsz2 := hbw.size
      go_wp2_with (at_builtin; refine wpList_pushM rfl _ _ _ rfl w1.heap.size 5 (.int .u8 0) 1 1 Tryd.underlying23 info_byte rfl (by decide) _ _ _ rfl (obs_own HO2.out) ([a0, a1, a2, a3, a4, a5, a6].map (Value.int .u8)) 7 rfl (bytes_one _) _ rfl _ _ _ (by simp) rfl (by unfold maxLen; omega) (by omega) (by omega) ?_; intro v3 w3 hown3 hg3 hb3)
      go_roundw
      case rel => exact ⟨k + 1, by omega, by go_num, by rw [HS.out]; simpa [OBs] using hown3, (hbr.trans (hbw.mono hbr.size)).trans hb3⟩
      case measure => simp [intOf]; omega
    · obtain rfl : k = rs.length := by omega
      rw [List.take_length] at hown
      go_wp2
      go_ret
      exact ⟨_, rfl, own_mono hown hb.size, hb.trans (hbr.mono hb.size)⟩
end Go.Proofs.YtgndjonalhdhkaaDoor
