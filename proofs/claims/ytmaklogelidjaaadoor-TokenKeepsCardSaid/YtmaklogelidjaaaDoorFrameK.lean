/-
  A token that came in, opened.
-/
import Derived.Test.YtmaklogelidjaaaDoorFrameP
import Derived.Test.YtmaklogelidjaaaDoorFrameE
import Derived.Test.YtmaklogelidjaaaDoorTokC
namespace Go.Proofs.YtmaklogelidjaaaDoor

open Go.RowKit Go.ChangeShapes Go.WideShapes

theorem cellsTokR : Tryd.prog.cellsOf 25 = 6 := by kernel_rfl
theorem cellsU8K : Tryd.prog.cellsOf 5 = 1 := by kernel_rfl
theorem cellsStrK : Tryd.prog.cellsOf 9 = 1 := by kernel_rfl
theorem cellsIntsK : Tryd.prog.cellsOf 22 = 1 := by kernel_rfl
theorem cellsBytK : Tryd.prog.cellsOf 23 = 1 := by kernel_rfl
theorem bytesU8K : Tryd.prog.bytesOf 5 = 1 := by kernel_rfl
theorem fieldsTokR : (Tryd.prog.fieldsOf 25).toList.map (fun f => (f.type, f.offset)) = [(3, 0), (5, 1), (5, 2), (22, 3), (9, 4), (23, 5)] := by kernel_rfl
/-- Bytes of a slice that came in. -/
theorem byts_in {H : Type} {enc : TypeId × Value → H} {W : World} {n : Nat} {c5 : Value} {x : DataW H × List MemPlace}
    (h : DataW.trod enc Tryd.prog W 0 (fun _ => true) true n 23 [c5] = some x) (hreach : (x.1.weights Tryd.prog 23).all (· ≤ reachBytes) = true) :
    ∃ (D : Option Addr) (dt : List Nat) (dc : Nat), c5 = .slice D dt.length dc ∧ dt.length ≤ dc ∧ dt.length ≤ 140737488351232 ∧ (∀ k ∈ dt, k < 256) ∧ RByt W D dt := by
  rcases open_ints Tryd.underlying23 Tryd.underlying5 cellsU8K h with ⟨hcs, _⟩ | ⟨a, len, cap, zs, hcs, _, hl, hm, hz, hx, hcell, hwz⟩
  · injection hcs with e _
    exact ⟨none, [], 0, e, Nat.le_refl _, by simp, by simp, ⟨rfl, fun h => absurd h (by simp)⟩⟩
  · injection hcs with e _
    simp at hz
    have hr : (lits (H := H) .u8 (zs.take len)).length + (lits (H := H) .u8 (zs.drop len)).length ≤ reachBytes := by
      rw [hx] at hreach
      have := List.all_eq_true.1 hreach (((lits (H := H) .u8 (zs.take len)).length + (lits (H := H) .u8 (zs.drop len)).length) * Tryd.prog.bytesOf 5) (by simp [DataW.weights, Tryd.underlying23])
      rw [bytesU8K] at this
      simpa using this
    simp [lits] at hr
    have hlz : len ≤ zs.length := by omega
    have hb8 : ∀ z ∈ zs, 0 ≤ z ∧ z < 256 := fun z hz2 => by
      have := bounds_u8 (hwz z hz2)
      omega
    refine ⟨some a, (zs.take len).map Int.toNat, cap, by rw [List.length_map, List.length_take, Nat.min_eq_left hlz]; exact e, by rw [List.length_map, List.length_take]; omega, by rw [List.length_map, List.length_take]; unfold reachBytes at hr; omega, ?_, ?_⟩
    · intro k hk
      obtain ⟨z, hz2, rfl⟩ := List.mem_map.1 hk
      have := hb8 z (List.mem_of_mem_take hz2)
      omega
    · rcases Nat.eq_zero_or_pos len with h0 | h0
      · subst h0
        exact ⟨by simp, fun h => absurd h (by simp)⟩
      · have hb : a.block < W.heap.size := by
          have := cell_lt (hcell 0 (by omega))
          rwa [block_of_add] at this
        refine ⟨by simp, fun _ => ⟨a, rfl, hb, fun j u hu => ?_⟩⟩
        have hj : j < len := by
          have := (List.getElem?_eq_some_iff.1 hu).1
          simp at this
          omega
        have hjz : j < zs.length := by omega
        rw [hcell j hjz, ← hu, List.getElem?_map, List.getElem?_map, List.getElem?_take, if_pos hj, List.getElem?_eq_getElem hjz, List.getD_eq_getElem?_getD, List.getElem?_eq_getElem hjz]
        have := hb8 zs[j] (List.getElem_mem hjz)
        simp
        omega
/-- Numbers of a slice that came in. -/
theorem nums_in {H : Type} {enc : TypeId × Value → H} {W : World} {n : Nat} {c3 : Value} {x : DataW H × List MemPlace}
    (h : DataW.trod enc Tryd.prog W 0 (fun _ => true) true n 22 [c3] = some x) (hreach : (x.1.weights Tryd.prog 22).all (· ≤ reachBytes) = true) :
    ∃ (P : Option Addr) (ps : List Int) (pc : Nat), c3 = .slice P ps.length pc ∧ ps.length ≤ pc ∧ ps.length ≤ 17592186043904 ∧ RInts W P ps := by
  have hf := h
  rcases open_ints Tryd.underlying22 Tryd.underlying3 cellsInt h with ⟨hcs, _⟩ | ⟨a, len, cap, zs, hcs, _⟩
  · injection hcs with e _
    exact ⟨none, [], 0, e, Nat.le_refl _, by simp, ⟨rfl, fun h => absurd h (by simp)⟩⟩
  · injection hcs with e _
    subst e
    obtain ⟨ns, hlen, hm, hc, hri⟩ := ints_in2 (d := x.1) (p := x.2) ⟨n, hf⟩ (fun el sp e => by
      rw [e] at hreach
      have := List.all_eq_true.1 hreach ((el.length + sp.length) * Tryd.prog.bytesOf 3) (by simp [DataW.weights, Tryd.underlying22])
      simpa using this)
    subst hlen
    exact ⟨some a, ns, cap, rfl, hc, hm, hri⟩
theorem weights_field {H : Type} {fs : Array Field} {T : TypeId} (hu : Tryd.prog.underlying T = some (.struct fs)) {xs : List (DataW H × List MemPlace)} {i : Nat} {f : Field} {y : DataW H × List MemPlace} (hf : fs[i]? = some f) (hy : xs[i]? = some y)
    (hreach : ((DataW.agg (xs.map (·.1))).weights Tryd.prog T).all (· ≤ reachBytes) = true) : (y.1.weights Tryd.prog f.type).all (· ≤ reachBytes) = true := by
  rw [List.all_eq_true] at hreach ⊢
  intro n hn
  apply hreach
  simp only [DataW.weights, hu]
  exact DataW.weights_mem_each (j := i) (t := f.type) (d := y.1) (by simp [List.getElem?_map, hf]) (by simp [List.getElem?_map, hy]) n hn
set_option maxRecDepth 100000 in
theorem tok_in2 {H : Type} {enc : TypeId × Value → H} {W : World} {base : Nat} {v : Value} {d : DataW H} {p : List MemPlace} (hv : Value.okWide Tryd.prog W .any base 25 v)
    (h : DataW.Trod enc Tryd.prog W 0 (fun _ => true) true 25 v d p) (hreach : (d.weights Tryd.prog 25).all (· ≤ reachBytes) = true) :
    ∃ (k : Int) (c m : Nat) (P : Option Addr) (ps : List Int) (pc : Nat) (s : ByteArray) (D : Option Addr) (dt : List Nat) (dc : Nat), v = .agg (tkC k (c : Int) (m : Int) P ps pc s D dt dc) ∧ c < 256 ∧ m < 256 ∧ ps.length ≤ 17592186043904 ∧ ps.length ≤ pc ∧ s.size ≤ 140737488351232 ∧ dt.length ≤ 140737488351232 ∧ dt.length ≤ dc ∧ (∀ n ∈ dt, n < 256) ∧ RInts W P ps ∧ RByt W D dt := by
  obtain ⟨⟨cs⟩, rfl, hsz⟩ := okWide_struct Tryd.underlying25 hv
  rw [cellsTokR] at hsz
  obtain ⟨fuel, hf⟩ := h
  obtain ⟨xs, n, _, hx, hl, hxl, hfi⟩ := DataW.trod_struct Tryd.underlying25 hf
  obtain rfl : d = .agg (xs.map (·.1)) := congrArg Prod.fst hx
  have h0 := hfi 0 _ rfl
  have h1 := hfi 1 _ rfl
  have h2 := hfi 2 _ rfl
  have h3 := hfi 3 _ rfl
  have h4 := hfi 4 _ rfl
  have h5 := hfi 5 _ rfl
  match cs, hsz, xs, hxl with
  | [c0, c1, c2, c3, c4, c5], _, [y0, y1, y2, y3, y4, y5], _ =>
    have w3 := weights_field (i := 3) Tryd.underlying25 rfl rfl hreach
    have w5 := weights_field (i := 5) Tryd.underlying25 rfl rfl hreach
    obtain ⟨k, e0, _⟩ := DataW.trod_int Tryd.underlying3 (show DataW.trod enc Tryd.prog W 0 (fun _ => true) true n 3 [c0] = some y0 from by simpa [cellsInt, Value.cells] using h0)
    obtain ⟨c, e1, _, wc⟩ := DataW.trod_int Tryd.underlying5 (show DataW.trod enc Tryd.prog W 0 (fun _ => true) true n 5 [c1] = some y1 from by simpa [cellsU8K, Value.cells] using h1)
    obtain ⟨m, e2, _, wm⟩ := DataW.trod_int Tryd.underlying5 (show DataW.trod enc Tryd.prog W 0 (fun _ => true) true n 5 [c2] = some y2 from by simpa [cellsU8K, Value.cells] using h2)
    obtain ⟨P, ps, pc, e3, hp1, hp2, hri⟩ := nums_in (show DataW.trod enc Tryd.prog W 0 (fun _ => true) true n 22 [c3] = some y3 from by simpa [cellsIntsK, Value.cells] using h3) w3
    have w4 := weights_field (i := 4) Tryd.underlying25 rfl rfl hreach
    obtain ⟨s, e4, hy4, _⟩ := DataW.trod_string Tryd.underlying9 (show DataW.trod enc Tryd.prog W 0 (fun _ => true) true n 9 [c4] = some y4 from by simpa [cellsStrK, Value.cells] using h4)
    obtain ⟨D, dt, dc, e5, hd1, hd2, hd3, hrb⟩ := byts_in (show DataW.trod enc Tryd.prog W 0 (fun _ => true) true n 23 [c5] = some y5 from by simpa [cellsBytK, Value.cells] using h5) w5
    have hs : s.size ≤ 140737488351232 := by
      rw [hy4] at w4
      have := List.all_eq_true.1 w4 s.data.toList.length (by simp [DataW.weights])
      have h9 : s.data.toList.length ≤ reachBytes := of_decide_eq_true this
      have h8 : reachBytes = 140737488351232 := rfl
      rw [h8] at h9
      exact h9
    have bc := bounds_u8 wc
    have bm := bounds_u8 wm
    simp at e0 e1 e2 e4
    clear hy4 w4
    subst e0 e1 e2 e3 e4 e5
    refine ⟨k, c.toNat, m.toNat, P, ps, pc, s, D, dt, dc, ?_, by omega, by omega, hp2, hp1, hs, hd2, hd1, hd3, hri, hrb⟩
    unfold tkC
    rw [Int.toNat_of_nonneg (by omega), Int.toNat_of_nonneg (by omega)]
theorem tok_in {H : Type} {enc : TypeId × Value → H} {W : World} {base : Nat} {v : Value} {d : DataW H} {p : List MemPlace} (hv : Value.okWide Tryd.prog W .any base 25 v)
    (h : DataW.Trod enc Tryd.prog W 0 (fun _ => true) true 25 v d p) (hreach : (d.weights Tryd.prog 25).all (· ≤ reachBytes) = true) :
    ∃ (k : Int) (c m : Nat) (P : Option Addr) (ps : List Int) (pc : Nat) (s : ByteArray) (D : Option Addr) (dt : List Nat) (dc : Nat), v = .agg (tkC k (c : Int) (m : Int) P ps pc s D dt dc) ∧ c < 256 ∧ m < 256 ∧ ps.length ≤ 17592186043904 ∧ ps.length ≤ pc ∧ s.size ≤ maxLen ∧ dt.length ≤ 140737488351232 ∧ dt.length ≤ dc ∧ (∀ n ∈ dt, n < 256) ∧ RInts W P ps ∧ RByt W D dt := by
  obtain ⟨k, c, m, P, ps, pc, s, D, dt, dc, h1, h2, h3, h4, h5, h6, h7⟩ := tok_in2 hv h hreach
  exact ⟨k, c, m, P, ps, pc, s, D, dt, dc, h1, h2, h3, h4, h5, by unfold maxLen; omega, h7⟩
end Go.Proofs.YtmaklogelidjaaaDoor
