/-
  A slice of ints that came in, opened, with its capacity.
  A token that came in, opened.
  A slice of tokens that came in, opened.
-/
import Derived.Test.YtpiliicphoacfaaDoorFrameP
import Derived.Test.YtpiliicphoacfaaDoorTokG
import Derived.Test.YtpiliicphoacfaaDoorPrsR
import Derived.Deep.Slices
import Derived.Deep.Fields
import Derived.ChangeSame
import Derived.Lib.SmallJoins
namespace Go.Proofs.YtpiliicphoacfaaDoor

open Go.RowKit Go.ChangeShapes Go.WideShapes

theorem ints_in2 {H : Type} {enc : TypeId × Value → H} {W : World} {b : Option Addr} {len cap : Nat} {d : DataW H} {p : List MemPlace}
    (h : DataW.Trod enc Tryd.prog W 0 (fun _ => true) true 27 (.slice b len cap) d p) (hreach : ∀ elems spare, d = .slice elems spare → (elems.length + spare.length) * Tryd.prog.bytesOf 3 ≤ reachBytes) :
    ∃ ns : List Int, len = ns.length ∧ ns.length ≤ 17592186043904 ∧ ns.length ≤ cap ∧ RInts W b ns := by
  obtain ⟨fuel, hf⟩ := h
  rcases open_ints Tryd.underlying27 Tryd.underlying3 cellsInt hf with ⟨hcs, hx⟩ | ⟨a, len', cap', zs, hcs, _, hl, hm, hz, hx, hcell, hwz⟩
  · simp [Value.cells] at hcs
    obtain ⟨rfl, rfl, rfl⟩ := hcs
    exact ⟨[], rfl, by simp, by simp, ⟨rfl, fun h => absurd h (by simp)⟩⟩
  · simp [Value.cells] at hcs
    obtain ⟨rfl, rfl, rfl⟩ := hcs
    simp at hz
    have hr := hreach _ _ (congrArg Prod.fst hx)
    rw [bytesInt] at hr
    simp [lits] at hr
    have hlz : len ≤ zs.length := by omega
    refine ⟨zs.take len, by simp [hlz], ?_, by simp; omega, ?_⟩
    · simp only [List.length_take]
      unfold reachBytes at hr
      omega
    · rcases Nat.eq_zero_or_pos len with h0 | h0
      · subst h0
        exact ⟨by simp, fun h => absurd h (by simp)⟩
      · have hb : a.block < W.heap.size := by
          have := cell_lt (hcell 0 (by omega))
          rwa [block_of_add] at this
        exact rints_in hlz hb hcell
end Go.Proofs.YtpiliicphoacfaaDoor

namespace Go.Proofs.YtpiliicphoacfaaDoor

open Go.RowKit Go.ChangeShapes Go.WideShapes

theorem cellsTokR : Tryd.prog.cellsOf 31 = 6 := by kernel_rfl
theorem cellsU8K : Tryd.prog.cellsOf 5 = 1 := by kernel_rfl
theorem cellsStrK : Tryd.prog.cellsOf 9 = 1 := by kernel_rfl
theorem cellsIntsK : Tryd.prog.cellsOf 27 = 1 := by kernel_rfl
theorem cellsBytK : Tryd.prog.cellsOf 24 = 1 := by kernel_rfl
theorem bytesU8K : Tryd.prog.bytesOf 5 = 1 := by kernel_rfl
theorem fieldsTokR : (Tryd.prog.fieldsOf 31).toList.map (fun f => (f.type, f.offset)) = [(3, 0), (5, 1), (5, 2), (27, 3), (9, 4), (24, 5)] := by kernel_rfl
/-- Bytes of a slice that came in. -/
theorem byts_in {H : Type} {enc : TypeId × Value → H} {W : World} {n : Nat} {c5 : Value} {x : DataW H × List MemPlace}
    (h : DataW.trod enc Tryd.prog W 0 (fun _ => true) true n 24 [c5] = some x) (hreach : (x.1.weights Tryd.prog 24).all (· ≤ reachBytes) = true) :
    ∃ (D : Option Addr) (dt : List Nat) (dc : Nat), c5 = .slice D dt.length dc ∧ dt.length ≤ dc ∧ dt.length ≤ 140737488351232 ∧ (∀ k ∈ dt, k < 256) ∧ RByt W D dt := by
  rcases open_ints Tryd.underlying24 Tryd.underlying5 cellsU8K h with ⟨hcs, _⟩ | ⟨a, len, cap, zs, hcs, _, hl, hm, hz, hx, hcell, hwz⟩
  · injection hcs with e _
    exact ⟨none, [], 0, e, Nat.le_refl _, by simp, by simp, ⟨rfl, fun h => absurd h (by simp)⟩⟩
  · injection hcs with e _
    simp at hz
    have hr : (lits (H := H) .u8 (zs.take len)).length + (lits (H := H) .u8 (zs.drop len)).length ≤ reachBytes := by
      rw [hx] at hreach
      have := List.all_eq_true.1 hreach (((lits (H := H) .u8 (zs.take len)).length + (lits (H := H) .u8 (zs.drop len)).length) * Tryd.prog.bytesOf 5) (by simp [DataW.weights, Tryd.underlying24])
      rw [bytesU8K] at this
      simpa using this
    simp [lits] at hr
    have hlz : len ≤ zs.length := by omega
    have hb8 : ∀ z ∈ zs, 0 ≤ z ∧ z < 256 := fun z hz2 => by
      have := bounds_u8 (hwz z hz2)
      omega
    refine ⟨some a, (zs.take len).map Int.toNat, cap, by rw [List.length_map, List.length_take, Nat.min_eq_left hlz]; exact e, by rw [List.length_map, List.length_take]; omega, by rw [List.length_map, List.length_take]; unfold reachBytes at hr; omega, ?_, ?_⟩
    · intro k hk
      obtain ⟨z, hz2, rfl⟩ := List.mem_map.1 hk
      have := hb8 z (List.mem_of_mem_take hz2)
      omega
    · rcases Nat.eq_zero_or_pos len with h0 | h0
      · subst h0
        exact ⟨by simp, fun h => absurd h (by simp)⟩
      · have hb : a.block < W.heap.size := by
          have := cell_lt (hcell 0 (by omega))
          rwa [block_of_add] at this
        refine ⟨by simp, fun _ => ⟨a, rfl, hb, fun j u hu => ?_⟩⟩
        have hj : j < len := by
          have := (List.getElem?_eq_some_iff.1 hu).1
          simp at this
          omega
        have hjz : j < zs.length := by omega
        rw [hcell j hjz, ← hu, List.getElem?_map, List.getElem?_map, List.getElem?_take, if_pos hj, List.getElem?_eq_getElem hjz, List.getD_eq_getElem?_getD, List.getElem?_eq_getElem hjz]
        have := hb8 zs[j] (List.getElem_mem hjz)
        simp
        omega
/-- Numbers of a slice that came in. -/
theorem nums_in {H : Type} {enc : TypeId × Value → H} {W : World} {n : Nat} {c3 : Value} {x : DataW H × List MemPlace}
    (h : DataW.trod enc Tryd.prog W 0 (fun _ => true) true n 27 [c3] = some x) (hreach : (x.1.weights Tryd.prog 27).all (· ≤ reachBytes) = true) :
    ∃ (P : Option Addr) (ps : List Int) (pc : Nat), c3 = .slice P ps.length pc ∧ ps.length ≤ pc ∧ ps.length ≤ 17592186043904 ∧ RInts W P ps := by
  have hf := h
  rcases open_ints Tryd.underlying27 Tryd.underlying3 cellsInt h with ⟨hcs, _⟩ | ⟨a, len, cap, zs, hcs, _⟩
  · injection hcs with e _
    exact ⟨none, [], 0, e, Nat.le_refl _, by simp, ⟨rfl, fun h => absurd h (by simp)⟩⟩
  · injection hcs with e _
    subst e
    obtain ⟨ns, hlen, hm, hc, hri⟩ := ints_in2 (d := x.1) (p := x.2) ⟨n, hf⟩ (fun el sp e => by
      rw [e] at hreach
      have := List.all_eq_true.1 hreach ((el.length + sp.length) * Tryd.prog.bytesOf 3) (by simp [DataW.weights, Tryd.underlying27])
      simpa using this)
    subst hlen
    exact ⟨some a, ns, cap, rfl, hc, hm, hri⟩
theorem weights_field {H : Type} {fs : Array Field} {T : TypeId} (hu : Tryd.prog.underlying T = some (.struct fs)) {xs : List (DataW H × List MemPlace)} {i : Nat} {f : Field} {y : DataW H × List MemPlace} (hf : fs[i]? = some f) (hy : xs[i]? = some y)
    (hreach : ((DataW.agg (xs.map (·.1))).weights Tryd.prog T).all (· ≤ reachBytes) = true) : (y.1.weights Tryd.prog f.type).all (· ≤ reachBytes) = true := by
  rw [List.all_eq_true] at hreach ⊢
  intro n hn
  apply hreach
  simp only [DataW.weights, hu]
  exact DataW.weights_mem_each (j := i) (t := f.type) (d := y.1) (by simp [List.getElem?_map, hf]) (by simp [List.getElem?_map, hy]) n hn
set_option maxRecDepth 100000 in
theorem tok_in2 {H : Type} {enc : TypeId × Value → H} {W : World} {base : Nat} {v : Value} {d : DataW H} {p : List MemPlace} (hv : Value.okWide Tryd.prog W .any base 31 v)
    (h : DataW.Trod enc Tryd.prog W 0 (fun _ => true) true 31 v d p) (hreach : (d.weights Tryd.prog 31).all (· ≤ reachBytes) = true) :
    ∃ (k : Int) (c m : Nat) (P : Option Addr) (ps : List Int) (pc : Nat) (s : ByteArray) (D : Option Addr) (dt : List Nat) (dc : Nat), v = .agg (tkC k (c : Int) (m : Int) P ps pc s D dt dc) ∧ c < 256 ∧ m < 256 ∧ ps.length ≤ 17592186043904 ∧ ps.length ≤ pc ∧ s.size ≤ 140737488351232 ∧ dt.length ≤ 140737488351232 ∧ dt.length ≤ dc ∧ (∀ n ∈ dt, n < 256) ∧ RInts W P ps ∧ RByt W D dt := by
  obtain ⟨⟨cs⟩, rfl, hsz⟩ := okWide_struct Tryd.underlying31 hv
  rw [cellsTokR] at hsz
  obtain ⟨fuel, hf⟩ := h
  obtain ⟨xs, n, _, hx, hl, hxl, hfi⟩ := DataW.trod_struct Tryd.underlying31 hf
  obtain rfl : d = .agg (xs.map (·.1)) := congrArg Prod.fst hx
  have h0 := hfi 0 _ rfl
  have h1 := hfi 1 _ rfl
  have h2 := hfi 2 _ rfl
  have h3 := hfi 3 _ rfl
  have h4 := hfi 4 _ rfl
  have h5 := hfi 5 _ rfl
  match cs, hsz, xs, hxl with
  | [c0, c1, c2, c3, c4, c5], _, [y0, y1, y2, y3, y4, y5], _ =>
    have w3 := weights_field (i := 3) Tryd.underlying31 rfl rfl hreach
    have w5 := weights_field (i := 5) Tryd.underlying31 rfl rfl hreach
    obtain ⟨k, e0, _⟩ := DataW.trod_int Tryd.underlying3 (show DataW.trod enc Tryd.prog W 0 (fun _ => true) true n 3 [c0] = some y0 from by simpa [cellsInt, Value.cells] using h0)
    obtain ⟨c, e1, _, wc⟩ := DataW.trod_int Tryd.underlying5 (show DataW.trod enc Tryd.prog W 0 (fun _ => true) true n 5 [c1] = some y1 from by simpa [cellsU8K, Value.cells] using h1)
    obtain ⟨m, e2, _, wm⟩ := DataW.trod_int Tryd.underlying5 (show DataW.trod enc Tryd.prog W 0 (fun _ => true) true n 5 [c2] = some y2 from by simpa [cellsU8K, Value.cells] using h2)
    obtain ⟨P, ps, pc, e3, hp1, hp2, hri⟩ := nums_in (show DataW.trod enc Tryd.prog W 0 (fun _ => true) true n 27 [c3] = some y3 from by simpa [cellsIntsK, Value.cells] using h3) w3
    have w4 := weights_field (i := 4) Tryd.underlying31 rfl rfl hreach
    obtain ⟨s, e4, hy4, _⟩ := DataW.trod_string Tryd.underlying9 (show DataW.trod enc Tryd.prog W 0 (fun _ => true) true n 9 [c4] = some y4 from by simpa [cellsStrK, Value.cells] using h4)
    obtain ⟨D, dt, dc, e5, hd1, hd2, hd3, hrb⟩ := byts_in (show DataW.trod enc Tryd.prog W 0 (fun _ => true) true n 24 [c5] = some y5 from by simpa [cellsBytK, Value.cells] using h5) w5
    have hs : s.size ≤ 140737488351232 := by
      rw [hy4] at w4
      have := List.all_eq_true.1 w4 s.data.toList.length (by simp [DataW.weights])
      have h9 : s.data.toList.length ≤ reachBytes := of_decide_eq_true this
      have h8 : reachBytes = 140737488351232 := rfl
      rw [h8] at h9
      exact h9
    have bc := bounds_u8 wc
    have bm := bounds_u8 wm
    simp at e0 e1 e2 e4
    clear hy4 w4
    subst e0 e1 e2 e3 e4 e5
    refine ⟨k, c.toNat, m.toNat, P, ps, pc, s, D, dt, dc, ?_, by omega, by omega, hp2, hp1, hs, hd2, hd1, hd3, hri, hrb⟩
    unfold tkC
    rw [Int.toNat_of_nonneg (by omega), Int.toNat_of_nonneg (by omega)]
set_option maxRecDepth 100000 in
theorem tok_in {H : Type} {enc : TypeId × Value → H} {W : World} {base : Nat} {v : Value} {d : DataW H} {p : List MemPlace} (hv : Value.okWide Tryd.prog W .any base 31 v)
    (h : DataW.Trod enc Tryd.prog W 0 (fun _ => true) true 31 v d p) (hreach : (d.weights Tryd.prog 31).all (· ≤ reachBytes) = true) :
    ∃ (k : Int) (c m : Nat) (P : Option Addr) (ps : List Int) (pc : Nat) (s : ByteArray) (D : Option Addr) (dt : List Nat) (dc : Nat), v = .agg (tkC k (c : Int) (m : Int) P ps pc s D dt dc) ∧ c < 256 ∧ m < 256 ∧ ps.length ≤ 17592186043904 ∧ ps.length ≤ pc ∧ s.size ≤ maxLen ∧ dt.length ≤ 140737488351232 ∧ dt.length ≤ dc ∧ (∀ n ∈ dt, n < 256) ∧ RInts W P ps ∧ RByt W D dt := by
  obtain ⟨k, c, m, P, ps, pc, s, D, dt, dc, h1, h2, h3, h4, h5, h6, h7⟩ := tok_in2 hv h hreach
  exact ⟨k, c, m, P, ps, pc, s, D, dt, dc, h1, h2, h3, h4, h5, by unfold maxLen; omega, h7⟩
end Go.Proofs.YtpiliicphoacfaaDoor

namespace Go.Proofs.YtpiliicphoacfaaDoor
open Go Go.RowKit Go.ChangeShapes Go.WideShapes Go.Deep
set_option maxRecDepth 100000

section
variable {H : Type} {enc : TypeId × Value → H} {P : Program} {w : World} {base : Nat} {spare : Nat → Bool} {held : Bool}
theorem open_slice_fields {t e : TypeId} {fs : Array Field} {fuel : Nat} {cs : List Value} {x : DataW H × List MemPlace} (ht : P.underlying t = some (.slice e)) (he : P.underlying e = some (.struct fs))
    (hone : oneCellFields P fs = true) (hC : P.cellsOf e = fs.size) (h : DataW.trod enc P w base spare held fuel t cs = some x) :
    (cs = [.slice none 0 0] ∧ x = (.nil, [])) ∨
    ∃ (a : Addr) (len cap m : Nat) (D : Nat → DataW H) (Pl : Nat → List MemPlace), cs = [.slice (some a) len cap] ∧ base ≤ a.block ∧ len ≤ cap ∧ cap ≤ maxLen ∧ m = (if spare a.block then cap else len) ∧
      x = (.slice ((List.range len).map D) ((List.range (m - len)).map fun j => D (len + j)), MemPlace.row a (m * fs.size) ++ (List.range m).flatMap Pl) ∧
      ∀ i, i < m → ∃ (ys : List (DataW H × List MemPlace)) (n : Nat), D i = .agg (ys.map (·.1)) ∧ Pl i = ys.flatMap (·.2) ∧ ys.length = fs.size ∧
        ∀ (j : Nat) (f : Field), fs[j]? = some f → ∃ (v : Value) (y : DataW H × List MemPlace), w.cell? (a.add (i * fs.size + j)) = some v ∧ ys[j]? = some y ∧ DataW.trod enc P w base spare held n f.type [v] = some y := by
  rcases open_slice ht h with h0 | ⟨a, len, cap, m, n, D, Pl, hcs, hb, hl, hm, hmm, hx, hi⟩
  · exact .inl h0
  · refine .inr ⟨a, len, cap, m, D, Pl, hcs, hb, hl, hm, hmm, by rw [hC] at hx; exact hx, fun i him => ?_⟩
    obtain ⟨cs', hc, ht'⟩ := hi i him
    rw [hC] at hc
    obtain ⟨ys, n', hn', hy, hlen, hyl, hf⟩ := DataW.trod_struct he ht'
    obtain ⟨_, hcl, hat⟩ := World.cells?_some hc
    simp only [Prod.mk.injEq] at hy
    refine ⟨ys, n', hy.1, hy.2, hyl, fun j f hj => ?_⟩
    obtain ⟨ho, hk⟩ := hone_of hone j f hj
    have hjl : j < fs.size := (Array.getElem?_eq_some_iff.1 hj).1
    have hcell := hat j hjl
    have hv : cs'[j]? = some (cs'[j]'(by omega)) := List.getElem?_eq_getElem (by omega)
    have h1 := hf j f hj
    rw [ho, hk] at h1
    have hone' : (cs'.drop j).take 1 = [cs'[j]'(by omega)] := by
      rw [List.drop_eq_getElem_cons (by omega)]
      rfl
    rw [hone'] at h1
    have hys : ys[j]? = some (ys[j]'(by omega)) := List.getElem?_eq_getElem (by omega)
    refine ⟨_, _, ?_, hys, h1.trans hys⟩
    rw [← Go.Deep.add_add, hcell, hv]
end
theorem weights_all {H : Type} {P : Program} {e : TypeId} : ∀ {ds : List (DataW H)} {j : Nat} {d : DataW H}, ds[j]? = some d → ∀ n ∈ d.weights P e, n ∈ DataW.weightsAll P e ds
  | d0 :: ds, 0, d, hd, n, hn => by
    simp only [List.getElem?_cons_zero, Option.some.injEq] at hd
    subst hd
    simp only [DataW.weightsAll, List.mem_append]
    exact .inl hn
  | d0 :: ds, j + 1, d, hd, n, hn => by
    simp only [DataW.weightsAll, List.mem_append]
    exact .inr (weights_all (j := j) (by simpa using hd) n hn)
  | [], j, d, hd, n, hn => by simp at hd
/-- What is known of a token that came in. -/
structure Tin (t : Tok) : Prop where
  cd : t.cd < 256
  mr : t.mr < 256
  ps : t.ps.length ≤ 17592186043904
  it : t.it.size ≤ 140737488351232
  dt : t.dt.length ≤ 140737488351232
  by_ : ∀ n ∈ t.dt, n < 256
theorem flat6 : ∀ (xs : List (Array Value)), (∀ x ∈ xs, x.size = 6) → ∀ j u, (xs.flatMap Array.toList)[j]? = some u → ∃ (k : Nat) (x : Array Value) (r : Nat), xs[k]? = some x ∧ r < 6 ∧ j = k * 6 + r ∧ x[r]? = some u
  | [], _, j, u, hu => by simp at hu
  | x :: xs, h, j, u, hu => by
    have hx := h x (by simp)
    have hl : x.toList.length = 6 := by simpa using hx
    rw [List.flatMap_cons] at hu
    rcases Nat.lt_or_ge j 6 with hj | hj
    · rw [List.getElem?_append_left (by omega)] at hu
      exact ⟨0, x, j, rfl, hj, by omega, by simpa using hu⟩
    · rw [List.getElem?_append_right (by omega), hl] at hu
      obtain ⟨k, y, r, h1, h2, h3, h4⟩ := flat6 xs (fun x hx => h x (by simp [hx])) (j - 6) u hu
      exact ⟨k + 1, y, r, by simpa using h1, h2, by omega, h4⟩
theorem flat6_len : ∀ (xs : List (Array Value)), (∀ x ∈ xs, x.size = 6) → (xs.flatMap Array.toList).length = xs.length * 6
  | [], _ => rfl
  | x :: xs, h => by
    have hx := h x (by simp)
    rw [List.flatMap_cons, List.length_append, flat6_len xs (fun x hx => h x (by simp [hx])), Array.length_toList, hx, List.length_cons]
    omega
def RT1 (W : World) (x : Tok × Array Value) : Prop := ∃ A c B d, x.2 = x.1.cs A c B d ∧ RInts W A x.1.ps ∧ RByt W B x.1.dt
theorem rtl_map {W : World} {f : Nat → Tok × Array Value} : ∀ (is : List Nat), (∀ i ∈ is, RT1 W (f i)) → RTl W (is.map fun i => (f i).2) (is.map fun i => (f i).1)
  | [], _ => trivial
  | i :: is, h => ⟨h i (by simp), rtl_map is (fun j hj => h j (by simp [hj]))⟩
theorem toks_in {H : Type} {enc : TypeId × Value → H} {W : World} {b : Option Addr} {len cap : Nat} {d : DataW H} {p : List MemPlace}
    (h : DataW.Trod enc Tryd.prog W 0 (fun _ => true) true 22 (.slice b len cap) d p) (hreach : (d.weights Tryd.prog 22).all (· ≤ reachBytes) = true) :
    ∃ l : List Tok, len = l.length ∧ l.length ≤ maxLen ∧ (∀ t ∈ l, Tin t) ∧ RTs W b l := by
  obtain ⟨fuel, hf⟩ := h
  rcases open_slice_fields Tryd.underlying22 Tryd.underlying31 (by kernel_rfl) cellsTokR hf with ⟨hcs, _⟩ | ⟨a, len', cap', m, D, Pl, hcs, _, hl, hm, hmm, hx, hi⟩
  · simp [Value.cells] at hcs
    obtain ⟨rfl, rfl, rfl⟩ := hcs
    exact ⟨[], rfl, by simp, by simp, [], Reads.none_, trivial⟩
  · simp [Value.cells] at hcs
    obtain ⟨rfl, rfl, rfl⟩ := hcs
    simp at hmm
    subst hmm
    obtain rfl : d = _ := congrArg Prod.fst hx
    have each : ∀ i, ∃ x : Tok × Array Value, Tin x.1 ∧ (i < len → RT1 W x ∧ ∀ j u, x.2[j]? = some u → W.cell? (a.add (i * 6 + j)) = some u) := by
      intro i
      by_cases hlt : i < len
      · obtain ⟨ys, n, hD, _, hyl, hfs⟩ := hi i (by omega)
        have hw : ((DataW.agg (ys.map (·.1))).weights Tryd.prog 31).all (· ≤ reachBytes) = true := by
          rw [List.all_eq_true] at hreach ⊢
          intro n hn
          apply hreach
          simp only [DataW.weights, Tryd.underlying22]
          refine List.mem_cons_of_mem _ (List.mem_append_left _ ?_)
          exact weights_all (j := i) (d := D i) (by simp [hlt]) n (by rw [hD]; exact hn)
        obtain ⟨v0, y0, c0, _, t0⟩ := hfs 0 _ rfl
        obtain ⟨v1, y1, c1, _, t1⟩ := hfs 1 _ rfl
        obtain ⟨v2, y2, c2, _, t2⟩ := hfs 2 _ rfl
        obtain ⟨v3, y3, c3, z3, t3⟩ := hfs 3 _ rfl
        obtain ⟨v4, y4, c4, z4, t4⟩ := hfs 4 _ rfl
        obtain ⟨v5, y5, c5, z5, t5⟩ := hfs 5 _ rfl
        have w3 := weights_field (i := 3) Tryd.underlying31 rfl z3 hw
        have w4 := weights_field (i := 4) Tryd.underlying31 rfl z4 hw
        have w5 := weights_field (i := 5) Tryd.underlying31 rfl z5 hw
        obtain ⟨k, e0, _⟩ := DataW.trod_int Tryd.underlying3 t0
        obtain ⟨c, e1, _, wc⟩ := DataW.trod_int Tryd.underlying5 t1
        obtain ⟨mk, e2, _, wm⟩ := DataW.trod_int Tryd.underlying5 t2
        obtain ⟨P, ps, pc, e3, hp1, hp2, hri⟩ := nums_in t3 w3
        obtain ⟨s, e4, hy4, _⟩ := DataW.trod_string Tryd.underlying9 t4
        obtain ⟨B, dt, dc, e5, hd1, hd2, hd3, hrb⟩ := byts_in t5 w5
        have hs : s.size ≤ 140737488351232 := by
          rw [hy4] at w4
          have := List.all_eq_true.1 w4 s.data.toList.length (by simp [DataW.weights])
          have h9 : s.data.toList.length ≤ reachBytes := of_decide_eq_true this
          have h8 : reachBytes = 140737488351232 := rfl
          rw [h8] at h9
          exact h9
        have bc := bounds_u8 wc
        have bm := bounds_u8 wm
        simp at e0 e1 e2 e4
        subst e0 e1 e2 e3 e4 e5
        have hcn : ((c.toNat : Nat) : Int) = c := Int.toNat_of_nonneg (by omega)
        have hmn : ((mk.toNat : Nat) : Int) = mk := Int.toNat_of_nonneg (by omega)
        refine ⟨(⟨k, c.toNat, mk.toNat, ps, s, dt⟩, #[.int .i64 k, .int .u8 c, .int .u8 mk, .slice P ps.length pc, .string s, .slice B dt.length dc]), ⟨by show c.toNat < 256; omega, by show mk.toNat < 256; omega, hp2, hs, hd2, hd3⟩, fun _ => ⟨⟨P, pc, B, dc, ?_, hri, hrb⟩, fun j u hu => ?_⟩⟩
        · unfold Tok.cs
          dsimp only
          rw [hcn, hmn]
        · have hj : j < 6 := (Array.getElem?_eq_some_iff.1 hu).1
          have h6 : j = 0 ∨ j = 1 ∨ j = 2 ∨ j = 3 ∨ j = 4 ∨ j = 5 := by omega
          rcases h6 with rfl | rfl | rfl | rfl | rfl | rfl
          · exact c0.trans hu
          · exact c1.trans hu
          · exact c2.trans hu
          · exact c3.trans hu
          · exact c4.trans hu
          · exact c5.trans hu
      · exact ⟨(⟨0, 0, 0, [], ⟨#[]⟩, []⟩, #[]), ⟨by decide, by decide, by decide, by decide, by decide, by simp⟩, fun h => absurd h hlt⟩
    obtain ⟨f, hF⟩ := Classical.axiomOfChoice each
    have hsz : ∀ x ∈ (List.range len).map (fun i => (f i).2), x.size = 6 := fun x hx => by
      obtain ⟨i, hi2, rfl⟩ := List.mem_map.1 hx
      obtain ⟨⟨A, c, B, d, e, _⟩, _⟩ := (hF i).2 (List.mem_range.1 hi2)
      rw [e]
      rfl
    refine ⟨(List.range len).map fun i => (f i).1, by simp, by simp; omega, fun c hc => ?_, (List.range len).map fun i => (f i).2, ⟨?_, fun hn => ⟨a, rfl, ?_, fun j u hu => ?_⟩⟩, rtl_map _ (fun i hi2 => ((hF i).2 (List.mem_range.1 hi2)).1)⟩
    · obtain ⟨i, _, rfl⟩ := List.mem_map.1 hc
      exact (hF i).1
    · rw [flat6_len _ hsz]
      simp
    · have h0 : 0 < len := by simpa using hn
      obtain ⟨⟨A, c, B, d, e, _⟩, hc⟩ := (hF 0).2 h0
      have := cell_lt (hc 0 (.int .i64 (f 0).1.kd) (by rw [e]; rfl))
      rwa [block_of_add] at this
    · obtain ⟨k, x, r, h1, h2, h3, h4⟩ := flat6 _ hsz j u hu
      rw [List.getElem?_map] at h1
      have hk : k < len := by
        rcases Nat.lt_or_ge k len with hk | hk
        · exact hk
        · rw [List.getElem?_eq_none (by simpa using hk)] at h1; cases h1
      rw [List.getElem?_range hk] at h1
      injection h1 with h1
      subst h1 h3
      exact ((hF k).2 hk).2 r u h4
end Go.Proofs.YtpiliicphoacfaaDoor
