/-
  Bytes that came in; bytes as a text; what the two Decodes answer.
-/
import Derived.Test.YtgndjonalhdhkaaDoorPackK
import Derived.Test.YtgndjonalhdhkaaDoorPackM
import Derived.Test.YtgndjonalhdhkaaDoorCellE
import Derived.Test.YtgndjonalhdhkaaDoorFrameC
import Derived.Laws.BytesArg
namespace Go.Proofs.YtgndjonalhdhkaaDoor
open Go Go.RowKit Go.ChangeShapes Go.WideShapes

theorem cellsByN : Tryd.prog.cellsOf 5 = 1 := by kernel_rfl
theorem bytes_in {H : Type} {enc : TypeId × Value → H} {W : World} {b : Option Addr} {len cap : Nat} {d : DataW H} {p : List MemPlace}
    (h : DataW.Trod enc Tryd.prog W 0 (fun _ => true) true 23 (.slice b len cap) d p) : ∃ l : List Int, len = l.length ∧ l.length ≤ maxLen ∧ l.length ≤ cap ∧ OkBs l ∧ RBs W b l := by
  obtain ⟨fuel, hf⟩ := h
  rcases open_ints Tryd.underlying23 Tryd.underlying5 cellsByN hf with ⟨hcs, hx⟩ | ⟨a, len', cap', zs, hcs, _, hl, hm, hz, hx, hcell, hwz⟩
  · simp [Value.cells] at hcs
    obtain ⟨rfl, rfl, rfl⟩ := hcs
    exact ⟨[], rfl, by simp, by simp, fun _ h => by simp at h, ⟨rfl, fun h => absurd h (by simp)⟩⟩
  · simp [Value.cells] at hcs
    obtain ⟨rfl, rfl, rfl⟩ := hcs
    simp at hz
    have hlen : (zs.take len).length = len := by rw [List.length_take]; omega
    refine ⟨zs.take len, hlen.symm, by rw [hlen]; omega, by rw [hlen]; omega, fun z hz2 => ?_, by simp, fun hn => ⟨a, rfl, ?_, fun j u hu => ?_⟩⟩
    · have := bounds_u8 (hwz z (List.mem_of_mem_take hz2))
      omega
    · rw [hlen] at hn
      have := cell_lt (hcell 0 (by omega))
      rwa [block_of_add] at this
    · have hj : j < (zs.take len).length := by
        have := (List.getElem?_eq_some_iff.1 hu).1
        simpa using this
      rw [hlen] at hj
      have hjz : j < zs.length := by omega
      rw [hcell j hjz, ← hu, List.getElem?_map, List.getElem?_take, if_pos hj, List.getElem?_eq_getElem hjz, List.getD_eq_getElem?_getD, List.getElem?_eq_getElem hjz]
      rfl
theorem RBs.take {w : World} {A : Option Addr} {l : List Int} (h : RBs w A l) (n : Nat) : RBs w A (l.take n) := by
  have hle : (l.take n).length ≤ l.length := by rw [List.length_take]; omega
  refine ⟨by simp, fun hn => ?_⟩
  obtain ⟨ad, e, hb, hc⟩ := h.2 (by omega)
  refine ⟨ad, e, hb, fun j u hu => hc j u ?_⟩
  rw [List.map_take] at hu
  rw [List.getElem?_take] at hu
  split at hu
  · exact hu
  · cases hu
theorem conv_bs {W : World} {A : Option Addr} {bs : List Int} (h : RBs W A bs) (c : Nat) : (convert 23 9 (.slice A bs.length c)).run Tryd.prog W = .ok (.string (strOfNums bs)) W := by
  rcases Nat.eq_zero_or_pos bs.length with hz | hp
  · rw [hz]
    obtain rfl : bs = [] := List.length_eq_zero_iff.1 hz
    rw [run_convert_bytes_string W _ _ 5 A 0 c Tryd.underlying23 Tryd.underlying5 Tryd.underlying9]
    cases A with
    | none =>
      have := run_convert_bytes_nil (P := Tryd.prog) W 23 5 Tryd.underlying23 Tryd.underlying5 0 c 9 Tryd.underlying9
      rw [run_convert_bytes_string W _ _ 5 none 0 c Tryd.underlying23 Tryd.underlying5 Tryd.underlying9] at this
      exact this
    | some a =>
      rw [run_bytesToString W a 0 c [] (by
        have := run_loadCells_list (P := Tryd.prog) W a [] (fun j v hj => by simp at hj)
        simpa using this)]
      rfl
  · obtain ⟨ad, rfl, _, hc⟩ := h.2 hp
    rw [run_convert_bytes_string W _ _ 5 (some ad) bs.length c Tryd.underlying23 Tryd.underlying5 Tryd.underlying9]
    have hl : (loadCells ad bs.length).run Tryd.prog W = .ok (bs.map (Value.int .u8)).toArray W := by
      have := run_loadCells_list (P := Tryd.prog) W ad (bs.map (Value.int .u8)) hc
      rw [List.length_map] at this
      exact this
    rw [run_bytesToString W ad bs.length c _ hl, foldl_push_bytes]
    simp [strOfNums, ByteArray.empty, ByteArray.emptyWithCapacity]
    rfl
theorem OBs.formN {w : World} {b : Nat} {v : Value} {l : List Int} (h : OBs w b v l) : ∃ A c, v = .slice A l.length c ∧ l.length ≤ c := by
  rcases h.2 with ⟨rfl, hn⟩ | ⟨g, cap, _, rfl, _, _, hle, _⟩
  · exact ⟨none, 0, by rw [hn], by omega⟩
  · exact ⟨_, _, rfl, by omega⟩
theorem OBs.readsN {w : World} {b c : Nat} {A : Option Addr} {l : List Int} (h : OBs w b (.slice A l.length c) l) : RBs w A l := Reads.of_own h
theorem encL_okN (L : List Cl) (h : OkCells L) : OkBs (encL (runsL L)) := by
  intro b hb
  obtain ⟨x, hx, hb⟩ := List.mem_flatMap.1 hb
  obtain ⟨⟨⟨g0, g1⟩, r0, r1⟩, n0, n1⟩ := (runsL_ok L h).1 x hx
  obtain ⟨⟨g, r, k⟩, n⟩ := x
  simp only [run7, List.mem_cons, List.not_mem_nil, or_false] at hb g0 g1 r0 r1 n0 n1
  rcases hb with rfl | rfl | rfl | rfl | rfl | rfl | rfl
  · omega
  · omega
  · omega
  · omega
  · omega
  · omega
  · cases k <;> simp
theorem flatR_len (rs : List Rn) (h : OkRuns rs) : (flatR rs).length ≤ 255 * rs.length := by
  induction rs with
  | nil => simp [flatR]
  | cons x rs ih =>
    have e : flatR (x :: rs) = List.replicate x.2 x.1 ++ flatR rs := rfl
    rw [e, List.length_append, List.length_replicate, List.length_cons]
    have := (h x List.mem_cons_self).2.2
    have := ih (fun y hy => h y (List.mem_cons_of_mem _ hy))
    omega
/-- What is read back from few bytes: a row that is short, that is fine, and that is written as it was. -/
theorem back_facts (bs : List Int) (rs : List Rn) (hn : bs.length ≤ 700) (hok : OkBs bs) (h : decR z0 bs = some rs) : encL (runsL (flatR rs)) = bs ∧ OkCells (flatR rs) ∧ (flatR rs).length ≤ 100000 := by
  obtain ⟨h1, h2⟩ := decR_bytes z0 bs rs hok h
  obtain ⟨e, _, h3⟩ := decR_some z0 bs rs hok h
  refine ⟨h1, h2, ?_⟩
  have h4 := flatR_len rs h3
  have h5 := encL_len rs
  rw [← e] at h5
  omega
def BsP (n : Nat) (u : Value) : Prop := ∃ A c, u = .slice A n c
def BsF (B : Nat) (l : List Int) (u : Value) (W : World) : Prop := ∃ A c base, u = .slice A l.length c ∧ B ≤ base ∧ OBs W base (.slice A l.length c) l
theorem bsF_stab (ks : Kinds) (wr : World) (l : List Int) (ht : 5 ∉ boxes ks) : ∀ v w w', Kept ks wr w w' → BsF wr.heap.size l v w → BsF wr.heap.size l v w' := by
  rintro v w w' hk ⟨A, c, base, e, hb, ho⟩
  refine ⟨A, c, base, e, hb, ho.1, ?_⟩
  rcases ho.2 with hn | ⟨g, cap, cur, hv, hg, hh, rest⟩
  · exact .inl hn
  · refine .inr ⟨g, cap, cur, hv, hg, ?_, rest⟩
    rw [hk.block g (Blk.lt (show Blk w g _ cur from hh)) (by omega) (fun cs T fr e => by
      have e2 : some (Obj.cells cur 5 (0, 0)) = some (.cells cs T fr) := hh.symm.trans e
      injection e2 with e2
      injection e2 with _ e3 _
      rw [← e3]; exact ht)]
    exact hh
theorem BsF.reads {B n : Nat} {l : List Int} {A : Option Addr} {c : Nat} {W : World} (hn : n = l.length) (h : BsF B l (.slice A n c) W) : RBs W A l := by
  subst hn
  obtain ⟨A', c', base, e, _, ho⟩ := h
  injection e with e1 _ e3
  subst e1 e3
  exact OBs.readsN ho
theorem bs_own {W : World} {B : Nat} {f : FuncId} {args : Array Value} {l : List Int} (hB : B ≤ W.heap.size) (h : Calls Tryd.prog f args W fun e w' => ∃ v, e = .returned v ∧ OBs w' W.heap.size v l ∧ Below W.heap.size W w') :
    Calls Tryd.prog f args W fun e w' => ∃ u, e = .returned u ∧ BsP l.length u ∧ BsF B l u w' ∧ Below W.heap.size W w' :=
  h.mono fun e w' ⟨v, he, ho, hb⟩ => by
    obtain ⟨A, c, rfl, _⟩ := OBs.formN ho
    exact ⟨_, he, ⟨A, c, rfl⟩, ⟨A, c, _, rfl, hB, ho⟩, hb⟩
end Go.Proofs.YtgndjonalhdhkaaDoor
