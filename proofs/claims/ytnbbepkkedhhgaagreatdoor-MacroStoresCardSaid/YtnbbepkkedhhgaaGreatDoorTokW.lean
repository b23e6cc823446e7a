/-
  A slice of one's own that is grown within a region that draws its order: what it was is as it was, and so is each other one.
-/
import Derived.Test.YtnbbepkkedhhgaaGreatDoorTokV
import Derived.ArgAppend
import Derived.Lib.ConvBytes
namespace Go.Proofs.YtnbbepkkedhhgaaGreatDoor

open Go Go.RowKit

section

variable {P : Program} (w : World)

theorem below_gn {w w' : World} (h : w.grownBy w' none) : Below w.heap.size w w' := ⟨h.os, h.tape, h.output, h.size, fun k hk => h.block k hk (by simp)⟩
theorem run_append_mild (base : Nat) (t ty e : TypeId) (i : TypeInfo) (z : Value) (bytes : Nat) (ht : P.underlying t = some (.slice e)) (hi : P.info? e = some i) (hz : i.zero = some z)
    (hsize : i.size = 1) (hby : i.bytes = bytes) (hzs : z.cells.size = 1)
    (g n cap : Nat) (xs : List Value) (hown : w.ownsRow base e 1 (.slice (some ⟨g, 0, none⟩) n cap) n xs)
    (a : Addr) (m c : Nat) (news : List Value) (hl : news.length = m) (hnews : ∀ j u, news[j]? = some u → w.cell? (a.add j) = some u) (h1 : ∀ u ∈ news, u.oneCell' = true)
    (h63 : n + m ≤ maxLen) (hbytes : (n + m) * bytes ≤ 140737488355328) (hbase : base ≤ w.heap.size) :
    ∃ u w', (Builtin.append_ #[t, t] ty #[.slice (some ⟨g, 0, none⟩) n cap, .slice (some a) m c]).run P w = .ok u w' ∧ w'.ownsRow base e 1 u (n + m) (xs ++ news) ∧ Below base w w' ∧
      (∀ v n' ys, (n' ≤ n ∨ (n' = n + m ∧ ys = xs ++ news)) → w.ownsRow base e 1 v n' ys → w'.ownsRow base e 1 v n' ys) ∧
      ∀ (g2 : Nat) cur2 T2 fz2, fz2 ≠ (0, 0) → w.heap[g2]? = some (.cells cur2 T2 fz2) → w'.heap[g2]? = some (.cells cur2 T2 fz2) := by
  have hown0 := hown
  rcases hown.2 with ⟨h, _⟩ | ⟨g', cap', cur, h, hbg, hg, hnc, hcm, hcs, htake⟩
  · simp at h
  · simp only [Value.slice.injEq, Option.some.injEq, Addr.mk.injEq, and_true, true_and] at h
    obtain ⟨rfl, rfl⟩ := h
    by_cases hroom : n + m ≤ cap
    · obtain ⟨w', hr, ho', hgr⟩ := run_append_fits (P := P) w base t ty e i 1 ht hi hsize g n cap xs hown0 a m c news (by simpa using hl) hnews h1 hroom
      refine ⟨_, w', hr, ho', ⟨hgr.os, hgr.tape, hgr.output, hgr.size, fun k hk => hgr.block k (by omega) (by simp; omega)⟩, ?_, fun g2 cur2 T2 fz2 hf hg2 => ?_⟩
      rotate_left
      · have hlt : g2 < w.heap.size := by
          rcases Nat.lt_or_ge g2 w.heap.size with h | h
          · exact h
          · rw [Array.getElem?_eq_none h] at hg2; cases hg2
        refine (hgr.block g2 hlt (by
          simp only [ne_eq, Option.some.injEq]
          rintro rfl
          rw [hg] at hg2
          injection hg2 with hg2
          injection hg2 with _ _ e3
          exact hf e3.symm)).trans hg2
      intro v n' ys hn' hv
      obtain ⟨hl', hv'⟩ := hv
      rcases hv' with ⟨rfl, h0⟩ | ⟨g2, cap2, cur2, rfl, hb2, hg2, hn2, hc2, hs2, ht2⟩
      · exact ⟨hl', .inl ⟨rfl, h0⟩⟩
      · have hlt : g2 < w.heap.size := Blk.lt (show Blk w g2 e cur2 from hg2)
        by_cases e2 : g2 = g
        · subst e2
          rw [hg] at hg2
          injection hg2 with hg2
          injection hg2 with hg2
          subst hg2
          rcases ho'.2 with ⟨h, _⟩ | ⟨g3, cap3, cur3, h, _, hg3, _, _, hs3, ht3⟩
          · simp at h
          · simp only [Value.slice.injEq, Option.some.injEq, Addr.mk.injEq, and_true, true_and] at h
            obtain ⟨rfl, rfl⟩ := h
            refine ⟨hl', .inr ⟨g2, cap2, cur3, rfl, hb2, hg3, hn2, hc2, by rw [hs3, ← hs2, hcs], ?_⟩⟩
            rcases hn' with hn' | ⟨rfl, rfl⟩
            · rw [← ht2]
              have q1 : cur3.toList.take (n' * 1) = (xs ++ news).take (n' * 1) := by rw [← ht3, List.take_take]; congr 1; omega
              have q2 : cur.toList.take (n' * 1) = xs.take (n' * 1) := by rw [← htake, List.take_take]; congr 1; omega
              rw [q1, q2, List.take_append_of_le_length]
              rw [hown0.1]; omega
            · exact ht3
        · exact ⟨hl', .inr ⟨g2, cap2, cur2, rfl, hb2, (hgr.block g2 hlt (by simp; exact e2)).trans hg2, hn2, hc2, hs2, ht2⟩⟩
    · obtain ⟨u, w', hr, ho', hgr⟩ := run_append_arg_grows (P := P) w t ty e i z 1 bytes ht hi hz hsize hby hzs (by decide) ⟨g, 0, none⟩ n cap xs hown0.1 (fun j u hu => by
          have hj : j < n := by
            have := (List.getElem?_eq_some_iff.1 hu).1
            rw [hown0.1] at this; omega
          have := World.ownsRow.cellAt hown0 j (by omega)
          have ha : (⟨g, 0, none⟩ : Addr).add j = ⟨g, j, none⟩ := by unfold Addr.add; split <;> simp_all
          rw [ha, this, hu]) a m c news (by simpa using hl) hnews (by omega) h63 hbytes
      have hb := below_gn hgr
      refine ⟨u, w', hr, own_base ho' hbase, hb.mono hbase, ?_, fun g2 cur2 T2 fz2 _ hg2 => ?_⟩
      rotate_left
      · have hlt : g2 < w.heap.size := by
          rcases Nat.lt_or_ge g2 w.heap.size with h | h
          · exact h
          · rw [Array.getElem?_eq_none h] at hg2; cases hg2
        exact (hb.block g2 hlt).trans hg2
      intro v n' ys _ hv
      obtain ⟨hl', hv'⟩ := hv
      rcases hv' with ⟨rfl, h0⟩ | ⟨g2, cap2, cur2, rfl, hb2, hg2, hn2, hc2, hs2, ht2⟩
      · exact ⟨hl', .inl ⟨rfl, h0⟩⟩
      · have hlt : g2 < w.heap.size := Blk.lt (show Blk w g2 e cur2 from hg2)
        exact ⟨hl', .inr ⟨g2, cap2, cur2, rfl, hb2, (hb.block g2 hlt).trans hg2, hn2, hc2, hs2, ht2⟩⟩
end

/-- No box and no store among the kinds: what turns of old memory is nothing. -/
theorem mild_of {ks : Kinds} {ops : Array Oper} {i : Nat} {wr w w' : World} (hs : ∀ x ∈ ks, ∃ p F, x.2 = .letter p F) (hb : Below wr.heap.size w w') (hl : ∀ x ∈ ks, x.1 ≠ i → dep ops x.1 i = false → ∀ p F, x.2 = .letter p F → ∀ v, F v w → F v w') : MildK ks ops i wr w w' :=
  ⟨fun h => ⟨hb.os.trans h.os, hb.tape.trans h.tape, hb.output.trans h.output, Nat.le_trans h.size hb.size, fun k hk hS => (hb.block k hk).trans (h.block k hk hS)⟩,
   fun j b T old new hj => (by obtain ⟨p, F, e⟩ := hs _ (kind_mem hj (by simp)); cases e),
   fun j s T z n hj => (by obtain ⟨p, F, e⟩ := hs _ (kind_mem hj (by simp)); cases e),
   fun j f p F hj hji hd v => (by
     obtain ⟨q, G, e⟩ := hs _ (kind_mem hj (by simp))
     injection e with e1 e2 e3
     subst e1
     exact hl _ (kind_mem hj (by simp)) hji hd p F rfl v), hb.size,
   fun j b p F hj => (by obtain ⟨q, G, e⟩ := hs _ (kind_mem hj (by simp)); cases e),
   fun j b hj => (by obtain ⟨q, G, e⟩ := hs _ (kind_mem hj (by simp)); cases e)⟩
/-- Bytes of a string, as a conversion makes them: their block bears a mark. -/
def StrF (B : Nat) (n : Nat) (xs : List Value) (u : Value) (W : World) : Prop := ∃ g cap cur fz, u = .slice (some ⟨g, 0, none⟩) n cap ∧ B ≤ g ∧ fz ≠ (0, 0) ∧ W.heap[g]? = some (.cells cur 5 fz) ∧ cur.toList.take n = xs
theorem str_stab (ks : Kinds) (wr : World) (n : Nat) (xs : List Value) (h : boxes ks = []) : ∀ v w w', Kept ks wr w w' → StrF wr.heap.size n xs v w → StrF wr.heap.size n xs v w' := by
  rintro v w w' hk ⟨g, cap, cur, fz, e, hb, hf, hg, ht⟩
  have hlt : g < w.heap.size := by
    rcases Nat.lt_or_ge g w.heap.size with h | h
    · exact h
    · rw [Array.getElem?_eq_none h] at hg; cases hg
  exact ⟨g, cap, cur, fz, e, hb, hf, (hk.block g hlt hb (fun cs T fr _ => by rw [h]; simp)).trans hg, ht⟩
theorem str_cell {B n : Nat} {xs : List Value} {g cap : Nat} {W : World} (h : StrF B n xs (.slice (some ⟨g, 0, none⟩) n cap) W) : ∀ j u, xs[j]? = some u → W.cell? ((⟨g, 0, none⟩ : Addr).add j) = some u := by
  obtain ⟨g', cap', cur, fz, e, _, _, hg, ht⟩ := h
  simp only [Value.slice.injEq, Option.some.injEq, Addr.mk.injEq, and_true, true_and] at e
  obtain ⟨rfl, rfl⟩ := e
  intro j u hu
  have ha : (⟨g, 0, none⟩ : Addr).add j = ⟨g, j, none⟩ := by unfold Addr.add; split <;> simp_all
  rw [ha, cell_of_row W g j cur 5 fz hg, ← hu, ← ht, List.getElem?_take]
  have hj : j < n := by
    have := (List.getElem?_eq_some_iff.1 hu).1
    rw [← ht, List.length_take] at this; omega
  rw [if_pos hj]
  simp
/-- A conversion of a text makes them. -/
theorem str_made (B : Nat) (s : ByteArray) (w : World) (hB : B ≤ w.heap.size) : ∃ u w', (convert 9 59 (.string s)).run Tryz.prog w = .ok u w' ∧ (∃ g cap, u = .slice (some ⟨g, 0, none⟩) s.size cap) ∧ StrF B s.size (Lib.strCells s) u w' ∧ Below w.heap.size w w' := by
  refine ⟨_, _, Lib.run_convert_string_bytes w 9 59 5 s Tryz.underlying9 Tryz.underlying59 Tryz.underlying5, ⟨_, _, rfl⟩, ⟨w.heap.size, _, _, _, rfl, hB, ?_, Lib.bytesWorld_at_new w _ s, ?_⟩, ?_⟩
  · intro e; injection e with _ e; omega
  · unfold Lib.bytesCells Lib.strCells
    simp only [Array.toList_append, Array.toList_map]
    rw [List.take_append_of_le_length (by simp)]
    rw [List.take_of_length_le (by simp)]
  · exact ⟨rfl, rfl, rfl, by rw [Lib.bytesWorld_size]; omega, fun k hk => Lib.bytesWorld_at_old w _ s k hk⟩
end Go.Proofs.YtnbbepkkedhhgaaGreatDoor
