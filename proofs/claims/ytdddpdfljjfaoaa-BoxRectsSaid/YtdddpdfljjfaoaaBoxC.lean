/-
  Boxes: the part of a side that numbers tell.
-/
import Derived.Test.YtdddpdfljjfaoaaBoxB
namespace Go.Proofs.Ytdddpdfljjfaoaa
open Go Go.RowKit

/-- Two boxes of the call's own, and that old memory is as it was. -/
def K2 (w : World) (T : TypeId) (x : Array Value) (U : TypeId) (y : Array Value) (W : World) : Prop := Blk W w.heap.size T x ∧ Blk W (w.heap.size + 1) U y ∧ Below w.heap.size w W
section
variable {w W W' : World} {T U : TypeId} {x y : Array Value}
theorem K2.start (w : World) (T U : TypeId) (x y : Array Value) : K2 w T x U y ((w.alloc (.cells x T)).alloc (.cells y U)) := new2 w T U x y
theorem K2.next (h : K2 w T x U y W) (hb : Below W.heap.size W W') : K2 w T x U y W' := ⟨h.1.next hb, h.2.1.next hb, h.2.2.trans (hb.mono h.2.2.size)⟩
theorem K2.alloc (h : K2 w T x U y W) (o : Obj) : K2 w T x U y (W.alloc o) := ⟨h.1.alloc o, h.2.1.alloc o, h.2.2.alloc h.2.2.size o⟩
theorem K2.drew (h : K2 w T x U y W) : K2 w T x U y W.drew := ⟨h.1, h.2.1, h.2.2.drew⟩
theorem K2.lt (h : K2 w T x U y W) : w.heap.size + 1 < W.heap.size := h.2.1.lt
/-- A store into the second box. -/
theorem K2.set2 {a b : Value} (h : K2 w T x U #[a, b] W) (u v : Value) : K2 w T x U #[u, v] ((W.setCell ⟨w.heap.size + 1, 0, none⟩ u).setCell ⟨w.heap.size + 1, 1, none⟩ v) :=
  ⟨Blk.far (Blk.far h.1 (by simp) _) (by simp) _, (h.2.1.set_ 0 u).set_ 1 v, (h.2.2.setCell (by simp) _).setCell (by simp) _⟩
end

def partT (f b first last : Int) : Int × Int × Bool :=
  if first < 0 ∨ last < 0 then (0, 0, false) else
  if cntP f b < max first 1 then (0, 0, false) else
  if (if last ≠ 0 ∧ last ≤ cntP f b then f + last else b) ≤ f + max first 1 - 1 then (0, 0, false) else
  (f + max first 1 - 1, (if last ≠ 0 ∧ last ≤ cntP f b then f + last else b), true)
theorem part_cases (f b first last : Int) :
    (first < 0 ∧ partT f b first last = (0, 0, false)) ∨ (0 ≤ first ∧ last < 0 ∧ partT f b first last = (0, 0, false)) ∨
    (0 ≤ first ∧ 0 ≤ last ∧ ∃ F, ((first < 1 ∧ F = 1) ∨ (1 ≤ first ∧ F = first)) ∧
      ((cntP f b < F ∧ partT f b first last = (0, 0, false)) ∨
       (F ≤ b - f ∧ f < b ∧ cntP f b = b - f ∧ ∃ y, ((last = 0 ∧ y = b) ∨ (b - f < last ∧ y = b) ∨ (1 ≤ last ∧ last ≤ b - f ∧ y = f + last)) ∧
        ((y ≤ f + F - 1 ∧ partT f b first last = (0, 0, false)) ∨ (f + F - 1 < y ∧ partT f b first last = (f + F - 1, y, true)))))) := by
  by_cases h1 : first < 0
  · exact .inl ⟨h1, if_pos (.inl h1)⟩
  · by_cases h2 : last < 0
    · exact .inr (.inl ⟨by omega, h2, if_pos (.inr h2)⟩)
    · refine .inr (.inr ⟨by omega, by omega, max first 1, by omega, ?_⟩)
      unfold partT
      rw [if_neg (by omega)]
      by_cases h3 : cntP f b < max first 1
      · exact .inl ⟨h3, if_pos h3⟩
      · have hc : cntP f b = b - f := by
          unfold cntP at h3 ⊢
          split
          · rw [if_pos ‹_›] at h3; omega
          · rfl
        right
        rw [if_neg h3, hc]
        rw [hc] at h3
        refine ⟨by omega, by omega, rfl, (if last ≠ 0 ∧ last ≤ b - f then f + last else b), ?_, ?_⟩
        · by_cases h4 : last ≠ 0 ∧ last ≤ b - f
          · rw [if_pos h4]; omega
          · rw [if_neg h4]; omega
        · by_cases h5 : (if last ≠ 0 ∧ last ≤ b - f then f + last else b) ≤ f + max first 1 - 1
          · exact .inl ⟨h5, if_pos h5⟩
          · exact .inr ⟨by omega, if_neg h5⟩

set_option maxRecDepth 100000 in
set_option maxHeartbeats 4000000 in
theorem part_any (f b first last : Int) (h0 : -1000000 ≤ f ∧ f ≤ 1000000) (h1 : -9223372036854775808 ≤ b - f) (h2 : b - f ≤ 9223372036854775807) (h3 : -9223372036854775808 ≤ b) (h4 : b ≤ 9223372036854775807) (w : World) :
    Calls Try.prog 38 #[sV f b, .int .i64 first, .int .i64 last] w fun e w' => e = .returned (.tuple #[sV (partT f b first last).1 (partT f b first last).2.1, .bool (partT f b first last).2.2]) ∧ Below w.heap.size w w' := by
  obtain ⟨h00, h01⟩ := h0
  have HC := Lib.hid (fun W => count_any f b h1 h2 W)
  have HE0 := Lib.hid (fun x y W => sEmpty_any x y W)
  have HK := Lib.hid (K2.start w 48 48 (sC f b) (sC 0 0))
  rcases part_cases f b first last with ⟨g, e⟩ | ⟨g, g', e⟩ | ⟨g, g', F, hF, hrest⟩
  · rw [e]
    clear HC HE0 e
    unfold sV at *
    go_enter Try.func38, Try.ntmps38
    go_wp2_with fail
    exact bodyPost_ret (v := .tuple #[.agg #[.int .i64 0, .int .i64 0], .bool false]) (by simp [results, Try.results38, go_sem]) rfl ⟨rfl, HK.out.2.2⟩
  · rw [e]
    clear HC HE0 e
    have gd : decide (first < 0) = false := by simpa using g
    unfold sV at *
    go_enter Try.func38, Try.ntmps38
    go_wp2_with fail
    exact bodyPost_ret (v := .tuple #[.agg #[.int .i64 0, .int .i64 0], .bool false]) (by simp [results, Try.results38, go_sem]) rfl ⟨rfl, HK.out.2.2⟩
  · have gd : decide (first < 0) = false := by simpa using g
    rcases hrest with ⟨hn, e⟩ | ⟨hn, hfb, ecnt, y, hy, hrest⟩
    · rw [e]
      clear HE0 e h1 h2
      unfold sV at *
      generalize cntP f b = n at *
      rcases hF with ⟨h1', rfl⟩ | ⟨h1', rfl⟩
      all_goals
        go_enter Try.func38, Try.ntmps38
        go_wp2_with fail
        refine (HC.out _).mono ?_
        rintro e w1 ⟨rfl, hb1⟩
        have HK1 := Lib.hid (K2.next HK.out hb1)
        obtain ⟨d0, d1, z0, z1⟩ := blk2 HK1.out.2.1
        clear hb1
        go_wp2_with fail
        have HK2 := Lib.hid (K2.set2 HK1.out (.int .i64 0) (.int .i64 0))
        obtain ⟨e0, e1, _⟩ := blk2 HK2.out.2.1
        exact bodyPost_ret (v := .tuple #[.agg #[.int .i64 0, .int .i64 0], .bool false]) (by simp [results, Try.results38, go_sem, e0, e1]) rfl ⟨rfl, HK2.out.2.2⟩
    · have HE := Lib.hid (fun W => HE0.out (f + F - 1) y W)
      rw [ecnt] at HC
      clear HE0 ecnt
      have hok : (y ≤ f + F - 1 ∧ emB (f + F - 1) y = true ∧ partT f b first last = (0, 0, false)) ∨ (f + F - 1 < y ∧ emB (f + F - 1) y = false ∧ partT f b first last = (f + F - 1, y, true)) := by
        rcases hrest with ⟨h, e⟩ | ⟨h, e⟩
        · exact .inl ⟨h, by unfold emB; simpa using h, e⟩
        · exact .inr ⟨h, by unfold emB; simp; omega, e⟩
      clear hrest
      have s1 : IntKind.i64.wrap (b - f) = b - f := IntWalk.i64_in _ (by omega)
      have hl : (last = 0 ∧ y = b) ∨ (last ≠ 0 ∧ ((last != 0) = true) ∧ ((b - f < last ∧ y = b) ∨ (1 ≤ last ∧ last ≤ b - f ∧ y = f + last))) := by
        rcases hy with h | ⟨h, h'⟩ | ⟨h, h', h''⟩
        · exact .inl h
        · exact .inr ⟨by omega, by simp; omega, .inl ⟨h, h'⟩⟩
        · exact .inr ⟨by omega, by simp; omega, .inr ⟨h, h', h''⟩⟩
      clear hy
      have hz0 : ∀ W, K2 w 48 (sC f b) 48 (sC 0 0) W → w.heap.size < W.heap.size ∧ w.heap.size + 1 < W.heap.size := fun W h => ⟨by have := h.lt; omega, h.lt⟩
      have HZ := Lib.hid hz0
      clear hz0
      rcases hF with ⟨h1', rfl⟩ | ⟨h1', rfl⟩ <;> rcases hl with ⟨rfl, rfl⟩ | ⟨g0, g0', ⟨g1, rfl⟩ | ⟨g1, g2, rfl⟩⟩ <;> rcases hok with ⟨g3, e3, e⟩ | ⟨g3, e3, e⟩
      all_goals first | (exfalso; omega) | skip
      all_goals
        try simp only [Int.add_sub_cancel] at HE e e3 g3
        rw [e]
        rw [e3] at HE
        clear e e3 s1
        unfold sV at *
      all_goals
        go_enter Try.func38, Try.ntmps38
        go_wp2_with fail
        refine (HC.out _).mono ?_
        rintro e w1 ⟨rfl, hb1⟩
        have HK1 := Lib.hid (K2.next HK.out hb1)
        obtain ⟨c0, c1, _, _⟩ := blk2 HK1.out.1
        obtain ⟨hz1, hz2⟩ := HZ.out _ HK1.out
        clear hb1
        go_wp2_with fail
        have hn1 := Blk.new w1 48
        have HN1 := Lib.hid hn1
        clear hn1
        refine (HE.out _).mono ?_
        rintro e w2 ⟨rfl, hb2⟩
        have HK2 := Lib.hid (K2.next (K2.alloc HK1.out _) hb2)
        obtain ⟨d0, d1, z0, z1⟩ := blk2 HK2.out.2.1
        obtain ⟨x0, x1, _, _⟩ := blk2 (Blk.next (HN1.out _) hb2)
        clear hb2 c0 c1 hz1 hz2
        go_wp2_with fail
        first
          | (have HK3 := Lib.hid (K2.set2 HK2.out (.int .i64 0) (.int .i64 0))
             obtain ⟨e0, e1, _⟩ := blk2 HK3.out.2.1
             exact bodyPost_ret (v := .tuple #[.agg #[.int .i64 0, .int .i64 0], .bool false]) (by simp [results, Try.results38, go_sem, e0, e1]) rfl ⟨rfl, HK3.out.2.2⟩)
          | (have hk3 := fun u v => K2.set2 HK2.out u v
             have e0 := fun u v => (blk2 (hk3 u v).2.1).1
             have e1 := fun u v => (blk2 (hk3 u v).2.1).2.1
             exact bodyPost_ret (v := .tuple #[.agg #[.int .i64 _, .int .i64 _], .bool true]) (by simp [results, Try.results38, go_sem, e0, e1]) rfl ⟨rfl, (hk3 _ _).2.2⟩)
end Go.Proofs.Ytdddpdfljjfaoaa
