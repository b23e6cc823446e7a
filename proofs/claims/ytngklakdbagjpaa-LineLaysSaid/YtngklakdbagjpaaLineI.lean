/-
  The walks of the reference's Clamp and New.
-/
import Derived.Test.YtngklakdbagjpaaLineH
import Derived.Deep.RegionLaw
namespace Go.Proofs.Ytngklakdbagjpaa
open Go.RowKit

/-- A number between two others. -/
def clampP (n a b : Int) : Int := if n < a then a else if n > b then b else n
theorem clampP_cols (c : Int) : clampP c 0 500 = (colsP c : Int) := by
  unfold clampP colsP
  split
  · omega
  · split <;> omega
theorem clamp_any (n a b : Int) (w : World) :
    Calls Try.prog 16 #[.int .i64 n, .int .i64 a, .int .i64 b] w fun e w' => e = .returned (.int .i64 (clampP n a b)) ∧ w = w' := by
  by_cases h : n < a
  · have HP : Hid (clampP n a b = a) := Lib.hid (by unfold clampP; rw [if_pos h])
    generalize clampP n a b = x at *
    go_enter Try.func16, Try.ntmps16
    go_wp2_with fail
    go_ret
    exact ⟨ret_int (by rw [HP.out]), rfl⟩
  · have hd : decide (n < a) = false := by simpa using h
    by_cases h2 : n > b
    · have HP : Hid (clampP n a b = b) := Lib.hid (by unfold clampP; rw [if_neg h, if_pos h2])
      generalize clampP n a b = x at *
      clear h
      go_enter Try.func16, Try.ntmps16
      go_wp2_with fail
      go_ret
      exact ⟨ret_int (by rw [HP.out]), rfl⟩
    · have hd2 : decide (b < n) = false := by simpa using h2
      have HP : Hid (clampP n a b = n) := Lib.hid (by unfold clampP; rw [if_neg h, if_neg h2])
      generalize clampP n a b = x at *
      clear h h2
      go_enter Try.func16, Try.ntmps16
      go_wp2_with fail
      go_ret
      exact ⟨ret_int (by rw [HP.out]), rfl⟩

theorem own_far {w : World} {base : Nat} {e : TypeId} {s n : Nat} {v : Value} {xs : List Value} (h : w.ownsRow base e s v n xs) : ∀ k, v.ownBlock = some k → base ≤ k := by
  rcases h.2 with ⟨rfl, _⟩ | ⟨g, cap, cur, rfl, hb, _⟩
  · intro k hk; simp [Value.ownBlock] at hk
  · intro k hk; simp [Value.ownBlock] at hk; omega
theorem KL.grown {w W w' : World} {x y : Array Value} {row : Option Nat} (h : KL w x y W) (hg : W.grownBy w' row) (hr : ∀ k, row = some k → w.heap.size + 2 ≤ k) : KL w x y w' :=
  ⟨h.1.grown hg (fun e => by have := hr _ e.symm; omega), h.2.1.grown hg (fun e => by have := hr _ e.symm; omega), h.2.2.grown hg h.2.2.size (fun k hk => by have := hr k hk; omega)⟩
theorem KL.set20 {w W : World} {x : Array Value} {c d : Value} (h : KL w x #[c, d] W) (u : Value) : KL w x #[u, d] (W.setCell ⟨w.heap.size + 1, 0, none⟩ u) :=
  ⟨Blk.far h.1 (by simp) _, h.2.1.set_ 0 u, h.2.2.setCell (by simp) _⟩
theorem KL.store1 {w W : World} {a b : Value} {y : Array Value} (h : KL w #[a, b] y W) (u v : Value) : KL w #[u, v] y ((W.setCell ⟨w.heap.size, 0, none⟩ u).setCell ⟨w.heap.size, 1, none⟩ v) :=
  ⟨(h.1.set_ 0 u).set_ 1 v, Blk.far (Blk.far h.2.1 (by simp) _) (by simp) _, (h.2.2.setCell (by simp) _).setCell (by simp) _⟩
theorem KL.first {w W : World} {a b : Value} {y : Array Value} (h : KL w #[a, b] y W) : W.cell? ⟨w.heap.size, 0, none⟩ = some a ∧ W.cell? ⟨w.heap.size, 1, none⟩ = some b ∧ W.frozen? ⟨w.heap.size, 0, none⟩ = false ∧ W.frozen? ⟨w.heap.size, 1, none⟩ = false :=
  ⟨h.1.cell 0, h.1.cell 1, h.1.frozen 0, h.1.frozen 1⟩
theorem OCells.far {w : World} {base : Nat} {v : Value} {l : List Cl} (h : OCells w base v l) {g : Nat} (hp : g < base) (o : Nat) (u : Value) : OCells (w.setCell ⟨g, o, none⟩ u) base v l :=
  World.ownsRow.kept (row := some g) h grown_set1 (by
    rcases hk : v.ownBlock with _ | k
    · exact .inl rfl
    · right; intro e; have := own_far h k hk; simp at e; omega)

theorem OCells.rep {W : World} {b k : Nat} {v : Value} {c : Cl} (h : OCells W b v (List.replicate k c)) : W.ownsRow b 38 3 v k ((List.replicate k c).flatMap Cl.cells) := by
  unfold OCells at h
  rw [List.length_replicate] at h
  exact h
theorem ocells_more {W : World} {b k : Nat} {v : Value} (h : W.ownsRow b 38 3 v (k + 1) ((List.replicate k blankC).flatMap Cl.cells ++ [.int .i32 32, .int .u8 0, .bool false])) : OCells W b v (List.replicate (k + 1) blankC) := by
  unfold OCells
  rw [List.length_replicate, List.replicate_succ', List.flatMap_append]
  exact h

set_option maxHeartbeats 2000000 in
theorem refNew_any (cols : Int) (w : World) :
    Calls Try.prog 27 #[.int .i64 cols] w fun e w' => ∃ A c, e = .returned (lineV A (colsP cols) c 0) ∧ OCells w' (w.heap.size + 2) (.slice A (colsP cols) c) (List.replicate (colsP cols) blankC) ∧ Below w.heap.size w w' := by
  obtain ⟨i0, hi0, hz0, hz1, hz2⟩ := info_parts info_cell
  have HI := Lib.hid hi0; have HZ0 := Lib.hid hz0; have HZ1 := Lib.hid hz1; have HZ2 := Lib.hid hz2
  clear hi0 hz0 hz1 hz2
  have HC : Hid (∀ W, Calls Try.prog 16 #[.int .i64 cols, .int .i64 0, .int .i64 500] W fun e w' => e = .returned (.int .i64 (colsP cols : Int)) ∧ W = w') := Lib.hid (fun W => by rw [← clampP_cols]; exact clamp_any cols 0 500 W)
  have HEr := Lib.hid (fun W => refErased_any W)
  unfold Cl.val at HEr
  have hN : colsP cols ≤ 500 := by unfold colsP; omega
  generalize colsP cols = N at *
  have HK := Lib.hid (KL.start w #[.slice none 0 0, .int .i64 0] #[.slice none 0 0, .int .i64 0])
  unfold lineV
  go_enter Try.func27, Try.ntmps27
  go_wp2_with fail
  go_loopw [4] (fun i wr => ∃ (k : Nat) (v : Value), k ≤ N ∧ i = .int .i64 k ∧ OCells wr (w.heap.size + 2) v (List.replicate k blankC) ∧ KL w #[.slice none 0 0, .int .i64 0] #[v, .int .i64 0] wr) (fun i _ => N - (intOf i).toNat)
  case atStart => exact ⟨0, .slice none 0 0, by omega, rfl, ⟨by simp, .inl ⟨rfl, rfl⟩⟩, HK.out⟩
  case round =>
    obtain ⟨k, v, hk, rfl, hown, hkl⟩ := hrel
    have HOwn := Lib.hid hown; have HKL := Lib.hid hkl
    have HFar := Lib.hid (own_far hown)
    clear hown hkl
    go_wp2_with fail
    refine (HC.out _).mono ?_
    rintro e w1 ⟨rfl, rfl⟩
    by_cases hlt : k < N
    · obtain ⟨c2, c3, f2, f3⟩ := KL.res HKL.out
      go_wp2_with fail
      clear c3 f2 f3
      go_region_law
        (first
          | (go_simp; go_at_call 41; refine (HEr.out _).mono ?_; rintro e w1 ⟨rfl, hb1⟩; have HKL1 : Hid (KL w #[.slice none 0 0, .int .i64 0] #[v, .int .i64 0] w1) := Lib.hid (by first | exact KL.next HKL.out hb1 | exact KL.next HKL.out.drew hb1); have HOwn1 : Hid (OCells w1 (w.heap.size + 2) v (List.replicate k blankC)) := Lib.hid (by first | exact HOwn.out.next hb1 | exact OCells.next (World.ownsRow.drew HOwn.out) hb1); have c2a := (KL.res HKL1.out).1; have c2b := fun o => (KL.res (KL.alloc HKL1.out o)).1; clear hb1)
          | (refine step_append_lies _ (by rfl) _ _ _ (by rfl) (w.heap.size + 2) 38 i0 _ 3 8 Try.underlying22 HI.out HZ0.out HZ1.out HZ2.out rfl (by decide) v k _ (by rfl) (by first | exact (World.ownsRow.alloc HOwn1.out.rep _) | exact (World.ownsRow.drew (World.ownsRow.alloc HOwn1.out.rep _)) | exact (World.ownsRow.alloc (World.ownsRow.drew HOwn1.out.rep) _)) ⟨w1.heap.size, 0, none⟩ 1 1 [.int .i32 32, .int .u8 0, .bool false] (by rfl) (by rfl) (World.news_of_block (cs := #[.int .i32 32, .int .u8 0, .bool false]) (t := 38) (fr := (0, 0)) (heap_alloc_new _ _)) (by simp [Value.oneCell']) (by omega) (by unfold maxLen; omega) (by omega) (by have := HKL1.out.2.1.lt; simp; omega) (w1.heap.size + 1) (by simp) ?_; intro gg cap w2 hown2 hgrow hat hlt2; have HKL2 : Hid (KL w #[.slice none 0 0, .int .i64 0] #[v, .int .i64 0] w2) := Lib.hid (by first | exact KL.grown (KL.alloc HKL1.out _) hgrow HFar.out | exact KL.grown (KL.drew (KL.alloc HKL1.out _)) hgrow HFar.out | exact KL.grown (KL.alloc (KL.drew HKL1.out) _) hgrow HFar.out); have c2w := (KL.res HKL2.out).1; have f2w := (KL.res HKL2.out).2.2.1; have HOwn2 := Lib.hid (ocells_more hown2); clear hown2 hgrow hat hlt2))
      go_wp2_with fail
      all_goals
        go_roundw
        case rel => exact ⟨k + 1, .slice (some ⟨gg, 0, none⟩) (k + 1) cap, by omega, by go_num, OCells.far HOwn2.out (by omega) _ _, KL.set20 HKL2.out _⟩
        case measure => simp [intOf]; omega
    · obtain rfl : k = N := by omega
      obtain ⟨c2, c3, f2, f3⟩ := KL.res HKL.out
      obtain ⟨c0, c1, f0, f1⟩ := KL.first HKL.out
      obtain ⟨A, c, rfl, hc⟩ := OCells.form HOwn.out
      rw [List.length_replicate] at c2 hc
      have HK2 := Lib.hid (KL.store1 HKL.out (.slice A k c) (.int .i64 0))
      obtain ⟨e0, e1, _, _⟩ := KL.first HK2.out
      go_wp2_with fail
      have hO := HOwn.out
      rw [List.length_replicate] at hO
      exact bodyPost_ret (v := .agg #[.slice A k c, .int .i64 0]) (by simp [results, Try.results27, go_sem, e0, e1]) rfl ⟨A, c, rfl, OCells.far (OCells.far hO (by omega) _ _) (by omega) _ _, HK2.out.2.2⟩
end Go.Proofs.Ytngklakdbagjpaa
