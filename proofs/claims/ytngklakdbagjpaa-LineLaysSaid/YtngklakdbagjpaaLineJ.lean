/-
  The walk of the reference's Resize.
-/
import Derived.Test.YtngklakdbagjpaaLineI
import Derived.RegionTactic
import Derived.Deep.Onto
namespace Go.Proofs.Ytngklakdbagjpaa
open Go.RowKit

/-- The first k cells of l, and blanks up to N. -/
def mixP (l : List Cl) (N k : Nat) : List Cl := l.take k ++ List.replicate (N - k) blankC
theorem mixP_len (l : List Cl) (N k : Nat) (hk : k ≤ N) (hl : k ≤ l.length) : (mixP l N k).length = N := by unfold mixP; simp; omega
theorem mixP_zero (l : List Cl) (N : Nat) : mixP l N 0 = List.replicate N blankC := by simp [mixP]
theorem mixP_step (l : List Cl) (N k : Nat) (hk : k < N) (hl : k < l.length) : (mixP l N k).set k l[k] = mixP l N (k + 1) := by
  unfold mixP
  have h1 : (l.take k).length = k := by simp; omega
  have h2 : N - k = (N - (k + 1)) + 1 := by omega
  rw [List.set_append_right _ _ (by omega), h1, Nat.sub_self, h2, List.replicate_succ, List.set_cons_zero, take_snoc l k hl, List.append_assoc]
  rfl
theorem mixP_all (l : List Cl) (N : Nat) (h : N ≤ l.length) : mixP l N N = resP l N := by
  unfold mixP resP
  rw [Nat.sub_self, Nat.sub_eq_zero_of_le h]
theorem mixP_short (l : List Cl) (N : Nat) (h : l.length ≤ N) : mixP l N l.length = resP l N := by
  unfold mixP resP
  rw [List.take_length, List.take_of_length_le h]
theorem OCells.cell3 {W : World} {b g n c : Nat} {L : List Cl} (h : OCells W b (.slice (some ⟨g, 0, none⟩) n c) L) (hn : n = L.length) {k : Nat} (hk : k < L.length) :
    W.cell? ⟨g, k * 3, none⟩ = some (.int .i32 L[k].g) ∧ W.cell? ⟨g, k * 3 + 1, none⟩ = some (.int .u8 L[k].r) ∧ W.cell? ⟨g, k * 3 + 2, none⟩ = some (.bool L[k].k) ∧ ∀ j, W.frozen? ⟨g, j, none⟩ = false := by
  subst hn
  obtain ⟨h1, h2, h3⟩ := flat_at L k hk
  refine ⟨?_, ?_, ?_, fun j => World.ownsRow.frozenAt h j⟩
  · rw [World.ownsRow.cellAt h _ (by omega), h1]
  · rw [World.ownsRow.cellAt h _ (by omega), h2]
  · rw [World.ownsRow.cellAt h _ (by omega), h3]
theorem OCells.set3 {W : World} {b g n c : Nat} {L : List Cl} (h : OCells W b (.slice (some ⟨g, 0, none⟩) n c) L) (hn : n = L.length) {k : Nat} (hk : k < L.length) (x : Cl) :
    OCells (((W.setCell ⟨g, k * 3, none⟩ (.int .i32 x.g)).setCell ⟨g, k * 3 + 1, none⟩ (.int .u8 x.r)).setCell ⟨g, k * 3 + 2, none⟩ (.bool x.k)) b (.slice (some ⟨g, 0, none⟩) n c) (L.set k x) := by
  subst hn
  have h1 := (World.ownsRow.stored h (k * 3) (.int .i32 x.g)).1
  have h2 := (World.ownsRow.stored h1 (k * 3 + 1) (.int .u8 x.r)).1
  have h3 := (World.ownsRow.stored h2 (k * 3 + 2) (.bool x.k)).1
  rw [flat_set L k hk x] at h3
  unfold OCells
  rw [List.length_set]
  exact h3
theorem OCells.apart {W : World} {b g : Nat} {v : Value} {L : List Cl} (h : OCells W b v L) (hne : ∀ k, v.ownBlock = some k → k ≠ g) (o : Nat) (u : Value) : OCells (W.setCell ⟨g, o, none⟩ u) b v L :=
  World.ownsRow.kept (row := some g) h grown_set1 (by
    rcases hk : v.ownBlock with _ | k
    · exact .inl rfl
    · right; intro e; exact hne k hk (by simpa using e))
theorem KL.beyond {w W : World} {x y : Array Value} (h : KL w x y W) {g : Nat} (hg : w.heap.size + 2 ≤ g) (o : Nat) (u : Value) : KL w x y (W.setCell ⟨g, o, none⟩ u) :=
  KL.grown h grown_set1 (fun k hk => by injection hk with e; omega)

set_option maxHeartbeats 4000000 in
theorem refResize_any (A0 : Option Addr) (c0 : Nat) (l : List Cl) (size cols : Int) (hl : l.length ≤ 100000) (w : World) (hr : RCells w A0 l) :
    Calls Try.prog 28 #[lineV A0 l.length c0 size, .int .i64 cols] w fun e w' => ∃ A c, e = .returned (lineV A (colsP cols) c size) ∧ OCells w' w.heap.size (.slice A (colsP cols) c) (resP l (colsP cols)) ∧ Below w.heap.size w w' := by
  have HC := Lib.hid (fun W => refNew_any cols W)
  have hN : colsP cols ≤ 500 := by unfold colsP; omega
  unfold lineV at *
  have HR := Lib.hid hr
  clear hr
  generalize colsP cols = N at *
  have HK := Lib.hid (KL.start w #[.slice A0 l.length c0, .int .i64 size] #[.slice none 0 0, .int .i64 0])
  go_enter Try.func28, Try.ntmps28
  go_wp2_with fail
  refine (HC.out _).mono ?_
  rintro e w1 ⟨A, c, rfl, hown, hb1⟩
  have HK1 := Lib.hid (KL.alloc (KL.next HK.out hb1) (.cells #[.slice A N c, .int .i64 0] 24))
  have HLt := Lib.hid (fun k hk => (World.ownsRow.lt hown k hk).2)
  have HFar := Lib.hid (fun k hk => (World.ownsRow.lt hown k hk).1)
  have HO1 := Lib.hid (World.ownsRow.alloc (show w1.ownsRow _ _ _ _ _ _ from hown) (.cells #[.slice A N c, .int .i64 0] 24))
  have HB1 := Lib.hid (Blk.new w1 24 #[.slice A N c, .int .i64 0])
  have hB := hb1.size
  simp at hB
  clear hown hb1
  go_wp2_with fail
  generalize w1.heap.size = B at *
  go_loopw [6] (fun i wr => ∃ k : Nat, k ≤ N ∧ k ≤ l.length ∧ i = .int .i64 k ∧ OCells wr (w.heap.size + 2) (.slice A N c) (mixP l N k) ∧ KL w #[.slice A0 l.length c0, .int .i64 size] #[.slice none 0 0, .int .i64 0] wr ∧ Blk wr B 24 #[.slice A N c, .int .i64 0]) (fun i _ => N - (intOf i).toNat)
  case atStart => exact ⟨0, by omega, by omega, rfl, by rw [mixP_zero]; exact World.ownsRow.mono HO1.out (by simp), HK1.out, HB1.out⟩
  case round =>
    obtain ⟨k, hk, hkl, rfl, hown, hkl', hblk⟩ := hrel
    have HOwn := Lib.hid hown; have HKL := Lib.hid hkl'; have HBlk := Lib.hid hblk
    obtain ⟨c0', c1', _, _⟩ := KL.first HKL.out
    have b0 : wr.cell? ⟨B, 0, none⟩ = some (.slice A N c) := HBlk.out.cell 0
    have b1 : wr.cell? ⟨B, 1, none⟩ = some (.int .i64 0) := HBlk.out.cell 1
    have fb := HBlk.out.frozen 1
    obtain ⟨c2, c3, f2, f3⟩ := KL.res HKL.out
    clear hown hkl' hblk
    have HEnd : Hid ((((wr.setCell ⟨B, 1, none⟩ (.int .i64 size)).setCell ⟨w.heap.size + 1, 0, none⟩ (.slice A N c)).setCell ⟨w.heap.size + 1, 1, none⟩ (.int .i64 size)).cell? ⟨w.heap.size + 1, 0, none⟩ = some (.slice A N c) ∧
        (((wr.setCell ⟨B, 1, none⟩ (.int .i64 size)).setCell ⟨w.heap.size + 1, 0, none⟩ (.slice A N c)).setCell ⟨w.heap.size + 1, 1, none⟩ (.int .i64 size)).cell? ⟨w.heap.size + 1, 1, none⟩ = some (.int .i64 size) ∧
        OCells (((wr.setCell ⟨B, 1, none⟩ (.int .i64 size)).setCell ⟨w.heap.size + 1, 0, none⟩ (.slice A N c)).setCell ⟨w.heap.size + 1, 1, none⟩ (.int .i64 size)) w.heap.size (.slice A N c) (mixP l N k) ∧
        Below w.heap.size w (((wr.setCell ⟨B, 1, none⟩ (.int .i64 size)).setCell ⟨w.heap.size + 1, 0, none⟩ (.slice A N c)).setCell ⟨w.heap.size + 1, 1, none⟩ (.int .i64 size))) := Lib.hid (by
      have h := KL.store2 (KL.beyond HKL.out (g := B) (by omega) 1 (.int .i64 size)) (.slice A N c) (.int .i64 size)
      exact ⟨(KL.res h).1, (KL.res h).2.1, World.ownsRow.mono (OCells.far (OCells.far (OCells.apart HOwn.out (fun k hk => by have := HLt.out k hk; omega) 1 _) (by omega) _ _) (by omega) _ _) (by omega), h.2.2⟩)
    by_cases hlt : k < N
    · by_cases hlt2 : k < l.length
      · clear b1 fb c1' c2 c3 f2 f3 HEnd
        have HS := Lib.hid (mixP_step l N k hlt hlt2)
        have hlen := mixP_len l N k hk hkl
        obtain ⟨ad, rfl, had, s0, s1, s2⟩ := (HR.out.next HKL.out.2.2).at_ hlt2
        obtain ⟨g, cap, hv, hg, _⟩ := World.ownsRow.form (show wr.ownsRow _ _ _ _ _ _ from HOwn.out) (by omega)
        simp only [Value.slice.injEq] at hv
        obtain ⟨rfl, -, rfl⟩ := hv
        have hgB : g < B := HLt.out g rfl
        obtain ⟨d0, d1, d2, fd⟩ := OCells.cell3 HOwn.out hlen.symm (k := k) (by omega)
        have HSet := Lib.hid (OCells.set3 HOwn.out hlen.symm (k := k) (by omega) l[k])
        rw [HS.out] at HSet
        have HKS := Lib.hid (KL.beyond (KL.beyond (KL.beyond HKL.out hg (k * 3) (.int .i32 l[k].g)) hg (k * 3 + 1) (.int .u8 l[k].r)) hg (k * 3 + 2) (.bool l[k].k))
        have HBS := Lib.hid (Blk.far (Blk.far (Blk.far HBlk.out (p := ⟨g, k * 3, none⟩) (by simp; omega) (.int .i32 l[k].g)) (p := ⟨g, k * 3 + 1, none⟩) (by simp; omega) (.int .u8 l[k].r)) (p := ⟨g, k * 3 + 2, none⟩) (by simp; omega) (.bool l[k].k))
        generalize (mixP l N k)[k]'(by omega) = old at *
        clear HS
        generalize l[k] = x at *
        have f0 := fd (k * 3); have f1 := fd (k * 3 + 1); have f2 := fd (k * 3 + 2)
        clear fd
        go_wp2_with fail
        go_region
        all_goals
          go_wp2_with fail
          go_roundw
          case rel => exact ⟨k + 1, by omega, by omega, by go_num, HSet.out, by first | exact HKS.out | exact HKS.out.drew, HBS.out⟩
          case measure => simp [intOf]; omega
      · obtain rfl : k = l.length := by omega
        go_wp2_with fail
        exact bodyPost_ret (v := .agg #[.slice A N c, .int .i64 size]) (by simp [results, Try.results28, go_sem, HEnd.out.1, HEnd.out.2.1]) rfl ⟨A, c, rfl, by rw [← mixP_short l N (by omega)]; exact HEnd.out.2.2.1, HEnd.out.2.2.2⟩
    · obtain rfl : k = N := by omega
      go_wp2_with fail
      exact bodyPost_ret (v := .agg #[.slice A k c, .int .i64 size]) (by simp [results, Try.results28, go_sem, HEnd.out.1, HEnd.out.2.1]) rfl ⟨A, c, rfl, by rw [← mixP_all l k (by omega)]; exact HEnd.out.2.2.1, HEnd.out.2.2.2⟩
end Go.Proofs.Ytngklakdbagjpaa
