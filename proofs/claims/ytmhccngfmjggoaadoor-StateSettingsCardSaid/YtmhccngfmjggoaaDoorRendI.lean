/-
  The walk of the reference's numbers that make a rendition.
-/
import Derived.Test.YtmhccngfmjggoaaDoorKit2
import Derived.Test.YtmhccngfmjggoaaDoorKit
import Derived.Test.YtmhccngfmjggoaaDoorRendC
import Derived.Test.YtmhccngfmjggoaaDoorRendG
namespace Go.Proofs.YtmhccngfmjggoaaDoor

open Go.RowKit

theorem blk5 {w : World} {g : Nat} {t : TypeId} {a b c d e : Value} (h : Blk w g t #[a, b, c, d, e]) :
    w.cell? ⟨g, 0, none⟩ = some a ∧ w.cell? ⟨g, 1, none⟩ = some b ∧ w.cell? ⟨g, 2, none⟩ = some c ∧ w.cell? ⟨g, 3, none⟩ = some d ∧ w.cell? ⟨g, 4, none⟩ = some e :=
  ⟨h.cell 0, h.cell 1, h.cell 2, h.cell 3, h.cell 4⟩
/-- A number more, if so. -/
def addN (l : List Int) (b : Bool) (n : Int) : List Int := if b then l ++ [n] else l
def parOf (a b c d e : Bool) : List Int := addN (addN (addN (addN (addN [0] a 1) b 4) c 5) d 7) e 8
theorem par_of (x : Int) : parK x 5 = parOf (fb x 0) (fb x 1) (fb x 2) (fb x 3) (fb x 4) := by
  simp only [parK, parOf]
  generalize fb x 0 = a; generalize fb x 1 = b; generalize fb x 2 = c; generalize fb x 3 = d; generalize fb x 4 = e
  cases a <;> cases b <;> cases c <;> cases d <;> cases e <;> decide +kernel
theorem addN_len {l : List Int} {n : Nat} (h : l.length ≤ n) (b : Bool) (k : Int) : (addN l b k).length ≤ n + 1 := by
  unfold addN
  cases b
  · simp; omega
  · simp; exact h
theorem oints_add {w : World} {base : Nat} {v : Value} {l : List Int} {k : Int} (h : w.ownsRow base 3 1 v (l.length + 1) (l.map (Value.int .i64) ++ [.int .i64 k])) : OInts w base v (addN l true k) := by
  simpa [OInts, addN] using h

theorem Deep_mono {w : World} {b b' : Nat} {v : Value} {l : List Int} (h : OInts w b v l) (hb : b' ≤ b) : OInts w b' v l := by
  refine ⟨h.1, ?_⟩
  rcases h.2 with h | ⟨g, cap, cur, hv, hg, r⟩
  · exact .inl h
  · exact .inr ⟨g, cap, cur, hv, Nat.le_trans hb hg, r⟩

set_option maxHeartbeats 1600000 in
theorem refParams_any (x : Int) (h0 : 0 ≤ x) (h1 : x ≤ 255) (w : World) :
    Calls Tryd.prog 20 #[.int .u8 x] w fun e w' => ∃ v, e = .returned v ∧ OInts w' w.heap.size v (parK x 5) ∧ Below w.heap.size w w' := by
  rw [par_of x]
  have HO := Lib.hid (of_any x h0 h1)
  unfold parts at HO
  generalize fb x 0 = a at *; generalize fb x 1 = b at *; generalize fb x 2 = c at *; generalize fb x 3 = d at *; generalize fb x 4 = e' at *
  go_enter Tryd.func20, Tryd.ntmps20
  go_upto_if 9 with (go_at_call 46; refine (HO.out _).mono ?_; rintro e w1 ⟨rfl, hb1⟩)
  go_cut [4] (fun s wx => ∃ l, Hid (l = addN [0] a 1 ∧ l.length ≤ 2) ∧ OInts wx (w1.heap.size + 1) s l ∧ Blk wx w1.heap.size 95 #[.bool a, .bool b, .bool c, .bool d, .bool e'] ∧ Below w1.heap.size w1 wx)
  case first =>
    have hown : ∀ W : World, W.heap.size = w1.heap.size + 1 → OInts (W.alloc (.cells #[.int .i64 0] 3)) (w1.heap.size + 1) (.slice (some ⟨w1.heap.size + 1, 0, none⟩) 1 1) [0] := fun W hW => oints_one rfl 0 _ _ (by omega) hW.symm
    have hB := ((Blk.new w1 95 #[.bool a, .bool b, .bool c, .bool d, .bool e']).alloc (.cells #[.int .i64 0] 3))
    have hb : Below w1.heap.size w1 ((w1.alloc (.cells #[.bool a, .bool b, .bool c, .bool d, .bool e'] 95)).alloc (.cells #[.int .i64 0] 3)) := ((Below.refl _ _).alloc (Nat.le_refl _) _).alloc (by simp) _
    have hw := hown (w1.alloc (.cells #[.bool a, .bool b, .bool c, .bool d, .bool e'] 95)) (by simp)
    clear hown
    have HW := Lib.hid hw; have HB := Lib.hid hB; have Hb := Lib.hid hb
    clear hw hB hb
    cases a
    · go_wp2
      go_meet
      exact ⟨[0], ⟨rfl, by decide⟩, HW.out, HB.out, Hb.out⟩
    · go_wp2_with (at_builtin; refine wpList_push rfl _ _ _ rfl (w1.heap.size + 1) 3 (.int .i64 0) 8 Tryd.underlying59 info_int rfl _ _ _ rfl (oints_own HW.out) (.int .i64 1) rfl _ _ _ (by simp) rfl (by unfold maxLen; first | omega | (simp; done)) (by first | omega | (simp; done)) (by first | omega | (simp; done)) ?_; intro v' w' hown' hg' hb')
      go_meet
      exact ⟨_, ⟨rfl, by decide⟩, oints_add hown', HB.out.below hb' (by omega), Hb.out.trans (hb'.mono (by omega))⟩
  case rest =>
    obtain ⟨l1, H1, hw, hB, hb⟩ := hcut
    obtain ⟨c0, c1, c2, c3, c4⟩ := blk5 hB
    have HW := Lib.hid hw; have HB := Lib.hid hB; have Hb := Lib.hid hb
    clear hw hB hb
    go_upto_if 14 with fail
    go_cut [4] (fun s wx => ∃ l, Hid (l = addN l1 b 4 ∧ l.length ≤ 3) ∧ OInts wx (w1.heap.size + 1) s l ∧ Blk wx w1.heap.size 95 #[.bool a, .bool b, .bool c, .bool d, .bool e'] ∧ Below w1.heap.size w1 wx)
    case first =>
      have HZ := Lib.hid (addN_len H1.out.2 b 4)
      have hz : l1.length ≤ 2 := H1.out.2
      have hsz := Hb.out.size
      have hlt := HB.out.lt
      cases b
      · go_wp2
        go_meet
        exact ⟨l1, ⟨rfl, HZ.out⟩, HW.out, HB.out, Hb.out⟩
      · go_wp2_with (at_builtin; refine wpList_push rfl _ _ _ rfl (w1.heap.size + 1) 3 (.int .i64 0) 8 Tryd.underlying59 info_int rfl _ _ _ rfl (oints_own HW.out) (.int .i64 4) rfl _ _ _ (by simp) rfl (by unfold maxLen; first | omega | (simp; done)) (by first | omega | (simp; done)) (by first | omega | (simp; done)) ?_; intro v' w' hown' hg' hb')
        go_meet
        exact ⟨_, ⟨rfl, HZ.out⟩, oints_add hown', HB.out.below hb' (by omega), Hb.out.trans (hb'.mono (by omega))⟩
    case rest =>
      obtain ⟨l2, H2, hw, hB, hb⟩ := hcut
      clear HW HB Hb
      obtain ⟨c0, c1, c2, c3, c4⟩ := blk5 hB
      have HW := Lib.hid hw; have HB := Lib.hid hB; have Hb := Lib.hid hb
      clear hw hB hb
      go_upto_if 19 with fail
      go_cut [4] (fun s wx => ∃ l, Hid (l = addN l2 c 5 ∧ l.length ≤ 4) ∧ OInts wx (w1.heap.size + 1) s l ∧ Blk wx w1.heap.size 95 #[.bool a, .bool b, .bool c, .bool d, .bool e'] ∧ Below w1.heap.size w1 wx)
      case first =>
        have HZ := Lib.hid (addN_len H2.out.2 c 5)
        have hz : l2.length ≤ 3 := H2.out.2
        have hsz := Hb.out.size
        have hlt := HB.out.lt
        cases c
        · go_wp2
          go_meet
          exact ⟨l2, ⟨rfl, HZ.out⟩, HW.out, HB.out, Hb.out⟩
        · go_wp2_with (at_builtin; refine wpList_push rfl _ _ _ rfl (w1.heap.size + 1) 3 (.int .i64 0) 8 Tryd.underlying59 info_int rfl _ _ _ rfl (oints_own HW.out) (.int .i64 5) rfl _ _ _ (by simp) rfl (by unfold maxLen; first | omega | (simp; done)) (by first | omega | (simp; done)) (by first | omega | (simp; done)) ?_; intro v' w' hown' hg' hb')
          go_meet
          exact ⟨_, ⟨rfl, HZ.out⟩, oints_add hown', HB.out.below hb' (by omega), Hb.out.trans (hb'.mono (by omega))⟩
      case rest =>
        obtain ⟨l3, H3, hw, hB, hb⟩ := hcut
        clear HW HB Hb
        obtain ⟨c0, c1, c2, c3, c4⟩ := blk5 hB
        have HW := Lib.hid hw; have HB := Lib.hid hB; have Hb := Lib.hid hb
        clear hw hB hb
        go_upto_if 24 with fail
        go_cut [4] (fun s wx => ∃ l, Hid (l = addN l3 d 7 ∧ l.length ≤ 5) ∧ OInts wx (w1.heap.size + 1) s l ∧ Blk wx w1.heap.size 95 #[.bool a, .bool b, .bool c, .bool d, .bool e'] ∧ Below w1.heap.size w1 wx)
        case first =>
          have HZ := Lib.hid (addN_len H3.out.2 d 7)
          have hz : l3.length ≤ 4 := H3.out.2
          have hsz := Hb.out.size
          have hlt := HB.out.lt
          cases d
          · go_wp2
            go_meet
            exact ⟨l3, ⟨rfl, HZ.out⟩, HW.out, HB.out, Hb.out⟩
          · go_wp2_with (at_builtin; refine wpList_push rfl _ _ _ rfl (w1.heap.size + 1) 3 (.int .i64 0) 8 Tryd.underlying59 info_int rfl _ _ _ rfl (oints_own HW.out) (.int .i64 7) rfl _ _ _ (by simp) rfl (by unfold maxLen; first | omega | (simp; done)) (by first | omega | (simp; done)) (by first | omega | (simp; done)) ?_; intro v' w' hown' hg' hb')
            go_meet
            exact ⟨_, ⟨rfl, HZ.out⟩, oints_add hown', HB.out.below hb' (by omega), Hb.out.trans (hb'.mono (by omega))⟩
        case rest =>
          obtain ⟨l4, H4, hw, hB, hb⟩ := hcut
          clear HW HB Hb
          obtain ⟨c0, c1, c2, c3, c4⟩ := blk5 hB
          have HW := Lib.hid hw; have HB := Lib.hid hB; have Hb := Lib.hid hb
          clear hw hB hb
          go_upto_if 29 with fail
          go_cut [4] (fun s wx => ∃ l, Hid (l = addN l4 e' 8 ∧ l.length ≤ 6) ∧ OInts wx (w1.heap.size + 1) s l ∧ Blk wx w1.heap.size 95 #[.bool a, .bool b, .bool c, .bool d, .bool e'] ∧ Below w1.heap.size w1 wx)
          case first =>
            have HZ := Lib.hid (addN_len H4.out.2 e' 8)
            have hz : l4.length ≤ 5 := H4.out.2
            have hsz := Hb.out.size
            have hlt := HB.out.lt
            cases e'
            · go_wp2
              go_meet
              exact ⟨l4, ⟨rfl, HZ.out⟩, HW.out, HB.out, Hb.out⟩
            · go_wp2_with (at_builtin; refine wpList_push rfl _ _ _ rfl (w1.heap.size + 1) 3 (.int .i64 0) 8 Tryd.underlying59 info_int rfl _ _ _ rfl (oints_own HW.out) (.int .i64 8) rfl _ _ _ (by simp) rfl (by unfold maxLen; first | omega | (simp; done)) (by first | omega | (simp; done)) (by first | omega | (simp; done)) ?_; intro v' w' hown' hg' hb')
              go_meet
              exact ⟨_, ⟨rfl, HZ.out⟩, oints_add hown', HB.out.below hb' (by omega), Hb.out.trans (hb'.mono (by omega))⟩
          case rest =>
            obtain ⟨l5, H5, hw, hB, hb⟩ := hcut
            clear HW HB Hb
            obtain ⟨c0, c1, c2, c3, c4⟩ := blk5 hB
            have HW := Lib.hid hw; have HB := Lib.hid hB; have Hb := Lib.hid hb
            clear hw hB hb
            go_wp2
            go_ret
            exact ⟨_, rfl, by
              have e : parOf a b c d e' = l5 := by rw [H5.out.1, H4.out.1, H3.out.1, H2.out.1, H1.out.1]; rfl
              rw [e]; exact Deep_mono HW.out (Nat.le_trans hb1.size (Nat.le_succ _)), hb1.trans (Hb.out.mono hb1.size)⟩
end Go.Proofs.YtmhccngfmjggoaaDoor
