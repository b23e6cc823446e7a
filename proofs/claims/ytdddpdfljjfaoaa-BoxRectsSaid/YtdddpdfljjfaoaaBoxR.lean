/-
  Boxes, the document's own answers: a rectangle that numbers tell.
-/
import Derived.Test.YtdddpdfljjfaoaaBoxU
import Derived.Deep.DeepCutAuto
namespace Go.Proofs.Ytdddpdfljjfaoaa
open Go Go.RowKit

theorem part_none (f b n m : Int) (h : n < 0 ∨ m < 0 ∨ b ≤ f) : (partT f b n m).2.2 = false := by
  rcases part_cases f b n m with ⟨_, e⟩ | ⟨_, _, e⟩ | ⟨_, _, F, hF, ⟨_, e⟩ | ⟨_, _, _, y, hy, ⟨_, e⟩ | ⟨_, e⟩⟩⟩
  · rw [e]
  · rw [e]
  · rw [e]
  · rw [e]
  · omega
def m0P (n : Int) : Int := if n = 0 then 1 else n
def m2P (m k : Int) : Int := if m = 0 ∨ m > k then k else m
theorem part_some (f b n m : Int) (h0 : 0 ≤ n) (h1 : 0 ≤ m) (hfb : f < b) :
    partT f b n m = if m0P n > m2P m (b - f) then (0, 0, false) else (f + m0P n - 1, f + m2P m (b - f), true) := by
  have hc : cntP f b = b - f := if_neg (by omega)
  have hm0 : (n = 0 ∧ m0P n = 1) ∨ (n ≠ 0 ∧ m0P n = n) := by
    unfold m0P
    by_cases h : n = 0
    · exact .inl ⟨h, if_pos h⟩
    · exact .inr ⟨h, if_neg h⟩
  have hm2 : ((m = 0 ∨ m > b - f) ∧ m2P m (b - f) = b - f) ∨ (¬ (m = 0 ∨ m > b - f) ∧ m2P m (b - f) = m) := by
    unfold m2P
    by_cases h : m = 0 ∨ m > b - f
    · exact .inl ⟨h, if_pos h⟩
    · exact .inr ⟨h, if_neg h⟩
  generalize m0P n = a at *
  generalize m2P m (b - f) = z at *
  rcases part_cases f b n m with ⟨g, e⟩ | ⟨g, g', e⟩ | ⟨g, g', F, hF, ⟨h, e⟩ | ⟨h, h', _, y, hy, ⟨h3, e⟩ | ⟨h3, e⟩⟩⟩
  · omega
  · omega
  · rw [e, if_pos (by omega)]
  · rw [e, if_pos (by omega)]
  · rw [e, if_neg (by omega)]
    simp only [Prod.mk.injEq, and_true]
    omega
/-- The boxes of such a call. -/
def KR (w : World) (g : Nat) (x y u : Array Value) (W : World) : Prop := Blk W w.heap.size 23 x ∧ Blk W (w.heap.size + 1) 23 y ∧ Blk W g 54 u ∧ Below w.heap.size w W ∧ w.heap.size + 1 < g
theorem KR.set {w W : World} {g : Nat} {x y u : Array Value} (h : KR w g x y u W) (i : Nat) (v : Value) : KR w g x y (u.setIfInBounds i v) (W.setCell ⟨g, i, none⟩ v) := by
  have := h.2.2.2.2
  exact ⟨Blk.far h.1 (by simp <;> omega) _, Blk.far h.2.1 (by simp <;> omega) _, h.2.2.1.set_ i v, h.2.2.2.1.setCell (by simp <;> omega) _, this⟩
set_option maxRecDepth 100000 in
set_option maxHeartbeats 16000000 in
theorem refRect_any (t l b r : Int) (ht : Sm t) (hl : Sm l) (hb0 : Sm b) (hr : Sm r) (A : Option Addr) (c : Nat) (ns : List Int) (hm : ns.length ≤ 17592186043904) (i : Int) (i0 : -9223372036854775808 ≤ i) (i1 : i ≤ 9223372036854775807) (w : World) (hR : RInts w A ns) :
    Calls Try.prog 25 #[bV t l b r, .slice A ns.length c, .int .i64 i] w fun e w' => e = .returned (.tuple #[bV (rectT t l b r ns i).1.1 (rectT t l b r ns i).1.2.1 (rectT t l b r ns i).1.2.2.1 (rectT t l b r ns i).1.2.2.2, .bool (rectT t l b r ns i).2]) ∧ Below w.heap.size w w' := by
  have HE := Lib.hid (fun W => refEmpty_any t l b r W)
  have HW0 := Lib.hid (fun W h => number_any A c ns hm i i0 i1 0 (by omega) W h)
  have HW1 := Lib.hid (fun W h => number_any A c ns hm i i0 i1 1 (by omega) W h)
  have HW2 := Lib.hid (fun W h => number_any A c ns hm i i0 i1 2 (by omega) W h)
  have HW3 := Lib.hid (fun W h => number_any A c ns hm i i0 i1 3 (by omega) W h)
  have HR := Lib.hid hR
  have HN := Lib.hid (new2 w 23 23 (bC t l b r) (bC 0 0 0 0))
  have HV : Hid (rectT t l b r ns i = rectQ t l b r (atP (dropP ns i) (0 : Nat)) (atP (dropP ns i) (1 : Nat)) (atP (dropP ns i) (2 : Nat)) (atP (dropP ns i) (3 : Nat))) := Lib.hid rfl
  generalize rectT t l b r ns i = res at *
  generalize atP (dropP ns i) (0 : Nat) = n0 at *
  generalize atP (dropP ns i) (1 : Nat) = n1 at *
  generalize atP (dropP ns i) (2 : Nat) = n2 at *
  generalize atP (dropP ns i) (3 : Nat) = n3 at *
  have HQN : Hid ((partT t b n0 n2).2.2 = false ∨ (partT l r n1 n3).2.2 = false → res = ((0, 0, 0, 0), false)) := Lib.hid (fun h => by
    rw [HV.out]
    refine rectQ_no _ _ _ _ _ _ _ _ ?_
    unfold rectQ
    rw [if_neg]
    rintro ⟨g1, g2⟩
    rcases h with h | h
    · rw [h] at g1; cases g1
    · rw [h] at g2; cases g2)
  clear hm i0 i1 hR
  generalize ns.length = m at *
  cases he0 : bEm t l b r
  rotate_left
  · have hz : res = ((0, 0, 0, 0), false) := HQN.out (by
      rcases bEm_true he0 with h | h
      · exact .inl (part_none _ _ _ _ (.inr (.inr h)))
      · exact .inr (part_none _ _ _ _ (.inr (.inr h))))
    rw [hz]
    rw [he0] at HE
    clear he0 hz HQN HV HW0 HW1 HW2 HW3 ht hl hb0 hr
    unfold bV at *
    go_enter Try.func25, Try.ntmps25
    go_wp2_with fail
    refine (HE.out _).mono ?_
    rintro e w1 ⟨rfl, hb1⟩
    have HK1 := Lib.hid (And.intro (HN.out.2.1.next hb1) (bstep HN.out.2.2 hb1))
    obtain ⟨_, _, _, _, z0, z1, z2, z3⟩ := blk4 HK1.out.1
    clear hb1
    go_wp2_with fail
    obtain ⟨e0, e1, e2, e3, _⟩ := blk4 (repl4 HK1.out.1 (.int .i64 0) (.int .i64 0) (.int .i64 0) (.int .i64 0)).here
    exact bodyPost_ret (v := .tuple #[.agg #[.int .i64 0, .int .i64 0, .int .i64 0, .int .i64 0], .bool false]) (by simp [results, Try.results25, go_sem, e0, e1, e2, e3]) rfl ⟨rfl, (((HK1.out.2.setCell (by simp) _).setCell (by simp) _).setCell (by simp) _).setCell (by simp) _⟩
  · obtain ⟨hlt1, hlt2⟩ := bEm_false he0
    rw [he0] at HE
    unfold Sm at ht hl hb0 hr
    obtain ⟨ht0, ht1⟩ := ht
    obtain ⟨hl0, hl1⟩ := hl
    obtain ⟨hb00, hb01⟩ := hb0
    obtain ⟨hr0, hr1⟩ := hr
    have HPN : Hid (n0 < 0 ∨ n1 < 0 ∨ n2 < 0 ∨ n3 < 0 → res = ((0, 0, 0, 0), false)) := Lib.hid (fun h => HQN.out (by
      rcases h with h | h | h | h
      · exact .inl (part_none _ _ _ _ (.inl h))
      · exact .inr (part_none _ _ _ _ (.inl h))
      · exact .inl (part_none _ _ _ _ (.inr (.inl h)))
      · exact .inr (part_none _ _ _ _ (.inr (.inl h)))))
    have HPS : Hid (0 ≤ n0 → 0 ≤ n1 → 0 ≤ n2 → 0 ≤ n3 → res = if m0P n0 > m2P n2 (b - t) ∨ m0P n1 > m2P n3 (r - l) then ((0, 0, 0, 0), false) else ((t + m0P n0 - 1, l + m0P n1 - 1, t + m2P n2 (b - t), l + m2P n3 (r - l)), true)) := Lib.hid (fun g0 g1 g2 g3 => by
      rw [HV.out]
      unfold rectQ
      rw [part_some t b n0 n2 g0 g2 hlt1, part_some l r n1 n3 g1 g3 hlt2]
      by_cases h1 : m0P n0 > m2P n2 (b - t) <;> by_cases h2 : m0P n1 > m2P n3 (r - l) <;> simp [h1, h2])
    clear he0 HV HQN
    unfold bV at *
    go_enter Try.func25, Try.ntmps25
    go_wp2_with fail
    refine (HE.out _).mono ?_
    rintro e w1 ⟨rfl, hb1⟩
    have HK1 := Lib.hid (And.intro (HN.out.1.next hb1) (And.intro (HN.out.2.1.next hb1) (bstep HN.out.2.2 hb1)))
    obtain ⟨c0, c1, c2, c3, _⟩ := blk4 HK1.out.1
    have HR1 := Lib.hid (HR.out.next HK1.out.2.2)
    have hlt : w.heap.size + 1 < w1.heap.size := HK1.out.2.1.lt
    have HLt := Lib.hid hlt
    clear hb1 HN hlt
    go_wp2_with fail
    refine (HW0.out _ HR1.out).mono ?_
    rintro e w2 ⟨rfl, rfl⟩
    go_wp2_with fail
    refine (HW1.out _ HR1.out).mono ?_
    rintro e w2 ⟨rfl, rfl⟩
    go_wp2_with fail
    refine (HW2.out _ HR1.out).mono ?_
    rintro e w2 ⟨rfl, rfl⟩
    go_wp2_with fail
    refine (HW3.out _ HR1.out).mono ?_
    rintro e w2 ⟨rfl, rfl⟩
    clear c0 c1 c2 c3
    go_wp2_with fail
    refine world_gen (KR w w1.heap.size (bC t l b r) (bC 0 0 0 0) #[.int .i64 n0, .int .i64 n1, .int .i64 n2, .int .i64 n3]) ⟨HK1.out.1.alloc _, HK1.out.2.1.alloc _, (new1 w1 _ _).1, bstep HK1.out.2.2 (new1 w1 _ _).2, HLt.out⟩ ?_
    intro W HW
    replace HW := Lib.hid HW
    clear HK1 HR1 HW0 HW1 HW2 HW3 HE HR
    go_wp2_with fail
    go_loop [11, 38, 39, 40, 41, 42, 43, 44, 45] (fun k _ _ _ _ _ _ _ _ => k = .int .i64 0 ∨ (k = .int .i64 1 ∧ 0 ≤ n0) ∨ (k = .int .i64 2 ∧ 0 ≤ n0 ∧ 0 ≤ n1) ∨ (k = .int .i64 3 ∧ 0 ≤ n0 ∧ 0 ≤ n1 ∧ 0 ≤ n2) ∨ (k = .int .i64 4 ∧ 0 ≤ n0 ∧ 0 ≤ n1 ∧ 0 ≤ n2 ∧ 0 ≤ n3)) (fun k _ _ _ _ _ _ _ _ => 4 - (intOf k).toNat)
    case atStart => exact .inl rfl
    case round =>
      rcases hrel with rfl | ⟨rfl, h0⟩ | ⟨rfl, h0, h1⟩ | ⟨rfl, h0, h1, h2⟩ | ⟨rfl, h0, h1, h2, h3⟩
      · by_cases a : n0 < 0
        · have hz : res = ((0, 0, 0, 0), false) := HPN.out (by omega)
          subst hz
          obtain ⟨c0, c1, c2, c3, _⟩ := blk4 HW.out.2.2.1
          obtain ⟨_, _, _, _, z0, z1, z2, z3⟩ := blk4 HW.out.2.1
          go_wp2_with fail
          obtain ⟨e0, e1, e2, e3, _⟩ := blk4 (repl4 HW.out.2.1 (.int .i64 0) (.int .i64 0) (.int .i64 0) (.int .i64 0)).here
          exact bodyPost_ret (v := .tuple #[.agg #[.int .i64 0, .int .i64 0, .int .i64 0, .int .i64 0], .bool false]) (by simp [results, Try.results25, go_sem, e0, e1, e2, e3]) rfl ⟨rfl, (((HW.out.2.2.2.1.setCell (by simp) _).setCell (by simp) _).setCell (by simp) _).setCell (by simp) _⟩
        · obtain ⟨c0, c1, c2, c3, _⟩ := blk4 HW.out.2.2.1
          go_wp2_with fail
          go_round
          case rel => exact Or.inr (Or.inl ⟨rfl, by omega⟩)
          case measure => simp [intOf]
      · by_cases a : n1 < 0
        · have hz : res = ((0, 0, 0, 0), false) := HPN.out (by omega)
          subst hz
          obtain ⟨c0, c1, c2, c3, _⟩ := blk4 HW.out.2.2.1
          obtain ⟨_, _, _, _, z0, z1, z2, z3⟩ := blk4 HW.out.2.1
          go_wp2_with fail
          obtain ⟨e0, e1, e2, e3, _⟩ := blk4 (repl4 HW.out.2.1 (.int .i64 0) (.int .i64 0) (.int .i64 0) (.int .i64 0)).here
          exact bodyPost_ret (v := .tuple #[.agg #[.int .i64 0, .int .i64 0, .int .i64 0, .int .i64 0], .bool false]) (by simp [results, Try.results25, go_sem, e0, e1, e2, e3]) rfl ⟨rfl, (((HW.out.2.2.2.1.setCell (by simp) _).setCell (by simp) _).setCell (by simp) _).setCell (by simp) _⟩
        · obtain ⟨c0, c1, c2, c3, _⟩ := blk4 HW.out.2.2.1
          go_wp2_with fail
          go_round
          case rel => exact Or.inr (Or.inr (Or.inl ⟨rfl, by omega, by omega⟩))
          case measure => simp [intOf]
      · by_cases a : n2 < 0
        · have hz : res = ((0, 0, 0, 0), false) := HPN.out (by omega)
          subst hz
          obtain ⟨c0, c1, c2, c3, _⟩ := blk4 HW.out.2.2.1
          obtain ⟨_, _, _, _, z0, z1, z2, z3⟩ := blk4 HW.out.2.1
          go_wp2_with fail
          obtain ⟨e0, e1, e2, e3, _⟩ := blk4 (repl4 HW.out.2.1 (.int .i64 0) (.int .i64 0) (.int .i64 0) (.int .i64 0)).here
          exact bodyPost_ret (v := .tuple #[.agg #[.int .i64 0, .int .i64 0, .int .i64 0, .int .i64 0], .bool false]) (by simp [results, Try.results25, go_sem, e0, e1, e2, e3]) rfl ⟨rfl, (((HW.out.2.2.2.1.setCell (by simp) _).setCell (by simp) _).setCell (by simp) _).setCell (by simp) _⟩
        · obtain ⟨c0, c1, c2, c3, _⟩ := blk4 HW.out.2.2.1
          go_wp2_with fail
          go_round
          case rel => exact Or.inr (Or.inr (Or.inr (Or.inl ⟨rfl, by omega, by omega, by omega⟩)))
          case measure => simp [intOf]
      · by_cases a : n3 < 0
        · have hz : res = ((0, 0, 0, 0), false) := HPN.out (by omega)
          subst hz
          obtain ⟨c0, c1, c2, c3, _⟩ := blk4 HW.out.2.2.1
          obtain ⟨_, _, _, _, z0, z1, z2, z3⟩ := blk4 HW.out.2.1
          go_wp2_with fail
          obtain ⟨e0, e1, e2, e3, _⟩ := blk4 (repl4 HW.out.2.1 (.int .i64 0) (.int .i64 0) (.int .i64 0) (.int .i64 0)).here
          exact bodyPost_ret (v := .tuple #[.agg #[.int .i64 0, .int .i64 0, .int .i64 0, .int .i64 0], .bool false]) (by simp [results, Try.results25, go_sem, e0, e1, e2, e3]) rfl ⟨rfl, (((HW.out.2.2.2.1.setCell (by simp) _).setCell (by simp) _).setCell (by simp) _).setCell (by simp) _⟩
        · obtain ⟨c0, c1, c2, c3, _⟩ := blk4 HW.out.2.2.1
          go_wp2_with fail
          go_round
          case rel => exact Or.inr (Or.inr (Or.inr (Or.inr ⟨rfl, by omega, by omega, by omega, by omega⟩)))
          case measure => simp [intOf]
      · have hps := HPS.out h0 h1 h2 h3
        replace HPS := Lib.hid hps
        have HM0 : Hid ((n0 = 0 ∧ m0P n0 = 1) ∨ (n0 ≠ 0 ∧ m0P n0 = n0)) := Lib.hid (by unfold m0P; split <;> simp_all)
        have HM1 : Hid ((n1 = 0 ∧ m0P n1 = 1) ∨ (n1 ≠ 0 ∧ m0P n1 = n1)) := Lib.hid (by unfold m0P; split <;> simp_all)
        have HM2 : Hid ((n2 = 0 ∧ m2P n2 (b - t) = b - t) ∨ (n2 ≠ 0 ∧ n2 > b - t ∧ m2P n2 (b - t) = b - t) ∨ (n2 ≠ 0 ∧ ¬ n2 > b - t ∧ m2P n2 (b - t) = n2)) := Lib.hid (by
          unfold m2P
          by_cases g : n2 = 0
          · exact .inl ⟨g, if_pos (.inl g)⟩
          · by_cases g2 : n2 > b - t
            · exact .inr (.inl ⟨g, g2, if_pos (.inr g2)⟩)
            · exact .inr (.inr ⟨g, g2, if_neg (by omega)⟩))
        have HM3 : Hid ((n3 = 0 ∧ m2P n3 (r - l) = r - l) ∨ (n3 ≠ 0 ∧ n3 > r - l ∧ m2P n3 (r - l) = r - l) ∨ (n3 ≠ 0 ∧ ¬ n3 > r - l ∧ m2P n3 (r - l) = n3)) := Lib.hid (by
          unfold m2P
          by_cases g : n3 = 0
          · exact .inl ⟨g, if_pos (.inl g)⟩
          · by_cases g2 : n3 > r - l
            · exact .inr (.inl ⟨g, g2, if_pos (.inr g2)⟩)
            · exact .inr (.inr ⟨g, g2, if_neg (by omega)⟩))
        have HBD : Hid (1 ≤ m0P n0 ∧ 1 ≤ m0P n1 ∧ 0 ≤ m2P n2 (b - t) ∧ m2P n2 (b - t) ≤ b - t ∧ 0 ≤ m2P n3 (r - l) ∧ m2P n3 (r - l) ≤ r - l) := Lib.hid (by
          have a0 := HM0.out; have a1 := HM1.out; have a2 := HM2.out; have a3 := HM3.out
          omega)
        generalize m0P n0 = a0 at *
        generalize m0P n1 = a1 at *
        generalize m2P n2 (b - t) = a2 at *
        generalize m2P n3 (r - l) = a3 at *
        clear h0 h1 h2 h3 HPN hps
        obtain ⟨c0, c1, c2, c3, _⟩ := blk4 HW.out.2.2.1
        go_upto_if 49 with (fail)
        go_cut [10] (fun s wx => s = .pointer (some ⟨w1.heap.size, 0, none⟩) ∧ KR w w1.heap.size (bC t l b r) (bC 0 0 0 0) #[.int .i64 a0, .int .i64 n1, .int .i64 n2, .int .i64 n3] wx)
        case first =>
          obtain ⟨_, _, _, _, z0, z1, z2, z3⟩ := blk4 HW.out.2.2.1
          rcases HM0.out with ⟨g, e⟩ | ⟨g, e⟩
          · have gg : (n0 == 0) = true := by simpa using g
            subst e
            clear g
            go_wp2_with fail
            go_meet
            exact ⟨rfl, HW.out.set 0 _⟩
          · have gg : (n0 == 0) = false := by simpa using g
            subst e
            go_wp2_with fail
            go_meet
            exact ⟨rfl, HW.out⟩
        case rest =>
        obtain ⟨rfl, hk⟩ := hcut
        clear HW c0 c1 c2 c3
        replace HW := Lib.hid hk
        clear hk
        obtain ⟨c0, c1, c2, c3, _⟩ := blk4 HW.out.2.2.1
        go_upto_if 53 with (fail)
        go_cut [10] (fun s wx => s = .pointer (some ⟨w1.heap.size, 0, none⟩) ∧ KR w w1.heap.size (bC t l b r) (bC 0 0 0 0) #[.int .i64 a0, .int .i64 a1, .int .i64 n2, .int .i64 n3] wx)
        case first =>
          obtain ⟨_, _, _, _, z0, z1, z2, z3⟩ := blk4 HW.out.2.2.1
          rcases HM1.out with ⟨g, e⟩ | ⟨g, e⟩
          · have gg : (n1 == 0) = true := by simpa using g
            subst e
            clear g
            go_wp2_with fail
            go_meet
            exact ⟨rfl, HW.out.set 1 _⟩
          · have gg : (n1 == 0) = false := by simpa using g
            subst e
            go_wp2_with fail
            go_meet
            exact ⟨rfl, HW.out⟩
        case rest =>
        obtain ⟨rfl, hk⟩ := hcut
        clear HW c0 c1 c2 c3
        replace HW := Lib.hid hk
        clear hk
        obtain ⟨c0, c1, c2, c3, _⟩ := blk4 HW.out.2.2.1
        obtain ⟨B2, hB2⟩ : ∃ B, B = decide (n2 = 0 ∨ n2 > b - t) := ⟨_, rfl⟩
        have HB2 := Lib.hid hB2
        clear hB2
        go_upto_region 15 with fail
        go_cut [63, 10] (fun s s' wx => s = .bool B2 ∧ s' = .pointer (some ⟨w1.heap.size, 0, none⟩) ∧ KR w w1.heap.size (bC t l b r) (bC 0 0 0 0) #[.int .i64 a0, .int .i64 a1, .int .i64 n2, .int .i64 n3] wx)
        case first =>
          rcases HM2.out with ⟨g, e⟩ | ⟨g, g2, e⟩ | ⟨g, g2, e⟩
          · obtain rfl : B2 = true := by rw [HB2.out]; simp [g]
            have gg : (n2 == 0) = true := by simpa using g
            clear g
            go_wp2_with fail
            go_meet
            exact ⟨rfl, rfl, HW.out⟩
          · obtain rfl : B2 = true := by rw [HB2.out]; simp [g2]
            have gg : (n2 == 0) = false := by simpa using g
            go_wp2_with fail
            go_meet
            exact ⟨by first | rfl | simp, rfl, HW.out⟩
          · obtain rfl : B2 = false := by rw [HB2.out]; simp [g]; omega
            have gg : (n2 == 0) = false := by simpa using g
            have gg2 : decide (n2 > b - t) = false := by simpa using g2
            go_wp2_with fail
            go_meet
            exact ⟨by first | rfl | simp, rfl, HW.out⟩
        case rest =>
        obtain ⟨rfl, rfl, hk⟩ := hcut
        clear HW c0 c1 c2 c3
        replace HW := Lib.hid hk
        clear hk
        obtain ⟨c0, c1, c2, c3, _⟩ := blk4 HW.out.2.2.1
        go_upto_if 63 with (fail)
        go_cut [10] (fun s wx => s = .pointer (some ⟨w1.heap.size, 0, none⟩) ∧ KR w w1.heap.size (bC t l b r) (bC 0 0 0 0) #[.int .i64 a0, .int .i64 a1, .int .i64 a2, .int .i64 n3] wx)
        case first =>
          obtain ⟨_, _, _, _, z0, z1, z2, z3⟩ := blk4 HW.out.2.2.1
          rcases HM2.out with ⟨g, e⟩ | ⟨g, g2, e⟩ | ⟨g, g2, e⟩
          · obtain rfl : B2 = true := by rw [HB2.out]; simp [g]
            subst e
            clear g
            go_wp2_with fail
            go_meet
            exact ⟨rfl, HW.out.set 2 _⟩
          · obtain rfl : B2 = true := by rw [HB2.out]; simp [g2]
            subst e
            go_wp2_with fail
            go_meet
            exact ⟨rfl, HW.out.set 2 _⟩
          · obtain rfl : B2 = false := by rw [HB2.out]; simp [g]; omega
            subst e
            go_wp2_with fail
            go_meet
            exact ⟨rfl, HW.out⟩
        case rest =>
        obtain ⟨rfl, hk⟩ := hcut
        clear HW c0 c1 c2 c3
        replace HW := Lib.hid hk
        clear hk
        obtain ⟨c0, c1, c2, c3, _⟩ := blk4 HW.out.2.2.1
        obtain ⟨B3, hB3⟩ : ∃ B, B = decide (n3 = 0 ∨ n3 > r - l) := ⟨_, rfl⟩
        have HB3 := Lib.hid hB3
        clear hB3
        go_upto_region 17 with fail
        go_cut [74, 10] (fun s s' wx => s = .bool B3 ∧ s' = .pointer (some ⟨w1.heap.size, 0, none⟩) ∧ KR w w1.heap.size (bC t l b r) (bC 0 0 0 0) #[.int .i64 a0, .int .i64 a1, .int .i64 a2, .int .i64 n3] wx)
        case first =>
          rcases HM3.out with ⟨g, e⟩ | ⟨g, g2, e⟩ | ⟨g, g2, e⟩
          · obtain rfl : B3 = true := by rw [HB3.out]; simp [g]
            have gg : (n3 == 0) = true := by simpa using g
            clear g
            go_wp2_with fail
            go_meet
            exact ⟨rfl, rfl, HW.out⟩
          · obtain rfl : B3 = true := by rw [HB3.out]; simp [g2]
            have gg : (n3 == 0) = false := by simpa using g
            go_wp2_with fail
            go_meet
            exact ⟨by first | rfl | simp, rfl, HW.out⟩
          · obtain rfl : B3 = false := by rw [HB3.out]; simp [g]; omega
            have gg : (n3 == 0) = false := by simpa using g
            have gg2 : decide (n3 > r - l) = false := by simpa using g2
            go_wp2_with fail
            go_meet
            exact ⟨by first | rfl | simp, rfl, HW.out⟩
        case rest =>
        obtain ⟨rfl, rfl, hk⟩ := hcut
        clear HW c0 c1 c2 c3
        replace HW := Lib.hid hk
        clear hk
        obtain ⟨c0, c1, c2, c3, _⟩ := blk4 HW.out.2.2.1
        go_upto_if 74 with (fail)
        go_cut [10] (fun s wx => s = .pointer (some ⟨w1.heap.size, 0, none⟩) ∧ KR w w1.heap.size (bC t l b r) (bC 0 0 0 0) #[.int .i64 a0, .int .i64 a1, .int .i64 a2, .int .i64 a3] wx)
        case first =>
          obtain ⟨_, _, _, _, z0, z1, z2, z3⟩ := blk4 HW.out.2.2.1
          rcases HM3.out with ⟨g, e⟩ | ⟨g, g2, e⟩ | ⟨g, g2, e⟩
          · obtain rfl : B3 = true := by rw [HB3.out]; simp [g]
            subst e
            clear g
            go_wp2_with fail
            go_meet
            exact ⟨rfl, HW.out.set 3 _⟩
          · obtain rfl : B3 = true := by rw [HB3.out]; simp [g2]
            subst e
            go_wp2_with fail
            go_meet
            exact ⟨rfl, HW.out.set 3 _⟩
          · obtain rfl : B3 = false := by rw [HB3.out]; simp [g]; omega
            subst e
            go_wp2_with fail
            go_meet
            exact ⟨rfl, HW.out⟩
        case rest =>
        obtain ⟨rfl, hk⟩ := hcut
        clear HW c0 c1 c2 c3
        replace HW := Lib.hid hk
        clear hk
        obtain ⟨c0, c1, c2, c3, _⟩ := blk4 HW.out.2.2.1
        clear HM0 HM1 HM2 HM3
        obtain ⟨d0, d1, d2, d3, _⟩ := blk4 HW.out.1
        obtain ⟨_, _, _, _, z0, z1, z2, z3⟩ := blk4 HW.out.2.1
        obtain ⟨g0, g1, g2, g3, g4, g5⟩ := HBD.out
        by_cases k1 : a0 > a2
        · have hz : res = ((0, 0, 0, 0), false) := by rw [HPS.out, if_pos (.inl k1)]
          subst hz
          go_upto_region 20 with fail
          repeat go_step
          obtain ⟨e0, e1, e2, e3, _⟩ := blk4 (repl4 HW.out.2.1 (.int .i64 0) (.int .i64 0) (.int .i64 0) (.int .i64 0)).here
          exact bodyPost_ret (v := .tuple #[.agg #[.int .i64 0, .int .i64 0, .int .i64 0, .int .i64 0], .bool false]) (by simp [results, Try.results25, go_sem, e0, e1, e2, e3]) rfl ⟨rfl, (((HW.out.2.2.2.1.setCell (by simp) _).setCell (by simp) _).setCell (by simp) _).setCell (by simp) _⟩
        · have k1' : decide (a0 > a2) = false := by simpa using k1
          by_cases k2 : a1 > a3
          · have hz : res = ((0, 0, 0, 0), false) := by rw [HPS.out, if_pos (.inr k2)]
            subst hz
            go_upto_region 20 with fail
            repeat go_step
            obtain ⟨e0, e1, e2, e3, _⟩ := blk4 (repl4 HW.out.2.1 (.int .i64 0) (.int .i64 0) (.int .i64 0) (.int .i64 0)).here
            exact bodyPost_ret (v := .tuple #[.agg #[.int .i64 0, .int .i64 0, .int .i64 0, .int .i64 0], .bool false]) (by simp [results, Try.results25, go_sem, e0, e1, e2, e3]) rfl ⟨rfl, (((HW.out.2.2.2.1.setCell (by simp) _).setCell (by simp) _).setCell (by simp) _).setCell (by simp) _⟩
          · have k2' : decide (a1 > a3) = false := by simpa using k2
            have hz : res = ((t + a0 - 1, l + a1 - 1, t + a2, l + a3), true) := by rw [HPS.out, if_neg (by omega)]
            subst hz
            go_upto_region 21 with fail
            repeat go_step
            obtain ⟨e0, e1, e2, e3, _⟩ := blk4 (repl4 HW.out.2.1 (.int .i64 (t + a0 - 1)) (.int .i64 (l + a1 - 1)) (.int .i64 (t + a2)) (.int .i64 (l + a3))).here
            exact bodyPost_ret (v := .tuple #[.agg #[.int .i64 (t + a0 - 1), .int .i64 (l + a1 - 1), .int .i64 (t + a2), .int .i64 (l + a3)], .bool true]) (by simp [results, Try.results25, go_sem, e0, e1, e2, e3]) rfl ⟨rfl, (((HW.out.2.2.2.1.setCell (by simp) _).setCell (by simp) _).setCell (by simp) _).setCell (by simp) _⟩
end Go.Proofs.Ytdddpdfljjfaoaa
