/-
  Cursors: within a width; numbers of a move.
-/
import Derived.Test.YtilfhilebdkmkaaCurC
namespace Go.Proofs.Ytilfhilebdkmkaa
open Go Go.RowKit

def fitC (c width : Int) : Int := clipP c 0 (max width 1 - 1)
def fitW (c width : Int) (wp : Bool) : Bool := if fitC c width = c then wp else false
theorem Bs.start2' (w : World) (T U : TypeId) (x y : Array Value) : Bs w [(w.heap.size, T, x), (w.heap.size + 1, U, y)] ((w.alloc (.cells x T)).alloc (.cells y U)) := (Bs.start2 w T U x y).sw1
set_option maxRecDepth 100000 in
set_option maxHeartbeats 8000000 in
theorem fit_any (r c : Int) (wp : Bool) (K : CK) (width : Int) (hw : -9223372036854775808 ≤ width ∧ width ≤ 9223372036854775807) (w : World) :
    Calls Try.prog 25 #[uV r c wp K, .int .i64 width] w fun e w' => e = .returned (uV r (fitC c width) (fitW c width wp) K) ∧ Below w.heap.size w w' := by
  have HC := Lib.hid (fun W => clip_any c 0 (max width 1 - 1) W)
  have HK := Lib.hid (Bs.start2' w 44 44 (uC r c wp K) zU)
  have HF : Hid (fitC c width = clipP c 0 (max width 1 - 1)) := Lib.hid rfl
  have HW : Hid (fitW c width wp = if fitC c width = c then wp else false) := Lib.hid rfl
  generalize fitW c width wp = wq at *
  generalize fitC c width = q at *
  have s1 : IntKind.i64.wrap (max width 1 - 1) = max width 1 - 1 := IntWalk.i64_in _ (by omega)
  rw [← HF.out] at HC
  clear HF
  have hm : (width < 1 ∧ max width 1 = 1) ∨ (¬ width < 1 ∧ max width 1 = width) := by omega
  clear hw
  generalize max width 1 = m at *
  unfold uV at *
  rcases hm with ⟨hm, rfl⟩ | ⟨hm, rfl⟩
  · simp only [Int.sub_self] at HC s1
    clear s1
    by_cases hq : q = c
    · subst hq
      obtain rfl : wq = wp := by rw [HW.out, if_pos rfl]
      clear HW
      go_enter Try.func25, Try.ntmps25
      go_wp2_with fail
      refine (HC.out _).mono ?_
      rintro e w1 ⟨rfl, rfl⟩
      go_wp2_with fail
      exact bodyPost_ret (v := .agg #[.int .i64 r, .int .i64 q, .int .u8 K.rd, .bool K.kp, .bool wq, .bool K.og, .int .i64 K.a, .int .i64 K.b, .int .i64 K.c, .int .i64 K.d, .int .i64 K.l, .int .i64 K.r, .int .i64 K.s]) (by simp [results, Try.results25, go_sem]) rfl ⟨rfl, by go_grown⟩
    · obtain rfl : wq = false := by rw [HW.out, if_neg hq]
      have hq2 : (q != c) = true := by simpa using hq
      clear HW hq
      go_enter Try.func25, Try.ntmps25
      go_wp2_with fail
      refine (HC.out _).mono ?_
      rintro e w1 ⟨rfl, rfl⟩
      go_wp2_with fail
      exact bodyPost_ret (v := .agg #[.int .i64 r, .int .i64 q, .int .u8 K.rd, .bool K.kp, .bool false, .bool K.og, .int .i64 K.a, .int .i64 K.b, .int .i64 K.c, .int .i64 K.d, .int .i64 K.l, .int .i64 K.r, .int .i64 K.s]) (by simp [results, Try.results25, go_sem]) rfl ⟨rfl, by go_grown⟩
  · skip
    by_cases hq : q = c
    · subst hq
      obtain rfl : wq = wp := by rw [HW.out, if_pos rfl]
      clear HW
      go_enter Try.func25, Try.ntmps25
      go_wp2_with fail
      refine (HC.out _).mono ?_
      rintro e w1 ⟨rfl, rfl⟩
      go_wp2_with fail
      exact bodyPost_ret (v := .agg #[.int .i64 r, .int .i64 q, .int .u8 K.rd, .bool K.kp, .bool wq, .bool K.og, .int .i64 K.a, .int .i64 K.b, .int .i64 K.c, .int .i64 K.d, .int .i64 K.l, .int .i64 K.r, .int .i64 K.s]) (by simp [results, Try.results25, go_sem]) rfl ⟨rfl, by go_grown⟩
    · obtain rfl : wq = false := by rw [HW.out, if_neg hq]
      have hq2 : (q != c) = true := by simpa using hq
      clear HW hq
      go_enter Try.func25, Try.ntmps25
      go_wp2_with fail
      refine (HC.out _).mono ?_
      rintro e w1 ⟨rfl, rfl⟩
      go_wp2_with fail
      exact bodyPost_ret (v := .agg #[.int .i64 r, .int .i64 q, .int .u8 K.rd, .bool K.kp, .bool false, .bool K.og, .int .i64 K.a, .int .i64 K.b, .int .i64 K.c, .int .i64 K.d, .int .i64 K.l, .int .i64 K.r, .int .i64 K.s]) (by simp [results, Try.results25, go_sem]) rfl ⟨rfl, by go_grown⟩
set_option maxRecDepth 100000 in
set_option maxHeartbeats 8000000 in
theorem refFit_any (r c : Int) (wp : Bool) (K : CK) (width : Int) (hw : -9223372036854775808 ≤ width ∧ width ≤ 9223372036854775807) (w : World) :
    Calls Try.prog 26 #[uV r c wp K, .int .i64 width] w fun e w' => e = .returned (uV r (fitC c width) (fitW c width wp) K) ∧ Below w.heap.size w w' := by
  have hx : ∃ m, ((width < 1 ∧ m = 1) ∨ (¬ width < 1 ∧ m = width)) ∧ ((m - 1 < c ∧ ¬ m - 1 < 0 ∧ fitC c width = m - 1 ∧ fitW c width wp = false ∧ ((m - 1 != c) = true)) ∨ (¬ m - 1 < c ∧ c < 0 ∧ fitC c width = 0 ∧ fitW c width wp = false ∧ (((0 : Int) != c) = true)) ∨ (¬ m - 1 < c ∧ ¬ c < 0 ∧ fitC c width = c ∧ fitW c width wp = wp)) := by
    refine ⟨max width 1, by omega, ?_⟩
    by_cases h1 : max width 1 - 1 < c
    · have e : fitC c width = max width 1 - 1 := by unfold fitC clipP; omega
      exact .inl ⟨h1, by omega, e, by unfold fitW; rw [e, if_neg (by omega)], by simp; omega⟩
    · by_cases h2 : c < 0
      · have e : fitC c width = 0 := by unfold fitC clipP; omega
        exact .inr (.inl ⟨h1, h2, e, by unfold fitW; rw [e, if_neg (by omega)], by simp; omega⟩)
      · have e : fitC c width = c := by unfold fitC clipP; omega
        exact .inr (.inr ⟨h1, h2, e, by unfold fitW; rw [e, if_pos rfl]⟩)
  obtain ⟨m, hm, hx⟩ := hx
  have s1 : IntKind.i64.wrap (m - 1) = m - 1 := IntWalk.i64_in _ (by omega)
  generalize fitW c width wp = wq at *
  generalize fitC c width = q at *
  clear hw
  unfold uV
  rcases hm with ⟨hm, rfl⟩ | ⟨hm, rfl⟩
  all_goals
    rcases hx with ⟨g1, g2, rfl, rfl, g3⟩ | ⟨g1, g2, rfl, rfl, g3⟩ | ⟨g1, g2, rfl, rfl⟩
  all_goals
    go_enter Try.func26, Try.ntmps26
    go_wp2_with fail
    exact bodyPost_ret (v := .agg #[.int .i64 _, .int .i64 _, .int .u8 _, .bool _, .bool _, .bool _, .int .i64 _, .int .i64 _, .int .i64 _, .int .i64 _, .int .i64 _, .int .i64 _, .int .i64 _]) (by simp [results, Try.results26, go_sem]) rfl ⟨rfl, by go_grown⟩
def fewP (at_ n first margin : Int) : Int := at_ - clipP n 0 (at_ - if margin ≤ at_ then margin else first)
def moreP (at_ n last margin : Int) : Int := at_ + clipP n 0 ((if at_ ≤ margin then margin else last) - at_)
def nearC (first below n : Int) : Int := if n < 0 then first else if below - first ≤ n then below - 1 else first + n
def In2 (n : Int) : Prop := 0 ≤ n ∧ n ≤ 2000
set_option maxHeartbeats 4000000 in
theorem fewer_any (a n x0 margin : Int) (h1 : In2 a) (h2 : In2 x0) (h3 : In2 margin) (hb : x0 ≤ a) (w : World) :
    Calls Try.prog 53 #[.int .i64 a, .int .i64 n, .int .i64 x0, .int .i64 margin] w fun e w' => e = .returned (.int .i64 (fewP a n x0 margin)) ∧ w = w' := by
  unfold In2 at *
  have hx : ∃ x, ((margin ≤ a ∧ x = margin) ∨ (decide (margin ≤ a) = false ∧ x = x0)) ∧ fewP a n x0 margin = a - clipP n 0 (a - x) ∧ 0 ≤ a - x ∧ a - x ≤ 2000 := by
    by_cases h : margin ≤ a
    · exact ⟨margin, .inl ⟨h, rfl⟩, by unfold fewP; rw [if_pos h], by omega, by omega⟩
    · exact ⟨x0, .inr ⟨by simpa using h, rfl⟩, by unfold fewP; rw [if_neg h], by omega, by omega⟩
  obtain ⟨x, hx, e, b1, b2⟩ := hx
  rw [e]
  have HC := Lib.hid (fun W => clip_any n 0 (a - x) W)
  have s1 : IntKind.i64.wrap (a - x) = a - x := IntWalk.i64_in _ (by omega)
  have s2 : IntKind.i64.wrap (a - clipP n 0 (a - x)) = a - clipP n 0 (a - x) := IntWalk.i64_in _ (by unfold clipP; omega)
  generalize clipP n 0 (a - x) = y at *
  clear e h1 h2 h3 hb b1 b2
  rcases hx with ⟨hc, rfl⟩ | ⟨hc, rfl⟩
  all_goals
    go_enter Try.func53, Try.ntmps53
    go_wp2_with fail
    refine (HC.out _).mono ?_
    rintro e w1 ⟨rfl, rfl⟩
    go_wp2_with fail
    go_ret
    exact ⟨rfl, rfl⟩
set_option maxHeartbeats 4000000 in
theorem more_any (a n x0 margin : Int) (h1 : In2 a) (h2 : In2 x0) (h3 : In2 margin) (hb : a ≤ x0) (w : World) :
    Calls Try.prog 54 #[.int .i64 a, .int .i64 n, .int .i64 x0, .int .i64 margin] w fun e w' => e = .returned (.int .i64 (moreP a n x0 margin)) ∧ w = w' := by
  unfold In2 at *
  have hx : ∃ x, ((a ≤ margin ∧ x = margin) ∨ (decide (a ≤ margin) = false ∧ x = x0)) ∧ moreP a n x0 margin = a + clipP n 0 (x - a) ∧ 0 ≤ x - a ∧ x - a ≤ 2000 := by
    by_cases h : a ≤ margin
    · exact ⟨margin, .inl ⟨h, rfl⟩, by unfold moreP; rw [if_pos h], by omega, by omega⟩
    · exact ⟨x0, .inr ⟨by simpa using h, rfl⟩, by unfold moreP; rw [if_neg h], by omega, by omega⟩
  obtain ⟨x, hx, e, b1, b2⟩ := hx
  rw [e]
  have HC := Lib.hid (fun W => clip_any n 0 (x - a) W)
  have s1 : IntKind.i64.wrap (x - a) = x - a := IntWalk.i64_in _ (by omega)
  have s2 : IntKind.i64.wrap (a + clipP n 0 (x - a)) = a + clipP n 0 (x - a) := IntWalk.i64_in _ (by unfold clipP; omega)
  generalize clipP n 0 (x - a) = y at *
  clear e h1 h2 h3 hb b1 b2
  rcases hx with ⟨hc, rfl⟩ | ⟨hc, rfl⟩
  all_goals
    go_enter Try.func54, Try.ntmps54
    go_wp2_with fail
    refine (HC.out _).mono ?_
    rintro e w1 ⟨rfl, rfl⟩
    go_wp2_with fail
    go_ret
    exact ⟨rfl, rfl⟩
set_option maxHeartbeats 4000000 in
theorem nearC_any (a b n : Int) (h1 : In2 a) (h2 : In2 b) (h3 : a < b) (w : World) :
    Calls Try.prog 64 #[.int .i64 a, .int .i64 b, .int .i64 n] w fun e w' => e = .returned (.int .i64 (nearC a b n)) ∧ w = w' := by
  unfold In2 at *
  have hx : (n < 0 ∧ nearC a b n = a) ∨ (decide (n < 0) = false ∧ b - a ≤ n ∧ nearC a b n = b - 1) ∨ (decide (n < 0) = false ∧ decide (b - a ≤ n) = false ∧ nearC a b n = a + n ∧ IntKind.i64.wrap (a + n) = a + n) := by
    unfold nearC
    by_cases h : n < 0
    · exact .inl ⟨h, if_pos h⟩
    · by_cases h' : b - a ≤ n
      · exact .inr (.inl ⟨by simpa using h, h', by rw [if_neg h, if_pos h']⟩)
      · exact .inr (.inr ⟨by simpa using h, by simpa using h', by rw [if_neg h, if_neg h'], IntWalk.i64_in _ (by omega)⟩)
  have s1 : IntKind.i64.wrap (b - a) = b - a := IntWalk.i64_in _ (by omega)
  have s2 : IntKind.i64.wrap (b - 1) = b - 1 := IntWalk.i64_in _ (by omega)
  generalize nearC a b n = y at *
  clear h1 h2 h3
  rcases hx with ⟨hc, rfl⟩ | ⟨hc, hc2, rfl⟩ | ⟨hc, hc2, rfl, s3⟩
  all_goals
    go_enter Try.func64, Try.ntmps64
    go_wp2_with fail
    go_ret
    exact ⟨rfl, rfl⟩
end Go.Proofs.Ytilfhilebdkmkaa
