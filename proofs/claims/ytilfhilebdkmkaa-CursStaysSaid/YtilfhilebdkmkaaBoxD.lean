/-
  Boxes: is one empty, is a place in it, a whole one.
-/
import Derived.Test.YtilfhilebdkmkaaBoxC
namespace Go.Proofs.Ytilfhilebdkmkaa

open Go Go.RowKit

theorem bstep {a W W' : World} (h : Below a.heap.size a W) (h' : Below W.heap.size W W') : Below a.heap.size a W' := h.trans (h'.mono h.size)
def pV (r c : Int) : Value := .agg #[.int .i64 r, .int .i64 c]
def bEm (t l b r : Int) : Bool := emB t b || emB l r
def inB (t l b r p q : Int) : Bool := hasB t b p && hasB l r q

set_option maxHeartbeats 2000000 in
theorem empty_any (t l b r : Int) (w : World) :
    Calls Try.prog 38 #[bV t l b r] w fun e w' => e = .returned (.bool (bEm t l b r)) ∧ Below w.heap.size w w' := by
  have HS := Lib.hid (fun W => sides_any t l b r W)
  have HE := Lib.hid (fun W => sEmpty_any t b W)
  have HF := Lib.hid (fun W => sEmpty_any l r W)
  have HV : Hid (bEm t l b r = (emB t b || emB l r)) := Lib.hid rfl
  generalize bEm t l b r = v at *
  generalize emB l r = y at *
  unfold bV sV at *
  cases hx : emB t b
  · rw [hx] at HE HV
    clear hx
    go_enter Try.func38, Try.ntmps38
    go_wp2_with fail
    refine (HS.out _).mono ?_
    rintro e w1 ⟨rfl, hb1⟩
    have HB1 := Lib.hid (bstep (new1 w _ _).2 hb1)
    clear hb1
    go_wp2_with fail
    refine (HE.out _).mono ?_
    rintro e w2 ⟨rfl, hb2⟩
    have HB2 := Lib.hid (bstep (bstep HB1.out (new2 w1 _ _ _ _).2.2) hb2)
    obtain ⟨c0, c1, _, _⟩ := blk2 (Blk.next (new2 w1 85 85 #[.int .i64 t, .int .i64 b] #[.int .i64 l, .int .i64 r]).2.1 hb2)
    clear hb2
    go_wp2_with fail
    refine (HF.out _).mono ?_
    rintro e w3 ⟨rfl, hb3⟩
    have HB3 := Lib.hid (bstep HB2.out hb3)
    clear hb3 c0 c1
    go_wp2_with fail
    go_ret
    exact ⟨ret_bool (by rw [HV.out]; rfl), HB3.out⟩
  · rw [hx] at HE HV
    clear hx
    go_enter Try.func38, Try.ntmps38
    go_wp2_with fail
    refine (HS.out _).mono ?_
    rintro e w1 ⟨rfl, hb1⟩
    have HB1 := Lib.hid (bstep (new1 w _ _).2 hb1)
    clear hb1
    go_wp2_with fail
    refine (HE.out _).mono ?_
    rintro e w2 ⟨rfl, hb2⟩
    have HB2 := Lib.hid (bstep (bstep HB1.out (new2 w1 _ _ _ _).2.2) hb2)
    clear hb2
    go_wp2_with fail
    go_ret
    exact ⟨ret_bool (by rw [HV.out]; rfl), HB2.out⟩

set_option maxHeartbeats 2000000 in
theorem in_any (t l b r p q : Int) (w : World) :
    Calls Try.prog 42 #[bV t l b r, pV p q] w fun e w' => e = .returned (.bool (inB t l b r p q)) ∧ Below w.heap.size w w' := by
  have HS := Lib.hid (fun W => sides_any t l b r W)
  have HE := Lib.hid (fun W => has_any t b p W)
  have HF := Lib.hid (fun W => has_any l r q W)
  have HV : Hid (inB t l b r p q = (hasB t b p && hasB l r q)) := Lib.hid rfl
  generalize inB t l b r p q = v at *
  generalize hasB l r q = y at *
  unfold bV sV pV at *
  cases hx : hasB t b p
  all_goals
    rw [hx] at HE HV
    clear hx
    go_enter Try.func42, Try.ntmps42
    go_wp2_with fail
    refine (HS.out _).mono ?_
    rintro e w1 ⟨rfl, hb1⟩
    have HP1 := Lib.hid (Blk.next (new2 w 29 41 #[.int .i64 t, .int .i64 l, .int .i64 b, .int .i64 r] #[.int .i64 p, .int .i64 q]).2.1 hb1)
    have HB1 := Lib.hid (bstep (new2 w _ _ _ _).2.2 hb1)
    have hz : w.heap.size + 1 < w1.heap.size := HP1.out.lt
    have hz' : w.heap.size < w1.heap.size := by omega
    clear hb1
    have HP1' := Lib.hid (fun o o' => (HP1.out.alloc o).alloc o')
    obtain ⟨d0, d1, _, _⟩ := blk2 HP1.out
    go_wp2_with fail
    refine (HE.out _).mono ?_
    rintro e w2 ⟨rfl, hb2⟩
    have HB2 := Lib.hid (bstep (bstep HB1.out (new2 w1 _ _ _ _).2.2) hb2)
    obtain ⟨c0, c1, _, _⟩ := blk2 (Blk.next (new2 w1 85 85 #[.int .i64 t, .int .i64 b] #[.int .i64 l, .int .i64 r]).2.1 hb2)
    clear d0 d1
    obtain ⟨d0, d1, _, _⟩ := blk2 (Blk.next (HP1'.out _ _) hb2)
    clear hb2
    go_wp2_with fail
    try (refine (HF.out _).mono ?_
         rintro e w3 ⟨rfl, hb3⟩
         replace HB2 := Lib.hid (bstep HB2.out hb3)
         clear hb3 c0 c1 d0 d1
         go_wp2_with fail)
    go_ret
    exact ⟨ret_bool (by rw [HV.out]; rfl), HB2.out⟩

set_option maxHeartbeats 2000000 in
theorem whole_any (r c : Int) (w : World) :
    Calls Try.prog 36 #[.int .i64 r, .int .i64 c] w fun e w' => e = .returned (bV 0 0 (max r 0) (max c 0)) ∧ Below w.heap.size w w' := by
  unfold bV
  have HX : Hid ((r < 0 → max r 0 = 0) ∧ (¬ r < 0 → max r 0 = r)) := Lib.hid ⟨fun _ => by omega, fun _ => by omega⟩
  have HY : Hid ((c < 0 → max c 0 = 0) ∧ (¬ c < 0 → max c 0 = c)) := Lib.hid ⟨fun _ => by omega, fun _ => by omega⟩
  generalize max r 0 = x at *
  generalize max c 0 = y at *
  by_cases p : r < 0 <;> by_cases q : c < 0
  · obtain rfl := HX.out.1 p; obtain rfl := HY.out.1 q
    clear HX HY
    go_enter Try.func36, Try.ntmps36
    go_wp2_with fail
    exact bodyPost_ret (v := .agg #[.int .i64 0, .int .i64 0, .int .i64 _, .int .i64 _]) (by simp [results, Try.results36, go_sem]; try exact ⟨rfl, rfl⟩) rfl ⟨rfl, (new1 w _ _).2⟩
  · obtain rfl := HX.out.1 p; obtain rfl := HY.out.2 q
    clear HX HY
    go_enter Try.func36, Try.ntmps36
    go_wp2_with fail
    exact bodyPost_ret (v := .agg #[.int .i64 0, .int .i64 0, .int .i64 _, .int .i64 _]) (by simp [results, Try.results36, go_sem]; try exact ⟨rfl, rfl⟩) rfl ⟨rfl, (new1 w _ _).2⟩
  · obtain rfl := HX.out.2 p; obtain rfl := HY.out.1 q
    clear HX HY
    go_enter Try.func36, Try.ntmps36
    go_wp2_with fail
    exact bodyPost_ret (v := .agg #[.int .i64 0, .int .i64 0, .int .i64 _, .int .i64 _]) (by simp [results, Try.results36, go_sem]; try exact ⟨rfl, rfl⟩) rfl ⟨rfl, (new1 w _ _).2⟩
  · obtain rfl := HX.out.2 p; obtain rfl := HY.out.2 q
    clear HX HY
    go_enter Try.func36, Try.ntmps36
    go_wp2_with fail
    exact bodyPost_ret (v := .agg #[.int .i64 0, .int .i64 0, .int .i64 _, .int .i64 _]) (by simp [results, Try.results36, go_sem]; try exact ⟨rfl, rfl⟩) rfl ⟨rfl, (new1 w _ _).2⟩
end Go.Proofs.Ytilfhilebdkmkaa
