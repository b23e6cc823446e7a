/-
  Boxes: sides: a box of two, what two have in common, is one empty, has it a place, how many; which place is nearest.
-/
import Derived.Test.YtilfhilebdkmkaaBoxA
import Derived.Test.YtilfhilebdkmkaaClip
namespace Go.Proofs.Ytilfhilebdkmkaa

open Go Go.RowKit

def emB (f b : Int) : Bool := decide (b ≤ f)
def hasB (f b n : Int) : Bool := decide (f ≤ n) && decide (n < b)
def cntP (f b : Int) : Int := if b ≤ f then 0 else b - f
theorem calls_same {P : Program} {f : FuncId} {args : Array Value} {w : World} {v : Value} (h : Calls P f args w fun e w' => e = .returned v ∧ w = w') : Calls P f args w fun e w' => e = .returned v ∧ Below w.heap.size w w' :=
  h.mono fun e w' ⟨h1, h2⟩ => ⟨h1, by subst h2; exact Below.refl _ _⟩

set_option maxHeartbeats 1000000 in
theorem boxOf_any (rf rb cf cb : Int) (w : World) :
    Calls Try.prog 58 #[sV rf rb, sV cf cb] w fun e w' => e = .returned (bV rf cf rb cb) ∧ Below w.heap.size w w' := by
  unfold bV sV
  go_enter Try.func58, Try.ntmps58
  go_wp2_with fail
  exact bodyPost_ret (v := .agg #[.int .i64 rf, .int .i64 cf, .int .i64 rb, .int .i64 cb]) (by simp [results, Try.results58, go_sem]) rfl ⟨rfl, (new3 w _ _ _ _ _ _).2.2.2⟩

set_option maxHeartbeats 1000000 in
theorem sMeet_any (f b f' b' : Int) (w : World) :
    Calls Try.prog 59 #[sV f b, sV f' b'] w fun e w' => e = .returned (sV (max f f') (min b b')) ∧ Below w.heap.size w w' := by
  unfold sV
  have HX : Hid ((f < f' → max f f' = f') ∧ (¬ f < f' → max f f' = f)) := Lib.hid ⟨fun _ => by omega, fun _ => by omega⟩
  have HY : Hid ((b' < b → min b b' = b') ∧ (¬ b' < b → min b b' = b)) := Lib.hid ⟨fun _ => by omega, fun _ => by omega⟩
  generalize max f f' = x at *
  generalize min b b' = y at *
  by_cases p : f < f' <;> by_cases q : b' < b
  · obtain rfl := HX.out.1 p; obtain rfl := HY.out.1 q
    clear HX HY
    go_enter Try.func59, Try.ntmps59
    go_wp2_with fail
    exact bodyPost_ret (v := .agg #[.int .i64 _, .int .i64 _]) (by simp [results, Try.results59, go_sem]) rfl ⟨rfl, (new3 w _ _ _ _ _ _).2.2.2⟩
  · obtain rfl := HX.out.1 p; obtain rfl := HY.out.2 q
    clear HX HY
    go_enter Try.func59, Try.ntmps59
    go_wp2_with fail
    exact bodyPost_ret (v := .agg #[.int .i64 _, .int .i64 _]) (by simp [results, Try.results59, go_sem]) rfl ⟨rfl, (new3 w _ _ _ _ _ _).2.2.2⟩
  · obtain rfl := HX.out.2 p; obtain rfl := HY.out.1 q
    clear HX HY
    go_enter Try.func59, Try.ntmps59
    go_wp2_with fail
    exact bodyPost_ret (v := .agg #[.int .i64 _, .int .i64 _]) (by simp [results, Try.results59, go_sem]) rfl ⟨rfl, (new3 w _ _ _ _ _ _).2.2.2⟩
  · obtain rfl := HX.out.2 p; obtain rfl := HY.out.2 q
    clear HX HY
    go_enter Try.func59, Try.ntmps59
    go_wp2_with fail
    exact bodyPost_ret (v := .agg #[.int .i64 _, .int .i64 _]) (by simp [results, Try.results59, go_sem]) rfl ⟨rfl, (new3 w _ _ _ _ _ _).2.2.2⟩

set_option maxHeartbeats 1000000 in
theorem sEmpty_any (f b : Int) (w : World) :
    Calls Try.prog 60 #[sV f b] w fun e w' => e = .returned (.bool (emB f b)) ∧ Below w.heap.size w w' := by
  unfold sV
  obtain ⟨h1, hb⟩ := new1 w 85 (sC f b)
  obtain ⟨c0, c1, _, _⟩ := blk2 h1
  have HB := Lib.hid hb
  clear h1 hb
  have HE : Hid (emB f b = decide (b ≤ f)) := Lib.hid rfl
  go_enter Try.func60, Try.ntmps60
  go_wp2_with fail
  go_ret
  exact ⟨ret_bool (by first | exact HE.out.symm | (rw [HE.out]; simp)), HB.out⟩

set_option maxHeartbeats 1000000 in
theorem has_any (f b n : Int) (w : World) :
    Calls Try.prog 61 #[sV f b, .int .i64 n] w fun e w' => e = .returned (.bool (hasB f b n)) ∧ Below w.heap.size w w' := by
  unfold sV
  obtain ⟨h1, hb⟩ := new1 w 85 (sC f b)
  obtain ⟨c0, c1, _, _⟩ := blk2 h1
  have HB := Lib.hid hb
  clear h1 hb
  have HE : Hid (hasB f b n = (decide (f ≤ n) && decide (n < b))) := Lib.hid rfl
  go_enter Try.func61, Try.ntmps61
  go_wp2_with fail
  all_goals
    go_ret
    exact ⟨ret_bool (by rw [HE.out]; simp <;> omega), HB.out⟩

set_option maxHeartbeats 1000000 in
theorem count_any (f b : Int) (h0 : -9223372036854775808 ≤ b - f) (h1 : b - f ≤ 9223372036854775807) (w : World) :
    Calls Try.prog 65 #[sV f b] w fun e w' => e = .returned (.int .i64 (cntP f b)) ∧ Below w.heap.size w w' := by
  have HS := Lib.hid (fun W => sEmpty_any f b W)
  unfold sV at *
  obtain ⟨h2, hb⟩ := new1 w 85 (sC f b)
  obtain ⟨c0, c1, _, _⟩ := blk2 h2
  have HB := Lib.hid hb
  have HK := Lib.hid h2
  clear h2 hb
  have HE : Hid (cntP f b = if b ≤ f then 0 else b - f) := Lib.hid rfl
  cases hE : emB f b
  · have hlt : f < b := by unfold emB at hE; simpa using hE
    rw [hE] at HS
    clear hE
    go_enter Try.func65, Try.ntmps65
    go_wp2_with fail
    refine (HS.out _).mono ?_
    rintro e w1 ⟨rfl, hb1⟩
    obtain ⟨d0, d1, _, _⟩ := blk2 (HK.out.next hb1)
    have HB1 := Lib.hid (HB.out.trans (hb1.mono HB.out.size))
    clear c0 c1 hb1
    go_wp2_with fail
    go_ret
    exact ⟨ret_int (by rw [HE.out, if_neg (by omega)]), HB1.out⟩
  · have hge : b ≤ f := by unfold emB at hE; simpa using hE
    rw [hE] at HS
    clear hE
    go_enter Try.func65, Try.ntmps65
    go_wp2_with fail
    refine (HS.out _).mono ?_
    rintro e w1 ⟨rfl, hb1⟩
    have HB1 := Lib.hid (HB.out.trans (hb1.mono HB.out.size))
    clear c0 c1 hb1
    go_wp2_with fail
    go_ret
    exact ⟨ret_int (by rw [HE.out, if_pos hge]), HB1.out⟩

set_option maxHeartbeats 1000000 in
theorem nearest_any (f b n : Int) (h0 : -9223372036854775808 ≤ b - 1) (h1 : b - 1 ≤ 9223372036854775807) (w : World) :
    Calls Try.prog 62 #[sV f b, .int .i64 n] w fun e w' => e = .returned (.int .i64 (clipP n f (b - 1))) ∧ Below w.heap.size w w' := by
  have HS := Lib.hid (fun W => clip_any n f (b - 1) W)
  unfold sV at *
  obtain ⟨h2, hb⟩ := new1 w 85 (sC f b)
  obtain ⟨c0, c1, _, _⟩ := blk2 h2
  have HB := Lib.hid hb
  clear h2 hb
  generalize clipP n f (b - 1) = x at *
  go_enter Try.func62, Try.ntmps62
  go_wp2_with (go_at_call 51; refine (HS.out _).mono ?_; rintro e w' ⟨rfl, rfl⟩)
  go_ret
  exact ⟨rfl, HB.out⟩


end Go.Proofs.Ytilfhilebdkmkaa
