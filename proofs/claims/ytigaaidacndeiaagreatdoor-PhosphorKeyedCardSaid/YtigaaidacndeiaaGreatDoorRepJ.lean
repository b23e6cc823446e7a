/-
  What is answered is never nothing; the fixed fact.
  The fixed fact of the reply's laws.
-/
import Derived.Test.YtigaaidacndeiaaGreatDoorRepH
namespace Go.Proofs.YtigaaidacndeiaaGreatDoor

open Go Go.RowKit

theorem nums_in (ns : List Int) : (numsT ns).any outB = false := by
  rw [List.any_eq_false]
  intro x hx
  unfold numsT at hx
  obtain ⟨n, _, rfl⟩ := List.mem_map.1 hx
  unfold outB clip65
  have : clipP (clipP n 0 65535) 0 65535 = clipP n 0 65535 := by unfold clipP; omega
  rw [this]
  simp
theorem small_nums {s : ByteArray} {dt : List Nat} (ns : List Int) (hs : s.size ≤ 3) (hd : dt.length ≤ 4096) : smallB (numsT ns) s dt = true := by
  unfold smallB
  rw [nums_in]
  have := nums_len ns
  simp [hs, hd, this]
theorem chk_nums4 {c m : Nat} {s : ByteArray} (ns : List Int) (hs : s.size ≤ 3) (h : (codedB 4 c s && writtenB m s []) = true) : checkP 4 c m (numsT ns) s [] = 0 := by
  have hp : pureB 4 c m (numsT ns) s [] = true := by
    unfold pureB
    rw [if_neg (by omega), if_neg (by omega), if_pos rfl]
    decide +kernel
  unfold checkP
  rw [if_neg (by omega), if_neg (by rw [small_nums ns hs (by simp)]; simp), if_neg (by rw [hp, h]; simp)]
theorem chk_nums5 {c m : Nat} {s : ByteArray} {dt : List Nat} (ns : List Int) (hs : s.size ≤ 3) (hd : dt.length ≤ 4096) (h : (codedB 5 c s && writtenB m s dt) = true) : checkP 5 c m (numsT ns) s dt = 0 := by
  have hp : pureB 5 c m (numsT ns) s dt = true := by
    unfold pureB
    rw [if_neg (by omega), if_neg (by omega), if_neg (by omega), if_pos rfl]
  unfold checkP
  rw [if_neg (by omega), if_neg (by rw [small_nums ns hs hd]; simp), if_neg (by rw [hp, h]; simp)]
theorem lead_ne (c : Nat) (eight : Bool) : leadL c eight ≠ [] := by unfold leadL; split <;> simp
theorem repL_ne4 (id : ByteArray) (ns : List Int) (eight : Bool) (h0 : id.size ≠ 0) (hs : (tkS id).size ≤ 3) (h : (codedB 4 (byteAt id (id.size - 1)) (tkS id) && writtenB (tkM id) (tkS id) []) = true) : repL 4 id ⟨#[]⟩ ns eight ≠ [] := by
  unfold repL
  have e0 : natL (ByteArray.mk #[]).data.toList = [] := rfl
  rw [if_neg h0, e0, if_pos (chk_nums4 ns hs h)]
  unfold bytesL
  rw [if_neg (by omega), if_neg (by omega)]
  intro e
  exact lead_ne _ _ (List.append_eq_nil_iff.1 (List.append_eq_nil_iff.1 e).1).1
theorem repL_ne5 (id data : ByteArray) (ns : List Int) (eight : Bool) (h0 : id.size ≠ 0) (hs : (tkS id).size ≤ 3) (hd : (natL data.data.toList).length ≤ 4096) (h : (codedB 5 (byteAt id (id.size - 1)) (tkS id) && writtenB (tkM id) (tkS id) (natL data.data.toList)) = true) : repL 5 id data ns eight ≠ [] := by
  unfold repL
  rw [if_neg h0, if_pos (chk_nums5 ns hs hd h)]
  unfold bytesL
  rw [if_neg (by omega), if_neg (by omega)]
  intro e
  exact lead_ne _ _ (List.append_eq_nil_iff.1 (List.append_eq_nil_iff.1 e).1).1
theorem ne_c (ns : List Int) (eight : Bool) : repL 4 ⟨#[63, 99]⟩ ⟨#[]⟩ ns eight ≠ [] := repL_ne4 _ ns eight (by decide) (by decide) (by decide +kernel)
theorem ne_c2 (ns : List Int) (eight : Bool) : repL 4 ⟨#[62, 99]⟩ ⟨#[]⟩ ns eight ≠ [] := repL_ne4 _ ns eight (by decide) (by decide) (by decide +kernel)
theorem ne_r (ns : List Int) (eight : Bool) : repL 4 ⟨#[82]⟩ ⟨#[]⟩ ns eight ≠ [] := repL_ne4 _ ns eight (by decide) (by decide) (by decide +kernel)
theorem ne_qr (ns : List Int) (eight : Bool) : repL 4 ⟨#[63, 82]⟩ ⟨#[]⟩ ns eight ≠ [] := repL_ne4 _ ns eight (by decide) (by decide) (by decide +kernel)
theorem ne_y (ns : List Int) (eight : Bool) : repL 4 ⟨#[36, 121]⟩ ⟨#[]⟩ ns eight ≠ [] := repL_ne4 _ ns eight (by decide) (by decide) (by decide +kernel)
theorem ne_qy (ns : List Int) (eight : Bool) : repL 4 ⟨#[63, 36, 121]⟩ ⟨#[]⟩ ns eight ≠ [] := repL_ne4 _ ns eight (by decide) (by decide) (by decide +kernel)
theorem ne_u (ns : List Int) (eight : Bool) : repL 5 ⟨#[33, 124]⟩ ⟨#[48, 48, 48, 48, 48, 48, 48, 48]⟩ ns eight ≠ [] := repL_ne5 _ _ ns eight (by decide) (by decide) (by decide) (by decide +kernel)
theorem hd_data : ∀ d : Nat, d < 16 → noDataB (hdN d) = false ∧ hdN d < 256 := by decide +kernel
theorem natL_bstr {l : List Nat} (h : ∀ n ∈ l, n < 256) : natL (bstr l).data.toList = l := by
  rw [bstr_list]
  unfold natL
  rw [List.map_map]
  conv => rhs; rw [← List.map_id l]
  exact List.map_congr_left fun n hn => by simp [Nat.mod_eq_of_lt (h n hn)]
theorem sum_data (n : Int) : natL (bstr (sumL n)).data.toList = sumL n ∧ (sumL n).any noDataB = false ∧ (sumL n).length = 4 := by
  have hlt := sumN_lt n
  rw [sum_four]
  have h1 := hd_data (sumN n / 4096) (by omega)
  have h2 := hd_data (sumN n / 256 % 16) (by omega)
  have h3 := hd_data (sumN n / 16 % 16) (by omega)
  have h4 := hd_data (sumN n % 16) (by omega)
  refine ⟨natL_bstr ?_, ?_, rfl⟩
  · intro x hx
    simp only [List.mem_cons, List.not_mem_nil, or_false] at hx
    rcases hx with rfl | rfl | rfl | rfl
    · exact h1.2
    · exact h2.2
    · exact h3.2
    · exact h4.2
  · simp [h1.1, h2.1, h3.1, h4.1]
theorem ne_sum (n : Int) (ns : List Int) (eight : Bool) : repL 5 ⟨#[33, 126]⟩ (bstr (sumL n)) ns eight ≠ [] := by
  obtain ⟨h1, h2, h3⟩ := sum_data n
  refine repL_ne5 _ _ ns eight (by decide) (by decide) (by rw [h1, h3]; omega) ?_
  rw [h1]
  have e : tkS ⟨#[33, 126]⟩ = ⟨#[33]⟩ := by decide +kernel
  unfold writtenB
  rw [h2, e]
  decide +kernel
theorem fix_a : bstr (repL 4 ⟨#[63, 36, 121]⟩ ⟨#[]⟩ [7, 1] false) = ⟨#[27, 91, 63, 55, 59, 49, 36, 121]⟩ := by decide +kernel
theorem fix_b : bstr (repL 4 ⟨#[82]⟩ ⟨#[]⟩ [toldP 0, toldP 0] true) = ⟨#[155, 49, 59, 49, 82]⟩ := by decide +kernel
theorem fix_c : bstr (repL 5 ⟨#[33, 126]⟩ (bstr (sumL 255)) [3] false) = ⟨#[27, 80, 51, 33, 126, 48, 48, 70, 70, 27, 92]⟩ := by decide +kernel
end Go.Proofs.YtigaaidacndeiaaGreatDoor

namespace Go.Proofs.YtigaaidacndeiaaGreatDoor

open Go Go.RowKit

/-- What a call gave, as a text. -/
theorem gives_text {w w1 w2 : World} {e : Ending} {l : List Nat} {s : ByteArray} (hs : bstr l = s) (h : Gives w1 w2 e l ∧ Below w1.heap.size w1 w2) (hb : Below w.heap.size w w1) :
    ∃ A n, e = .returned (.slice A l.length n) ∧ (∀ W, Below w2.heap.size w2 W → (convert 25 9 (.slice A l.length n)).run Tryz.prog W = .ok (.string s) W) ∧ Below w.heap.size w w2 := by
  obtain ⟨v, rfl, hv, h2⟩ := gives_back h hb
  obtain ⟨A, n, rfl⟩ := OByt.form hv
  refine ⟨A, n, rfl, fun W hW => ?_, h2⟩
  rw [← hs]
  exact conv_by (OByt.reads (hv.next hW)) n
set_option maxRecDepth 100000 in
set_option maxHeartbeats 4000000 in
theorem repAwake_any (w : World) (ht : Ten w) :
    Calls Tryz.prog 6 #[] w fun e w' => e = .returned (.bool true) ∧ Below w.heap.size w w' := by
  have hb : Below w.heap.size w (w.alloc (.cells #[.int .i64 7, .int .i64 1] 3)) := (Below.refl _ _).alloc (Nat.le_refl _) _
  have H1 := Lib.hid (csi_any false ⟨#[63, 36, 121]⟩ (some ⟨w.heap.size, 0, none⟩) 2 [7, 1] (by simp [maxLen]) (by simp) (size_le (n := 3) rfl (by decide)) _ (ht.next hb) (rints_new w 3 [7, 1] #[.int .i64 7, .int .i64 1] rfl w.heap.size rfl))
  have HB := Lib.hid hb; have HT := Lib.hid ht
  have H2 := Lib.hid (fun W t => repPlace_any true 0 0 (-1) (by omega) (by omega) (by omega) (by omega) (by omega) (by omega) W t)
  have H3 := Lib.hid (fun W t => repSum_any false 3 255 W t)
  have F1 := Lib.hid fix_a; have F2 := Lib.hid fix_b; have F3 := Lib.hid fix_c
  rw [if_pos (by omega)] at H2
  generalize repL 4 ⟨#[63, 36, 121]⟩ ⟨#[]⟩ [7, 1] false = l1 at *
  generalize repL 4 ⟨#[82]⟩ ⟨#[]⟩ [toldP 0, toldP 0] true = l2 at *
  generalize repL 5 ⟨#[33, 126]⟩ (bstr (sumL 255)) [3] false = l3 at *
  clear hb ht
  go_enter Tryz.func6, Tryz.ntmps6
  go_wp2_with fail
  refine H1.out.mono ?_
  rintro e w1 h
  obtain ⟨A1, n1, rfl, hc1, hb1⟩ := gives_text F1.out h HB.out
  have hcv := hc1 w1 (Below.refl _ _)
  have HB1 := Lib.hid hb1
  clear h hc1 hb1
  go_wp2_with fail
  refine (H2.out w1 (HT.out.next HB1.out)).mono ?_
  rintro e w2 h
  obtain ⟨A2, n2, rfl, hc2, hb2⟩ := gives_text F2.out h HB1.out
  have hcv2 := hc2 w2 (Below.refl _ _)
  have HB2 := Lib.hid hb2
  clear h hc2 hb2 hcv
  go_wp2_with fail
  refine (H3.out w2 (HT.out.next HB2.out)).mono ?_
  rintro e w3 h
  obtain ⟨A3, n3, rfl, hc3, hb3⟩ := gives_text F3.out h HB2.out
  have hcv3 := hc3 w3 (Below.refl _ _)
  have HB3 := Lib.hid hb3
  clear h hc3 hb3 hcv2
  go_wp2_with fail
  go_ret
  exact ⟨rfl, HB3.out⟩
end Go.Proofs.YtigaaidacndeiaaGreatDoor
