/-
  The walks of the reference that writes numbers: digit by digit, one by one.
-/
import Derived.Test.YtmaklogelidjaaaDoorParL
import Derived.Deep.RegionWith
import Derived.StillTailTactics
import Derived.Laws.BytesArg
namespace Go.Proofs.YtmaklogelidjaaaDoor

open Go.RowKit Go.Sort

theorem bcell {W w1 : World} (hb : Below W.heap.size W w1) : (∀ b o, b < W.heap.size → w1.cell? ⟨b, o, none⟩ = W.cell? ⟨b, o, none⟩) ∧ (∀ b o, b < W.heap.size → w1.frozen? ⟨b, o, none⟩ = W.frozen? ⟨b, o, none⟩) :=
  ⟨fun b o h => hb.cell (p := ⟨b, o, none⟩) h, fun b o h => hb.frozen (p := ⟨b, o, none⟩) h⟩
theorem dec_small (n : Nat) (h : n < 10) : bytesOf (Lib.decDigits n) = ⟨#[UInt8.ofNat (48 + n)]⟩ := by rw [Lib.decDigits, dif_pos h]; rfl
theorem dec_more (n : Nat) (h : ¬ n < 10) : bytesOf (Lib.decDigits n) = bytesOf (Lib.decDigits (n / 10)) ++ ⟨#[UInt8.ofNat (48 + n % 10)]⟩ := by
  rw [Lib.decDigits, dif_neg h]
  unfold bytesOf
  apply ByteArray.ext
  simp
theorem below_of_drew {B : Nat} {w w' : World} (h : RowKit.Below B w.drew w') : RowKit.Below B w w' := ⟨h.os, h.tape, h.output, h.size, h.block⟩
theorem conv_one (W : World) (g : Nat) (x : Int) (h : W.cell? ⟨g, 0, none⟩ = some (.int .u8 x)) : (convert 23 9 (.slice (some ⟨g, 0, none⟩) 1 1)).run Tryd.prog W = .ok (.string ⟨#[UInt8.ofNat x.toNat]⟩) W :=
  run_convert_bytes_arg W 23 5 Tryd.underlying23 Tryd.underlying5 g 0 1 1 [x] rfl (fun i hi => by
    obtain rfl : i = 0 := by simp at hi; omega
    simpa using h) 9 Tryd.underlying9
theorem conv_new (W : World) (x : Int) (B : UInt8) (hB : UInt8.ofNat x.toNat = B) : (convert 23 9 (.slice (some ⟨W.heap.size, 0, none⟩) 1 1)).run Tryd.prog (W.alloc (.cells #[.int .u8 x] 5)) = .ok (.string ⟨#[B]⟩) (W.alloc (.cells #[.int .u8 x] 5)) := by
  subst hB
  exact conv_one _ _ x ((Blk.new W 5 #[.int .u8 x]).cell 0)
set_option maxHeartbeats 400000 in
theorem decimal_small (n : Nat) (hn : n < 10) (w : World) :
    Calls Tryd.prog 35 #[.int .i64 n] w fun e w' => e = .returned (.string (bytesOf (Lib.decDigits n))) ∧ Below w.heap.size w w' := by
  have HD := Lib.hid (dec_small n hn)
  generalize bytesOf (Lib.decDigits n) = out at *
  obtain ⟨B, hB⟩ : ∃ B, UInt8.ofNat (48 + n) = B := ⟨_, rfl⟩
  rw [hB] at HD
  have hcv := conv_new w (48 + (n : Int)) B (by rw [← hB]; congr 1)
  clear hB
  go_enter Tryd.func35, Tryd.ntmps35
  go_wp2_with fail
  go_ret
  exact ⟨by rw [HD.out]; rfl, (Below.refl _ _).alloc (Nat.le_refl _) _⟩
set_option maxHeartbeats 2000000 in
theorem decimal_any (K : Nat) : ∀ (n : Nat), n < 10 ^ (K + 1) → n ≤ 65535 → ∀ (w : World),
    Calls Tryd.prog 35 #[.int .i64 n] w fun e w' => e = .returned (.string (bytesOf (Lib.decDigits n))) ∧ Below w.heap.size w w' := by
  induction K with
  | zero => exact fun n hn _ w => decimal_small n (by simpa using hn) w
  | succ K ih =>
    intro n hn h6 w
    by_cases hlt : n < 10
    · exact decimal_small n hlt w
    · have HD := Lib.hid (dec_more n hlt)
      have HI := Lib.hid (ih (n / 10) (by rw [Nat.pow_succ] at hn; omega) (by omega))
      have hdec : decide ((n : Int) < 10) = false := by simp; omega
      clear ih hn
      generalize bytesOf (Lib.decDigits n) = out at *
      have ho1 : (bytesOf (Lib.decDigits (n / 10))).size ≤ 5 := by
        have := dec_len 4 (n / 10) (by omega)
        show (Lib.decDigits (n / 10)).toArray.size ≤ 5
        simpa using this
      generalize bytesOf (Lib.decDigits (n / 10)) = o1 at *
      obtain ⟨q, hq, hq1⟩ : ∃ q : Nat, q = n / 10 ∧ q ≤ 6553 := ⟨_, rfl, by omega⟩
      obtain ⟨r, hr, hr1⟩ : ∃ r : Nat, r = n % 10 ∧ r ≤ 9 := ⟨_, rfl, by omega⟩
      rw [← hq] at HI
      rw [← hr] at HD
      have e1 : (n : Int) / 10 = q := by omega
      have e2 : (n : Int) % 10 = r := by omega
      have e3 : (n : Int).tdiv 10 = q := by rw [Int.tdiv_eq_ediv_of_nonneg (by omega)]; exact e1
      have e4 : (n : Int).tmod 10 = r := by rw [Int.tmod_eq_emod_of_nonneg (by omega)]; exact e2
      have e5 : IntKind.i64.wrap (q : Int) = q := IntWalk.i64_in _ (by omega)
      have e6 : IntKind.i64.wrap (48 + (r : Int)) = 48 + r := IntWalk.i64_in _ (by omega)
      have e7 : IntKind.u8.wrap (48 + (r : Int)) = 48 + r := by rw [IntKind.wrap_u8]; omega
      clear hq hr hlt
      obtain ⟨B, hB⟩ : ∃ B, UInt8.ofNat (48 + r) = B := ⟨_, rfl⟩
      rw [hB] at HD
      have hcv : ∀ W : World, (convert 23 9 (.slice (some ⟨W.heap.size, 0, none⟩) 1 1)).run Tryd.prog (W.alloc (.cells #[.int .u8 (48 + (r : Int))] 5)) = .ok (.string ⟨#[B]⟩) (W.alloc (.cells #[.int .u8 (48 + (r : Int))] 5)) := fun W => conv_new W _ B (by rw [← hB]; congr 1)
      have hcvd : ∀ W : World, (convert 23 9 (.slice (some ⟨W.heap.size, 0, none⟩) 1 1)).run Tryd.prog (W.alloc (.cells #[.int .u8 (48 + (r : Int))] 5)).drew = .ok (.string ⟨#[B]⟩) (W.alloc (.cells #[.int .u8 (48 + (r : Int))] 5)).drew := fun W => by
        have := conv_one (W.alloc (.cells #[.int .u8 (48 + (r : Int))] 5)).drew W.heap.size (48 + (r : Int)) ((Blk.new W 5 #[.int .u8 (48 + (r : Int))]).cell 0)
        rw [show UInt8.ofNat (48 + (r : Int)).toNat = B from by rw [← hB]; congr 1] at this
        exact this
      have HOne : Hid (∀ (W : World) (g : Nat), W.cell? ⟨g, 0, none⟩ = some (.int .u8 (48 + (r : Int))) → (convert 23 9 (.slice (some ⟨g, 0, none⟩) 1 1)).run Tryd.prog W = .ok (.string ⟨#[B]⟩) W) := Lib.hid (fun W g h => by
        have := conv_one W g _ h
        rw [show UInt8.ofNat (48 + (r : Int)).toNat = B from by rw [← hB]; congr 1] at this
        exact this)
      clear hB
      go_enter Tryd.func35, Tryd.ntmps35
      go_wp2_with fail
      go_region_with (go_at_call 35; (with_reducible refine (HI.out _).mono ?_); rintro e w1 ⟨rfl, hb1⟩; try have hcv2 := HOne.out w1 w.heap.size (by rw [(bcell hb1).1 _ _ (by simp)]; exact (Blk.new w 5 #[.int .u8 (48 + (r : Int))]).cell 0))
      all_goals
        go_wp2_with fail
        go_ret
        refine ⟨by rw [HD.out]; rfl, ?_⟩
        have hs := hb1.size
        first
          | exact (below_of_drew hb1).alloc hs _
          | exact ((Below.refl _ _).alloc (Nat.le_refl _) _).trans ((below_of_drew hb1).mono (by simp))
          | exact ((Below.refl _ _).alloc (Nat.le_refl _) _).trans (hb1.mono (by simp))

/-- What the reference writes, number by number. -/
def fmtT (ms : List Int) : Nat → ByteArray
  | 0 => ⟨#[]⟩
  | k + 1 => (if 0 < k then fmtT ms k ++ ⟨#[59]⟩ else fmtT ms k) ++ bytesOf (digs (ms.getD k 0))
theorem fmtT_size (ms : List Int) : ∀ k, (fmtT ms k).size ≤ 6 * k
  | 0 => by simp [fmtT]; decide
  | k + 1 => by
    have h1 := fmtT_size ms k
    have h2 := digs_len (ms.getD k 0)
    have h3 : (bytesOf (digs (ms.getD k 0))).size ≤ 5 := by
      show (digs (ms.getD k 0)).toArray.size ≤ 5
      simpa using h2
    have h4 : (⟨#[59]⟩ : ByteArray).size = 1 := rfl
    unfold fmtT
    split
    · simp only [ByteArray.size_append]; omega
    · simp only [ByteArray.size_append]; omega
theorem fmtT_join (ms : List Int) (k : Nat) (hk : k ≤ ms.length) : fmtT ms k = bytesOf (Lib.join ((ms.take k).map digs) [59]) := by
  induction k with
  | zero => rfl
  | succ k ih =>
    have hlt : k < ms.length := by omega
    have hg : ms.getD k 0 = ms[k] := by simp [List.getD, List.getElem?_eq_getElem hlt]
    rw [fmtT, ih (by omega), hg, take_snoc ms k hlt, List.map_append]
    rcases Nat.eq_zero_or_pos k with rfl | h0
    · apply ByteArray.ext; simp [Lib.join_nil, Lib.join_one, bytesOf]
    · rw [if_pos h0]
      obtain ⟨x, r, hx⟩ : ∃ x r, ms.take k = x :: r := by
        cases h : ms.take k with
        | nil =>
          have h2 : (ms.take k).length = k := by rw [List.length_take]; omega
          rw [h] at h2; simp at h2; omega
        | cons x r => exact ⟨x, r, rfl⟩
      rw [hx, List.map_cons, List.cons_append, Lib.join_cons, Lib.join_cons]
      have e : Lib.joinTail [59] (List.map digs r ++ List.map digs [ms[k]]) = Lib.joinTail [59] (List.map digs r) ++ ([59] ++ digs ms[k]) := by simp [Lib.joinTail]
      rw [e]
      apply ByteArray.ext
      simp [bytesOf]

set_option maxHeartbeats 2000000 in
theorem refFormat_any (A : Option Addr) (c : Nat) (ns : List Int) (hl : ns.length ≤ maxLen) (w : World) (hr : RInts w A ns) :
    Calls Tryd.prog 24 #[.slice A ns.length c] w fun e w' => e = .returned (.string (bytesOf (fmtL ns))) ∧ Below w.heap.size w w' := by
  unfold maxLen at hl
  have HE : Hid (∀ k, k = min ns.length 30 → fmtT ns k = bytesOf (fmtL ns)) := Lib.hid (fun k hk => by
    rw [fmtT_join ns k (by omega)]
    unfold fmtL
    have : ns.take k = ns.take 30 := by
      rw [hk]
      by_cases h : ns.length ≤ 30
      · rw [Nat.min_eq_left h, List.take_length, List.take_of_length_le h]
      · rw [Nat.min_eq_right (by omega)]
    rw [this])
  generalize bytesOf (fmtL ns) = out at *
  go_enter Tryd.func24, Tryd.ntmps24
  go_wp2_with fail
  go_loopw [3, 4] (fun t i wr => ∃ (k : Nat), k ≤ ns.length ∧ k ≤ 30 ∧ i = .int .i64 k ∧ t = .string (fmtT ns k) ∧ Below w.heap.size w wr) (fun _ i _ => ns.length - (intOf i).toNat)
  case atStart => exact ⟨0, by omega, by omega, rfl, rfl, Below.refl _ _⟩
  case round =>
    obtain ⟨k, hk, hk30, rfl, rfl, hb⟩ := hrel
    by_cases hlt : k < ns.length ∧ k < 30
    · obtain ⟨hlt, hlt2⟩ := hlt
      obtain ⟨ad, rfl, hbd, hcell⟩ := (hr.next hb).at_ hlt
      have hg : ns.getD k 0 = ns[k] := by simp [List.getD, List.getElem?_eq_getElem hlt]
      have HS : Hid (fmtT ns (k + 1) = (if 0 < k then fmtT ns k ++ ⟨#[59]⟩ else fmtT ns k) ++ bytesOf (digs ns[k])) := Lib.hid (by rw [fmtT, hg])
      have hsz := fmtT_size ns k
      have hds : (bytesOf (digs ns[k])).size ≤ 5 := by
        have h2 := digs_len ns[k]
        show (digs ns[k]).toArray.size ≤ 5
        simpa using h2
      have HB := Lib.hid hb
      have hdec : ∀ m : Nat, (m : Int) = clipP ns[k] 0 65535 → ∀ W : World, Calls Tryd.prog 35 #[.int .i64 m] W fun e w' => e = .returned (.string (bytesOf (digs ns[k]))) ∧ Below W.heap.size W w' := by
        intro m hm W
        have hc := clip_range ns[k]
        have e : digs ns[k] = Lib.decDigits m := by unfold digs; rw [← hm]; simp
        rw [e]
        exact decimal_any 4 m (by omega) (by omega) W
      have HD := Lib.hid hdec
      clear hg hdec
      generalize fmtT ns k = T at *
      generalize bytesOf (digs ns[k]) = D at *
      generalize ns[k] = x at *
      have hT : T.size ≤ 180 := by omega
      clear hsz
      have hk0 : (decide (0 < k) = true ∧ 0 < k) ∨ (decide (0 < k) = false ∧ k = 0) := by
        rcases Nat.eq_zero_or_pos k with h | h
        · exact .inr ⟨by simp; omega, h⟩
        · exact .inl ⟨by simp; omega, h⟩
      have hxs : ∃ m : Nat, m ≤ 65535 ∧ (m : Int) = clipP x 0 65535 ∧ ((x < 0 ∧ (m : Int) = 0) ∨ (65535 < x ∧ (m : Int) = 65535) ∨ x = m) := by
        have := clip_range x
        refine ⟨(clipP x 0 65535).toNat, by omega, by omega, ?_⟩
        unfold clipP at *
        omega
      obtain ⟨m, hm, hmc, hxm⟩ := hxs
      have HC := Lib.hid (HD.out m hmc)
      clear hmc
      rcases hk0 with ⟨hd0, h0⟩ | ⟨hd0, h0⟩
      all_goals
        have H0 := Lib.hid h0
        clear h0
        rcases hxm with ⟨hx, hm0⟩ | ⟨hx, hm0⟩ | rfl
        · rw [hm0] at HC
          clear hm0
          go_wp2_with (go_at_call 35; (with_reducible refine (HC.out _).mono ?_); rintro e w1 ⟨rfl, hb1⟩)
          go_roundw
          case rel => exact ⟨k + 1, by omega, by omega, by go_num, by rw [HS.out]; first | rw [if_pos H0.out] | rw [if_neg (by rw [H0.out]; omega)], HB.out.trans (hb1.mono HB.out.size)⟩
          case measure => simp [intOf]; omega
        · rw [hm0] at HC
          clear hm0
          go_wp2_with (go_at_call 35; (with_reducible refine (HC.out _).mono ?_); rintro e w1 ⟨rfl, hb1⟩)
          go_roundw
          case rel => exact ⟨k + 1, by omega, by omega, by go_num, by rw [HS.out]; first | rw [if_pos H0.out] | rw [if_neg (by rw [H0.out]; omega)], HB.out.trans (hb1.mono HB.out.size)⟩
          case measure => simp [intOf]; omega
        · go_wp2_with (go_at_call 35; (with_reducible refine (HC.out _).mono ?_); rintro e w1 ⟨rfl, hb1⟩)
          go_roundw
          case rel => exact ⟨k + 1, by omega, by omega, by go_num, by rw [HS.out]; first | rw [if_pos H0.out] | rw [if_neg (by rw [H0.out]; omega)], HB.out.trans (hb1.mono HB.out.size)⟩
          case measure => simp [intOf]; omega
    · have HB := Lib.hid hb
      have HO := Lib.hid (HE.out k (by omega))
      generalize fmtT ns k = T at *
      rcases (by omega : ¬ k < ns.length ∨ (k < ns.length ∧ ¬ k < 30)) with h | ⟨h, h2⟩
      · have hd : decide (k < ns.length) = false := by simp; omega
        clear hlt h
        go_wp2_with fail
        go_ret
        exact ⟨by rw [HO.out]; rfl, HB.out⟩
      · have hd : decide ((k : Int) < 30) = false := by simp; omega
        clear hlt h2
        go_wp2_with fail
        go_ret
        exact ⟨by rw [HO.out]; rfl, HB.out⟩
end Go.Proofs.YtmaklogelidjaaaDoor
