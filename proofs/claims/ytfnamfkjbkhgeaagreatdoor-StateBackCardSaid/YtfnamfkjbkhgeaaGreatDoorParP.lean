/-
  The walk that writes numbers as a text.
  The walk of Format.
  The walks of the reference that writes numbers: digit by digit, one by one.
  Numbers that are written are read back: plain.
-/
import Derived.Test.YtfnamfkjbkhgeaaGreatDoorParJ
import Derived.Test.YtfnamfkjbkhgeaaGreatDoorParG
import Derived.Test.YtfnamfkjbkhgeaaGreatDoorShelf
import Derived.Lib.SmallJoins
import Derived.Lib.Join
import Derived.Deep.RegionWith
import Derived.StillTailTactics
import Derived.Laws.BytesArg
namespace Go.Proofs.YtfnamfkjbkhgeaaGreatDoor

open Go.RowKit Go.Sort

/-- The table of powers of ten is in memory. -/
def Ten (w : World) : Prop := Lib.TabIs Tryz.prog w "internal/strconv.uint64pow10" .u64 Lib.pow10Tab
theorem Ten.next {w w' : World} (h : Ten w) (hb : Below w.heap.size w w') : Ten w' := Go.Joins.tab_stays (by kernel_rfl : Tryz.prog.globalNamed "internal/strconv.uint64pow10" = some 3) h hb (Nat.le_refl _)
theorem below_grow (w : World) (k : Nat) (os : Array Obj) : Below w.heap.size w (grow (w.drewN k) os) :=
  ⟨rfl, rfl, rfl, by simp [grow], fun i hi => by simp only [grow, World.drewN]; rw [Array.getElem?_append_left hi]⟩

/-- A number's digits, and a list of numbers as a text. -/
def digs (n : Int) : List UInt8 := Lib.decDigits (clipP n 0 65535).toNat
def fmtL (ns : List Int) : List UInt8 := Lib.join ((ns.take 30).map digs) [59]
def bytesOf (l : List UInt8) : ByteArray := ⟨l.toArray⟩
theorem clip_range (n : Int) : 0 ≤ clipP n 0 65535 ∧ clipP n 0 65535 ≤ 65535 := by unfold clipP; omega
theorem itoa_digs (n : Int) : Lib.itoa (clipP n 0 65535) = digs n := by
  have := (clip_range n).1
  unfold Lib.itoa digs
  rw [if_neg (by omega)]
theorem dec_len (k : Nat) : ∀ n : Nat, n < 10 ^ (k + 1) → (Lib.decDigits n).length ≤ k + 1 := by
  induction k with
  | zero => intro n hn; rw [Lib.decDigits, dif_pos (by simpa using hn)]; simp
  | succ k ih =>
    intro n hn
    rw [Lib.decDigits]
    split
    · simp
    · have := ih (n / 10) (by rw [Nat.pow_succ] at hn; omega)
      simp; omega
theorem digs_len (n : Int) : (digs n).length ≤ 5 := dec_len 4 _ (by have := clip_range n; omega)
theorem lens_le (xs : List (List UInt8)) (h : ∀ x ∈ xs, x.length ≤ 5) : Lib.lens xs ≤ 5 * xs.length := by
  induction xs with
  | nil => simp [Lib.lens]
  | cons x xs ih =>
    have h1 := h x (by simp)
    have h2 := ih (fun y hy => h y (by simp [hy]))
    simp [Lib.lens] at h2 ⊢
    omega
theorem join_len (xs : List (List UInt8)) (h : ∀ x ∈ xs, x.length ≤ 5) : (Lib.join xs [59]).length ≤ 6 * xs.length := by
  cases xs with
  | nil => simp [Lib.join_nil]
  | cons x r =>
    rw [Lib.join_length]
    have h2 := lens_le (x :: r) h
    simp at h2 ⊢
    omega
/-- A slice of strings of the call's own. -/
def OStr (w : World) (base : Nat) (v : Value) (xs : List ByteArray) : Prop := w.ownsRow base 9 1 v xs.length (xs.map Value.string)
theorem ostr_own {w : World} {base : Nat} {v : Value} {xs : List ByteArray} (h : OStr w base v xs) : w.ownsRow base 9 1 v xs.length (xs.map Value.string) := h
theorem info_string : (Tryz.prog.info? 9).map (fun i => (i.zero, i.size, i.bytes)) = some (some (.string ⟨#[]⟩), 1, 16) := by kernel_rfl
theorem OStr.next {w w' : World} {base : Nat} {v : Value} {l : List ByteArray} (h : OStr w base v l) (hb : Below w.heap.size w w') : OStr w' base v l :=
  World.ownsRow.kept (row := none) h ⟨hb.os, hb.tape, hb.output, hb.size, fun k hk _ => hb.block k hk⟩ (by cases v.ownBlock <;> simp)
theorem OStr.form {w : World} {base : Nat} {v : Value} {l : List ByteArray} (h : OStr w base v l) : ∃ A c, v = .slice A l.length c ∧ l.length ≤ c ∧ (0 < l.length → ∃ g, A = some ⟨g, 0, none⟩ ∧ g < w.heap.size ∧ ∀ (j : Nat) x, l[j]? = some x → w.cell? ⟨g, 0 + j, none⟩ = some (.string x)) := by
  rcases h.2 with ⟨rfl, hn⟩ | ⟨g, cap, cur, rfl, hg, hh, hc, _⟩
  · exact ⟨none, 0, by rw [hn], by omega, fun h0 => absurd h0 (by omega)⟩
  · have hlt := h.lt g rfl
    refine ⟨_, cap, rfl, hc, fun _ => ⟨g, rfl, hlt.2, fun j x hj => ?_⟩⟩
    have hjl : j < l.length := by
      rcases Nat.lt_or_ge j l.length with h' | h'
      · exact h'
      · rw [List.getElem?_eq_none h'] at hj; cases hj
    rw [Nat.zero_add, World.ownsRow.cellAt h j (by omega), List.getElem?_map, hj]
    rfl

theorem join_any (A : Option Addr) (c : Nat) (xs : List ByteArray) (base : Nat) (hl : xs.length ≤ 30) (h5 : ∀ x ∈ xs, x.data.toList.length ≤ 5) (w : World) (h : OStr w base (.slice A xs.length c) xs) :
    Calls Tryz.prog 30 #[.slice A xs.length c, .string ⟨#[59]⟩] w fun e w' => e = .returned (.string (bytesOf (Lib.join (xs.map (·.data.toList)) [59]))) ∧ Below w.heap.size w w' := by
  obtain ⟨A', c', hv, hc, hpos⟩ := h.form
  simp only [Value.slice.injEq, true_and] at hv
  obtain ⟨rfl, rfl⟩ := hv
  rcases Nat.eq_zero_or_pos xs.length with h0 | h0
  · obtain rfl := List.eq_nil_of_length_eq_zero h0
    exact (Tryz.strings_Join_none A c ⟨#[59]⟩ w).mono fun e w' ⟨he, hw⟩ => ⟨he, hw ▸ Below.refl _ _⟩
  · obtain ⟨g, rfl, hg, hcell⟩ := hpos h0
    refine (Tryz.strings_Join g 0 c xs ⟨#[59]⟩ w hcell hg (by omega) hc ?_).mono fun e w' ⟨he, hb⟩ => ⟨he, hb⟩
    have := join_len (xs.map (·.data.toList)) (fun x hx => by obtain ⟨y, hy, rfl⟩ := List.mem_map.1 hx; exact h5 y hy)
    rw [List.length_map] at this
    show (Lib.join _ [59]).length ≤ _
    omega
end Go.Proofs.YtfnamfkjbkhgeaaGreatDoor

namespace Go.Proofs.YtfnamfkjbkhgeaaGreatDoor

open Go.RowKit Go.Sort

theorem itoa_any (n : Int) (w : World) (ht : Ten w) :
    Calls Tryz.prog 26 #[.int .i64 (clipP n 0 65535)] w fun e w' => e = .returned (.string (bytesOf (digs n))) ∧ Below w.heap.size w w' := by
  have h := clip_range n
  refine (Tryz.strconv_Itoa (clipP n 0 65535) (by omega) (by omega) w ht).mono fun e w' ⟨he, k, os, hw⟩ => ⟨?_, by rw [hw]; exact below_grow w k os⟩
  rw [he, itoa_digs]; rfl
/-- The texts of the numbers so far. -/
def txts (ms : List Int) : List ByteArray := ms.map fun n => bytesOf (digs n)
theorem txts_snoc (ms : List Int) (k : Nat) (h : k < ms.length) : txts (ms.take (k + 1)) = txts (ms.take k) ++ [bytesOf (digs ms[k])] := by
  unfold txts; rw [take_snoc ms k h, List.map_append]; rfl
theorem txts_data (ms : List Int) : (txts ms).map (·.data.toList) = ms.map digs := by unfold txts bytesOf; simp

set_option maxRecDepth 100000 in
set_option maxHeartbeats 2000000 in
theorem format_any (A : Option Addr) (c : Nat) (ns : List Int) (hl : ns.length ≤ maxLen) (hc : ns.length ≤ c) (w : World) (ht : Ten w) (hr : RInts w A ns) :
    Calls Tryz.prog 54 #[.slice A ns.length c] w fun e w' => e = .returned (.string (bytesOf (fmtL ns))) ∧ Below w.heap.size w w' := by
  unfold maxLen at hl
  have hr2 := rints_take hr 30
  obtain ⟨ms, hms, hF⟩ : ∃ ms, ms = ns.take 30 ∧ fmtL ns = Lib.join ((txts ms).map (·.data.toList)) [59] := ⟨_, rfl, by rw [txts_data]; rfl⟩
  rw [← hms] at hr2
  have HF := Lib.hid hF
  have h30 : ms.length ≤ 30 := by rw [hms, List.length_take]; omega
  clear hF
  have HT : Hid (∀ x ∈ txts ms, x.data.toList.length ≤ 5) := Lib.hid (fun x hx => by
    obtain ⟨n, _, rfl⟩ := List.mem_map.1 hx
    exact digs_len n)
  generalize fmtL ns = out at *
  have hcase : ms = ns ∨ (30 < ns.length ∧ 30 ≤ ms.length) := by
    by_cases h : ns.length ≤ 30
    · exact .inl (by rw [hms, List.take_of_length_le h])
    · exact .inr ⟨by omega, by rw [hms, List.length_take]; omega⟩
  clear hms hr
  rcases hcase with rfl | ⟨hn, hm⟩
  all_goals
    go_enter Tryz.func54, Tryz.ntmps54
    go_wp2_with fail
    go_loopw [3, 12] (fun t i wr => ∃ (k : Nat) (v : Value), k ≤ ms.length ∧ i = .int .i64 k ∧ t = v ∧ OStr wr w.heap.size v (txts (ms.take k)) ∧ Below w.heap.size w wr) (fun _ i _ => ms.length - (intOf i).toNat)
    case atStart => exact ⟨0, _, by omega, rfl, rfl, World.ownsRow_nil _ _ _ _, Below.refl _ _⟩
    case round =>
      obtain ⟨k, v, hk, rfl, rfl, hown, hb⟩ := hrel
      by_cases hlt : k < ms.length
      · obtain ⟨ad, rfl, hbd, hcell⟩ := (hr2.next hb).at_ hlt
        have HS := Lib.hid (txts_snoc ms k hlt)
        have hlen : (txts (ms.take k)).length ≤ 29 := by unfold txts; simp; omega
        have hform := hown.form
        obtain ⟨Av, cv, rfl, _⟩ := hform
        have HOwn := Lib.hid hown
        have HB := Lib.hid hb
        have hsz := hb.size
        clear hown
        generalize txts (ms.take k) = ts at *
        generalize ms[k] = x at *
        have HI := Lib.hid (itoa_any x)
        have HC := Lib.hid (clip_any x 0 65535)
        generalize digs x = D at *
        generalize clipP x 0 65535 = y at *
        go_wp2_with (first
          | (go_at_call 68; refine (HC.out _).mono ?_; rintro e w1 ⟨rfl, rfl⟩)
          | (go_at_call 26; refine (HI.out _ (ht.next HB.out)).mono ?_; rintro e w2 ⟨rfl, hb2⟩; have HB2 := Lib.hid hb2; have HO2 := Lib.hid (HOwn.out.next hb2); have hsz2 := hb2.size; clear hb2)
          | (at_builtin; refine wpList_push rfl _ _ _ rfl w.heap.size 9 (.string ⟨#[]⟩) 16 Tryz.underlying49 info_string rfl _ _ _ rfl (ostr_own HO2.out) (.string (bytesOf D)) rfl _ _ _ (by simp) rfl (by unfold maxLen; omega) (by omega) (by omega) ?_; intro v' w' hown' hg' hb'))
        go_roundw
        case rel => exact ⟨k + 1, _, by omega, by go_num, rfl, by rw [HS.out]; simpa [OStr] using hown', (HB.out.trans (HB2.out.mono HB.out.size)).trans hb'⟩
        case measure => simp [intOf]; omega
      · obtain rfl : k = ms.length := by omega
        rw [List.take_length] at hown
        have hlen : (txts ms).length ≤ 30 := by unfold txts; simp; omega
        have hform := hown.form
        obtain ⟨Av, cv, rfl, _⟩ := hform
        have HJ := Lib.hid (join_any Av cv (txts ms) _ hlen HT.out wr hown)
        rw [← HF.out] at HJ
        have HB := Lib.hid hb
        clear hown
        generalize txts ms = ts at *
        go_wp2_with (go_at_call 30; refine HJ.out.mono ?_; rintro e w1 ⟨rfl, hb1⟩)
        go_ret
        exact ⟨rfl, HB.out.trans (hb1.mono HB.out.size)⟩
end Go.Proofs.YtfnamfkjbkhgeaaGreatDoor

namespace Go.Proofs.YtfnamfkjbkhgeaaGreatDoor

open Go.RowKit Go.Sort

theorem bcell {W w1 : World} (hb : Below W.heap.size W w1) : (∀ b o, b < W.heap.size → w1.cell? ⟨b, o, none⟩ = W.cell? ⟨b, o, none⟩) ∧ (∀ b o, b < W.heap.size → w1.frozen? ⟨b, o, none⟩ = W.frozen? ⟨b, o, none⟩) :=
  ⟨fun b o h => hb.cell (p := ⟨b, o, none⟩) h, fun b o h => hb.frozen (p := ⟨b, o, none⟩) h⟩
theorem dec_small (n : Nat) (h : n < 10) : bytesOf (Lib.decDigits n) = ⟨#[UInt8.ofNat (48 + n)]⟩ := by rw [Lib.decDigits, dif_pos h]; rfl
theorem dec_more (n : Nat) (h : ¬ n < 10) : bytesOf (Lib.decDigits n) = bytesOf (Lib.decDigits (n / 10)) ++ ⟨#[UInt8.ofNat (48 + n % 10)]⟩ := by
  rw [Lib.decDigits, dif_neg h]
  unfold bytesOf
  apply ByteArray.ext
  simp
theorem below_of_drew {B : Nat} {w w' : World} (h : RowKit.Below B w.drew w') : RowKit.Below B w w' := ⟨h.os, h.tape, h.output, h.size, h.block⟩
theorem conv_one (W : World) (g : Nat) (x : Int) (h : W.cell? ⟨g, 0, none⟩ = some (.int .u8 x)) : (convert 63 9 (.slice (some ⟨g, 0, none⟩) 1 1)).run Tryz.prog W = .ok (.string ⟨#[UInt8.ofNat x.toNat]⟩) W :=
  run_convert_bytes_arg W 63 5 Tryz.underlying63 Tryz.underlying5 g 0 1 1 [x] rfl (fun i hi => by
    obtain rfl : i = 0 := by simp at hi; omega
    simpa using h) 9 Tryz.underlying9
theorem conv_new (W : World) (x : Int) (B : UInt8) (hB : UInt8.ofNat x.toNat = B) : (convert 63 9 (.slice (some ⟨W.heap.size, 0, none⟩) 1 1)).run Tryz.prog (W.alloc (.cells #[.int .u8 x] 5)) = .ok (.string ⟨#[B]⟩) (W.alloc (.cells #[.int .u8 x] 5)) := by
  subst hB
  exact conv_one _ _ x ((Blk.new W 5 #[.int .u8 x]).cell 0)
set_option maxRecDepth 100000 in
set_option maxHeartbeats 400000 in
theorem decimal_small (n : Nat) (hn : n < 10) (w : World) :
    Calls Tryz.prog 78 #[.int .i64 n] w fun e w' => e = .returned (.string (bytesOf (Lib.decDigits n))) ∧ Below w.heap.size w w' := by
  have HD := Lib.hid (dec_small n hn)
  generalize bytesOf (Lib.decDigits n) = out at *
  obtain ⟨B, hB⟩ : ∃ B, UInt8.ofNat (48 + n) = B := ⟨_, rfl⟩
  rw [hB] at HD
  have hcv := conv_new w (48 + (n : Int)) B (by rw [← hB]; congr 1)
  clear hB
  go_enter Tryz.func78, Tryz.ntmps78
  go_wp2_with fail
  go_ret
  exact ⟨by rw [HD.out]; rfl, (Below.refl _ _).alloc (Nat.le_refl _) _⟩
set_option maxRecDepth 100000 in
set_option maxHeartbeats 2000000 in
theorem decimal_any (K : Nat) : ∀ (n : Nat), n < 10 ^ (K + 1) → n ≤ 65535 → ∀ (w : World),
    Calls Tryz.prog 78 #[.int .i64 n] w fun e w' => e = .returned (.string (bytesOf (Lib.decDigits n))) ∧ Below w.heap.size w w' := by
  induction K with
  | zero => exact fun n hn _ w => decimal_small n (by simpa using hn) w
  | succ K ih =>
    intro n hn h6 w
    by_cases hlt : n < 10
    · exact decimal_small n hlt w
    · have HD := Lib.hid (dec_more n hlt)
      have HI := Lib.hid (ih (n / 10) (by rw [Nat.pow_succ] at hn; omega) (by omega))
      have hdec : decide ((n : Int) < 10) = false := by simp; omega
      clear ih hn
      generalize bytesOf (Lib.decDigits n) = out at *
      have ho1 : (bytesOf (Lib.decDigits (n / 10))).size ≤ 5 := by
        have := dec_len 4 (n / 10) (by omega)
        show (Lib.decDigits (n / 10)).toArray.size ≤ 5
        simpa using this
      generalize bytesOf (Lib.decDigits (n / 10)) = o1 at *
      obtain ⟨q, hq, hq1⟩ : ∃ q : Nat, q = n / 10 ∧ q ≤ 6553 := ⟨_, rfl, by omega⟩
      obtain ⟨r, hr, hr1⟩ : ∃ r : Nat, r = n % 10 ∧ r ≤ 9 := ⟨_, rfl, by omega⟩
      rw [← hq] at HI
      rw [← hr] at HD
      have e1 : (n : Int) / 10 = q := by omega
      have e2 : (n : Int) % 10 = r := by omega
      have e3 : (n : Int).tdiv 10 = q := by rw [Int.tdiv_eq_ediv_of_nonneg (by omega)]; exact e1
      have e4 : (n : Int).tmod 10 = r := by rw [Int.tmod_eq_emod_of_nonneg (by omega)]; exact e2
      have e5 : IntKind.i64.wrap (q : Int) = q := IntWalk.i64_in _ (by omega)
      have e6 : IntKind.i64.wrap (48 + (r : Int)) = 48 + r := IntWalk.i64_in _ (by omega)
      have e7 : IntKind.u8.wrap (48 + (r : Int)) = 48 + r := by rw [IntKind.wrap_u8]; omega
      clear hq hr hlt
      obtain ⟨B, hB⟩ : ∃ B, UInt8.ofNat (48 + r) = B := ⟨_, rfl⟩
      rw [hB] at HD
      have hcv : ∀ W : World, (convert 63 9 (.slice (some ⟨W.heap.size, 0, none⟩) 1 1)).run Tryz.prog (W.alloc (.cells #[.int .u8 (48 + (r : Int))] 5)) = .ok (.string ⟨#[B]⟩) (W.alloc (.cells #[.int .u8 (48 + (r : Int))] 5)) := fun W => conv_new W _ B (by rw [← hB]; congr 1)
      have hcvd : ∀ W : World, (convert 63 9 (.slice (some ⟨W.heap.size, 0, none⟩) 1 1)).run Tryz.prog (W.alloc (.cells #[.int .u8 (48 + (r : Int))] 5)).drew = .ok (.string ⟨#[B]⟩) (W.alloc (.cells #[.int .u8 (48 + (r : Int))] 5)).drew := fun W => by
        have := conv_one (W.alloc (.cells #[.int .u8 (48 + (r : Int))] 5)).drew W.heap.size (48 + (r : Int)) ((Blk.new W 5 #[.int .u8 (48 + (r : Int))]).cell 0)
        rw [show UInt8.ofNat (48 + (r : Int)).toNat = B from by rw [← hB]; congr 1] at this
        exact this
      have HOne : Hid (∀ (W : World) (g : Nat), W.cell? ⟨g, 0, none⟩ = some (.int .u8 (48 + (r : Int))) → (convert 63 9 (.slice (some ⟨g, 0, none⟩) 1 1)).run Tryz.prog W = .ok (.string ⟨#[B]⟩) W) := Lib.hid (fun W g h => by
        have := conv_one W g _ h
        rw [show UInt8.ofNat (48 + (r : Int)).toNat = B from by rw [← hB]; congr 1] at this
        exact this)
      clear hB
      go_enter Tryz.func78, Tryz.ntmps78
      go_wp2_with fail
      go_region_with (go_at_call 78; (with_reducible refine (HI.out _).mono ?_); rintro e w1 ⟨rfl, hb1⟩; try have hcv2 := HOne.out w1 w.heap.size (by rw [(bcell hb1).1 _ _ (by simp)]; exact (Blk.new w 5 #[.int .u8 (48 + (r : Int))]).cell 0))
      all_goals
        go_wp2_with fail
        go_ret
        refine ⟨by rw [HD.out]; rfl, ?_⟩
        have hs := hb1.size
        first
          | exact (below_of_drew hb1).alloc hs _
          | exact ((Below.refl _ _).alloc (Nat.le_refl _) _).trans ((below_of_drew hb1).mono (by simp))
          | exact ((Below.refl _ _).alloc (Nat.le_refl _) _).trans (hb1.mono (by simp))

/-- What the reference writes, number by number. -/
def fmtT (ms : List Int) : Nat → ByteArray
  | 0 => ⟨#[]⟩
  | k + 1 => (if 0 < k then fmtT ms k ++ ⟨#[59]⟩ else fmtT ms k) ++ bytesOf (digs (ms.getD k 0))
theorem fmtT_size (ms : List Int) : ∀ k, (fmtT ms k).size ≤ 6 * k
  | 0 => by simp [fmtT]; decide
  | k + 1 => by
    have h1 := fmtT_size ms k
    have h2 := digs_len (ms.getD k 0)
    have h3 : (bytesOf (digs (ms.getD k 0))).size ≤ 5 := by
      show (digs (ms.getD k 0)).toArray.size ≤ 5
      simpa using h2
    have h4 : (⟨#[59]⟩ : ByteArray).size = 1 := rfl
    unfold fmtT
    split
    · simp only [ByteArray.size_append]; omega
    · simp only [ByteArray.size_append]; omega
theorem fmtT_join (ms : List Int) (k : Nat) (hk : k ≤ ms.length) : fmtT ms k = bytesOf (Lib.join ((ms.take k).map digs) [59]) := by
  induction k with
  | zero => rfl
  | succ k ih =>
    have hlt : k < ms.length := by omega
    have hg : ms.getD k 0 = ms[k] := by simp [List.getD, List.getElem?_eq_getElem hlt]
    rw [fmtT, ih (by omega), hg, take_snoc ms k hlt, List.map_append]
    rcases Nat.eq_zero_or_pos k with rfl | h0
    · apply ByteArray.ext; simp [Lib.join_nil, Lib.join_one, bytesOf]
    · rw [if_pos h0]
      obtain ⟨x, r, hx⟩ : ∃ x r, ms.take k = x :: r := by
        cases h : ms.take k with
        | nil =>
          have h2 : (ms.take k).length = k := by rw [List.length_take]; omega
          rw [h] at h2; simp at h2; omega
        | cons x r => exact ⟨x, r, rfl⟩
      rw [hx, List.map_cons, List.cons_append, Lib.join_cons, Lib.join_cons]
      have e : Lib.joinTail [59] (List.map digs r ++ List.map digs [ms[k]]) = Lib.joinTail [59] (List.map digs r) ++ ([59] ++ digs ms[k]) := by simp [Lib.joinTail]
      rw [e]
      apply ByteArray.ext
      simp [bytesOf]

set_option maxRecDepth 100000 in
set_option maxHeartbeats 2000000 in
theorem refFormat_any (A : Option Addr) (c : Nat) (ns : List Int) (hl : ns.length ≤ maxLen) (w : World) (hr : RInts w A ns) :
    Calls Tryz.prog 33 #[.slice A ns.length c] w fun e w' => e = .returned (.string (bytesOf (fmtL ns))) ∧ Below w.heap.size w w' := by
  unfold maxLen at hl
  have HE : Hid (∀ k, k = min ns.length 30 → fmtT ns k = bytesOf (fmtL ns)) := Lib.hid (fun k hk => by
    rw [fmtT_join ns k (by omega)]
    unfold fmtL
    have : ns.take k = ns.take 30 := by
      rw [hk]
      by_cases h : ns.length ≤ 30
      · rw [Nat.min_eq_left h, List.take_length, List.take_of_length_le h]
      · rw [Nat.min_eq_right (by omega)]
    rw [this])
  generalize bytesOf (fmtL ns) = out at *
  go_enter Tryz.func33, Tryz.ntmps33
  go_wp2_with fail
  go_loopw [3, 4] (fun t i wr => ∃ (k : Nat), k ≤ ns.length ∧ k ≤ 30 ∧ i = .int .i64 k ∧ t = .string (fmtT ns k) ∧ Below w.heap.size w wr) (fun _ i _ => ns.length - (intOf i).toNat)
  case atStart => exact ⟨0, by omega, by omega, rfl, rfl, Below.refl _ _⟩
  case round =>
    obtain ⟨k, hk, hk30, rfl, rfl, hb⟩ := hrel
    by_cases hlt : k < ns.length ∧ k < 30
    · obtain ⟨hlt, hlt2⟩ := hlt
      obtain ⟨ad, rfl, hbd, hcell⟩ := (hr.next hb).at_ hlt
      have hg : ns.getD k 0 = ns[k] := by simp [List.getD, List.getElem?_eq_getElem hlt]
      have HS : Hid (fmtT ns (k + 1) = (if 0 < k then fmtT ns k ++ ⟨#[59]⟩ else fmtT ns k) ++ bytesOf (digs ns[k])) := Lib.hid (by rw [fmtT, hg])
      have hsz := fmtT_size ns k
      have hds : (bytesOf (digs ns[k])).size ≤ 5 := by
        have h2 := digs_len ns[k]
        show (digs ns[k]).toArray.size ≤ 5
        simpa using h2
      have HB := Lib.hid hb
      have hdec : ∀ m : Nat, (m : Int) = clipP ns[k] 0 65535 → ∀ W : World, Calls Tryz.prog 78 #[.int .i64 m] W fun e w' => e = .returned (.string (bytesOf (digs ns[k]))) ∧ Below W.heap.size W w' := by
        intro m hm W
        have hc := clip_range ns[k]
        have e : digs ns[k] = Lib.decDigits m := by unfold digs; rw [← hm]; simp
        rw [e]
        exact decimal_any 4 m (by omega) (by omega) W
      have HD := Lib.hid hdec
      clear hg hdec
      generalize fmtT ns k = T at *
      generalize bytesOf (digs ns[k]) = D at *
      generalize ns[k] = x at *
      have hT : T.size ≤ 180 := by omega
      clear hsz
      have hk0 : (decide (0 < k) = true ∧ 0 < k) ∨ (decide (0 < k) = false ∧ k = 0) := by
        rcases Nat.eq_zero_or_pos k with h | h
        · exact .inr ⟨by simp; omega, h⟩
        · exact .inl ⟨by simp; omega, h⟩
      have hxs : ∃ m : Nat, m ≤ 65535 ∧ (m : Int) = clipP x 0 65535 ∧ ((x < 0 ∧ (m : Int) = 0) ∨ (65535 < x ∧ (m : Int) = 65535) ∨ x = m) := by
        have := clip_range x
        refine ⟨(clipP x 0 65535).toNat, by omega, by omega, ?_⟩
        unfold clipP at *
        omega
      obtain ⟨m, hm, hmc, hxm⟩ := hxs
      have HC := Lib.hid (HD.out m hmc)
      clear hmc
      rcases hk0 with ⟨hd0, h0⟩ | ⟨hd0, h0⟩
      all_goals
        have H0 := Lib.hid h0
        clear h0
        rcases hxm with ⟨hx, hm0⟩ | ⟨hx, hm0⟩ | rfl
        · rw [hm0] at HC
          clear hm0
          go_wp2_with (go_at_call 78; (with_reducible refine (HC.out _).mono ?_); rintro e w1 ⟨rfl, hb1⟩)
          go_roundw
          case rel => exact ⟨k + 1, by omega, by omega, by go_num, by rw [HS.out]; first | rw [if_pos H0.out] | rw [if_neg (by rw [H0.out]; omega)], HB.out.trans (hb1.mono HB.out.size)⟩
          case measure => simp [intOf]; omega
        · rw [hm0] at HC
          clear hm0
          go_wp2_with (go_at_call 78; (with_reducible refine (HC.out _).mono ?_); rintro e w1 ⟨rfl, hb1⟩)
          go_roundw
          case rel => exact ⟨k + 1, by omega, by omega, by go_num, by rw [HS.out]; first | rw [if_pos H0.out] | rw [if_neg (by rw [H0.out]; omega)], HB.out.trans (hb1.mono HB.out.size)⟩
          case measure => simp [intOf]; omega
        · go_wp2_with (go_at_call 78; (with_reducible refine (HC.out _).mono ?_); rintro e w1 ⟨rfl, hb1⟩)
          go_roundw
          case rel => exact ⟨k + 1, by omega, by omega, by go_num, by rw [HS.out]; first | rw [if_pos H0.out] | rw [if_neg (by rw [H0.out]; omega)], HB.out.trans (hb1.mono HB.out.size)⟩
          case measure => simp [intOf]; omega
    · have HB := Lib.hid hb
      have HO := Lib.hid (HE.out k (by omega))
      generalize fmtT ns k = T at *
      rcases (by omega : ¬ k < ns.length ∨ (k < ns.length ∧ ¬ k < 30)) with h | ⟨h, h2⟩
      · have hd : decide (k < ns.length) = false := by simp; omega
        clear hlt h
        go_wp2_with fail
        go_ret
        exact ⟨by rw [HO.out]; rfl, HB.out⟩
      · have hd : decide ((k : Int) < 30) = false := by simp; omega
        clear hlt h2
        go_wp2_with fail
        go_ret
        exact ⟨by rw [HO.out]; rfl, HB.out⟩
end Go.Proofs.YtfnamfkjbkhgeaaGreatDoor

namespace Go.Proofs.YtfnamfkjbkhgeaaGreatDoor

open Go.RowKit

theorem dgt_ofNat (d : Nat) (h : d ≤ 9) : dgt (UInt8.ofNat (48 + d)) = d := by
  unfold dgt
  have : (UInt8.ofNat (48 + d)).toNat = 48 + d := by simp; omega
  rw [this]; omega
theorem dig_byte (d : Nat) (h : d ≤ 9) : 48 ≤ (UInt8.ofNat (48 + d)).toNat ∧ (UInt8.ofNat (48 + d)).toNat ≤ 57 := by
  have : (UInt8.ofNat (48 + d)).toNat = 48 + d := by simp; omega
  omega
theorem sat_append (p : List UInt8) (b : UInt8) : sat (p ++ [b]) = sat1 (sat p) (dgt b) := by unfold sat; rw [List.foldl_append]; rfl
theorem dec_ne (n : Nat) : Lib.decDigits n ≠ [] := by rw [Lib.decDigits]; split <;> simp
theorem dec_facts (K : Nat) : ∀ n : Nat, n < 10 ^ (K + 1) → n ≤ 65535 → sat (Lib.decDigits n) = n ∧ ∀ b ∈ Lib.decDigits n, 48 ≤ b.toNat ∧ b.toNat ≤ 57 := by
  induction K with
  | zero =>
    intro n hn _
    have hn : n < 10 := by simpa using hn
    rw [Lib.decDigits, dif_pos hn]
    refine ⟨?_, fun b hb => ?_⟩
    · show sat1 0 (dgt (UInt8.ofNat (48 + n))) = n
      rw [dgt_ofNat n (by omega)]; unfold sat1; omega
    · simp only [List.mem_singleton] at hb; subst hb; exact dig_byte n (by omega)
  | succ K ih =>
    intro n hn h6
    rw [Lib.decDigits]
    split
    · rename_i h
      refine ⟨?_, fun b hb => ?_⟩
      · show sat1 0 (dgt (UInt8.ofNat (48 + n))) = n
        rw [dgt_ofNat n (by omega)]; unfold sat1; omega
      · simp only [List.mem_singleton] at hb; subst hb; exact dig_byte n (by omega)
    · rename_i h
      obtain ⟨h1, h2⟩ := ih (n / 10) (by rw [Nat.pow_succ] at hn; omega) (by omega)
      refine ⟨?_, fun b hb => ?_⟩
      · rw [sat_append, h1, dgt_ofNat _ (by omega)]; unfold sat1; omega
      · rcases List.mem_append.1 hb with hb | hb
        · exact h2 b hb
        · simp only [List.mem_singleton] at hb; subst hb; exact dig_byte _ (by omega)
def clip65 (n : Int) : Int := clipP n 0 65535
theorem digs_facts (n : Int) : sat (digs n) = clip65 n ∧ (∀ b ∈ digs n, 48 ≤ b.toNat ∧ b.toNat ≤ 57) ∧ digs n ≠ [] := by
  have hc := clip_range n
  obtain ⟨h1, h2⟩ := dec_facts 4 (clipP n 0 65535).toNat (by omega) (by omega)
  exact ⟨by unfold digs clip65; rw [h1]; omega, h2, dec_ne _⟩
theorem not59 {b : UInt8} (h : 48 ≤ b.toNat ∧ b.toNat ≤ 57) : b ≠ 59 := by rintro rfl; simp at h
theorem okb_of {b : UInt8} (h : 48 ≤ b.toNat ∧ b.toNat ≤ 57) : okb b = true := by
  unfold okb
  simp [UInt8.le_iff_toNat_le]
  right; exact h
theorem join_snoc (ms : List Int) (k : Nat) (hk : k < ms.length) (h0 : 0 < k) : Lib.join ((ms.take (k + 1)).map digs) [59] = Lib.join ((ms.take k).map digs) [59] ++ [59] ++ digs ms[k] := by
  rw [take_snoc ms k hk, List.map_append]
  obtain ⟨x, r, hx⟩ : ∃ x r, ms.take k = x :: r := by
    cases h : ms.take k with
    | nil =>
      have h2 : (ms.take k).length = k := by rw [List.length_take]; omega
      rw [h] at h2; simp at h2; omega
    | cons x r => exact ⟨x, r, rfl⟩
  rw [hx, List.map_cons, List.cons_append, Lib.join_cons, Lib.join_cons]
  have e : Lib.joinTail [59] (List.map digs r ++ List.map digs [ms[k]]) = Lib.joinTail [59] (List.map digs r) ++ ([59] ++ digs ms[k]) := by simp [Lib.joinTail]
  rw [e]
  simp
theorem join_fields (ms : List Int) (k : Nat) (hk : k < ms.length) : fieldsOf (Lib.join ((ms.take (k + 1)).map digs) [59]) = (ms.take (k + 1)).map clip65 ∧ Lib.join ((ms.take (k + 1)).map digs) [59] ≠ [] ∧ OkB (Lib.join ((ms.take (k + 1)).map digs) [59]) := by
  induction k with
  | zero =>
    obtain ⟨x, r, rfl⟩ : ∃ x r, ms = x :: r := by
      cases ms with
      | nil => simp at hk
      | cons x r => exact ⟨x, r, rfl⟩
    obtain ⟨h1, h2, h3⟩ := digs_facts x
    simp only [List.take_succ_cons, List.take_zero, List.map_cons, List.map_nil, Lib.join_one]
    exact ⟨by rw [fieldsOf_digits _ (fun b hb => not59 (h2 b hb)) h3, h1], h3, fun b hb => okb_of (h2 b hb)⟩
  | succ k ih =>
    obtain ⟨i1, i2, i3⟩ := ih (by omega)
    obtain ⟨h1, h2, h3⟩ := digs_facts ms[k + 1]
    rw [join_snoc ms (k + 1) hk (by omega)]
    refine ⟨?_, by simp, fun b hb => ?_⟩
    · rw [fieldsOf_semi_digits _ _ (fun b hb => not59 (h2 b hb)), if_neg i2, i1, h1, take_snoc ms (k + 1) hk, List.map_append]
      rfl
    · rcases List.mem_append.1 hb with hb | hb
      · rcases List.mem_append.1 hb with hb | hb
        · exact i3 b hb
        · simp only [List.mem_singleton] at hb; subst hb; rfl
      · exact okb_of (h2 b hb)
theorem fmt_back (ns : List Int) : OkB (fmtL ns) ∧ numsOf (fmtL ns) = (ns.take 30).map clip65 := by
  unfold fmtL
  obtain ⟨ms, hms, hl⟩ : ∃ ms, ms = ns.take 30 ∧ ms.length ≤ 30 := ⟨_, rfl, by rw [List.length_take]; omega⟩
  rw [← hms]
  rcases Nat.eq_zero_or_pos ms.length with h0 | h0
  · obtain rfl := List.eq_nil_of_length_eq_zero h0
    exact ⟨fun b hb => by simp [Lib.join_nil] at hb, rfl⟩
  · obtain ⟨h1, _, h3⟩ := join_fields ms (ms.length - 1) (by omega)
    rw [show ms.length - 1 + 1 = ms.length from by omega, List.take_length] at h1 h3
    refine ⟨h3, ?_⟩
    unfold numsOf
    rw [h1, List.take_of_length_le (by simpa using hl)]
theorem fmt_len (ns : List Int) : (fmtL ns).length ≤ 180 := by
  have := join_len ((ns.take 30).map digs) (fun x hx => by obtain ⟨n, _, rfl⟩ := List.mem_map.1 hx; exact digs_len n)
  rw [List.length_map, List.length_take] at this
  unfold fmtL
  omega
end Go.Proofs.YtfnamfkjbkhgeaaGreatDoor
