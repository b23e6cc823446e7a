/-
  The library's contracts for a report of stops: a number as a text, texts joined; the reference's digits.
-/
import Derived.Test.YtnfdgioapbkonaaDoorTabG
import Derived.Test.YtnfdgioapbkonaaDoorShelf
import Derived.Lib.SmallJoins
import Derived.Lib.Join
import Derived.Deep.RegionWith
import Derived.StillTailTactics
import Derived.Laws.BytesArg
namespace Go.Proofs.YtnfdgioapbkonaaDoor
open Go Go.RowKit Go.Sort

/-- The table of powers of ten is in memory. -/
def Ten (w : World) : Prop := Lib.TabIs Tryd.prog w "internal/strconv.uint64pow10" .u64 Lib.pow10Tab
theorem Ten.next {w w' : World} (h : Ten w) (hb : Below w.heap.size w w') : Ten w' := Go.Joins.tab_stays (by kernel_rfl : Tryd.prog.globalNamed "internal/strconv.uint64pow10" = some 1) h hb (Nat.le_refl _)
theorem below_grow (w : World) (k : Nat) (os : Array Obj) : Below w.heap.size w (grow (w.drewN k) os) :=
  ⟨rfl, rfl, rfl, by simp [grow], fun i hi => by simp only [grow, World.drewN]; rw [Array.getElem?_append_left hi]⟩

def bytesOf (l : List UInt8) : ByteArray := ⟨l.toArray⟩
theorem dec_len (k : Nat) : ∀ n : Nat, n < 10 ^ (k + 1) → (Lib.decDigits n).length ≤ k + 1 := by
  induction k with
  | zero => intro n hn; rw [Lib.decDigits, dif_pos (by simpa using hn)]; simp
  | succ k ih =>
    intro n hn
    rw [Lib.decDigits]
    split
    · simp
    · have := ih (n / 10) (by rw [Nat.pow_succ] at hn; omega)
      simp; omega
/-- A stop as a text: columns count from one there. -/
def dig (x : Int) : List UInt8 := Lib.decDigits (x + 1).toNat
theorem dig_len (x : Int) (h : x < 500) : (dig x).length ≤ 5 := dec_len 4 _ (by omega)
theorem dig_pos (x : Int) : 0 < (dig x).length := by
  unfold dig
  rw [Lib.decDigits]
  split <;> simp
theorem lens_le (xs : List (List UInt8)) (h : ∀ x ∈ xs, x.length ≤ 5) : Lib.lens xs ≤ 5 * xs.length := by
  induction xs with
  | nil => simp [Lib.lens]
  | cons x xs ih =>
    have h1 := h x (by simp)
    have h2 := ih (fun y hy => h y (by simp [hy]))
    simp [Lib.lens] at h2 ⊢
    omega
theorem join_len (xs : List (List UInt8)) (h : ∀ x ∈ xs, x.length ≤ 5) : (Lib.join xs [47]).length ≤ 6 * xs.length := by
  cases xs with
  | nil => simp [Lib.join_nil]
  | cons x r =>
    rw [Lib.join_length]
    have h2 := lens_le (x :: r) h
    simp at h2 ⊢
    omega
/-- A slice of strings of the call's own. -/
def OStr (w : World) (base : Nat) (v : Value) (xs : List ByteArray) : Prop := w.ownsRow base 9 1 v xs.length (xs.map Value.string)
theorem ostr_own {w : World} {base : Nat} {v : Value} {xs : List ByteArray} (h : OStr w base v xs) : w.ownsRow base 9 1 v xs.length (xs.map Value.string) := h
theorem info_string : (Tryd.prog.info? 9).map (fun i => (i.zero, i.size, i.bytes)) = some (some (.string ⟨#[]⟩), 1, 16) := by kernel_rfl
theorem OStr.next {w w' : World} {base : Nat} {v : Value} {l : List ByteArray} (h : OStr w base v l) (hb : Below w.heap.size w w') : OStr w' base v l :=
  World.ownsRow.kept (row := none) h ⟨hb.os, hb.tape, hb.output, hb.size, fun k hk _ => hb.block k hk⟩ (by cases v.ownBlock <;> simp)
theorem OStr.form {w : World} {base : Nat} {v : Value} {l : List ByteArray} (h : OStr w base v l) : ∃ A c, v = .slice A l.length c ∧ l.length ≤ c ∧ (0 < l.length → ∃ g, A = some ⟨g, 0, none⟩ ∧ g < w.heap.size ∧ ∀ (j : Nat) x, l[j]? = some x → w.cell? ⟨g, 0 + j, none⟩ = some (.string x)) := by
  rcases h.2 with ⟨rfl, hn⟩ | ⟨g, cap, cur, rfl, hg, hh, hc, _⟩
  · exact ⟨none, 0, by rw [hn], by omega, fun h0 => absurd h0 (by omega)⟩
  · have hlt := h.lt g rfl
    refine ⟨_, cap, rfl, hc, fun _ => ⟨g, rfl, hlt.2, fun j x hj => ?_⟩⟩
    have hjl : j < l.length := by
      rcases Nat.lt_or_ge j l.length with h' | h'
      · exact h'
      · rw [List.getElem?_eq_none h'] at hj; cases hj
    rw [Nat.zero_add, World.ownsRow.cellAt h j (by omega), List.getElem?_map, hj]
    rfl

theorem join_any (A : Option Addr) (c : Nat) (xs : List ByteArray) (base : Nat) (hl : xs.length ≤ 500) (h5 : ∀ x ∈ xs, x.data.toList.length ≤ 5) (w : World) (h : OStr w base (.slice A xs.length c) xs) :
    Calls Tryd.prog 28 #[.slice A xs.length c, .string ⟨#[47]⟩] w fun e w' => e = .returned (.string (bytesOf (Lib.join (xs.map (·.data.toList)) [47]))) ∧ Below w.heap.size w w' := by
  obtain ⟨A', c', hv, hc, hpos⟩ := h.form
  simp only [Value.slice.injEq, true_and] at hv
  obtain ⟨rfl, rfl⟩ := hv
  rcases Nat.eq_zero_or_pos xs.length with h0 | h0
  · obtain rfl := List.eq_nil_of_length_eq_zero h0
    exact (Tryd.strings_Join_none A c ⟨#[47]⟩ w).mono fun e w' ⟨he, hw⟩ => ⟨he, hw ▸ Below.refl _ _⟩
  · obtain ⟨g, rfl, hg, hcell⟩ := hpos h0
    refine (Tryd.strings_Join g 0 c xs ⟨#[47]⟩ w hcell hg (by omega) hc ?_).mono fun e w' ⟨he, hb⟩ => ⟨he, hb⟩
    have := join_len (xs.map (·.data.toList)) (fun x hx => by obtain ⟨y, hy, rfl⟩ := List.mem_map.1 hx; exact h5 y hy)
    rw [List.length_map] at this
    show (Lib.join _ [47]).length ≤ _
    omega
theorem bcell {W w1 : World} (hb : Below W.heap.size W w1) : (∀ b o, b < W.heap.size → w1.cell? ⟨b, o, none⟩ = W.cell? ⟨b, o, none⟩) ∧ (∀ b o, b < W.heap.size → w1.frozen? ⟨b, o, none⟩ = W.frozen? ⟨b, o, none⟩) :=
  ⟨fun b o h => hb.cell (p := ⟨b, o, none⟩) h, fun b o h => hb.frozen (p := ⟨b, o, none⟩) h⟩
theorem dec_small (n : Nat) (h : n < 10) : bytesOf (Lib.decDigits n) = ⟨#[UInt8.ofNat (48 + n)]⟩ := by rw [Lib.decDigits, dif_pos h]; rfl
theorem dec_more (n : Nat) (h : ¬ n < 10) : bytesOf (Lib.decDigits n) = bytesOf (Lib.decDigits (n / 10)) ++ ⟨#[UInt8.ofNat (48 + n % 10)]⟩ := by
  rw [Lib.decDigits, dif_neg h]
  unfold bytesOf
  apply ByteArray.ext
  simp
theorem below_of_drew {B : Nat} {w w' : World} (h : RowKit.Below B w.drew w') : RowKit.Below B w w' := ⟨h.os, h.tape, h.output, h.size, h.block⟩
theorem conv_one (W : World) (g : Nat) (x : Int) (h : W.cell? ⟨g, 0, none⟩ = some (.int .u8 x)) : (convert 67 9 (.slice (some ⟨g, 0, none⟩) 1 1)).run Tryd.prog W = .ok (.string ⟨#[UInt8.ofNat x.toNat]⟩) W :=
  run_convert_bytes_arg W 67 5 Tryd.underlying67 Tryd.underlying5 g 0 1 1 [x] rfl (fun i hi => by
    obtain rfl : i = 0 := by simp at hi; omega
    simpa using h) 9 Tryd.underlying9
theorem conv_new (W : World) (x : Int) (B : UInt8) (hB : UInt8.ofNat x.toNat = B) : (convert 67 9 (.slice (some ⟨W.heap.size, 0, none⟩) 1 1)).run Tryd.prog (W.alloc (.cells #[.int .u8 x] 5)) = .ok (.string ⟨#[B]⟩) (W.alloc (.cells #[.int .u8 x] 5)) := by
  subst hB
  exact conv_one _ _ x ((Blk.new W 5 #[.int .u8 x]).cell 0)
set_option maxHeartbeats 400000 in
theorem decimal_small (n : Nat) (hn : n < 10) (w : World) :
    Calls Tryd.prog 29 #[.int .i64 n] w fun e w' => e = .returned (.string (bytesOf (Lib.decDigits n))) ∧ Below w.heap.size w w' := by
  have HD := Lib.hid (dec_small n hn)
  generalize bytesOf (Lib.decDigits n) = out at *
  obtain ⟨B, hB⟩ : ∃ B, UInt8.ofNat (48 + n) = B := ⟨_, rfl⟩
  rw [hB] at HD
  have hcv := conv_new w (48 + (n : Int)) B (by rw [← hB]; congr 1)
  clear hB
  go_enter Tryd.func29, Tryd.ntmps29
  go_wp2_with fail
  go_ret
  exact ⟨by rw [HD.out]; rfl, (Below.refl _ _).alloc (Nat.le_refl _) _⟩
set_option maxHeartbeats 2000000 in
theorem decimal_any (K : Nat) : ∀ (n : Nat), n < 10 ^ (K + 1) → n ≤ 65535 → ∀ (w : World),
    Calls Tryd.prog 29 #[.int .i64 n] w fun e w' => e = .returned (.string (bytesOf (Lib.decDigits n))) ∧ Below w.heap.size w w' := by
  induction K with
  | zero => exact fun n hn _ w => decimal_small n (by simpa using hn) w
  | succ K ih =>
    intro n hn h6 w
    by_cases hlt : n < 10
    · exact decimal_small n hlt w
    · have HD := Lib.hid (dec_more n hlt)
      have HI := Lib.hid (ih (n / 10) (by rw [Nat.pow_succ] at hn; omega) (by omega))
      have hdec : decide ((n : Int) < 10) = false := by simp; omega
      clear ih hn
      generalize bytesOf (Lib.decDigits n) = out at *
      have ho1 : (bytesOf (Lib.decDigits (n / 10))).size ≤ 5 := by
        have := dec_len 4 (n / 10) (by omega)
        show (Lib.decDigits (n / 10)).toArray.size ≤ 5
        simpa using this
      generalize bytesOf (Lib.decDigits (n / 10)) = o1 at *
      obtain ⟨q, hq, hq1⟩ : ∃ q : Nat, q = n / 10 ∧ q ≤ 6553 := ⟨_, rfl, by omega⟩
      obtain ⟨r, hr, hr1⟩ : ∃ r : Nat, r = n % 10 ∧ r ≤ 9 := ⟨_, rfl, by omega⟩
      rw [← hq] at HI
      rw [← hr] at HD
      have e1 : (n : Int) / 10 = q := by omega
      have e2 : (n : Int) % 10 = r := by omega
      have e3 : (n : Int).tdiv 10 = q := by rw [Int.tdiv_eq_ediv_of_nonneg (by omega)]; exact e1
      have e4 : (n : Int).tmod 10 = r := by rw [Int.tmod_eq_emod_of_nonneg (by omega)]; exact e2
      have e5 : IntKind.i64.wrap (q : Int) = q := IntWalk.i64_in _ (by omega)
      have e6 : IntKind.i64.wrap (48 + (r : Int)) = 48 + r := IntWalk.i64_in _ (by omega)
      have e7 : IntKind.u8.wrap (48 + (r : Int)) = 48 + r := by rw [IntKind.wrap_u8]; omega
      clear hq hr hlt
      obtain ⟨B, hB⟩ : ∃ B, UInt8.ofNat (48 + r) = B := ⟨_, rfl⟩
      rw [hB] at HD
      have hcv : ∀ W : World, (convert 67 9 (.slice (some ⟨W.heap.size, 0, none⟩) 1 1)).run Tryd.prog (W.alloc (.cells #[.int .u8 (48 + (r : Int))] 5)) = .ok (.string ⟨#[B]⟩) (W.alloc (.cells #[.int .u8 (48 + (r : Int))] 5)) := fun W => conv_new W _ B (by rw [← hB]; congr 1)
      have hcvd : ∀ W : World, (convert 67 9 (.slice (some ⟨W.heap.size, 0, none⟩) 1 1)).run Tryd.prog (W.alloc (.cells #[.int .u8 (48 + (r : Int))] 5)).drew = .ok (.string ⟨#[B]⟩) (W.alloc (.cells #[.int .u8 (48 + (r : Int))] 5)).drew := fun W => by
        have := conv_one (W.alloc (.cells #[.int .u8 (48 + (r : Int))] 5)).drew W.heap.size (48 + (r : Int)) ((Blk.new W 5 #[.int .u8 (48 + (r : Int))]).cell 0)
        rw [show UInt8.ofNat (48 + (r : Int)).toNat = B from by rw [← hB]; congr 1] at this
        exact this
      have HOne : Hid (∀ (W : World) (g : Nat), W.cell? ⟨g, 0, none⟩ = some (.int .u8 (48 + (r : Int))) → (convert 67 9 (.slice (some ⟨g, 0, none⟩) 1 1)).run Tryd.prog W = .ok (.string ⟨#[B]⟩) W) := Lib.hid (fun W g h => by
        have := conv_one W g _ h
        rw [show UInt8.ofNat (48 + (r : Int)).toNat = B from by rw [← hB]; congr 1] at this
        exact this)
      clear hB
      go_enter Tryd.func29, Tryd.ntmps29
      go_wp2_with fail
      go_region_with (go_at_call 29; (with_reducible refine (HI.out _).mono ?_); rintro e w1 ⟨rfl, hb1⟩; try have hcv2 := HOne.out w1 w.heap.size (by rw [(bcell hb1).1 _ _ (by simp)]; exact (Blk.new w 5 #[.int .u8 (48 + (r : Int))]).cell 0))
      all_goals
        go_wp2_with fail
        go_ret
        refine ⟨by rw [HD.out]; rfl, ?_⟩
        have hs := hb1.size
        first
          | exact (below_of_drew hb1).alloc hs _
          | exact ((Below.refl _ _).alloc (Nat.le_refl _) _).trans ((below_of_drew hb1).mono (by simp))
          | exact ((Below.refl _ _).alloc (Nat.le_refl _) _).trans (hb1.mono (by simp))

theorem itoa_any (x : Int) (h0 : 0 ≤ x) (h1 : x < 500) (w : World) (ht : Ten w) :
    Calls Tryd.prog 27 #[.int .i64 (x + 1)] w fun e w' => e = .returned (.string (bytesOf (dig x))) ∧ Below w.heap.size w w' := by
  refine (Tryd.strconv_Itoa (x + 1) (by omega) (by omega) w ht).mono fun e w' ⟨he, k, os, hw⟩ => ⟨?_, by rw [hw]; exact below_grow w k os⟩
  rw [he]
  unfold Lib.itoa
  rw [if_neg (by omega)]
  rfl
theorem decimal1 (k : Nat) (h : k < 500) (W : World) : Calls Tryd.prog 29 #[.int .i64 ((k : Int) + 1)] W fun e w' => e = .returned (.string (bytesOf (dig (k : Int)))) ∧ Below W.heap.size W w' := by
  have := decimal_any 4 (k + 1) (by omega) (by omega) W
  rw [show dig (k : Int) = Lib.decDigits (k + 1) from by unfold dig; congr 1]
  simpa using this

theorem bstp {w w1 w2 : World} (h : Below w.heap.size w w1) (h2 : Below w1.heap.size w1 w2) : Below w.heap.size w w2 := h.trans (h2.mono h.size)
/-- A report of stops. -/
def repB (L : List Int) : ByteArray := bytesOf (Lib.join (L.map dig) [47])
theorem repB_nil : repB [] = ⟨#[]⟩ := rfl
theorem repB_snoc (L : List Int) (x : Int) (h : L ≠ []) : repB (L ++ [x]) = repB L ++ ⟨#[47]⟩ ++ bytesOf (dig x) := by
  obtain ⟨y, r, rfl⟩ := List.exists_cons_of_ne_nil h
  unfold repB
  rw [List.map_append, List.map_cons, List.cons_append, Lib.join_cons, Lib.join_cons]
  have e : Lib.joinTail [47] (List.map dig r ++ List.map dig [x]) = Lib.joinTail [47] (List.map dig r) ++ ([47] ++ dig x) := by simp [Lib.joinTail]
  rw [e]
  apply ByteArray.ext
  simp [bytesOf]
theorem repB_one (x : Int) : repB [x] = bytesOf (dig x) := by
  unfold repB
  apply ByteArray.ext; simp [Lib.join_one, bytesOf]
theorem repB_size (L : List Int) (h : ∀ x ∈ L, x < 500) : (repB L).size ≤ 6 * L.length := by
  have := join_len (L.map dig) (fun y hy => by obtain ⟨x, hx, rfl⟩ := List.mem_map.1 hy; exact dig_len x (h x hx))
  rw [List.length_map] at this
  show (Lib.join (L.map dig) [47]).toArray.size ≤ _
  simpa using this
theorem repB_ne (L : List Int) (h : L ≠ []) : (repB L).toList.isEmpty = false := by
  obtain ⟨y, r, rfl⟩ := List.exists_cons_of_ne_nil h
  have h1 := dig_pos y
  rw [ByteArray.toList_eq]
  show (Lib.join ((y :: r).map dig) [47]).isEmpty = false
  rw [List.map_cons, Lib.join_cons]
  cases hd : dig y with
  | nil => rw [hd] at h1; simp at h1
  | cons a t => rfl
theorem lstP_mem (h : Nat → Bool) (n : Nat) (x : Int) (hx : x ∈ lstP h n) : 0 ≤ x ∧ x < n := by
  unfold lstP at hx
  obtain ⟨c, hc, rfl⟩ := List.mem_map.1 hx
  have := (List.mem_filter.1 hc).1
  simp at this
  omega
end Go.Proofs.YtnfdgioapbkonaaDoor
