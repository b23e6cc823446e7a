/-
  The walk that reads one run of bytes.
-/
import Derived.Test.YtgndjonalhdhkaaDoorPackA
import Derived.Laws.BitsAllLaws
namespace Go.Proofs.YtgndjonalhdhkaaDoor

open Go.RowKit

/-- A slice of bytes that reads as bs. -/
def RBs (w : World) (A : Option Addr) (bs : List Int) : Prop := Reads w w.heap.size 1 A bs.length (bs.map (Value.int .u8))
def OkBs (bs : List Int) : Prop := ∀ b ∈ bs, 0 ≤ b ∧ b ≤ 255
theorem RBs.next {w w' : World} {A : Option Addr} {bs : List Int} (h : RBs w A bs) (hb : Below w.heap.size w w') : RBs w' A bs := (Reads.below h hb).more hb.size
theorem RBs.at_ {w : World} {A : Option Addr} {bs : List Int} (h : RBs w A bs) {k : Nat} (hk : k < bs.length) : ∃ ad, A = some ad ∧ ad.block < w.heap.size ∧ w.cell? (ad.add k) = some (.int .u8 bs[k]) := by
  obtain ⟨ad, u, e, hb, hu, hc⟩ := Reads.at_ h hk
  refine ⟨ad, e, hb, ?_⟩
  rw [hc, ← hu]
  simp [List.getElem?_eq_getElem hk]
/-- A glyph out of four bytes. -/
def glyph4 (a b c d : Int) : Int := if a * 16777216 + b * 65536 + c * 256 + d < 2147483648 then a * 16777216 + b * 65536 + c * 256 + d else a * 16777216 + b * 65536 + c * 256 + d - 4294967296

set_option maxHeartbeats 4000000 in
theorem readRun_short (A : Option Addr) (c : Nat) (bs : List Int) (h : bs.length < 7) (w : World) :
    Calls Tryd.prog 22 #[.slice A bs.length c] w fun e w' => e = .returned (.tuple #[.agg #[.int .i32 0, .int .u8 0, .bool false, .int .i64 0], .bool false]) ∧ Below w.heap.size w w' := by
  generalize bs.length = n at *
  have hd : decide ((n : Int) < 7) = true := by simp; omega
  go_enter Tryd.func22, Tryd.ntmps22
  go_wp2
  go_returns
  exact ⟨rfl, by go_grown⟩
set_option maxHeartbeats 4000000 in
theorem readRun_bad (A : Option Addr) (c : Nat) (b0 b1 b2 b3 b4 b5 b6 : Int) (tl : List Int) (w : World) (hl : tl.length ≤ 1000000) (hr : RBs w A (b0 :: b1 :: b2 :: b3 :: b4 :: b5 :: b6 :: tl)) (hbad : b0 = 0 ∨ 1 < b6) :
    Calls Tryd.prog 22 #[.slice A (tl.length + 7) c] w fun e w' => e = .returned (.tuple #[.agg #[.int .i32 0, .int .u8 0, .bool false, .int .i64 0], .bool false]) ∧ Below w.heap.size w w' := by
  obtain ⟨ad, rfl, hb, h0⟩ := hr.at_ (k := 0) (by simp)
  obtain ⟨ad', e, _, h6⟩ := hr.at_ (k := 6) (by simp)
  obtain rfl : ad = ad' := by injection e
  replace h0 : w.cell? ad = some (.int .u8 b0) := h0
  replace h6 : w.cell? ⟨ad.block, ad.off + 6, none⟩ = some (.int .u8 b6) := h6
  generalize tl.length = n at *
  by_cases hz : b0 = 0
  · subst hz
    clear hbad
    go_enter Tryd.func22, Tryd.ntmps22
    go_wp2
    go_returns
    exact ⟨rfl, by go_grown⟩
  · have h1 : 1 < b6 := by omega
    have hz' : (b0 == 0) = false := by simpa using hz
    clear hbad hz
    go_enter Tryd.func22, Tryd.ntmps22
    go_wp2
    go_returns
    exact ⟨rfl, by go_grown⟩
theorem or_u32 (a b : Nat) (ha : a < 4294967296) (hb : b < 4294967296) : bits .or .u32 (a : Int) (b : Int) = ((a ||| b : Nat) : Int) := by
  have hx : a ||| b < 2 ^ 32 := Nat.or_lt_two_pow (by omega) (by omega)
  have h1 : (BitVec.ofInt 32 (a : Int)).toNat = a := by rw [BitVec.ofInt_natCast, BitVec.toNat_ofNat]; exact Nat.mod_eq_of_lt (by omega)
  have h2 : (BitVec.ofInt 32 (b : Int)).toNat = b := by rw [BitVec.ofInt_natCast, BitVec.toNat_ofNat]; exact Nat.mod_eq_of_lt (by omega)
  show IntKind.u32.wrap ((BitVec.ofInt 32 (a : Int) ||| BitVec.ofInt 32 (b : Int)).toNat : Int) = _
  rw [BitVec.toNat_or, h1, h2, IntKind.wrap_u32]
  omega
theorem or_add (a b M k : Nat) (hM : M = 2 ^ k) (h : b < M) : a * M ||| b = a * M + b := by
  subst hM
  rw [← Nat.shiftLeft_eq, Nat.shiftLeft_add_eq_or_of_lt h]
theorem or_sum (x y M k : Nat) (hM : M = 2 ^ k) (a : Nat) (hx : x = a * M) (hy : y < M) (hx' : x < 4294967296) (hy' : y < 4294967296) : bits .or .u32 (x : Int) (y : Int) = ((x + y : Nat) : Int) := by
  rw [or_u32 x y hx' hy', hx, or_add a y M k hM hy]
theorem four_bytes (a b c d : Int) (ha : 0 ≤ a ∧ a ≤ 255) (hb : 0 ≤ b ∧ b ≤ 255) (hc : 0 ≤ c ∧ c ≤ 255) (hd : 0 ≤ d ∧ d ≤ 255) :
    bits .or .u32 (bits .or .u32 (bits .or .u32 (a % 4294967296 * 16777216 % 4294967296) (b % 4294967296 * 65536 % 4294967296)) (c % 4294967296 * 256 % 4294967296)) (d % 4294967296) = a * 16777216 + b * 65536 + c * 256 + d := by
  obtain ⟨a, rfl⟩ := Int.eq_ofNat_of_zero_le ha.1
  obtain ⟨b, rfl⟩ := Int.eq_ofNat_of_zero_le hb.1
  obtain ⟨c, rfl⟩ := Int.eq_ofNat_of_zero_le hc.1
  obtain ⟨d, rfl⟩ := Int.eq_ofNat_of_zero_le hd.1
  have ha := ha.2; have hb := hb.2; have hc := hc.2; have hd := hd.2
  obtain ⟨x1, hx1⟩ : ∃ x : Nat, x = a * 16777216 := ⟨_, rfl⟩
  obtain ⟨x2, hx2⟩ : ∃ x : Nat, x = b * 65536 := ⟨_, rfl⟩
  obtain ⟨x3, hx3⟩ : ∃ x : Nat, x = c * 256 := ⟨_, rfl⟩
  have e1 : (a : Int) % 4294967296 * 16777216 % 4294967296 = (x1 : Int) := by omega
  have e2 : (b : Int) % 4294967296 * 65536 % 4294967296 = (x2 : Int) := by omega
  have e3 : (c : Int) % 4294967296 * 256 % 4294967296 = (x3 : Int) := by omega
  have e4 : (d : Int) % 4294967296 = (d : Int) := by omega
  rw [e1, e2, e3, e4, or_sum x1 x2 16777216 24 (by decide) a hx1 (by omega) (by omega) (by omega),
    or_sum (x1 + x2) x3 65536 16 (by decide) (a * 256 + b) (by omega) (by omega) (by omega) (by omega),
    or_sum (x1 + x2 + x3) d 256 8 (by decide) ((a * 256 + b) * 256 + c) (by omega) (by omega) (by omega) (by omega)]
  omega

set_option maxHeartbeats 4000000 in
theorem readRun_good (A : Option Addr) (c : Nat) (b0 b1 b2 b3 b4 b5 b6 : Int) (tl : List Int) (w : World) (hl : tl.length ≤ 1000000) (hr : RBs w A (b0 :: b1 :: b2 :: b3 :: b4 :: b5 :: b6 :: tl)) (hok : OkBs [b0, b1, b2, b3, b4, b5, b6]) (h0z : b0 ≠ 0) (h6z : b6 ≤ 1) :
    Calls Tryd.prog 22 #[.slice A (tl.length + 7) c] w fun e w' => e = .returned (.tuple #[.agg #[.int .i32 (glyph4 b1 b2 b3 b4), .int .u8 b5, .bool (b6 == 1), .int .i64 b0], .bool true]) ∧ Below w.heap.size w w' := by
  obtain ⟨ad, rfl, hb, h0⟩ := hr.at_ (k := 0) (by simp)
  have cells : ∀ k (hk : k < (b0 :: b1 :: b2 :: b3 :: b4 :: b5 :: b6 :: tl).length), w.cell? (ad.add k) = some (.int .u8 (b0 :: b1 :: b2 :: b3 :: b4 :: b5 :: b6 :: tl)[k]) := by
    intro k hk
    obtain ⟨ad', e, _, h⟩ := hr.at_ hk
    obtain rfl : ad = ad' := by injection e
    exact h
  replace h0 : w.cell? ad = some (.int .u8 b0) := h0
  have h1 : w.cell? ⟨ad.block, ad.off + 1, none⟩ = some (.int .u8 b1) := cells 1 (by simp)
  have h2 : w.cell? ⟨ad.block, ad.off + 2, none⟩ = some (.int .u8 b2) := cells 2 (by simp)
  have h3 : w.cell? ⟨ad.block, ad.off + 3, none⟩ = some (.int .u8 b3) := cells 3 (by simp)
  have h4 : w.cell? ⟨ad.block, ad.off + 4, none⟩ = some (.int .u8 b4) := cells 4 (by simp)
  have h5 : w.cell? ⟨ad.block, ad.off + 5, none⟩ = some (.int .u8 b5) := cells 5 (by simp)
  have h6 : w.cell? ⟨ad.block, ad.off + 6, none⟩ = some (.int .u8 b6) := cells 6 (by simp)
  clear cells hr
  have hz' : (b0 == 0) = false := by simpa using h0z
  have hz6 : decide (1 < b6) = false := by simp; omega
  generalize tl.length = n at *
  have o1 := hok b1 (by simp); have o2 := hok b2 (by simp); have o3 := hok b3 (by simp); have o4 := hok b4 (by simp)
  have o0 := hok b0 (by simp); have o6 := hok b6 (by simp)
  have HU := Lib.hid (four_bytes b1 b2 b3 b4 o1 o2 o3 o4)
  have hg : IntKind.i32.wrap (b1 * 16777216 + b2 * 65536 + b3 * 256 + b4) = glyph4 b1 b2 b3 b4 := by
    rw [IntKind.wrap_i32]; unfold glyph4; split <;> omega
  have U0 : 0 ≤ b1 * 16777216 + b2 * 65536 + b3 * 256 + b4 ∧ b1 * 16777216 + b2 * 65536 + b3 * 256 + b4 < 4294967296 := by omega
  generalize glyph4 b1 b2 b3 b4 = G at *
  generalize b1 * 16777216 + b2 * 65536 + b3 * 256 + b4 = U at *
  have hn5 : (5 : Int) < (n : Int) + 7 := by omega
  have hn6 : (6 : Int) < (n : Int) + 7 := by omega
  have hn0 : (0 : Int) < (n : Int) + 7 := by omega
  have hd7 : decide ((n : Int) + 7 < 7) = false := by simp; omega
  have HG := Lib.hid hg
  clear hg o1 o2 o3 o4 hok
  go_enter Tryd.func22, Tryd.ntmps22
  go_wp2_with fail
  go_quiet (fail)
  go_wp2_with fail
  rw [HU.out]
  have hg := HG.out
  first
    | (go_region_held3 (fun w' => w'.cell? ⟨ad.block, ad.off + 5, none⟩ = some (.int .u8 b5) ∧ w'.cell? ⟨ad.block, ad.off + 6, none⟩ = some (.int .u8 b6)) (go_keep) (fail))
    | fail "region 4"
  go_wp2_with fail
  have hZ : Blk (((w.alloc (.cells #[.int .i32 0, .int .u8 0, .bool false, .int .i64 0] 48)).drewN (nq + 1)).alloc (.cells #[.int .i32 G, .int .u8 b5, .bool (b6 == 1)] 42)) w.heap.size 48 #[.int .i32 0, .int .u8 0, .bool false, .int .i64 0] := by
    refine Blk.alloc (w := (w.alloc (.cells #[.int .i32 0, .int .u8 0, .bool false, .int .i64 0] 48)).drewN (nq + 1)) ?_ _
    exact Blk.new w _ _
  have hC : Blk (((w.alloc (.cells #[.int .i32 0, .int .u8 0, .bool false, .int .i64 0] 48)).drewN (nq + 1)).alloc (.cells #[.int .i32 G, .int .u8 b5, .bool (b6 == 1)] 42)) (w.heap.size + 1) 42 #[.int .i32 G, .int .u8 b5, .bool (b6 == 1)] := by
    have := Blk.new ((w.alloc (.cells #[.int .i32 0, .int .u8 0, .bool false, .int .i64 0] 48)).drewN (nq + 1)) 42 #[.int .i32 G, .int .u8 b5, .bool (b6 == 1)]
    simpa using this
  have hBw : Below w.heap.size w (((w.alloc (.cells #[.int .i32 0, .int .u8 0, .bool false, .int .i64 0] 48)).drewN (nq + 1)).alloc (.cells #[.int .i32 G, .int .u8 b5, .bool (b6 == 1)] 42)) :=
    (below_drewN ((Below.refl w.heap.size w).alloc (Nat.le_refl _) _) (nq + 1)).alloc (by simp) _
  have hA := (hBw.cell (p := ad) hb).trans h0
  generalize ((w.alloc (Obj.cells #[Value.int .i32 0, Value.int .u8 0, Value.bool false, Value.int .i64 0] 48)).drewN (nq + 1)).alloc (Obj.cells #[Value.int .i32 G, Value.int .u8 b5, Value.bool (b6 == 1)] 42) = W at *
  have c0 : W.cell? ⟨w.heap.size + 1, 0, none⟩ = some (.int .i32 G) := hC.cell 0
  have c1 : W.cell? ⟨w.heap.size + 1, 1, none⟩ = some (.int .u8 b5) := hC.cell 1
  have c2 : W.cell? ⟨w.heap.size + 1, 2, none⟩ = some (.bool (b6 == 1)) := hC.cell 2
  have y0 : W.cell? ⟨w.heap.size, 0, none⟩ = some (.int .i32 0) := hZ.cell 0
  have y1 : W.cell? ⟨w.heap.size, 1, none⟩ = some (.int .u8 0) := hZ.cell 1
  have y2 : W.cell? ⟨w.heap.size, 2, none⟩ = some (.bool false) := hZ.cell 2
  have y3 : W.cell? ⟨w.heap.size, 3, none⟩ = some (.int .i64 0) := hZ.cell 3
  have z0 : W.frozen? ⟨w.heap.size, 0, none⟩ = false := hZ.frozen 0
  have z1 : W.frozen? ⟨w.heap.size, 1, none⟩ = false := hZ.frozen 1
  have z2 : W.frozen? ⟨w.heap.size, 2, none⟩ = false := hZ.frozen 2
  have z3 : W.frozen? ⟨w.heap.size, 3, none⟩ = false := hZ.frozen 3
  have hne1 : w.heap.size ≠ ad.block := by omega
  have HZ := Lib.hid hZ; have HBw := Lib.hid hBw
  have hwr : IntKind.i64.wrap b0 = b0 := IntWalk.i64_in _ (by omega)
  clear hZ hBw hC h0 h1 h2 h3 h4 h5 h6 hg HG HU U0
  first
    | (go_region_held3 (fun w' => w'.cell? ad = some (.int .u8 b0) ∧ w'.cell? ⟨w.heap.size + 1, 0, none⟩ = some (.int .i32 G) ∧ w'.cell? ⟨w.heap.size + 1, 1, none⟩ = some (.int .u8 b5) ∧ w'.cell? ⟨w.heap.size + 1, 2, none⟩ = some (.bool (b6 == 1))) (go_keep) (fail))
    | fail "region 5"
  go_wp2_with fail
  have hV : Blk ((((W.setCell ⟨w.heap.size, 0, none⟩ (.int .i32 G)).setCell ⟨w.heap.size, 1, none⟩ (.int .u8 b5)).setCell ⟨w.heap.size, 2, none⟩ (.bool (b6 == 1))).setCell ⟨w.heap.size, 3, none⟩ (.int .i64 b0)).drew w.heap.size 48 #[.int .i32 G, .int .u8 b5, .bool (b6 == 1), .int .i64 b0] :=
    (((HZ.out.set_ 0 _).set_ 1 _).set_ 2 _).set_ 3 _
  have hBv : Below w.heap.size w ((((W.setCell ⟨w.heap.size, 0, none⟩ (.int .i32 G)).setCell ⟨w.heap.size, 1, none⟩ (.int .u8 b5)).setCell ⟨w.heap.size, 2, none⟩ (.bool (b6 == 1))).setCell ⟨w.heap.size, 3, none⟩ (.int .i64 b0)).drew :=
    ((((HBw.out.setCell (Nat.le_refl _) _).setCell (Nat.le_refl _) _).setCell (Nat.le_refl _) _).setCell (Nat.le_refl _) _).drew
  generalize ((((W.setCell ⟨w.heap.size, 0, none⟩ (Value.int .i32 G)).setCell ⟨w.heap.size, 1, none⟩ (Value.int .u8 b5)).setCell ⟨w.heap.size, 2, none⟩ (Value.bool (b6 == 1))).setCell ⟨w.heap.size, 3, none⟩ (Value.int .i64 b0)).drew = V at *
  have v0 : V.cell? ⟨w.heap.size, 0, none⟩ = some (.int .i32 G) := hV.cell 0
  have v1 : V.cell? ⟨w.heap.size, 1, none⟩ = some (.int .u8 b5) := hV.cell 1
  have v2 : V.cell? ⟨w.heap.size, 2, none⟩ = some (.bool (b6 == 1)) := hV.cell 2
  have v3 : V.cell? ⟨w.heap.size, 3, none⟩ = some (.int .i64 b0) := hV.cell 3
  exact bodyPost_ret (v := .tuple #[.agg #[.int .i32 G, .int .u8 b5, .bool (b6 == 1), .int .i64 b0], .bool true]) (by simp [results, Tryd.results22, v0, v1, v2, v3, go_sem]) rfl ⟨rfl, hBv⟩
end Go.Proofs.YtgndjonalhdhkaaDoor
