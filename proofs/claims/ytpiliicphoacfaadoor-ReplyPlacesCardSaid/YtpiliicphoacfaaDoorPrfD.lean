/-
  The reference's small calls: a control's token, bytes that break, what they leave.
  The reference's Plain.
  The reference's header of a sequence.
  The reference's header of a sequence: the walk.
-/
import Derived.Test.YtpiliicphoacfaaDoorPrsY
import Derived.Test.YtpiliicphoacfaaDoorParV
namespace Go.Proofs.YtpiliicphoacfaaDoor

open Go Go.RowKit

def ctlX (c : Nat) : Array Value := #[.int .i64 2, .int .u8 (c : Int), .int .u8 0, .slice none 0 0, .string ⟨#[]⟩, .slice none 0 0]
def ctlR (C : List Nat) : List Value := (C.map ctlX).flatMap Array.toList
theorem ctlR_snoc (C : List Nat) (c : Nat) : ctlR (C ++ [c]) = ctlR C ++ (ctlX c).toList := by simp [ctlR]
theorem ctlR_app (C D : List Nat) : ctlR (C ++ D) = ctlR C ++ ctlR D := by simp [ctlR]
theorem ctl_own (w : World) (base : Nat) : ∀ C : List Nat, OTl w base (C.map ctlX) (C.map ctlT)
  | [] => trivial
  | c :: C => ⟨otkC w base c, ctl_own w base C⟩
theorem ctlX_one (c : Nat) : ∀ u ∈ (ctlX c).toList, u.oneCell' = true := by
  intro u hu
  simp only [ctlX, List.mem_cons, List.not_mem_nil, or_false] at hu
  rcases hu with rfl | rfl | rfl | rfl | rfl | rfl <;> rfl
theorem ctlR_one (C : List Nat) : ∀ u ∈ ctlR C, u.oneCell' = true := fun u hu => by
  unfold ctlR at hu
  obtain ⟨x, hx, hu⟩ := List.mem_flatMap.1 hu
  obtain ⟨c, _, rfl⟩ := List.mem_map.1 hx
  exact ctlX_one c u hu
theorem rtU : Tryd.prog.underlying 31 = some (.struct (Tryd.prog.fieldsOf 31)) := by kernel_rfl
theorem rtS6 : (Tryd.prog.info? 31).map (·.size) = some 6 := by kernel_rfl
theorem ptU : Tryd.prog.underlying 69 = some (.struct (Tryd.prog.fieldsOf 69)) := by kernel_rfl
theorem ptS2 : (Tryd.prog.info? 69).map (·.size) = some 2 := by kernel_rfl
theorem gb_of {w W W' : World} {row : Option Nat} (hb : Below w.heap.size w W) (hg : W.grownBy W' row) : w.grownBy W' row :=
  ⟨hg.os.trans hb.os, hg.tape.trans hb.tape, hg.output.trans hb.output, Nat.le_trans hb.size hg.size, fun k hk hn => (hg.block k (Nat.lt_of_lt_of_le hk hb.size) hn).trans (hb.block k hk)⟩
theorem gb_trans {w W W' : World} {row row' : Option Nat} (hg : w.grownBy W row) (hg' : W.grownBy W' row') (hr : row' = none ∨ row' = row ∨ ∀ k, row' = some k → w.heap.size ≤ k) : w.grownBy W' row :=
  ⟨hg'.os.trans hg.os, hg'.tape.trans hg.tape, hg'.output.trans hg.output, Nat.le_trans hg.size hg'.size, fun k hk hn => (hg'.block k (Nat.lt_of_lt_of_le hk hg.size) (by
    rcases hr with rfl | rfl | hr
    · simp
    · exact hn
    · intro e
      have := hr k e.symm
      omega)).trans (hg.block k hk hn)⟩
theorem gb_row {w W : World} {row : Option Nat} (h : w.grownBy W row) (g : Nat) (X : Array Value) (hg : w.heap.size ≤ g) : w.grownBy (W.setRow g X) row :=
  gb_trans h (grown_row W g X) (.inr (.inr (fun k hk => by cases hk; exact hg)))
theorem own_row {W : World} {b n s g : Nat} {T : TypeId} {v : Value} {xs : List Value} {X : Array Value} (h : W.ownsRow b T s v n xs) (hne : v.ownBlock ≠ some g) : (W.setRow g X).ownsRow b T s v n xs :=
  World.ownsRow.kept h (grown_row W g X) (.inr hne)
theorem refctrl_any (c : Nat) (w : World) : Calls Tryd.prog 34 #[.int .u8 (c : Int)] w fun e w' => e = .returned (.agg (ctlX c)) ∧ Below w.heap.size w w' := by
  have hX1 : (ctlX c).all (·.oneCell') = true := by simp [ctlX, Value.oneCell']
  have hXs : (Tryd.prog.info? 31).map (·.size) = some (ctlX c).size := rtS6
  have hX6 : zTok.size = (ctlX c).size := rfl
  obtain ⟨X, hX⟩ : ∃ X : Array Value, X = ctlX c := ⟨_, rfl⟩
  rw [← hX] at hX1 hXs hX6 ⊢
  unfold ctlX at hX
  have HB : Hid (Blk (w.alloc (.cells zTok 31)) w.heap.size 31 zTok) := Lib.hid (Blk.new w _ _)
  have HL := Lib.hid (show Below w.heap.size w (w.alloc (.cells zTok 31)) from (Below.refl _ w).alloc (Nat.le_refl _) _)
  unfold zTok at HB HL
  have HX := Lib.hid hX
  clear hX
  go_enter Tryd.func34, Tryd.ntmps34
  go_upto_region 1 with fail
  generalize w.alloc (.cells #[.int .i64 0, .int .u8 0, .int .u8 0, .slice none 0 0, .string ⟨#[]⟩, .slice none 0 0] 31) = w1 at *
  go_wp2_with (refine wpList_store_row rfl _ _ _ rfl w.heap.size X rfl (by rw [HX.out]; rfl) _ _ HB.out hXs hX6 hX1 ?_)
  (try simp only [Exit.inBlock, Exit.then])
  have hb2 : Blk (w1.setRow w.heap.size X) w.heap.size 31 X := setRow_heap w1 _ _ _ _ _ HB.out
  exact bodyPost_ret (results_cell_row rfl _ _ w.heap.size 31 X (0, 0) _ rfl hb2 rtU rfl hXs) rfl ⟨rfl, ⟨HL.out.os, HL.out.tape, HL.out.output, by simpa [World.setRow] using HL.out.size, fun k hk => (row_far X (by omega)).trans (HL.out.block k hk)⟩⟩
def brkB (c : Nat) : Bool := c == 24 || (c == 26 || c == 27)
theorem breaks_any (c : Nat) (w : World) : Calls Tryd.prog 78 #[.int .u8 (c : Int)] w fun e w' => e = .returned (.bool (brkB c)) ∧ w = w' := by
  unfold brkB
  rcases h1 : (c == 24) with _ | _
  · have b1 : ((c : Int) == 24) = false := by simp at h1 ⊢; omega
    rcases h2 : (c == 26) with _ | _
    · have b2 : ((c : Int) == 26) = false := by simp at h2 ⊢; omega
      have b3 : ((c : Int) == 27) = (c == 27) := by
        rcases h3 : (c == 27) with _ | _
        · simp at h3 ⊢; omega
        · simp at h3 ⊢; omega
      generalize (c == 27) = q at *
      clear h1 h2
      go_enter Tryd.func78, Tryd.ntmps78
      go_wp2_with fail
      go_ret
      exact ⟨by simp, rfl⟩
    · have b2 : ((c : Int) == 26) = true := by simp at h2 ⊢; omega
      clear h1 h2
      go_enter Tryd.func78, Tryd.ntmps78
      go_wp2_with fail
      go_ret
      exact ⟨rfl, rfl⟩
  · have b1 : ((c : Int) == 24) = true := by simp at h1 ⊢; omega
    clear h1
    go_enter Tryd.func78, Tryd.ntmps78
    go_wp2_with fail
    go_ret
    exact ⟨rfl, rfl⟩
def brkC (c : Nat) (C : List Nat) : List Nat := if c = 26 then C ++ [26] else C
def brkNx (c k : Nat) : Nat := if c = 24 ∨ c = 26 then k + 1 else k
/-- A list of controls that came in is handed on, or grown. -/
structure PartQ (w w' : World) (base : Nat) (v : Value) (C : List Nat) (nx : Int) (e : Ending) : Prop where
  out : ∃ v', e = .returned (.agg #[v', .int .i64 nx]) ∧ w'.ownsRow base 31 6 v' C.length (ctlR C)
  gro : w.grownBy w' v.ownBlock
set_option maxRecDepth 100000 in
set_option maxHeartbeats 4000000 in
theorem broken_any (A : Option Addr) (cap : Nat) (s : List Nat) (k : Nat) (hk : k < s.length) (hs : s.length ≤ 100000000) (base : Nat) (v : Value) (C : List Nat) (hC : C.length ≤ 1000000) (w : World) (hr : RByt w A s) (ho : w.ownsRow base 31 6 v C.length (ctlR C)) (hb : base ≤ w.heap.size) :
    Calls Tryd.prog 52 #[.slice A s.length cap, .int .i64 k, v] w fun e w' => PartQ w w' base v (brkC s[k] C) (brkNx s[k] k) e := by
  obtain ⟨Av, cv, rfl⟩ := own_formS ho
  obtain ⟨ad, rfl, hlt, hc⟩ := RByt.at_ hr hk
  have k0 : (0 : Int) ≤ (k : Int) := by omega
  have k1 : ((k : Int) < (s.length : Int)) = True := eq_true (by omega)
  have hwk : IntKind.i64.wrap ((k : Int) + 1) = (k : Int) + 1 := IntWalk.i64_in _ (by omega)
  have hvb : ∀ j, (Value.slice Av C.length cv).ownBlock = some j → j < w.heap.size := fun j hj => (World.ownsRow.lt ho j hj).2
  have HVb := Lib.hid hvb
  have hal : Below w.heap.size w (w.alloc (.cells #[.slice none 0 0, .int .i64 0] 69)) := (Below.refl _ w).alloc (Nat.le_refl _) _
  have HL := Lib.hid hal
  have HO := Lib.hid (own_more ho hal)
  have HB := Lib.hid (Blk.new w 69 #[.slice none 0 0, .int .i64 0])
  have hc1 := (hal.cell (p := ad.add k) (by rw [add_blk]; exact hlt)).trans hc
  clear hr ho hal hvb hc
  generalize s[k] = c at *
  have HBs := Lib.hid hb
  clear hb
  by_cases h24 : c = 24
  · have b1 : ((c : Int) == 24) = true := by simp; omega
    obtain ⟨X, hX⟩ : ∃ X : Array Value, X = #[.slice Av C.length cv, .int .i64 ((k : Int) + 1)] := ⟨_, rfl⟩
    have hX1 : X.all (·.oneCell') = true := by rw [hX]; simp [Value.oneCell']
    have hXs : (Tryd.prog.info? 69).map (·.size) = some X.size := by rw [hX]; exact ptS2
    have HX2 : Hid ((#[Value.slice none 0 0, Value.int .i64 0] : Array Value).size = X.size) := Lib.hid (by subst hX; rfl)
    have HX := Lib.hid hX
    clear hX
    go_enter Tryd.func52, Tryd.ntmps52
    go_upto_region 1 with fail
    generalize w.alloc (.cells #[.slice none 0 0, .int .i64 0] 69) = w1 at *
    go_wp2_with (refine wpList_store_row rfl _ _ _ rfl w.heap.size X rfl (by rw [HX.out]; rfl) _ _ HB.out hXs HX2.out hX1 ?_)
    (try simp only [Exit.inBlock, Exit.then])
    have hb2 : Blk (w1.setRow w.heap.size X) w.heap.size 69 X := setRow_heap w1 _ _ _ _ _ HB.out
    refine bodyPost_ret (results_cell_row rfl _ _ w.heap.size 69 X (0, 0) _ rfl hb2 ptU rfl hXs) rfl ⟨⟨.slice Av C.length cv, ?_, ?_⟩, ?_⟩
    · rw [HX.out]; unfold brkNx; rw [if_pos (.inl h24)]; rfl
    · unfold brkC; rw [if_neg (by omega)]
      exact own_row HO.out (fun e => by have := HVb.out _ e; omega)
    · exact gb_row (gb_of HL.out (grown_refl _ _)) _ _ (Nat.le_refl _)
  have b1 : ((c : Int) == 24) = false := by simp; omega
  by_cases h26 : c = 26
  · have b2 : ((c : Int) == 26) = true := by simp; omega
    have HCt := Lib.hid (fun W => refctrl_any 26 W)
    obtain ⟨i0, hi0, hi1, hi2, hi3⟩ := info_rtk
    have HI := Lib.hid (And.intro hi0 (And.intro hi1 (And.intro hi2 hi3)))
    clear hi0 hi1 hi2 hi3
    unfold ctlX at HCt
    go_enter Tryd.func52, Tryd.ntmps52
    go_upto_region 1 with fail
    generalize w.alloc (.cells #[.slice none 0 0, .int .i64 0] 69) = w1 at *
    go_wp2_with fail
    refine (HCt.out _).mono ?_
    rintro e w2 ⟨rfl, hb2⟩
    have HL2 := Lib.hid (HL.out.trans (hb2.mono HL.out.size))
    have HO2 := Lib.hid (own_more HO.out hb2)
    have HB2 := Lib.hid (HB.out.next hb2)
    clear hb2 hc1 HL HO HB HCt
    have hal3 : Below w2.heap.size w2 (w2.alloc (.cells #[.int .i64 2, .int .u8 26, .int .u8 0, .slice none 0 0, .string ⟨#[]⟩, .slice none 0 0] 31)) := (Below.refl _ _).alloc (Nat.le_refl _) _
    have HL3 := Lib.hid (HL2.out.trans (hal3.mono HL2.out.size))
    have HO3 := Lib.hid (own_more HO2.out hal3)
    have HB3 := Lib.hid (HB2.out.next hal3)
    have HX5 := Lib.hid (Blk.new w2 31 #[.int .i64 2, .int .u8 26, .int .u8 0, .slice none 0 0, .string ⟨#[]⟩, .slice none 0 0])
    have HRd : Hid (Reads (w2.alloc (.cells #[.int .i64 2, .int .u8 26, .int .u8 0, .slice none 0 0, .string ⟨#[]⟩, .slice none 0 0] 31)) (w2.alloc (.cells #[.int .i64 2, .int .u8 26, .int .u8 0, .slice none 0 0, .string ⟨#[]⟩, .slice none 0 0] 31)).heap.size 6 (some ⟨w2.heap.size, 0, none⟩) 1 (ctlX 26).toList) := Lib.hid ⟨rfl, fun _ => ⟨_, rfl, by simp, fun j u hu => by rw [add_here, HX5.out.cell j, List.getElem?_toArray]; exact hu⟩⟩
    have HBy : Hid ((C.length + 1) * i0.bytes ≤ 140737488355328) := Lib.hid (Nat.le_trans (Nat.mul_le_mul (show C.length + 1 ≤ 1000001 by omega) HI.out.2.2.2) (by decide))
    have HMx : Hid (C.length + 1 ≤ maxLen) := Lib.hid (by unfold maxLen; omega)
    have HBz : Hid (base ≤ (w2.alloc (.cells #[.int .i64 2, .int .u8 26, .int .u8 0, .slice none 0 0, .string ⟨#[]⟩, .slice none 0 0] 31)).heap.size) := Lib.hid (Nat.le_trans HBs.out HL3.out.size)
    clear hal3 HL2 HO2 HB2 HX5
    go_wp2_with (first
      | (at_builtin; refine wpList_append_any _ rfl _ _ 22 rfl base 31 i0 _ 6 i0.bytes Tryd.underlying22 HI.out.1 HI.out.2.1 HI.out.2.2.1 rfl rfl (by decide) _ C.length _ rfl HO3.out _ (some ⟨w2.heap.size, 0, none⟩) 1 1 _ rfl HRd.out (ctlX_one 26) HMx.out HBy.out HBz.out ?_; intro v6 w6 hown6 hg6 hw6; obtain ⟨A6, c6, rfl⟩ := own_formS hown6; have HO6 := Lib.hid hown6; have HG6 := Lib.hid hg6; have HW6 := Lib.hid hw6; clear hown6 hg6 hw6)
      | (refine wpList_store_row rfl _ _ _ rfl w.heap.size #[.slice A6 (C.length + 1) c6, .int .i64 ((k : Int) + 1)] rfl rfl _ _ (show Blk w6 w.heap.size 69 #[.slice none 0 0, .int .i64 0] from (HG6.out.block _ HB3.out.lt (fun e => by have := HVb.out _ e.symm; omega)).trans HB3.out) ptS2 rfl (by simp [Value.oneCell']) ?_))
    (try simp only [Exit.inBlock, Exit.then])
    have hb6 : Blk w6 w.heap.size 69 #[.slice none 0 0, .int .i64 0] := (HG6.out.block _ HB3.out.lt (fun e => by have := HVb.out _ e.symm; omega)).trans HB3.out
    have hb2 : Blk (w6.setRow w.heap.size #[.slice A6 (C.length + 1) c6, .int .i64 ((k : Int) + 1)]) w.heap.size 69 #[.slice A6 (C.length + 1) c6, .int .i64 ((k : Int) + 1)] := setRow_heap w6 _ _ _ _ _ hb6
    refine bodyPost_ret (results_cell_row rfl _ _ w.heap.size 69 _ (0, 0) _ rfl hb2 ptU rfl ptS2) rfl ⟨⟨.slice A6 (C.length + 1) c6, ?_, ?_⟩, ?_⟩
    · unfold brkNx; rw [if_pos (.inr h26)]; rfl
    · unfold brkC; rw [if_pos h26, ctlR_snoc, List.length_append]
      refine own_row HO6.out (fun e => ?_)
      rcases HW6.out with h | h
      · rw [h] at e; have := HVb.out _ e; omega
      · rw [h] at e; injection e with e; have := HB3.out.lt; omega
    · exact gb_row (gb_of HL3.out HG6.out) _ _ (Nat.le_refl _)
  have b2 : ((c : Int) == 26) = false := by simp; omega
  · obtain ⟨X, hX⟩ : ∃ X : Array Value, X = #[.slice Av C.length cv, .int .i64 (k : Int)] := ⟨_, rfl⟩
    have hX1 : X.all (·.oneCell') = true := by rw [hX]; simp [Value.oneCell']
    have hXs : (Tryd.prog.info? 69).map (·.size) = some X.size := by rw [hX]; exact ptS2
    have HX2 : Hid ((#[Value.slice none 0 0, Value.int .i64 0] : Array Value).size = X.size) := Lib.hid (by subst hX; rfl)
    have HX := Lib.hid hX
    clear hX
    go_enter Tryd.func52, Tryd.ntmps52
    go_upto_region 1 with fail
    generalize w.alloc (.cells #[.slice none 0 0, .int .i64 0] 69) = w1 at *
    go_wp2_with (refine wpList_store_row rfl _ _ _ rfl w.heap.size X rfl (by rw [HX.out]; rfl) _ _ HB.out hXs HX2.out hX1 ?_)
    (try simp only [Exit.inBlock, Exit.then])
    have hb2 : Blk (w1.setRow w.heap.size X) w.heap.size 69 X := setRow_heap w1 _ _ _ _ _ HB.out
    refine bodyPost_ret (results_cell_row rfl _ _ w.heap.size 69 X (0, 0) _ rfl hb2 ptU rfl hXs) rfl ⟨⟨.slice Av C.length cv, ?_, ?_⟩, ?_⟩
    · rw [HX.out]; unfold brkNx; rw [if_neg (by omega)]
    · unfold brkC; rw [if_neg (by omega)]
      exact own_row HO.out (fun e => by have := HVb.out _ e; omega)
    · exact gb_row (gb_of HL.out (grown_refl _ _)) _ _ (Nat.le_refl _)
end Go.Proofs.YtpiliicphoacfaaDoor

namespace Go.Proofs.YtpiliicphoacfaaDoor

open Go Go.RowKit

def plainC (c : Nat) : List Nat := if c = 0 ∨ c = 127 then [] else if 128 ≤ c ∧ c < 160 then [27, c - 64] else [c]
def plainL (l : List Nat) : List Nat := l.flatMap plainC
theorem plainL_snoc (l : List Nat) (c : Nat) : plainL (l ++ [c]) = plainL l ++ plainC c := by simp [plainL]
theorem plainC_len (c : Nat) : (plainC c).length ≤ 2 := by
  unfold plainC
  split
  · simp
  · split <;> simp
theorem plainL_len (l : List Nat) : (plainL l).length ≤ 2 * l.length := by
  induction l with
  | nil => exact Nat.le_refl _
  | cons c l ih =>
    have := plainC_len c
    unfold plainL at *
    rw [List.flatMap_cons, List.length_append, List.length_cons]
    omega
def u8s (l : List Nat) : List Value := l.map fun (n : Nat) => Value.int .u8 (n : Int)
theorem u8s_snoc (l m : List Nat) : u8s (l ++ m) = u8s l ++ u8s m := by simp [u8s]
theorem u8s_one (l : List Nat) : ∀ u ∈ u8s l, u.oneCell' = true := fun u hu => by
  obtain ⟨c, _, rfl⟩ := List.mem_map.1 hu
  rfl
/-- What is known in the midst of Plain. -/
def PlW (w W : World) (l : List Nat) (v : Value) : Prop := W.ownsRow w.heap.size 5 1 v l.length (u8s l) ∧ Below w.heap.size w W
theorem row_reads (W : World) (T : TypeId) (xs : List Value) (n sz : Nat) (hn : xs.length = n * sz) : Reads (W.alloc (.cells xs.toArray T)) (W.alloc (.cells xs.toArray T)).heap.size sz (some ⟨W.heap.size, 0, none⟩) n xs :=
  ⟨hn, fun _ => ⟨_, rfl, by simp, fun j u hu => by rw [add_here, (Blk.new W T xs.toArray).cell j, List.getElem?_toArray]; exact hu⟩⟩
set_option maxRecDepth 100000 in
set_option maxHeartbeats 8000000 in
theorem plain_any (A : Option Addr) (cap : Nat) (s : List Nat) (hn : ∀ x ∈ s, x < 256) (hl : s.length ≤ 1000000) (w : World) (h : RByt w A s) :
    Calls Tryd.prog 32 #[.slice A s.length cap] w fun e w' => ∃ v, e = .returned v ∧ PlW w w' (plainL s) v := by
  have H := Lib.hid h
  have HN := Lib.hid hn
  clear h hn
  obtain ⟨i0, hi0, hi1, hi2, hi3⟩ := info_u8
  have HI := Lib.hid (And.intro hi0 (And.intro hi1 (And.intro hi2 hi3)))
  clear hi0 hi1 hi2 hi3
  go_enter Tryd.func32, Tryd.ntmps32
  go_wp2_with fail
  go_loopw [3, 4] (fun v j wr => ∃ k : Nat, k ≤ s.length ∧ j = .int .i64 k ∧ PlW w wr (plainL (s.take k)) v) (fun _ j _ => s.length - (intOf j).toNat)
  case atStart => exact ⟨0, by omega, rfl, World.ownsRow_nil _ _ _ _, Below.refl _ _⟩
  case round =>
    obtain ⟨k, hk, rfl, hown, hb⟩ := hrel
    have HOw := Lib.hid hown; have HB := Lib.hid hb
    clear hown hb
    by_cases hlt : k < s.length
    · have hwk : IntKind.i64.wrap ((k : Int) + 1) = (k : Int) + 1 := IntWalk.i64_in _ (by omega)
      have k0 : (0 : Int) ≤ (k : Int) := by omega
      have k1 : ((k : Int) < (s.length : Int)) = True := eq_true (by omega)
      obtain ⟨ad, rfl, _, hc⟩ := RByt.at_ (H.out.next HB.out) hlt
      have HS : Hid (plainL (s.take (k + 1)) = plainL (s.take k) ++ plainC s[k]) := Lib.hid (by rw [List.take_succ_eq_append_getElem hlt, plainL_snoc])
      have HLn : Hid ((plainL (s.take k)).length ≤ 2000000) := Lib.hid (by have := plainL_len (s.take k); simp at this; omega)
      have hc256 := HN.out s[k] (List.getElem_mem hlt)
      obtain ⟨p2, hp2⟩ : ∃ p2, p2 = plainL (s.take (k + 1)) := ⟨_, rfl⟩
      rw [← hp2] at HS
      have HP2 := Lib.hid hp2
      clear hp2
      generalize plainL (s.take k) = p at *
      generalize s[k] = c at *
      by_cases h0 : c = 0
      · have b0 : ((c : Int) == 0) = true := by simp; omega
        have HS2 : Hid (p2 = p) := Lib.hid (by rw [HS.out, plainC, if_pos (.inl h0), List.append_nil])
        clear h0 HS
        go_wp2_with fail
        go_roundw
        case rel => exact ⟨k + 1, by omega, by go_num, by rw [← HP2.out, HS2.out]; exact ⟨HOw.out, HB.out⟩⟩
        case measure => simp [intOf]; omega
      have b0 : ((c : Int) == 0) = false := by simp; omega
      by_cases h127 : c = 127
      · have b1 : ((c : Int) == 127) = true := by simp; omega
        have HS2 : Hid (p2 = p) := Lib.hid (by rw [HS.out, plainC, if_pos (.inr h127), List.append_nil])
        clear h0 h127 HS
        go_wp2_with fail
        go_roundw
        case rel => exact ⟨k + 1, by omega, by go_num, by rw [← HP2.out, HS2.out]; exact ⟨HOw.out, HB.out⟩⟩
        case measure => simp [intOf]; omega
      have b1 : ((c : Int) == 127) = false := by simp; omega
      by_cases h128 : 128 ≤ c ∧ c < 160
      · have g1 : ((128 : Int) ≤ (c : Int)) = True := eq_true (by omega)
        have g2 : ((c : Int) < 160) = True := eq_true (by omega)
        have HS2 : Hid (p2 = p ++ [27, c - 64]) := Lib.hid (by rw [HS.out, plainC, if_neg (by omega), if_pos h128])
        obtain ⟨d, hd⟩ : ∃ d : Nat, c = d + 64 := ⟨c - 64, by omega⟩
        have HS3 : Hid (p2 = p ++ [27, d]) := Lib.hid (by rw [HS2.out]; congr; omega)
        have hsub : IntKind.u8.wrap ((c : Int) - 64) = (d : Int) := by rw [IntKind.wrap_u8]; omega
        clear h0 h127 h128 hd HS HS2 hc256
        have hal : Below wr.heap.size wr (wr.alloc (.cells #[.int .u8 27, .int .u8 (d : Int)] 5)) := (Below.refl _ _).alloc (Nat.le_refl _) _
        have HB2 := Lib.hid (HB.out.trans (hal.mono HB.out.size))
        have HO2 := Lib.hid (own_more HOw.out hal)
        have HRd := Lib.hid (row_reads wr 5 (u8s [27, d]) 2 1 rfl)
        have HBy : Hid ((p.length + 2) * 1 ≤ 140737488355328) := Lib.hid (by have := HLn.out; omega)
        have HMx : Hid (p.length + 2 ≤ maxLen) := Lib.hid (by have := HLn.out; unfold maxLen; omega)
        have HBz : Hid (w.heap.size ≤ (wr.alloc (.cells #[.int .u8 27, .int .u8 (d : Int)] 5)).heap.size) := Lib.hid HB2.out.size
        clear hal
        go_wp2_with (at_builtin; refine wpList_append_any _ rfl _ _ 24 rfl w.heap.size 5 i0 _ 1 1 Tryd.underlying24 HI.out.1 HI.out.2.1 HI.out.2.2.1 HI.out.2.2.2 rfl (by decide) _ p.length _ rfl HO2.out _ (some ⟨wr.heap.size, 0, none⟩) 2 2 _ rfl HRd.out (u8s_one _) HMx.out HBy.out HBz.out ?_; intro v6 w6 hown6 hg6 _)
        go_roundw
        case rel => exact ⟨k + 1, by omega, by go_num, by rw [← HP2.out, HS3.out]; exact ⟨by rw [u8s_snoc, List.length_append]; exact hown6, below_row HB2.out hg6 (own_ge HO2.out) HBz.out⟩⟩
        case measure => simp [intOf]; omega
      · have g1 : ((128 : Int) ≤ (c : Int)) = False ∨ ((128 : Int) ≤ (c : Int)) = True ∧ ((c : Int) < 160) = False := by
          by_cases h : 128 ≤ c
          · exact .inr ⟨eq_true (by omega), eq_false (by omega)⟩
          · exact .inl (eq_false (by omega))
        have HS2 : Hid (p2 = p ++ [c]) := Lib.hid (by rw [HS.out, plainC, if_neg (by omega), if_neg h128])
        clear h0 h127 h128 HS hc256
        have hal : Below wr.heap.size wr (wr.alloc (.cells #[.int .u8 (c : Int)] 5)) := (Below.refl _ _).alloc (Nat.le_refl _) _
        have HB2 := Lib.hid (HB.out.trans (hal.mono HB.out.size))
        have HO2 := Lib.hid (own_more HOw.out hal)
        have HRd := Lib.hid (row_reads wr 5 (u8s [c]) 1 1 rfl)
        have HBy : Hid ((p.length + 1) * 1 ≤ 140737488355328) := Lib.hid (by have := HLn.out; omega)
        have HMx : Hid (p.length + 1 ≤ maxLen) := Lib.hid (by have := HLn.out; unfold maxLen; omega)
        have HBz : Hid (w.heap.size ≤ (wr.alloc (.cells #[.int .u8 (c : Int)] 5)).heap.size) := Lib.hid HB2.out.size
        clear hal
        rcases g1 with g1 | ⟨g1, g2⟩
        all_goals
          go_wp2_with (at_builtin; refine wpList_append_any _ rfl _ _ 24 rfl w.heap.size 5 i0 _ 1 1 Tryd.underlying24 HI.out.1 HI.out.2.1 HI.out.2.2.1 HI.out.2.2.2 rfl (by decide) _ p.length _ rfl HO2.out _ (some ⟨wr.heap.size, 0, none⟩) 1 1 _ rfl HRd.out (u8s_one _) HMx.out HBy.out HBz.out ?_; intro v6 w6 hown6 hg6 _)
          go_roundw
          case rel => exact ⟨k + 1, by omega, by go_num, by rw [← HP2.out, HS2.out]; exact ⟨by rw [u8s_snoc, List.length_append]; exact hown6, below_row HB2.out hg6 (own_ge HO2.out) HBz.out⟩⟩
          case measure => simp [intOf]; omega
    · obtain rfl : k = s.length := by omega
      have k1 : ((s.length : Int) < (s.length : Int)) = False := eq_false (by omega)
      rw [List.take_length] at HOw
      go_wp2_with fail
      go_ret
      exact ⟨_, rfl, HOw.out, HB.out⟩
end Go.Proofs.YtpiliicphoacfaaDoor

namespace Go.Proofs.YtpiliicphoacfaaDoor

open Go Go.RowKit

structure Hd where
  C : List Nat
  B : List Nat
  nx : Nat
  en : Nat
/-- A header, from a place on. -/
def hdrL (last : Nat) : List Nat → Nat → List Nat → List Nat → Hd
  | [], _, C, B => ⟨C, B, 0, 0⟩
  | c :: l, i, C, B =>
    if brkB c = true then ⟨C, B, i, 2⟩
    else if c < 32 then hdrL last l (i + 1) (C ++ [c]) B
    else if c % 128 = 127 then hdrL last l (i + 1) C B
    else if last ≤ c % 128 then ⟨C, B ++ [c % 128], i + 1, 1⟩
    else hdrL last l (i + 1) C (B ++ [c % 128])
theorem own_same {w w' : World} {base size n : Nat} {e : TypeId} {v : Value} {xs : List Value} (h : w.ownsRow base e size v n xs) (hk : ∀ k, v.ownBlock = some k → w'.heap[k]? = w.heap[k]?) : w'.ownsRow base e size v n xs := by
  refine ⟨h.1, ?_⟩
  rcases h.2 with hn | ⟨g, cap, cur, rfl, hb, hg, r⟩
  · exact .inl hn
  · exact .inr ⟨g, cap, cur, rfl, hb, (hk g rfl).trans hg, r⟩
theorem gb_weak {w W : World} {row : Option Nat} (b : Nat) (h : w.grownBy W row) (hr : row = none ∨ row = some b) : w.grownBy W (some b) := by
  rcases hr with rfl | rfl
  · exact ⟨h.os, h.tape, h.output, h.size, fun k hk _ => h.block k hk (by simp)⟩
  · exact h
theorem gb_set {w : World} (b i : Nat) (v : Value) : w.grownBy (w.setCell ⟨b, i, none⟩ v) (some b) :=
  ⟨rfl, rfl, rfl, by simp [World.setCell], fun k _ hn => Below.heap_setCell w ⟨b, i, none⟩ v k (fun e => hn (by rw [e]))⟩
theorem below_gb {B : Nat} {w w1 w2 : World} {g : Nat} (h : Below B w w1) (hg : w1.grownBy w2 (some g)) (hB : B ≤ g) (hs : B ≤ w1.heap.size) : Below B w w2 :=
  below_row h hg (fun k e => by cases e; exact hB) hs
def RowP (u : Value) : Prop := ∃ g, u = .slice (some ⟨g, 0, none⟩) 1 1
/-- A row that was just made. -/
def RowF (T : TypeId) (B : Nat) (xs : Array Value) (u : Value) (W : World) : Prop := ∃ g, u = .slice (some ⟨g, 0, none⟩) 1 1 ∧ B ≤ g ∧ Blk W g T xs
theorem rowF_stab (ks : Kinds) (wr : World) (T : TypeId) (xs : Array Value) (h : boxes ks = []) : ∀ v w w', Kept ks wr w w' → RowF T wr.heap.size xs v w → RowF T wr.heap.size xs v w' := by
  rintro v w w' hk ⟨g, e, hg, hb⟩
  exact ⟨g, e, hg, (hk.block g hb.lt hg (fun _ _ _ _ => by rw [h]; simp)).trans hb⟩
def LstP (n : Nat) (u : Value) : Prop := ∃ A c, u = .slice A n c
/-- A row of the call's own that was grown, out of what lay in block b. -/
def GrF (T : TypeId) (base sz n : Nat) (xs : List Value) (wr : World) (b : Nat) (z : Prop) (u : Value) (W : World) : Prop :=
  W.ownsRow base T sz u n xs ∧ (∀ k, u.ownBlock = some k → k = b ∨ wr.heap.size ≤ k) ∧ (z → W.heap[b]? = wr.heap[b]?)
theorem grF_stab (ks : Kinds) (wr : World) (T : TypeId) (base sz n : Nat) (xs : List Value) (b : Nat) (z : Prop) (h : boxes ks = []) : ∀ v w w', Kept ks wr w w' → w'.heap[b]? = w.heap[b]? → GrF T base sz n xs wr b z v w → GrF T base sz n xs wr b z v w' := by
  rintro v w w' hk hb ⟨h1, h2, h3⟩
  refine ⟨own_same h1 (fun k e => ?_), h2, fun hz => hb.trans (h3 hz)⟩
  rcases h2 k e with rfl | h4
  · exact hb
  · exact hk.block k (World.ownsRow.lt h1 k e).2 h4 (fun _ _ _ _ => by rw [h]; simp)
theorem hdU : Tryd.prog.underlying 87 = some (.struct (Tryd.prog.fieldsOf 87)) := by kernel_rfl
theorem hdS4 : (Tryd.prog.info? 87).map (·.size) = some 4 := by kernel_rfl
theorem hd4 {W : World} {b : Nat} {T : TypeId} {x y u v : Value} (h : Blk W b T #[x, y, u, v]) : W.cell? ⟨b, 0, none⟩ = some x ∧ W.cell? ⟨b, 1, none⟩ = some y ∧ W.cell? ⟨b, 2, none⟩ = some u ∧ W.cell? ⟨b, 3, none⟩ = some v ∧ W.frozen? ⟨b, 0, none⟩ = false ∧ W.frozen? ⟨b, 1, none⟩ = false ∧ W.frozen? ⟨b, 2, none⟩ = false ∧ W.frozen? ⟨b, 3, none⟩ = false :=
  ⟨h.cell 0, h.cell 1, h.cell 2, h.cell 3, h.frozen 0, h.frozen 1, h.frozen 2, h.frozen 3⟩
def hdZ : Array Value := #[.slice none 0 0, .slice none 0 0, .int .i64 0, .int .i64 0]
/-- What is known in the midst of a header. -/
structure HdW (w W : World) (C B : List Nat) (v1 v2 : Value) : Prop where
  box : Blk W (w.heap.size + 1) 87 #[v1, v2, .int .i64 0, .int .i64 0]
  res : Blk W w.heap.size 87 hdZ
  o1 : W.ownsRow (w.heap.size + 2) 31 6 v1 C.length (ctlR C)
  o2 : W.ownsRow (w.heap.size + 2) 5 1 v2 B.length (u8s B)
  bel : Below w.heap.size w W
theorem HdW.next {w W W' : World} {C B : List Nat} {v1 v2 : Value} (h : HdW w W C B v1 v2) (hb : Below W.heap.size W W') : HdW w W' C B v1 v2 :=
  ⟨h.box.next hb, h.res.next hb, own_more h.o1 hb, own_more h.o2 hb, h.bel.trans (hb.mono h.bel.size)⟩
theorem HdW.sz {w W : World} {C B : List Nat} {v1 v2 : Value} (h : HdW w W C B v1 v2) : w.heap.size + 2 ≤ W.heap.size := by have := h.box.lt; omega
/-- What a header answers. -/
def HdQ (w w' : World) (d : Hd) (e : Ending) : Prop := ∃ v1 v2, e = .returned (.agg #[v1, v2, .int .i64 d.nx, .int .i64 d.en]) ∧ w'.ownsRow w.heap.size 31 6 v1 d.C.length (ctlR d.C) ∧ w'.ownsRow w.heap.size 5 1 v2 d.B.length (u8s d.B) ∧ Below w.heap.size w w'
/-- The end of it: the box as it is now, handed on. -/
theorem HdQ.of {w W : World} {C B : List Nat} {v1 v2 : Value} {nx en : Nat} (h1 : W.ownsRow (w.heap.size + 2) 31 6 v1 C.length (ctlR C)) (h2 : W.ownsRow (w.heap.size + 2) 5 1 v2 B.length (u8s B)) (hb : Below w.heap.size w W) (X : Array Value) (e : Ending) (he : e = .returned (.agg #[v1, v2, .int .i64 nx, .int .i64 en])) : HdQ w (W.setRow w.heap.size X) ⟨C, B, nx, en⟩ e :=
  ⟨v1, v2, he, own_base (own_row h1 (fun e => by have := own_ge h1 _ e; omega)) (by omega), own_base (own_row h2 (fun e => by have := own_ge h2 _ e; omega)) (by omega), below_gb hb (grown_row W w.heap.size X) (Nat.le_refl _) hb.size⟩
/-- A control more. -/
theorem HdW.ctl {w W W' : World} {C B : List Nat} {v1 v2 u : Value} {c b : Nat} (h : HdW w W C B v1 v2) (hb : b = (v1.ownBlock).getD w.heap.size) (ho : Only [b, w.heap.size + 1] W W') (hx : Blk W' (w.heap.size + 1) 87 #[u, v2, .int .i64 0, .int .i64 0])
    (hg : GrF 31 (w.heap.size + 2) 6 (C.length + 1) (ctlR C ++ (ctlX c).toList) W b (v1.ownBlock = none) u W') : HdW w W' (C ++ [c]) B u v2 := by
  have hs := h.sz
  refine ⟨hx, ?_, by rw [ctlR_snoc, List.length_append]; exact hg.1, ?_, ?_⟩
  · rcases hv : v1.ownBlock with _ | k
    · rw [hv] at hb
      obtain rfl : b = w.heap.size := hb
      exact (hg.2.2 hv).trans h.res
    · rw [hv] at hb
      obtain rfl : b = k := hb
      have := own_ge h.o1 _ hv
      exact (ho.block _ (by omega) (by simp; omega)).trans h.res
  · refine own_same h.o2 (fun k hk => ?_)
    have h2 := World.ownsRow.lt h.o2 k hk
    refine ho.block k h2.2 ?_
    simp only [List.mem_cons, List.not_mem_nil, or_false, not_or]
    refine ⟨fun e => ?_, by omega⟩
    rcases hv : v1.ownBlock with _ | j
    · rw [hv] at hb
      have hb : b = w.heap.size := hb
      omega
    · rw [hv] at hb
      have hb : b = j := hb
      rcases own_apart h.o2 h.o1 (by decide) with h3 | h3
      · rw [h3] at hk; cases hk
      · exact h3 (by rw [hk, hv, ← hb, e])
  · refine ho.next (Below.refl _ _) |>.below (Nat.le_trans (by omega) hs) (fun k hk => ?_) |> fun q => ⟨q.os.trans h.bel.os, q.tape.trans h.bel.tape, q.output.trans h.bel.output, Nat.le_trans h.bel.size q.size, fun k hk => (q.block k hk).trans (h.bel.block k hk)⟩
    simp only [List.mem_cons, List.not_mem_nil, or_false] at hk
    rcases hk with rfl | rfl
    · rcases hv : v1.ownBlock with _ | j
      · rw [hv] at hb
        have hb : k = w.heap.size := hb
        omega
      · rw [hv] at hb
        have hb : k = j := hb
        have := own_ge h.o1 _ hv
        omega
    · omega
/-- A byte more. -/
theorem HdW.byte {w W W' : World} {C B : List Nat} {v1 v2 u : Value} {d : Nat} (h : HdW w W C B v1 v2) (ho : W'.ownsRow (w.heap.size + 2) 5 1 u (B.length + 1) (u8s B ++ u8s [d])) (hg : W.grownBy W' v2.ownBlock) : HdW w (W'.setCell ⟨w.heap.size + 1, 1, none⟩ u) C (B ++ [d]) v1 u := by
  have hs := h.sz
  have hne : ∀ k, k < w.heap.size + 2 → some k ≠ v2.ownBlock := fun k hk e => by have := own_ge h.o2 k e.symm; omega
  have hb1 : Blk W' (w.heap.size + 1) 87 #[v1, v2, .int .i64 0, .int .i64 0] := (hg.block _ (by omega) (hne _ (by omega))).trans h.box
  have hb2 : Blk W' w.heap.size 87 hdZ := (hg.block _ (by omega) (hne _ (by omega))).trans h.res
  have hs1 := Blk.set_ hb1 1 u
  refine ⟨?_, hb2.far (by simp) u, ?_, ?_, ?_⟩
  · simpa using hs1
  · exact World.ownsRow.kept (World.ownsRow.kept h.o1 hg (own_apart h.o1 h.o2 (by decide))) (gb_set _ 1 u) (.inr (fun e => by have := own_ge h.o1 _ e; omega))
  · rw [u8s_snoc, List.length_append]
    refine World.ownsRow.kept ho (gb_set _ 1 u) (.inr (fun e => ?_))
    have := own_ge ho _ e
    omega
  · exact below_gb (below_row h.bel hg (fun k e => by have := own_ge h.o2 k e; omega) h.bel.size) (gb_set _ 1 u) (by omega) (Nat.le_trans h.bel.size hg.size)
end Go.Proofs.YtpiliicphoacfaaDoor

namespace Go.Proofs.YtpiliicphoacfaaDoor

open Go Go.RowKit

theorem hdrL_cons (last : Nat) (s : List Nat) (k : Nat) (h : k < s.length) (C B : List Nat) : hdrL last (s.drop k) k C B =
    if brkB s[k] = true then ⟨C, B, k, 2⟩
    else if s[k] < 32 then hdrL last (s.drop (k + 1)) (k + 1) (C ++ [s[k]]) B
    else if s[k] % 128 = 127 then hdrL last (s.drop (k + 1)) (k + 1) C B
    else if last ≤ s[k] % 128 then ⟨C, B ++ [s[k] % 128], k + 1, 1⟩
    else hdrL last (s.drop (k + 1)) (k + 1) C (B ++ [s[k] % 128]) := by
  rw [List.drop_eq_getElem_cons h]
  rfl
set_option maxRecDepth 100000 in
set_option maxHeartbeats 16000000 in
theorem header_any (A : Option Addr) (cap : Nat) (s : List Nat) (hl : s.length ≤ 1000000) (hn : ∀ x ∈ s, x < 256) (k0 : Nat) (hk0 : k0 ≤ s.length) (last : Nat) (w : World) (hr : RByt w A s) :
    Calls Tryd.prog 51 #[.slice A s.length cap, .int .i64 k0, .int .u8 last] w (fun e w' => HdQ w w' (hdrL last (s.drop k0) k0 [] []) e) := by
  have hw0 : Below w.heap.size w ((w.alloc (.cells hdZ 87)).alloc (.cells hdZ 87)) := ((Below.refl _ w).alloc (Nat.le_refl _) _).alloc (by simp) _
  have b2 := (Blk.new w 87 hdZ).alloc (.cells hdZ 87)
  have b3 := Blk.new (w.alloc (.cells hdZ 87)) 87 hdZ
  rw [World.size_alloc] at b3
  have HW0 : Hid (HdW w ((w.alloc (.cells hdZ 87)).alloc (.cells hdZ 87)) [] [] (.slice none 0 0) (.slice none 0 0)) := Lib.hid ⟨b3, b2, World.ownsRow_nil _ _ _ _, World.ownsRow_nil _ _ _ _, hw0⟩
  have HR := Lib.hid hr
  have HN := Lib.hid hn
  have HBk := Lib.hid (fun c W => breaks_any c W)
  have HCt := Lib.hid (fun c W => refctrl_any c W)
  obtain ⟨i0, hi0, hi1, hi2, hi3⟩ := info_rtk
  have HI := Lib.hid (And.intro hi0 (And.intro hi1 (And.intro hi2 hi3)))
  obtain ⟨i1, hj0, hj1, hj2, hj3⟩ := info_u8
  have HJ := Lib.hid (And.intro hj0 (And.intro hj1 (And.intro hj2 hj3)))
  clear hw0 b2 b3 hr hn hi0 hi1 hi2 hi3 hj0 hj1 hj2 hj3
  unfold hdZ at HW0
  obtain ⟨T0, hT0⟩ : ∃ T0, T0 = hdrL last (s.drop k0) k0 [] [] := ⟨_, rfl⟩
  rw [← hT0]
  have HT0 := Lib.hid hT0
  clear hT0
  go_enter Tryd.func51, Tryd.ntmps51
  go_upto_region 2 with fail
  generalize (w.alloc (.cells #[.slice none 0 0, .slice none 0 0, .int .i64 0, .int .i64 0] 87)).alloc (.cells #[.slice none 0 0, .slice none 0 0, .int .i64 0, .int .i64 0] 87) = w1 at *
  go_upto_region 3 with fail
  go_loopw [8] (fun j wr => ∃ (k : Nat) (C B : List Nat) (v1 v2 : Value), k ≤ s.length ∧ j = .int .i64 k ∧ HdW w wr C B v1 v2 ∧ C.length ≤ k ∧ B.length ≤ k ∧ hdrL last (s.drop k) k C B = T0) (fun j _ => s.length - (intOf j).toNat)
  case atStart => exact ⟨k0, [], [], _, _, hk0, rfl, HW0.out, by simp, by simp, HT0.out.symm⟩
  case round =>
    obtain ⟨k, C, B, v1, v2, hk, rfl, hw, hC, hB, hT⟩ := hrel
    have HW := Lib.hid hw
    have HT := Lib.hid hT
    clear hw hT HW0 HT0
    obtain ⟨A1, c1, rfl⟩ := own_formS HW.out.o1
    obtain ⟨A2, c2, rfl⟩ := own_formS HW.out.o2
    by_cases hlt : k < s.length
    · have hwk : IntKind.i64.wrap ((k : Int) + 1) = (k : Int) + 1 := IntWalk.i64_in _ (by omega)
      have k0 : (0 : Int) ≤ (k : Int) := by omega
      have k1 : ((k : Int) < (s.length : Int)) = True := eq_true (by omega)
      obtain ⟨ad, rfl, hcl, hc⟩ := RByt.at_ (HR.out.next HW.out.bel) hlt
      have HTc := Lib.hid (hdrL_cons last s k hlt C B)
      rw [HT.out] at HTc
      have hc256 := HN.out s[k] (List.getElem_mem hlt)
      generalize s[k] = c at *
      --#1
      go_wp2_with fail
      refine (HBk.out c _).mono ?_
      rintro e wx ⟨rfl, rfl⟩
      by_cases hbk : brkB c = true
      · rw [hbk]
        have HT2 : Hid (T0 = ⟨C, B, k, 2⟩) := Lib.hid (by rw [HTc.out, if_pos hbk])
        have q := hd4 HW.out.box
        obtain ⟨q0, q1, q2, q3, f0, f1, f2, f3⟩ := q
        have HX : Hid (Blk ((wr.setCell ⟨w.heap.size + 1, 2, none⟩ (.int .i64 (k : Int))).setCell ⟨w.heap.size + 1, 3, none⟩ (.int .i64 2)) (w.heap.size + 1) 87 #[.slice A1 C.length c1, .slice A2 B.length c2, .int .i64 (k : Int), .int .i64 2]) := Lib.hid (by
          have := Blk.set_ (Blk.set_ HW.out.box 2 (.int .i64 (k : Int))) 3 (.int .i64 2)
          simpa using this)
        have HG := Lib.hid (gb_trans (gb_set (w := wr) (w.heap.size + 1) 2 (.int .i64 (k : Int))) (gb_set (w := wr.setCell ⟨w.heap.size + 1, 2, none⟩ (.int .i64 (k : Int))) (w.heap.size + 1) 3 (.int .i64 2)) (.inr (.inl rfl)))
        clear HTc hbk HBk HCt
        --#2
        go_upto_region 9 with fail
        clear q0 q1 q2 q3 f0 f1 f2 f3 hc
        generalize (wr.setCell ⟨w.heap.size + 1, 2, none⟩ (.int .i64 (k : Int))).setCell ⟨w.heap.size + 1, 3, none⟩ (.int .i64 2) = w2 at *
        have HRs : Hid (Blk w2 w.heap.size 87 hdZ) := Lib.hid ((HG.out.block _ HW.out.res.lt (by simp)).trans HW.out.res)
        have HO1 := Lib.hid (World.ownsRow.kept HW.out.o1 HG.out (.inr (fun e => by have := own_ge HW.out.o1 _ e; omega)))
        have HO2 := Lib.hid (World.ownsRow.kept HW.out.o2 HG.out (.inr (fun e => by have := own_ge HW.out.o2 _ e; omega)))
        have HBl := Lib.hid (below_gb HW.out.bel HG.out (by omega) HW.out.bel.size)
        go_wp2_with (first
          | (refine wpList_load_row rfl _ _ rfl (w.heap.size + 1) rfl _ _ (0, 0) _ HX.out hdU rfl hdS4 ?_)
          | (refine wpList_store_row rfl _ _ _ rfl w.heap.size #[.slice A1 C.length c1, .slice A2 B.length c2, .int .i64 (k : Int), .int .i64 2] rfl rfl _ _ HRs.out hdS4 rfl (by simp [Value.oneCell']) ?_))
        (try simp only [Exit.inBlock, Exit.then])
        refine bodyPost_ret (results_cell_row rfl _ _ w.heap.size 87 _ (0, 0) _ rfl (setRow_heap w2 _ _ _ _ _ HRs.out) hdU rfl hdS4) rfl ?_
        rw [HT2.out]
        exact HdQ.of HO1.out HO2.out HBl.out _ _ rfl
      · obtain hbf : brkB c = false := by simpa using hbk
        rw [hbf]
        rw [hbf] at HTc
        clear hbk HBk hbf
        by_cases h32 : c < 32
        · have l1 : ((c : Int) < 32) = True := eq_true (by omega)
          have HT2 : Hid (hdrL last (s.drop (k + 1)) (k + 1) (C ++ [c]) B = T0) := Lib.hid (by rw [HTc.out, if_neg (by simp), if_pos h32])
          clear HTc
          --#3
          go_upto_region 11 with fail
          clear hc
          have HCc := Lib.hid (HCt.out c)
          unfold ctlX at HCc
          obtain ⟨b, hbv⟩ : ∃ b, b = ((Value.slice A1 C.length c1).ownBlock).getD w.heap.size := ⟨_, rfl⟩
          have hsz := HW.out.sz
          have hbl : b < wr.heap.size := by
            rcases hv : (Value.slice A1 C.length c1).ownBlock with _ | j
            · rw [hv] at hbv
              have hbv : b = w.heap.size := hbv
              omega
            · rw [hv] at hbv
              have hbv : b = j := hbv
              have := (World.ownsRow.lt HW.out.o1 _ hv).2
              omega
          have hbn : b ≠ w.heap.size + 1 := by
            rcases hv : (Value.slice A1 C.length c1).ownBlock with _ | j
            · rw [hv] at hbv
              have hbv : b = w.heap.size := hbv
              omega
            · rw [hv] at hbv
              have hbv : b = j := hbv
              have := own_ge HW.out.o1 _ hv
              omega
          have hbw : (Value.slice A1 C.length c1).ownBlock = none ∨ (Value.slice A1 C.length c1).ownBlock = some b := by
            rcases hv : (Value.slice A1 C.length c1).ownBlock with _ | j
            · exact .inl rfl
            · rw [hv] at hbv
              right; rw [hbv]; rfl
          have HBv := Lib.hid hbv; have HBw := Lib.hid hbw
          clear hbv hbw
          refine wp_region_mix_lit (by kernel_rfl) [(3, .call (.agg #[.int .i64 2, .int .u8 (c : Int), .int .u8 0, .slice none 0 0, .string ⟨#[]⟩, .slice none 0 0])), (4, .letter RowP (RowF 31 wr.heap.size (ctlX c))), (5, .grow b (LstP (C.length + 1)) (GrF 31 (w.heap.size + 2) 6 (C.length + 1) (ctlR C ++ (ctlX c).toList) wr b ((Value.slice A1 C.length c1).ownBlock = none))), (7, .store (w.heap.size + 1) 87 #[.slice A1 C.length c1, .slice A2 B.length c2, .int .i64 0, .int .i64 0] (fun β => #[β 5, .slice A2 B.length c2, .int .i64 0, .int .i64 0]))] (by kernel_rfl) (by kernel_rfl) (by kernel_rfl) (by rfl) (by simp [apartK] <;> omega) (by simp only [List.forall_mem_cons, startK]; exact ⟨trivial, trivial, hbl, HW.out.box, by simp⟩) (by simp only [List.forall_mem_cons, stabK]; exact ⟨trivial, rowF_stab _ _ _ _ rfl, grF_stab _ _ _ _ _ _ _ _ _ rfl, trivial, by simp⟩) (⟨fun i => if i = 4 then .slice (some ⟨0, 0, none⟩) 1 1 else .slice none (C.length + 1) 0, by simp only [List.forall_mem_cons, okK]; exact ⟨trivial, ⟨0, rfl⟩, ⟨none, 0, rfl⟩, trivial, by simp⟩⟩) (fun β hβ => ?_)
          obtain ⟨g4, e4⟩ := (hβ 4 : RowP (β 4))
          obtain ⟨A5, c5, e5⟩ := (hβ 5 : LstP (C.length + 1) (β 5))
          --#4
          repeat (
            refine lex_val (v := ?_) rfl rfl (fun w' hf => ?_) ?_
            rotate_left
            · obtain ⟨a0, a1, a2, a3, _⟩ := hd4 (hf.old 7 _ _ _ _ rfl (by kernel_rfl)); go_simp
              try rfl
            try simp only [Act.put, List.setIfInBounds_toArray, List.set_cons_zero, List.set_cons_succ])
          --#5
          refine lex_call (f := 34) (args := ?_) rfl rfl (fun w' hf => ?_) (fun w' hf => ?_) ?_
          rotate_left
          · go_simp
            try rfl
          · exact HCc.out w'
          try simp only [Act.put, List.setIfInBounds_toArray, List.set_cons_zero, List.set_cons_succ]
          --#6
          refine lex_made rfl rfl (fun w' hf => ⟨.slice (some ⟨w'.heap.size, 0, none⟩) 1 1, w'.alloc (.cells (ctlX c) 31), ?_, ⟨_, rfl⟩, ⟨_, rfl, hf.only.size, Blk.new _ _ _⟩, (Below.refl _ _).alloc (Nat.le_refl _) _⟩) ?_
          · unfold ctlX; go_simp
          try simp only [Act.put, List.setIfInBounds_toArray, List.set_cons_zero, List.set_cons_succ]
          --#7
          refine lex_grow (b := b) rfl rfl (fun w' hf => ?_) ?_
          · obtain ⟨g4', e4', _, hb4⟩ := (hf.got 4 _ _ rfl (by kernel_rfl) : RowF 31 wr.heap.size (ctlX c) (β 4) w')
            rw [e4] at e4'
            simp only [Value.slice.injEq, Option.some.injEq, Addr.mk.injEq, and_true] at e4'
            subst e4'
            have hgr := hf.grew 5 b _ _ rfl (.inl rfl)
            have hown : w'.ownsRow (w.heap.size + 2) 31 6 (.slice A1 C.length c1) C.length (ctlR C) := own_same HW.out.o1 (fun j hj => by
              rcases HBw.out with h | h
              · rw [h] at hj; cases hj
              · rw [h] at hj; injection hj with hj; subst hj; exact hgr)
            obtain ⟨v', w3, hrun, hown3, hgr3, hwh⟩ := run_append_any (P := Tryd.prog) w' (w.heap.size + 2) 22 22 31 i0 _ 6 i0.bytes Tryd.underlying22 HI.out.1 HI.out.2.1 HI.out.2.2.1 rfl rfl (by decide) (.slice A1 C.length c1) C.length (ctlR C) hown w'.heap.size (some ⟨g4, 0, none⟩) 1 1 (ctlX c).toList ⟨rfl, fun _ => ⟨_, rfl, hb4.lt, fun j u hu => by rw [add_here, hb4.cell j, ← Array.getElem?_toList]; exact hu⟩⟩ (ctlX_one c) (by unfold maxLen; omega) (Nat.le_trans (Nat.mul_le_mul (show C.length + 1 ≤ 1000001 by omega) HI.out.2.2.2) (by decide)) (Nat.le_trans hsz hf.only.size)
            refine ⟨v', w3, exec_append (.tmp 30) (.tmp 33) 22 rfl rfl e4 hrun, own_formS hown3, ⟨hown3, fun j hj => ?_, fun hz => ?_⟩, gb_weak b hgr3 HBw.out⟩
            · rcases hwh with h | h
              · rw [h] at hj
                rcases HBw.out with h2 | h2
                · rw [h2] at hj; cases hj
                · rw [h2] at hj; injection hj with hj; exact .inl hj.symm
              · rw [h] at hj; injection hj with hj; have := hf.only.size; exact .inr (by omega)
            · rw [hz] at hgr3
              exact (hgr3.block b (Nat.lt_of_lt_of_le hbl hf.only.size) (by simp)).trans hgr
          try simp only [Act.put, List.setIfInBounds_toArray, List.set_cons_zero, List.set_cons_succ]
          --#8
          repeat (
            refine lex_val (v := ?_) rfl rfl (fun w' hf => ?_) ?_
            rotate_left
            · go_simp
              try rfl
            try simp only [Act.put, List.setIfInBounds_toArray, List.set_cons_zero, List.set_cons_succ])
          refine lex_store rfl rfl (fun w' hf hB => ⟨_, ?_, (Repl.set hB 0 (.slice A5 (C.length + 1) c5)).as (by simp [e5])⟩) ?_
          · obtain ⟨z0, z1, z2, z3, f0, f1, f2, f3⟩ := hd4 hB
            rw [e5]
            go_simp
          try simp only [Act.put]
          --#9
          refine lex_nil fun w3 he => ?_
          have ho : Only [b, w.heap.size + 1] wr w3 := he.only
          have HWn : Hid (HdW w w3 (C ++ [c]) B (.slice A5 (C.length + 1) c5) (.slice A2 B.length c2)) := Lib.hid (by
            have h7 : Blk w3 (w.heap.size + 1) 87 #[β 5, .slice A2 B.length c2, .int .i64 0, .int .i64 0] := he.facts 7
            have h5 := (he.facts 5).2
            rw [e5] at h7 h5
            exact HW.out.ctl HBv.out ho h7 h5)
          clear he ho hβ e4 e5 HBv HBw hbl hbn hsz HW
          (try simp only [Exit.then])
          go_wp2_with fail
          go_roundw
          case rel => exact ⟨k + 1, C ++ [c], B, _, _, by omega, by go_num, HWn.out, by simp; omega, by omega, HT2.out⟩
          case measure => simp [intOf]; omega
        · have l1 : ((c : Int) < 32) = False := eq_false (by omega)
          have HTd : Hid (T0 = if c % 128 = 127 then hdrL last (s.drop (k + 1)) (k + 1) C B else if last ≤ c % 128 then ⟨C, B ++ [c % 128], k + 1, 1⟩ else hdrL last (s.drop (k + 1)) (k + 1) C (B ++ [c % 128])) := Lib.hid (by rw [HTc.out, if_neg (by simp), if_neg h32])
          clear HTc HCt
          have hrem : Int.tmod (c : Int) 128 = ((c % 128 : Nat) : Int) := by rw [Int.tmod_eq_emod_of_nonneg (by omega)]; omega
          have hd128 : c % 128 < 128 := Nat.mod_lt _ (by decide)
          generalize c % 128 = d at *
          by_cases h127 : d = 127
          · have l2 : ((d : Int) == 127) = true := by simp; omega
            have HT2 : Hid (hdrL last (s.drop (k + 1)) (k + 1) C B = T0) := Lib.hid (by rw [HTd.out, if_pos h127])
            clear HTd
            --#10
            go_wp2_with fail
            go_roundw
            case rel => exact ⟨k + 1, C, B, _, _, by omega, by go_num, HW.out, by omega, by omega, HT2.out⟩
            case measure => simp [intOf]; omega
          · have l2 : ((d : Int) == 127) = false := by simp; omega
            obtain ⟨q0, q1, q2, q3, f0, f1, f2, f3⟩ := hd4 HW.out.box
            have hal : Below wr.heap.size wr (wr.alloc (.cells #[.int .u8 (d : Int)] 5)) := (Below.refl _ _).alloc (Nat.le_refl _) _
            have HW2 := Lib.hid (HW.out.next hal)
            have HRd := Lib.hid (row_reads wr 5 (u8s [d]) 1 1 rfl)
            have HBy : Hid ((B.length + 1) * 1 ≤ 140737488355328) := Lib.hid (by omega)
            have HMx : Hid (B.length + 1 ≤ maxLen) := Lib.hid (by unfold maxLen; omega)
            have HBz : Hid (w.heap.size + 2 ≤ (wr.alloc (.cells #[.int .u8 (d : Int)] 5)).heap.size) := Lib.hid HW2.out.sz
            have HD2 : Hid (∀ w6, (wr.alloc (.cells #[.int .u8 (d : Int)] 5)).grownBy w6 (Value.slice A2 B.length c2).ownBlock → Blk w6 (w.heap.size + 1) 87 #[.slice A1 C.length c1, .slice A2 B.length c2, .int .i64 0, .int .i64 0]) := Lib.hid (fun w6 hg => (hg.block _ HW2.out.box.lt (fun e => by have := own_ge HW2.out.o2 _ e.symm; omega)).trans HW2.out.box)
            clear hal hc
            --#11
            go_upto_region 15 with (at_builtin; refine wpList_append_any _ rfl _ _ 24 rfl (w.heap.size + 2) 5 i1 _ 1 1 Tryd.underlying24 HJ.out.1 HJ.out.2.1 HJ.out.2.2.1 HJ.out.2.2.2 rfl (by decide) _ B.length _ rfl HW2.out.o2 _ (some ⟨wr.heap.size, 0, none⟩) 1 1 _ rfl HRd.out (u8s_one _) HMx.out HBy.out HBz.out ?_; intro v6 w6 hown6 hg6 _; obtain ⟨A6, c6, rfl⟩ := own_formS hown6; obtain ⟨y0, y1, y2, y3, g0, g1, g2, g3⟩ := hd4 (HD2.out w6 hg6); have HO6 := Lib.hid hown6; have HG6 := Lib.hid hg6; clear hown6 hg6 q0 q1 q2 q3 f0 f1 f2 f3)
            have HW6 := Lib.hid (HW2.out.byte HO6.out HG6.out)
            clear y0 y1 y2 y3 g0 g1 g2 g3 HO6 HG6 HD2 HW2 HW HRd HBz
            generalize w6.setCell ⟨w.heap.size + 1, 1, none⟩ (.slice A6 (B.length + 1) c6) = w7 at *
            by_cases hla : last ≤ d
            · have l3 : ((last : Int) ≤ (d : Int)) = True := eq_true (by omega)
              have HT2 : Hid (T0 = ⟨C, B ++ [d], k + 1, 1⟩) := Lib.hid (by rw [HTd.out, if_neg h127, if_pos hla])
              obtain ⟨q0, q1, q2, q3, f0, f1, f2, f3⟩ := hd4 HW6.out.box
              have HX : Hid (Blk ((w7.setCell ⟨w.heap.size + 1, 2, none⟩ (.int .i64 ((k : Int) + 1))).setCell ⟨w.heap.size + 1, 3, none⟩ (.int .i64 1)) (w.heap.size + 1) 87 #[.slice A1 C.length c1, .slice A6 (B.length + 1) c6, .int .i64 ((k : Int) + 1), .int .i64 1]) := Lib.hid (by
                have := Blk.set_ (Blk.set_ HW6.out.box 2 (.int .i64 ((k : Int) + 1))) 3 (.int .i64 1)
                simpa using this)
              have HG := Lib.hid (gb_trans (gb_set (w := w7) (w.heap.size + 1) 2 (.int .i64 ((k : Int) + 1))) (gb_set (w := w7.setCell ⟨w.heap.size + 1, 2, none⟩ (.int .i64 ((k : Int) + 1))) (w.heap.size + 1) 3 (.int .i64 1)) (.inr (.inl rfl)))
              clear HTd
              --#12
              go_upto_region 18 with fail
              clear q0 q1 q2 q3 f0 f1 f2 f3
              generalize (w7.setCell ⟨w.heap.size + 1, 2, none⟩ (.int .i64 ((k : Int) + 1))).setCell ⟨w.heap.size + 1, 3, none⟩ (.int .i64 1) = w2 at *
              have HRs : Hid (Blk w2 w.heap.size 87 hdZ) := Lib.hid ((HG.out.block _ HW6.out.res.lt (by simp)).trans HW6.out.res)
              have HO1 := Lib.hid (World.ownsRow.kept HW6.out.o1 HG.out (.inr (fun e => by have := own_ge HW6.out.o1 _ e; omega)))
              have HO2 := Lib.hid (World.ownsRow.kept HW6.out.o2 HG.out (.inr (fun e => by have := own_ge HW6.out.o2 _ e; omega)))
              have HBl := Lib.hid (below_gb HW6.out.bel HG.out (by omega) HW6.out.bel.size)
              go_wp2_with (first
                | (refine wpList_load_row rfl _ _ rfl (w.heap.size + 1) rfl _ _ (0, 0) _ HX.out hdU rfl hdS4 ?_)
                | (refine wpList_store_row rfl _ _ _ rfl w.heap.size #[.slice A1 C.length c1, .slice A6 (B.length + 1) c6, .int .i64 ((k : Int) + 1), .int .i64 1] rfl rfl _ _ HRs.out hdS4 rfl (by simp [Value.oneCell']) ?_))
              (try simp only [Exit.inBlock, Exit.then])
              refine bodyPost_ret (results_cell_row rfl _ _ w.heap.size 87 _ (0, 0) _ rfl (setRow_heap w2 _ _ _ _ _ HRs.out) hdU rfl hdS4) rfl ?_
              rw [HT2.out]
              exact HdQ.of HO1.out HO2.out HBl.out _ _ rfl
            · have l3 : ((last : Int) ≤ (d : Int)) = False := eq_false (by omega)
              have HT2 : Hid (hdrL last (s.drop (k + 1)) (k + 1) C (B ++ [d]) = T0) := Lib.hid (by rw [HTd.out, if_neg h127, if_neg hla])
              clear HTd
              --#13
              go_wp2_with fail
              go_roundw
              case rel => exact ⟨k + 1, C, B ++ [d], _, _, by omega, by go_num, HW6.out, by omega, by simp; omega, HT2.out⟩
              case measure => simp [intOf]; omega
    · obtain rfl : k = s.length := by omega
      have k1 : ((s.length : Int) < (s.length : Int)) = False := eq_false (by omega)
      have HT2 : Hid (T0 = ⟨C, B, 0, 0⟩) := Lib.hid (by rw [← HT.out, List.drop_length]; rfl)
      --#14
      go_wp2_with (first
        | (refine wpList_load_row rfl _ _ rfl (w.heap.size + 1) rfl _ _ (0, 0) _ HW.out.box hdU rfl hdS4 ?_)
        | (refine wpList_store_row rfl _ _ _ rfl w.heap.size #[.slice A1 C.length c1, .slice A2 B.length c2, .int .i64 0, .int .i64 0] rfl rfl _ _ HW.out.res hdS4 rfl (by simp [Value.oneCell']) ?_))
      (try simp only [Exit.inBlock, Exit.then])
      refine bodyPost_ret (results_cell_row rfl _ _ w.heap.size 87 _ (0, 0) _ rfl (setRow_heap wr _ _ _ _ _ HW.out.res) hdU rfl hdS4) rfl ?_
      rw [HT2.out]
      exact HdQ.of HW.out.o1 HW.out.o2 HW.out.bel _ _ rfl
end Go.Proofs.YtpiliicphoacfaaDoor
