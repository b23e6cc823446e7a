/-
  The reference's string: plain facts.
  The reference's string: the walk.
-/
import Derived.Test.YtpiliicphoacfaaDoorPrfD
import Derived.Test.YtpiliicphoacfaaDoorTokQ
namespace Go.Proofs.YtpiliicphoacfaaDoor

open Go Go.RowKit
set_option maxRecDepth 100000

/-- How a string ends: its bytes, the place behind it (-1: it hasn't ended), what ended it: 0 nothing, 1 its end, 2 a byte that breaks. -/
structure St where
  D : List Nat
  nx : Int
  how : Nat
  br : Nat
def strL (osc : Bool) : List Nat → Nat → List Nat → St
  | [], _, D => ⟨D, -1, 0, 0⟩
  | c :: l, i, D =>
    if c = 27 then (match l with
      | [] => ⟨D, -1, 0, 0⟩
      | x :: _ => if x % 128 = 92 then ⟨D, ((i + 2 : Nat) : Int), 1, 0⟩ else ⟨D, (i : Int), 2, 27⟩)
    else if c = 7 ∧ osc = true then ⟨D, ((i + 1 : Nat) : Int), 1, 0⟩
    else if brkB c = true then ⟨D, (brkNx c i : Nat), 2, c⟩
    else strL osc l (i + 1) (if dataB c = true then D ++ [c] else D)
theorem strL_end (osc : Bool) (s : List Nat) (k : Nat) (h : k + 1 = s.length) (h27 : s[k] = 27) (D : List Nat) : strL osc (s.drop k) k D = ⟨D, -1, 0, 0⟩ := by
  have hd : s.drop (k + 1) = [] := List.drop_of_length_le (by omega)
  rw [List.drop_eq_getElem_cons (by omega), hd, h27]
  rfl
theorem strL_esc (osc : Bool) (s : List Nat) (k : Nat) (h : k + 1 < s.length) (h27 : s[k] = 27) (D : List Nat) : strL osc (s.drop k) k D = if s[k + 1] % 128 = 92 then ⟨D, ((k + 2 : Nat) : Int), 1, 0⟩ else ⟨D, (k : Int), 2, 27⟩ := by
  rw [List.drop_eq_getElem_cons (by omega), List.drop_eq_getElem_cons h, h27]
  rfl
theorem strL_cons (osc : Bool) (s : List Nat) (k : Nat) (h : k < s.length) (h27 : s[k] ≠ 27) (D : List Nat) : strL osc (s.drop k) k D =
    if s[k] = 7 ∧ osc = true then ⟨D, ((k + 1 : Nat) : Int), 1, 0⟩
    else if brkB s[k] = true then ⟨D, (brkNx s[k] k : Nat), 2, s[k]⟩
    else strL osc (s.drop (k + 1)) (k + 1) (if dataB s[k] = true then D ++ [s[k]] else D) := by
  rw [List.drop_eq_getElem_cons h]
  show (if s[k] = 27 then _ else _) = _
  rw [if_neg h27]
/-- What it is, with what was said ahead of it. -/
def strT (t : Tok) (good : Bool) (r : St) (C : List Nat) : List Tok :=
  if r.how = 1 then C.map ctlT ++ (if (good && decide (r.D.length ≤ 4096)) = true then [{t with dt := r.D}] else []) else (if r.how = 2 then brkC r.br C else C).map ctlT
/-- A list of the reference's tokens, it and they of memory of their own. -/
def OTr (w : World) (base : Nat) (v : Value) (ts : List Tok) : Prop := ∃ xs : List (Array Value), w.ownsRow base 31 6 v ts.length (xs.flatMap Array.toList) ∧ OTl w base xs ts
theorem OTr.ctl {w : World} {base : Nat} {v : Value} {C : List Nat} (h : w.ownsRow base 31 6 v C.length (ctlR C)) : OTr w base v (C.map ctlT) :=
  ⟨C.map ctlX, by rw [List.length_map]; exact h, ctl_own w base C⟩
theorem own_ty {w : World} {b n sz g : Nat} {T U : TypeId} {v : Value} {xs : List Value} {cs : Array Value} (h : w.ownsRow b T sz v n xs) (hb : Blk w g U cs) (hT : T ≠ U) : v.ownBlock ≠ some g := fun e => by
  rcases h.2 with ⟨rfl, _⟩ | ⟨g1, cap, cur, rfl, _, hg, _⟩
  · simp [Value.ownBlock] at e
  · obtain rfl : g1 = g := by simpa [Value.ownBlock] using e
    rw [show w.heap[g1]? = some (.cells cs U (0, 0)) from hb] at hg
    injection hg with hg
    injection hg with _ hg _
    exact hT hg.symm
structure StQ (w w' : World) (base : Nat) (v : Value) (ts : List Tok) (nx : Int) (e : Ending) : Prop where
  out : ∃ v', e = .returned (.agg #[v', .int .i64 nx]) ∧ OTr w' base v' ts
  gro : w.grownBy w' v.ownBlock
def ptZ : Array Value := #[.slice none 0 0, .int .i64 0]
/-- What is known in the midst of a string. -/
structure StW (w W : World) (kd : Int) (cd mr : Nat) (p : Value) (it : ByteArray) (D : List Nat) (v5 : Value) : Prop where
  box : Blk W w.heap.size 31 #[.int .i64 kd, .int .u8 (cd : Int), .int .u8 (mr : Int), p, .string it, v5]
  res : Blk W (w.heap.size + 1) 69 ptZ
  o : W.ownsRow (w.heap.size + 2) 5 1 v5 D.length (u8s D)
  bel : Below w.heap.size w W
section

variable {w W W' : World} {kd : Int} {cd mr : Nat} {p : Value} {it : ByteArray} {D : List Nat} {v5 : Value}

theorem StW.sz (h : StW w W kd cd mr p it D v5) : w.heap.size + 2 ≤ W.heap.size := by have := h.res.lt; omega
theorem StW.next (h : StW w W kd cd mr p it D v5) (hb : Below W.heap.size W W') : StW w W' kd cd mr p it D v5 := ⟨h.box.next hb, h.res.next hb, own_more h.o hb, h.bel.trans (hb.mono h.bel.size)⟩
/-- A byte more. -/
theorem StW.byte {u : Value} {d : Nat} (h : StW w W kd cd mr p it D v5) (ho : W'.ownsRow (w.heap.size + 2) 5 1 u (D.length + 1) (u8s D ++ u8s [d])) (hg : W.grownBy W' v5.ownBlock) : StW w (W'.setCell ⟨w.heap.size, 5, none⟩ u) kd cd mr p it (D ++ [d]) u := by
  have hs := h.sz
  have hne : ∀ k, k < w.heap.size + 2 → some k ≠ v5.ownBlock := fun k hk e => by have := own_ge h.o k e.symm; omega
  have hb1 : Blk W' w.heap.size 31 #[.int .i64 kd, .int .u8 (cd : Int), .int .u8 (mr : Int), p, .string it, v5] := (hg.block _ (by omega) (hne _ (by omega))).trans h.box
  have hb2 : Blk W' (w.heap.size + 1) 69 ptZ := (hg.block _ (by omega) (hne _ (by omega))).trans h.res
  have hs1 := Blk.set_ hb1 5 u
  refine ⟨by simpa using hs1, hb2.far (by simp) u, ?_, ?_⟩
  · rw [u8s_snoc, List.length_append]
    exact World.ownsRow.kept ho (gb_set _ 5 u) (.inr (fun e => by have := own_ge ho _ e; omega))
  · exact below_gb (below_row h.bel hg (fun k e => by have := own_ge h.o k e; omega) h.bel.size) (gb_set _ 5 u) (by omega) (Nat.le_trans h.bel.size hg.size)
/-- The end, where nothing is said any more. -/
theorem StQ.plain {base : Nat} {v : Value} {C : List Nat} {nx : Int} {e : Ending} (h : StW w W kd cd mr p it D v5) (ho : w.ownsRow base 31 6 v C.length (ctlR C)) (X : Array Value) (he : e = .returned (.agg #[v, .int .i64 nx])) : StQ w (W.setRow (w.heap.size + 1) X) base v (C.map ctlT) nx e := by
  have h1 : W.ownsRow base 31 6 v C.length (ctlR C) := World.ownsRow.kept (row := none) ho (grown_below (h.bel)) (by rcases hk : v.ownBlock with _ | k; exact .inl rfl; exact .inr (by simp))
  exact ⟨⟨v, he, OTr.ctl (own_row h1 (fun e => by have := (World.ownsRow.lt ho _ e).2; omega))⟩, gb_row (gb_of h.bel (grown_refl _ _)) _ _ (by omega)⟩
theorem StW.resAt {base n : Nat} {ys : List Value} {v : Value} (h : StW w W kd cd mr p it D v5) (hov : w.ownsRow base 31 6 v n ys) (hg : W.grownBy W' v.ownBlock) : Blk W' (w.heap.size + 1) 69 ptZ :=
  (hg.block _ h.res.lt (fun e => by have := (World.ownsRow.lt hov _ e.symm).2; omega)).trans h.res
/-- The end behind a byte that breaks. -/
theorem StQ.brk {base n : Nat} {ys : List Value} {v : Value} {C : List Nat} {nx : Int} {e : Ending} {v' : Value} (h : StW w W kd cd mr p it D v5) (hg : W.grownBy W' v.ownBlock) (ho : W'.ownsRow base 31 6 v' C.length (ctlR C)) (hov : w.ownsRow base 31 6 v n ys) (X : Array Value) (he : e = .returned (.agg #[v', .int .i64 nx])) : StQ w (W'.setRow (w.heap.size + 1) X) base v (C.map ctlT) nx e :=
  ⟨⟨v', he, OTr.ctl (own_row ho (own_ty ho (h.resAt hov hg) (by decide)))⟩, gb_row (gb_of h.bel hg) _ _ (by omega)⟩
/-- The end with the token. -/
theorem StQ.tok {base : Nat} {v : Value} {C : List Nat} {nx : Int} {e : Ending} {v' : Value} {P : Option Addr} {pc : Nat} {ps : List Int} {A5 : Option Addr} {c5 : Nat} (h : StW w W kd cd mr (.slice P ps.length pc) it D (.slice A5 D.length c5)) (hbase : base ≤ w.heap.size) (hi : OInts w base (.slice P ps.length pc) ps)
    (hov : w.ownsRow base 31 6 v C.length (ctlR C)) (hg : W.grownBy W' v.ownBlock) (ho : W'.ownsRow base 31 6 v' (C.length + 1) (ctlR C ++ [.int .i64 kd, .int .u8 (cd : Int), .int .u8 (mr : Int), .slice P ps.length pc, .string it, .slice A5 D.length c5])) (X : Array Value) (he : e = .returned (.agg #[v', .int .i64 nx])) :
    StQ w (W'.setRow (w.heap.size + 1) X) base v (C.map ctlT ++ [⟨kd, cd, mr, ps, it, D⟩]) nx e := by
  have hgr : w.grownBy (W'.setRow (w.heap.size + 1) X) v.ownBlock := gb_row (gb_of h.bel hg) _ _ (by omega)
  refine ⟨⟨v', he, C.map ctlX ++ [#[.int .i64 kd, .int .u8 (cd : Int), .int .u8 (mr : Int), .slice P ps.length pc, .string it, .slice A5 D.length c5]], ?_, ?_⟩, hgr⟩
  · rw [List.length_append, List.length_map, List.flatMap_append, List.flatMap_singleton]
    exact own_row ho (own_ty ho (h.resAt hov hg) (by decide))
  · refine OTl.app (ctl_own _ _ C) ⟨⟨P, pc, A5, c5, rfl, ?_, ?_⟩, trivial⟩
    · exact World.ownsRow.kept (oints_own hi) hgr (own_apart (oints_own hi) hov (by decide))
    · have h1 := World.ownsRow.kept h.o hg (own_apart h.o (own_more hov h.bel) (by decide))
      exact own_base (own_row h1 (fun e => by have := own_ge h1 _ e; omega)) (by omega)
end

end Go.Proofs.YtpiliicphoacfaaDoor

namespace Go.Proofs.YtpiliicphoacfaaDoor

open Go Go.RowKit
set_option maxRecDepth 100000

set_option maxRecDepth 100000 in
set_option maxHeartbeats 16000000 in
theorem str_any (A : Option Addr) (cap : Nat) (s : List Nat) (hl : s.length ≤ 1000000) (hn : ∀ x ∈ s, x < 256) (j0 : Nat) (hj0 : j0 ≤ s.length) (kd : Int) (cd mr : Nat) (P : Option Addr) (ps : List Int) (pc : Nat) (it : ByteArray) (good : Bool) (base : Nat) (v : Value) (C : List Nat) (hC : C.length ≤ 1000000) (w : World) (hr : RByt w A s) (ho : w.ownsRow base 31 6 v C.length (ctlR C)) (hi : OInts w base (.slice P ps.length pc) ps) (hb : base ≤ w.heap.size) :
    Calls Tryd.prog 53 #[.slice A s.length cap, .int .i64 j0, .agg #[.int .i64 kd, .int .u8 (cd : Int), .int .u8 (mr : Int), .slice P ps.length pc, .string it, .slice none 0 0], .bool good, v] w (fun e w' => StQ w w' base v (strT ⟨kd, cd, mr, ps, it, []⟩ good (strL (kd == 6) (s.drop j0) j0 []) C) (strL (kd == 6) (s.drop j0) j0 []).nx e) := by
  obtain ⟨Av, cv, rfl⟩ := own_formS ho
  have hw0 : Below w.heap.size w ((w.alloc (.cells #[.int .i64 kd, .int .u8 (cd : Int), .int .u8 (mr : Int), .slice P ps.length pc, .string it, .slice none 0 0] 31)).alloc (.cells ptZ 69)) := ((Below.refl _ w).alloc (Nat.le_refl _) _).alloc (by simp) _
  have b2 := (Blk.new w 31 #[.int .i64 kd, .int .u8 (cd : Int), .int .u8 (mr : Int), .slice P ps.length pc, .string it, .slice none 0 0]).alloc (.cells ptZ 69)
  have b3 := Blk.new (w.alloc (.cells #[.int .i64 kd, .int .u8 (cd : Int), .int .u8 (mr : Int), .slice P ps.length pc, .string it, .slice none 0 0] 31)) 69 ptZ
  rw [World.size_alloc] at b3
  have HW0 : Hid (StW w ((w.alloc (.cells #[.int .i64 kd, .int .u8 (cd : Int), .int .u8 (mr : Int), .slice P ps.length pc, .string it, .slice none 0 0] 31)).alloc (.cells ptZ 69)) kd cd mr (.slice P ps.length pc) it [] (.slice none 0 0)) := Lib.hid ⟨b2, b3, World.ownsRow_nil _ _ _ _, hw0⟩
  have HR := Lib.hid hr; have HN := Lib.hid hn; have HO := Lib.hid ho; have HIn := Lib.hid hi; have HBs := Lib.hid hb
  have HBk := Lib.hid (fun c W => breaks_any c W)
  have HDt := Lib.hid (fun c W => refData_any c W)
  obtain ⟨i0, hi0, hi1, hi2, hi3⟩ := info_rtk
  have HI := Lib.hid (And.intro hi0 (And.intro hi1 (And.intro hi2 hi3)))
  obtain ⟨i1, hj0', hj1, hj2, hj3⟩ := info_u8
  have HJ := Lib.hid (And.intro hj0' (And.intro hj1 (And.intro hj2 hj3)))
  clear hw0 b2 b3 hr hn ho hi hb hi0 hi1 hi2 hi3 hj0' hj1 hj2 hj3
  unfold ptZ at HW0
  obtain ⟨T0, hT0⟩ : ∃ T0, T0 = strL (kd == 6) (s.drop j0) j0 [] := ⟨_, rfl⟩
  rw [← hT0]
  have HT0 := Lib.hid hT0
  clear hT0
  go_enter Tryd.func53, Tryd.ntmps53
  go_upto_region 1 with fail
  --#0
  generalize (w.alloc (.cells #[.int .i64 kd, .int .u8 (cd : Int), .int .u8 (mr : Int), .slice P ps.length pc, .string it, .slice none 0 0] 31)).alloc (.cells #[.slice none 0 0, .int .i64 0] 69) = w1 at *
  go_upto_region 2 with fail
  go_loopw [4, 11] (fun b4 j wr => b4 = .slice Av C.length cv ∧ ∃ (k : Nat) (D : List Nat) (v5 : Value), k ≤ s.length ∧ j = .int .i64 k ∧ StW w wr kd cd mr (.slice P ps.length pc) it D v5 ∧ D.length ≤ k ∧ strL (kd == 6) (s.drop k) k D = T0) (fun _ j _ => s.length - (intOf j).toNat)
  case atStart => exact ⟨rfl, j0, [], _, hj0, rfl, HW0.out, by simp, HT0.out.symm⟩
  case round =>
    obtain ⟨rfl, k, D, v5, hk, rfl, hw, hD, hT⟩ := hrel
    have HW := Lib.hid hw
    have HT := Lib.hid hT
    clear hw hT HW0 HT0
    obtain ⟨A5, c5, rfl⟩ := own_formS HW.out.o
    have HOw : Hid (wr.ownsRow base 31 6 (.slice Av C.length cv) C.length (ctlR C)) := Lib.hid (own_more HO.out HW.out.bel)
    by_cases hlt : k < s.length
    · have hwk : IntKind.i64.wrap ((k : Int) + 1) = (k : Int) + 1 := IntWalk.i64_in _ (by omega)
      have hwk2 : IntKind.i64.wrap ((k : Int) + 2) = (k : Int) + 2 := IntWalk.i64_in _ (by omega)
      have k0 : (0 : Int) ≤ (k : Int) := by omega
      have k1 : ((k : Int) < (s.length : Int)) = True := eq_true (by omega)
      obtain ⟨ad, ea, hcl, hc⟩ := RByt.at_ (HR.out.next HW.out.bel) hlt
      --#1
      by_cases h27 : s[k] = 27
      · by_cases hend : k + 1 = s.length
        · have HT2 := Lib.hid (HT.out.symm.trans (strL_end (kd == 6) s k hend h27 D))
          rw [h27] at hc
          have e1 : ((k : Int) + 1 == (s.length : Int)) = true := by simp; omega
          subst ea
          --#2
          go_wp2_with (refine wpList_store_row rfl _ _ _ rfl (w.heap.size + 1) #[.slice Av C.length cv, .int .i64 (-1)] rfl rfl _ _ HW.out.res ptS2 rfl (by simp [Value.oneCell']) ?_)
          (try simp only [Exit.inBlock, Exit.then])
          refine bodyPost_ret (results_cell_row rfl _ _ (w.heap.size + 1) 69 _ (0, 0) _ rfl (setRow_heap wr _ _ #[.slice Av C.length cv, .int .i64 (-1)] _ _ HW.out.res) ptU rfl ptS2) rfl ?_
          rw [HT2.out]
          exact StQ.plain HW.out HO.out _ rfl
        · have hlt2 : k + 1 < s.length := by omega
          have HT2 := Lib.hid (HT.out.symm.trans (strL_esc (kd == 6) s k hlt2 h27 D))
          obtain ⟨ad', ea', _, hc2⟩ := RByt.at_ (HR.out.next HW.out.bel) hlt2
          rw [ea] at ea'
          injection ea' with ea'
          subst ea'
          rw [show ad.add (k + 1) = ⟨ad.block, ad.off + (k + 1), none⟩ from if_neg (by omega)] at hc2
          have e1 : ((k : Int) + 1 == (s.length : Int)) = false := beq_eq_false_iff_ne.2 (by omega)
          have e2 : ((k : Int) + 1 < (s.length : Int)) = True := eq_true (by omega)
          have k3 : (0 : Int) ≤ (k : Int) + 1 := by omega
          have tn : ((k : Int) + 1).toNat = k + 1 := by omega
          have hrem : Int.tmod (s[k + 1] : Int) 128 = ((s[k + 1] % 128 : Nat) : Int) := by rw [Int.tmod_eq_emod_of_nonneg (by omega)]; omega
          rw [h27] at hc
          generalize s[k + 1] = x at *
          generalize x % 128 = d at *
          subst ea
          by_cases h92 : d = 92
          · have e3 : ((d : Int) == 92) = true := by simp; omega
            have HT3 : Hid (T0 = ⟨D, ((k + 2 : Nat) : Int), 1, 0⟩) := Lib.hid (by rw [HT2.out, if_pos h92])
            obtain ⟨z0, z1, z2, z3, z4, z5⟩ := six HW.out.box
            --#3
            rcases good with _ | _
            · have hst : ∀ nx, strT ⟨kd, cd, mr, ps, it, []⟩ false ⟨D, nx, 1, 0⟩ C = C.map ctlT := fun nx => by unfold strT; rw [if_pos rfl]; simp
              go_wp2_with (refine wpList_store_row rfl _ _ _ rfl (w.heap.size + 1) #[.slice Av C.length cv, .int .i64 ((k : Int) + 2)] rfl rfl _ _ HW.out.res ptS2 rfl (by simp [Value.oneCell']) ?_)
              (try simp only [Exit.inBlock, Exit.then])
              refine bodyPost_ret (results_cell_row rfl _ _ (w.heap.size + 1) 69 _ (0, 0) _ rfl (setRow_heap wr _ _ #[.slice Av C.length cv, .int .i64 ((k : Int) + 2)] _ _ HW.out.res) ptU rfl ptS2) rfl ?_
              rw [HT3.out, hst]
              exact StQ.plain HW.out HO.out _ rfl
            by_cases h4 : D.length ≤ 4096
            · have l4 : ((D.length : Int) ≤ 4096) = True := eq_true (by omega)
              have hst : ∀ nx, strT ⟨kd, cd, mr, ps, it, []⟩ true ⟨D, nx, 1, 0⟩ C = C.map ctlT ++ [⟨kd, cd, mr, ps, it, D⟩] := fun nx => by unfold strT; rw [if_pos rfl]; simp [h4]
              have HSt := Lib.hid hst
              have hal : Below wr.heap.size wr (wr.alloc (.cells #[.int .i64 kd, .int .u8 (cd : Int), .int .u8 (mr : Int), .slice P ps.length pc, .string it, .slice A5 D.length c5] 31)) := (Below.refl _ _).alloc (Nat.le_refl _) _
              have HW2 := Lib.hid (HW.out.next hal)
              have HO2 := Lib.hid (own_more HOw.out hal)
              have HRd := Lib.hid (row_reads wr 31 [.int .i64 kd, .int .u8 (cd : Int), .int .u8 (mr : Int), .slice P ps.length pc, .string it, .slice A5 D.length c5] 1 6 rfl)
              have HX1 : Hid (∀ u ∈ ([.int .i64 kd, .int .u8 (cd : Int), .int .u8 (mr : Int), .slice P ps.length pc, .string it, .slice A5 D.length c5] : List Value), u.oneCell' = true) := Lib.hid (by simp [Value.oneCell'])
              have HBy : Hid ((C.length + 1) * i0.bytes ≤ 140737488355328) := Lib.hid (Nat.le_trans (Nat.mul_le_mul (show C.length + 1 ≤ 1000001 by omega) HI.out.2.2.2) (by decide))
              have HMx : Hid (C.length + 1 ≤ maxLen) := Lib.hid (by unfold maxLen; omega)
              have HBz : Hid (base ≤ (wr.alloc (.cells #[.int .i64 kd, .int .u8 (cd : Int), .int .u8 (mr : Int), .slice P ps.length pc, .string it, .slice A5 D.length c5] 31)).heap.size) := Lib.hid (Nat.le_trans HBs.out HW2.out.bel.size)
              clear hst hal
              go_upto_region 10 with fail
              clear z0 z1 z2 z3 z4 z5
              go_wp2_with (first
                | (refine wpList_load_row rfl _ _ rfl w.heap.size rfl _ _ (0, 0) _ HW.out.box rtU rfl rtS6 ?_)
                | (at_builtin; refine wpList_append_any _ rfl _ _ 22 rfl base 31 i0 _ 6 i0.bytes Tryd.underlying22 HI.out.1 HI.out.2.1 HI.out.2.2.1 rfl rfl (by decide) _ C.length _ rfl HO2.out _ (some ⟨wr.heap.size, 0, none⟩) 1 1 _ rfl HRd.out HX1.out HMx.out HBy.out HBz.out ?_; intro v6 w6 hown6 hg6 _; obtain ⟨A6, c6, rfl⟩ := own_formS hown6; have HO6 := Lib.hid hown6; have HG6 := Lib.hid hg6; clear hown6 hg6)
                | (refine wpList_store_row rfl _ _ _ rfl (w.heap.size + 1) #[.slice A6 (C.length + 1) c6, .int .i64 ((k : Int) + 2)] rfl rfl _ _ (HW2.out.resAt HO.out HG6.out) ptS2 rfl (by simp [Value.oneCell']) ?_))
              (try simp only [Exit.inBlock, Exit.then])
              refine bodyPost_ret (results_cell_row rfl _ _ (w.heap.size + 1) 69 _ (0, 0) _ rfl (setRow_heap w6 _ _ #[.slice A6 (C.length + 1) c6, .int .i64 ((k : Int) + 2)] _ _ (HW2.out.resAt HO.out HG6.out)) ptU rfl ptS2) rfl ?_
              rw [HT3.out, HSt.out]
              exact StQ.tok HW2.out HBs.out HIn.out HO.out HG6.out HO6.out _ rfl
            · have l4 : ((D.length : Int) ≤ 4096) = False := eq_false (by omega)
              have hst : ∀ nx, strT ⟨kd, cd, mr, ps, it, []⟩ true ⟨D, nx, 1, 0⟩ C = C.map ctlT := fun nx => by unfold strT; rw [if_pos rfl]; simp [h4]
              go_wp2_with (refine wpList_store_row rfl _ _ _ rfl (w.heap.size + 1) #[.slice Av C.length cv, .int .i64 ((k : Int) + 2)] rfl rfl _ _ HW.out.res ptS2 rfl (by simp [Value.oneCell']) ?_)
              (try simp only [Exit.inBlock, Exit.then])
              refine bodyPost_ret (results_cell_row rfl _ _ (w.heap.size + 1) 69 _ (0, 0) _ rfl (setRow_heap wr _ _ #[.slice Av C.length cv, .int .i64 ((k : Int) + 2)] _ _ HW.out.res) ptU rfl ptS2) rfl ?_
              rw [HT3.out, hst]
              exact StQ.plain HW.out HO.out _ rfl
          · have e3 : ((d : Int) == 92) = false := beq_eq_false_iff_ne.2 (by omega)
            have HT3 : Hid (T0 = ⟨D, (k : Int), 2, 27⟩) := Lib.hid (by rw [HT2.out, if_neg h92])
            have HB := Lib.hid (broken_any (some ad) cap s k hlt (by omega) base (.slice Av C.length cv) C hC wr (HR.out.next HW.out.bel) HOw.out (Nat.le_trans HBs.out HW.out.bel.size))
            rw [h27] at HB
            have HB27 := Lib.hid (HBk.out 27)
            --#5
            go_wp2_with fail
            --#6
            refine (HB27.out _).mono ?_
            rintro e wx ⟨rfl, rfl⟩
            go_wp2_with fail
            refine HB.out.mono ?_
            rintro e w2 ⟨⟨v2, rfl, ho2⟩, hg2⟩
            obtain ⟨A2, c2, rfl⟩ := own_formS ho2
            have HO2 := Lib.hid ho2; have HG2 := Lib.hid hg2
            clear ho2 hg2
            --#7
            go_wp2_with (refine wpList_store_row rfl _ _ _ rfl (w.heap.size + 1) #[.slice A2 (brkC 27 C).length c2, .int .i64 (brkNx 27 k : Nat)] rfl rfl _ _ (HW.out.resAt HO.out HG2.out) ptS2 rfl (by simp [Value.oneCell']) ?_)
            (try simp only [Exit.inBlock, Exit.then])
            refine bodyPost_ret (results_cell_row rfl _ _ (w.heap.size + 1) 69 _ (0, 0) _ rfl (setRow_heap w2 _ _ #[.slice A2 (brkC 27 C).length c2, .int .i64 (brkNx 27 k : Nat)] _ _ (HW.out.resAt HO.out HG2.out)) ptU rfl ptS2) rfl ?_
            rw [HT3.out]
            exact StQ.brk HW.out HG2.out HO2.out HO.out _ rfl
      · have HT2 := Lib.hid (HT.out.symm.trans (strL_cons (kd == 6) s k hlt h27 D))
        have HB := Lib.hid (broken_any A cap s k hlt (by omega) base (.slice Av C.length cv) C hC wr (HR.out.next HW.out.bel) HOw.out (Nat.le_trans HBs.out HW.out.bel.size))
        have hc256 := HN.out s[k] (List.getElem_mem hlt)
        obtain ⟨c, hcd⟩ : ∃ c, c = s[k] := ⟨_, rfl⟩
        rw [← hcd] at HT2 HB hc256 hc h27
        clear hcd
        have e0 : ((c : Int) == 27) = false := by simp; omega
        have hz := six HW.out.box
        obtain ⟨z0, z1, z2, z3, z4, z5⟩ := hz
        subst ea
        by_cases h7 : c = 7 ∧ (kd == 6) = true
        · have e7 : ((c : Int) == 7) = true := by simp; omega
          have e6 : (kd == 6) = true := h7.2
          have HT3 : Hid (T0 = ⟨D, ((k + 1 : Nat) : Int), 1, 0⟩) := Lib.hid (by rw [HT2.out, if_pos h7])
          clear HT2 HB hc256
          --#8
          rcases good with _ | _
          · have hst : ∀ nx, strT ⟨kd, cd, mr, ps, it, []⟩ false ⟨D, nx, 1, 0⟩ C = C.map ctlT := fun nx => by unfold strT; rw [if_pos rfl]; simp
            go_wp2_with (refine wpList_store_row rfl _ _ _ rfl (w.heap.size + 1) #[.slice Av C.length cv, .int .i64 ((k : Int) + 1)] rfl rfl _ _ HW.out.res ptS2 rfl (by simp [Value.oneCell']) ?_)
            (try simp only [Exit.inBlock, Exit.then])
            refine bodyPost_ret (results_cell_row rfl _ _ (w.heap.size + 1) 69 _ (0, 0) _ rfl (setRow_heap wr _ _ #[.slice Av C.length cv, .int .i64 ((k : Int) + 1)] _ _ HW.out.res) ptU rfl ptS2) rfl ?_
            rw [HT3.out, hst]
            exact StQ.plain HW.out HO.out _ rfl
          by_cases h4 : D.length ≤ 4096
          · have l4 : ((D.length : Int) ≤ 4096) = True := eq_true (by omega)
            have hst : ∀ nx, strT ⟨kd, cd, mr, ps, it, []⟩ true ⟨D, nx, 1, 0⟩ C = C.map ctlT ++ [⟨kd, cd, mr, ps, it, D⟩] := fun nx => by unfold strT; rw [if_pos rfl]; simp [h4]
            have HSt := Lib.hid hst
            have hal : Below wr.heap.size wr (wr.alloc (.cells #[.int .i64 kd, .int .u8 (cd : Int), .int .u8 (mr : Int), .slice P ps.length pc, .string it, .slice A5 D.length c5] 31)) := (Below.refl _ _).alloc (Nat.le_refl _) _
            have HW2 := Lib.hid (HW.out.next hal)
            have HO2 := Lib.hid (own_more HOw.out hal)
            have HRd := Lib.hid (row_reads wr 31 [.int .i64 kd, .int .u8 (cd : Int), .int .u8 (mr : Int), .slice P ps.length pc, .string it, .slice A5 D.length c5] 1 6 rfl)
            have HX1 : Hid (∀ u ∈ ([.int .i64 kd, .int .u8 (cd : Int), .int .u8 (mr : Int), .slice P ps.length pc, .string it, .slice A5 D.length c5] : List Value), u.oneCell' = true) := Lib.hid (by simp [Value.oneCell'])
            have HBy : Hid ((C.length + 1) * i0.bytes ≤ 140737488355328) := Lib.hid (Nat.le_trans (Nat.mul_le_mul (show C.length + 1 ≤ 1000001 by omega) HI.out.2.2.2) (by decide))
            have HMx : Hid (C.length + 1 ≤ maxLen) := Lib.hid (by unfold maxLen; omega)
            have HBz : Hid (base ≤ (wr.alloc (.cells #[.int .i64 kd, .int .u8 (cd : Int), .int .u8 (mr : Int), .slice P ps.length pc, .string it, .slice A5 D.length c5] 31)).heap.size) := Lib.hid (Nat.le_trans HBs.out HW2.out.bel.size)
            clear hst hal
            go_upto_region 10 with fail
            clear z0 z1 z2 z3 z4 z5
            go_wp2_with (first
              | (refine wpList_load_row rfl _ _ rfl w.heap.size rfl _ _ (0, 0) _ HW.out.box rtU rfl rtS6 ?_)
              | (at_builtin; refine wpList_append_any _ rfl _ _ 22 rfl base 31 i0 _ 6 i0.bytes Tryd.underlying22 HI.out.1 HI.out.2.1 HI.out.2.2.1 rfl rfl (by decide) _ C.length _ rfl HO2.out _ (some ⟨wr.heap.size, 0, none⟩) 1 1 _ rfl HRd.out HX1.out HMx.out HBy.out HBz.out ?_; intro v6 w6 hown6 hg6 _; obtain ⟨A6, c6, rfl⟩ := own_formS hown6; have HO6 := Lib.hid hown6; have HG6 := Lib.hid hg6; clear hown6 hg6)
              | (refine wpList_store_row rfl _ _ _ rfl (w.heap.size + 1) #[.slice A6 (C.length + 1) c6, .int .i64 ((k : Int) + 1)] rfl rfl _ _ (HW2.out.resAt HO.out HG6.out) ptS2 rfl (by simp [Value.oneCell']) ?_))
            (try simp only [Exit.inBlock, Exit.then])
            refine bodyPost_ret (results_cell_row rfl _ _ (w.heap.size + 1) 69 _ (0, 0) _ rfl (setRow_heap w6 _ _ #[.slice A6 (C.length + 1) c6, .int .i64 ((k : Int) + 1)] _ _ (HW2.out.resAt HO.out HG6.out)) ptU rfl ptS2) rfl ?_
            rw [HT3.out, HSt.out]
            exact StQ.tok HW2.out HBs.out HIn.out HO.out HG6.out HO6.out _ rfl
          · have l4 : ((D.length : Int) ≤ 4096) = False := eq_false (by omega)
            have hst : ∀ nx, strT ⟨kd, cd, mr, ps, it, []⟩ true ⟨D, nx, 1, 0⟩ C = C.map ctlT := fun nx => by unfold strT; rw [if_pos rfl]; simp [h4]
            go_wp2_with (refine wpList_store_row rfl _ _ _ rfl (w.heap.size + 1) #[.slice Av C.length cv, .int .i64 ((k : Int) + 1)] rfl rfl _ _ HW.out.res ptS2 rfl (by simp [Value.oneCell']) ?_)
            (try simp only [Exit.inBlock, Exit.then])
            refine bodyPost_ret (results_cell_row rfl _ _ (w.heap.size + 1) 69 _ (0, 0) _ rfl (setRow_heap wr _ _ #[.slice Av C.length cv, .int .i64 ((k : Int) + 1)] _ _ HW.out.res) ptU rfl ptS2) rfl ?_
            rw [HT3.out, hst]
            exact StQ.plain HW.out HO.out _ rfl
        · have hways : ((c : Int) == 7) = false ∨ (((c : Int) == 7) = true ∧ (kd == 6) = false) := by
            by_cases h : c = 7
            · right
              refine ⟨by simp; omega, ?_⟩
              rcases hk : (kd == 6) with _ | _
              · rfl
              · exact absurd ⟨h, hk⟩ h7
            · left; simp; omega
          have HT3 : Hid (T0 = if brkB c = true then ⟨D, (brkNx c k : Nat), 2, c⟩ else strL (kd == 6) (s.drop (k + 1)) (k + 1) (if dataB c = true then D ++ [c] else D)) := Lib.hid (by rw [HT2.out, if_neg h7])
          have HBc := Lib.hid (HBk.out c)
          clear HT2 h7
          rcases hb : brkB c with _ | _
          · rw [hb] at HBc HT3
            have HDc := Lib.hid (HDt.out c)
            rcases hd : dataB c with _ | _
            · rw [hd] at HDc HT3
              have HT4 : Hid (strL (kd == 6) (s.drop (k + 1)) (k + 1) D = T0) := Lib.hid (by rw [HT3.out, if_neg (by simp), if_neg (by simp)])
              clear HT3 hb hd HB hc256
              rcases hways with e7 | ⟨e7, e6⟩
              all_goals
                --#9
                go_wp2_with fail
                refine (HBc.out _).mono ?_
                rintro e wx ⟨rfl, rfl⟩
                go_wp2_with fail
                refine (HDc.out _).mono ?_
                rintro e wx ⟨rfl, rfl⟩
                go_wp2_with fail
                go_roundw
                case rel => exact ⟨rfl, k + 1, D, _, by omega, by go_num, HW.out, by omega, HT4.out⟩
                case measure => simp [intOf]; omega
            · rw [hd] at HDc HT3
              have HT4 : Hid (strL (kd == 6) (s.drop (k + 1)) (k + 1) (D ++ [c]) = T0) := Lib.hid (by rw [HT3.out, if_neg (by simp), if_pos rfl])
              clear HT3 hb hd HB hc256
              have hal : Below wr.heap.size wr (wr.alloc (.cells #[.int .u8 (c : Int)] 5)) := (Below.refl _ _).alloc (Nat.le_refl _) _
              have HW2 := Lib.hid (HW.out.next hal)
              have HRd := Lib.hid (row_reads wr 5 (u8s [c]) 1 1 rfl)
              have HBy : Hid ((D.length + 1) * 1 ≤ 140737488355328) := Lib.hid (by omega)
              have HMx : Hid (D.length + 1 ≤ maxLen) := Lib.hid (by unfold maxLen; omega)
              have HBz : Hid (w.heap.size + 2 ≤ (wr.alloc (.cells #[.int .u8 (c : Int)] 5)).heap.size) := Lib.hid HW2.out.sz
              have HD2 : Hid (∀ w6, (wr.alloc (.cells #[.int .u8 (c : Int)] 5)).grownBy w6 (Value.slice A5 D.length c5).ownBlock → Blk w6 w.heap.size 31 #[.int .i64 kd, .int .u8 (cd : Int), .int .u8 (mr : Int), .slice P ps.length pc, .string it, .slice A5 D.length c5]) := Lib.hid (fun w6 hg => (hg.block _ HW2.out.box.lt (fun e => by have := own_ge HW2.out.o _ e.symm; omega)).trans HW2.out.box)
              clear hal
              rcases hways with e7 | ⟨e7, e6⟩
              all_goals
                --#10
                go_wp2_with fail
                refine (HBc.out _).mono ?_
                rintro e wx ⟨rfl, rfl⟩
                go_wp2_with fail
                refine (HDc.out _).mono ?_
                rintro e wx ⟨rfl, rfl⟩
                clear hc
                --#11
                go_wp2_with (at_builtin; refine wpList_append_any _ rfl _ _ 24 rfl (w.heap.size + 2) 5 i1 _ 1 1 Tryd.underlying24 HJ.out.1 HJ.out.2.1 HJ.out.2.2.1 HJ.out.2.2.2 rfl (by decide) _ D.length _ rfl HW2.out.o _ (some ⟨wr.heap.size, 0, none⟩) 1 1 _ rfl HRd.out (u8s_one _) HMx.out HBy.out HBz.out ?_; intro v6 w6 hown6 hg6 _; obtain ⟨A6, c6, rfl⟩ := own_formS hown6; obtain ⟨y0, y1, y2, y3, y4, y5⟩ := six (HD2.out w6 hg6); obtain ⟨f0, f1, f2, f3, f4, f5⟩ := six_fr (HD2.out w6 hg6); have HO6 := Lib.hid hown6; have HG6 := Lib.hid hg6; clear hown6 hg6 z0 z1 z2 z3 z4 z5)
                have HW6 := Lib.hid (HW2.out.byte HO6.out HG6.out)
                go_roundw
                case rel => exact ⟨rfl, k + 1, D ++ [c], _, by omega, by go_num, HW6.out, by simp; omega, HT4.out⟩
                case measure => simp [intOf]; omega
          · rw [hb] at HBc HT3
            have HT4 : Hid (T0 = ⟨D, (brkNx c k : Nat), 2, c⟩) := Lib.hid (by rw [HT3.out, if_pos rfl])
            clear HT3 hb
            rcases hways with e7 | ⟨e7, e6⟩
            all_goals
              --#12
              go_wp2_with fail
              refine (HBc.out _).mono ?_
              rintro e wx ⟨rfl, rfl⟩
              go_wp2_with fail
              refine HB.out.mono ?_
              rintro e w2 ⟨⟨v2, rfl, ho2⟩, hg2⟩
              obtain ⟨A2, c2, rfl⟩ := own_formS ho2
              have HO2 := Lib.hid ho2; have HG2 := Lib.hid hg2
              clear ho2 hg2
              --#13
              go_wp2_with (refine wpList_store_row rfl _ _ _ rfl (w.heap.size + 1) #[.slice A2 (brkC c C).length c2, .int .i64 (brkNx c k : Nat)] rfl rfl _ _ (HW.out.resAt HO.out HG2.out) ptS2 rfl (by simp [Value.oneCell']) ?_)
              (try simp only [Exit.inBlock, Exit.then])
              refine bodyPost_ret (results_cell_row rfl _ _ (w.heap.size + 1) 69 _ (0, 0) _ rfl (setRow_heap w2 _ _ #[.slice A2 (brkC c C).length c2, .int .i64 (brkNx c k : Nat)] _ _ (HW.out.resAt HO.out HG2.out)) ptU rfl ptS2) rfl ?_
              rw [HT4.out]
              exact StQ.brk HW.out HG2.out HO2.out HO.out _ rfl
    · obtain rfl : k = s.length := by omega
      have k1 : ((s.length : Int) < (s.length : Int)) = False := eq_false (by omega)
      have HT2 : Hid (T0 = ⟨D, -1, 0, 0⟩) := Lib.hid (by rw [← HT.out, List.drop_length]; rfl)
      --#14
      go_wp2_with (refine wpList_store_row rfl _ _ _ rfl (w.heap.size + 1) #[.slice Av C.length cv, .int .i64 (-1)] rfl rfl _ _ HW.out.res ptS2 rfl (by simp [Value.oneCell']) ?_)
      (try simp only [Exit.inBlock, Exit.then])
      refine bodyPost_ret (results_cell_row rfl _ _ (w.heap.size + 1) 69 _ (0, 0) _ rfl (setRow_heap wr _ _ #[.slice Av C.length cv, .int .i64 (-1)] _ _ HW.out.res) ptU rfl ptS2) rfl ?_
      rw [HT2.out]
      exact StQ.plain HW.out HO.out _ rfl
end Go.Proofs.YtpiliicphoacfaaDoor
