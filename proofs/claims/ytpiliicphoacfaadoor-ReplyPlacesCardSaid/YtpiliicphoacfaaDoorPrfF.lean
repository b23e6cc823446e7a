/-
  The reference's reading of a Csi's or Dcs's header: plain facts, pieces of what came in.
  The reference's reading of a Csi's or Dcs's header: the walk.
-/
import Derived.Test.YtpiliicphoacfaaDoorPrfD
namespace Go.Proofs.YtpiliicphoacfaaDoor

open Go Go.RowKit
set_option maxRecDepth 100000

/-- How many there are ahead of the first byte below 48. -/
def cntP : List Nat → Nat
  | [] => 0
  | c :: l => if 48 ≤ c then cntP l + 1 else 0
theorem cnt_yes {c : Nat} (l : List Nat) (h : 48 ≤ c) : cntP (c :: l) = cntP l + 1 := if_pos h
theorem cnt_no {c : Nat} (l : List Nat) (h : ¬ 48 ≤ c) : cntP (c :: l) = 0 := if_neg h
theorem cnt_le : ∀ l : List Nat, cntP l ≤ l.length
  | [] => Nat.le_refl _
  | c :: l => by
    have := cnt_le l
    unfold cntP
    split
    · simpa using this
    · exact Nat.zero_le _
theorem cnt_lt : ∀ (l : List Nat) (k : Nat) (h : k < l.length), k < cntP l → 48 ≤ l[k]
  | [], _, h, _ => by simp at h
  | c :: l, 0, _, hk => by
    unfold cntP at hk
    split at hk
    · assumption
    · omega
  | c :: l, k + 1, h, hk => by
    unfold cntP at hk
    split at hk
    · exact cnt_lt l k (by simpa using h) (by omega)
    · omega
theorem cnt_at : ∀ (l : List Nat) (h : cntP l < l.length), l[cntP l] < 48
  | [], h => by simp at h
  | c :: l, h => by
    by_cases hc : 48 ≤ c
    · have e : cntP (c :: l) = cntP l + 1 := cnt_yes l hc
      have := cnt_at l (by rw [e] at h; simpa using h)
      simp only [e]
      simpa using this
    · have e : cntP (c :: l) = 0 := cnt_no l hc
      simp only [e]
      simp; omega
theorem cnt_step {l : List Nat} {k : Nat} (h : k < l.length) (hk : k ≤ cntP l) (hc : 48 ≤ l[k]) : k + 1 ≤ cntP l := by
  rcases Nat.lt_or_ge k (cntP l) with h1 | h1
  · exact h1
  · obtain rfl : k = cntP l := by omega
    have := cnt_at l h
    omega
theorem cnt_end {l : List Nat} {k : Nat} (h : k < l.length) (hk : k ≤ cntP l) (hc : ¬ 48 ≤ l[k]) : k = cntP l := by
  rcases Nat.lt_or_ge k (cntP l) with h1 | h1
  · exact absurd (cnt_lt l k h h1) hc
  · omega
/-- The mark, and what stands behind it. -/
def markP (b : List Nat) : Nat × List Nat := match b with
  | [] => (0, [])
  | m :: r => if 60 ≤ m ∧ m ≤ 63 then (m, r) else (0, m :: r)
theorem mark_nil {b : List Nat} (h : ¬ 0 < b.length) : markP b = (0, b) := by
  cases b with
  | nil => rfl
  | cons m r => simp at h
theorem mark_cons (m : Nat) (r : List Nat) : markP (m :: r) = if 60 ≤ m ∧ m ≤ 63 then (m, r) else (0, m :: r) := rfl
theorem mark_yes {b : List Nat} (h : 0 < b.length) (h1 : 60 ≤ b[0] ∧ b[0] ≤ 63) : markP b = (b[0], b.drop 1) := by
  cases b with
  | nil => simp at h
  | cons m r => rw [mark_cons, if_pos (show 60 ≤ m ∧ m ≤ 63 from h1)]; rfl
theorem mark_no {b : List Nat} (h : 0 < b.length) (h1 : ¬ (60 ≤ b[0] ∧ b[0] ≤ 63)) : markP b = (0, b) := by
  cases b with
  | nil => simp at h
  | cons m r => rw [mark_cons, if_neg (show ¬ (60 ≤ m ∧ m ≤ 63) from h1)]
def low48 (l : List Nat) : Bool := l.all fun c => decide (c < 48)
/-- A header's bytes, read: the token, and is it good? -/
def parsP (kd : Int) (b : List Nat) : Tok × Bool :=
  let m := markP b.dropLast
  let n := cntP m.2
  let p := parseV (bstr (m.2.take n)).data.toList
  (⟨kd, b.getLastD 0, m.1, p.1, bstr (m.2.drop n), []⟩, decide (p.2 = 0) && (decide ((m.2.drop n).length ≤ 3) && low48 (m.2.drop n)))
theorem size_is {W : World} (A : Option Addr) (cap a b : Nat) : (((sizeOf (Tryd.prog.elem 24)).run Tryd.prog W).andThen fun s w => (.ok (sliced A a b cap s) w : Result Value)) = .ok (sliced A a b cap 1) W := by
  have hs : (sizeOf (Tryd.prog.elem 24)).run Tryd.prog W = .ok 1 W := by kernel_rfl
  rw [hs]
  rfl
/-- The first ones. -/
theorem RByt.firsts {w : World} {A : Option Addr} {l : List Nat} (h : RByt w A l) {n cap : Nat} (hn : n ≤ l.length) (hc : l.length ≤ cap) : ∃ A' c', (∀ W, (Instr.slice 24 (.slice A l.length cap) none (some (.int .i64 (n : Int))) none).run Tryd.prog W = .ok (.slice A' (l.take n).length c') W) ∧ RByt w A' (l.take n) ∧ (l.take n).length ≤ c' := by
  obtain ⟨A', c', h1, h2, _, h4⟩ := h.sub (a := 0) (b := n) (cap := cap) (by omega) hn hc
  rw [List.drop_zero] at h1 h2 h4
  refine ⟨A', c', fun W => ?_, h2, h4⟩
  rw [run_slice_h W _ A l.length cap Tryd.underlying24 .i64 (n : Int) (by omega) (by omega), ← h1]
  exact size_is A cap 0 n
/-- Those behind the first ones. -/
theorem RByt.rest {w : World} {A : Option Addr} {l : List Nat} (h : RByt w A l) {n cap : Nat} (hn : n ≤ l.length) (hc : l.length ≤ cap) : ∃ A' c', (∀ W, (Instr.slice 24 (.slice A l.length cap) (some (.int .i64 (n : Int))) none none).run Tryd.prog W = .ok (.slice A' (l.drop n).length c') W) ∧ RByt w A' (l.drop n) ∧ (l.drop n).length ≤ c' := by
  obtain ⟨A', c', h1, h2, _, h4⟩ := h.sub (a := n) (b := l.length) (cap := cap) hn (Nat.le_refl _) hc
  rw [List.take_length] at h1 h2 h4
  refine ⟨A', c', fun W => ?_, h2, h4⟩
  rw [run_slice_l W _ A l.length cap Tryd.underlying24 .i64 (n : Int) (by omega) (by omega), ← h1]
  exact size_is A cap n l.length
theorem RByt.low {w W : World} {A : Option Addr} {l : List Nat} (h : RByt w A l) (hb : Below w.heap.size w W) : RByt W A l := h.next hb
theorem results_row_tmpP {P : Program} {fn : Func} {p q : Tmp} {ty : TypeId} (h : fn.results = #[.cell p ty, .tmp q]) (tmps : Array Value) (w : World) (g : Nat) (t : TypeId) (cs : Array Value) (fr : Nat × Nat) (d : TypeDesc)
    (hp : tmps.getD p undef = .pointer (some ⟨g, 0, none⟩)) (hg : w.heap[g]? = some (.cells cs t fr))
    (hu : P.underlying ty = some d) (hd : (match d with | .struct _ | .array _ _ => true | _ => false) = true) (hi : (P.info? ty).map (·.size) = some cs.size) :
    (results fn tmps).run P w = .ok (.tuple #[.agg cs, tmps.getD q undef]) w := by
  have hp' : tmps[p]?.getD undef = .pointer (some ⟨g, 0, none⟩) := by simpa using hp
  simp [results, h, hp', asAddr, run_loadVar_row w g t ty cs fr d hg hu hd hi]
/-- What is known in the midst of it: its token's box, the box of what it answers. -/
structure PaW (w W : World) (X : Array Value) : Prop where
  box : Blk W (w.heap.size + 1) 31 X
  res : Blk W w.heap.size 31 zTok
  bel : Below w.heap.size w W
theorem PaW.next {w W W' : World} {X : Array Value} (h : PaW w W X) (hb : Below W.heap.size W W') : PaW w W' X := ⟨h.box.next hb, h.res.next hb, h.bel.trans (hb.mono h.bel.size)⟩
theorem PaW.set {w W : World} {X : Array Value} (h : PaW w W X) (i : Nat) (v : Value) : PaW w (W.setCell ⟨w.heap.size + 1, i, none⟩ v) (X.setIfInBounds i v) :=
  ⟨h.box.set_ i v, h.res.far (by simp) v, below_gb h.bel (gb_set _ i v) (by omega) h.bel.size⟩
/-- What it answers. -/
def PaQ (w w' : World) (r : Tok × Bool) (e : Ending) : Prop := ∃ A c, e = .returned (.tuple #[.agg #[.int .i64 r.1.kd, .int .u8 (r.1.cd : Int), .int .u8 (r.1.mr : Int), .slice A r.1.ps.length c, .string r.1.it, .slice none 0 0], .bool r.2]) ∧ OInts w' w.heap.size (.slice A r.1.ps.length c) r.1.ps ∧ Below w.heap.size w w'
theorem low_snoc (l : List Nat) (c : Nat) : low48 (l ++ [c]) = (low48 l && decide (c < 48)) := by simp [low48]
theorem take_drop_snoc (l : List Nat) (n i : Nat) (hn : n ≤ i) (hi : i < l.length) : (l.take (i + 1)).drop n = (l.take i).drop n ++ [l[i]] := by
  rw [List.take_succ_eq_append_getElem hi, List.drop_append_of_le_length (by simp; omega)]
end Go.Proofs.YtpiliicphoacfaaDoor

namespace Go.Proofs.YtpiliicphoacfaaDoor

open Go Go.RowKit
set_option maxRecDepth 100000

theorem RByt.pre {w : World} {A : Option Addr} {l : List Nat} (h : RByt w A l) (n : Nat) : RByt w A (l.take n) := by
  refine ⟨by simp, fun h0 => ?_⟩
  obtain ⟨ad, rfl, hb, hc⟩ := h.2 (by simp at h0; omega)
  refine ⟨ad, rfl, hb, fun j u hu => hc j u ?_⟩
  rw [List.map_take, List.getElem?_take] at hu
  split at hu
  · exact hu
  · cases hu
theorem ad_zero (ad : Addr) : ad.add 0 = ad := by
  unfold Addr.add
  split <;> simp_all
theorem PaQ.of {w W : World} {kd : Int} {b : List Nat} {A : Option Addr} {c : Nat} {r : Tok × Bool} (X : Array Value) (e : Ending) (hb : Below w.heap.size w W) (hl : OInts W (w.heap.size + 2) (.slice A r.1.ps.length c) r.1.ps) (hr : parsP kd b = r)
    (he : e = .returned (.tuple #[.agg #[.int .i64 r.1.kd, .int .u8 (r.1.cd : Int), .int .u8 (r.1.mr : Int), .slice A r.1.ps.length c, .string r.1.it, .slice none 0 0], .bool r.2])) : PaQ w (W.setRow w.heap.size X) (parsP kd b) e := by
  rw [hr]
  exact ⟨A, c, he, own_base (own_row (oints_own hl) (fun e => by have := own_ge (oints_own hl) _ e; omega)) (by omega), below_gb hb (grown_row W w.heap.size X) (Nat.le_refl _) hb.size⟩
set_option maxRecDepth 100000 in
set_option maxHeartbeats 16000000 in
theorem parse_any (kd : Int) (A : Option Addr) (cap : Nat) (b : List Nat) (m : Nat) (hm : b.length = m + 1) (hl : b.length ≤ 1000000) (hcap : b.length ≤ cap) (w : World) (hr : RByt w A b) :
    Calls Tryd.prog 54 #[.int .i64 kd, .slice A b.length cap] w (fun e w' => PaQ w w' (parsP kd b) e) := by
  have hmlt : m < b.length := by omega
  have hgl : b.getLastD 0 = b[m] := by
    rw [List.getLastD_eq_getLast?, List.getLast?_eq_getElem?, hm, Nat.add_sub_cancel, List.getElem?_eq_getElem hmlt]; rfl
  have hdl : b.dropLast = b.take m := by rw [List.dropLast_eq_take, hm, Nat.add_sub_cancel]
  have HP : Hid (parsP kd b = (⟨kd, b[m], (markP (b.take m)).1, (parseV (bstr ((markP (b.take m)).2.take (cntP (markP (b.take m)).2))).data.toList).1, bstr ((markP (b.take m)).2.drop (cntP (markP (b.take m)).2)), []⟩, decide ((parseV (bstr ((markP (b.take m)).2.take (cntP (markP (b.take m)).2))).data.toList).2 = 0) && (decide (((markP (b.take m)).2.drop (cntP (markP (b.take m)).2)).length ≤ 3) && low48 ((markP (b.take m)).2.drop (cntP (markP (b.take m)).2))))) := Lib.hid (by
    unfold parsP
    rw [hgl, hdl])
  clear hgl hdl
  have hw1 : IntKind.i64.wrap ((b.length : Int) - 1) = (m : Int) := by rw [IntWalk.i64_in _ (by omega)]; omega
  have m0 : (0 : Int) ≤ (m : Int) := by omega
  have m1 : ((m : Int) < (b.length : Int)) = True := eq_true (by omega)
  have hr1 := hr.pre m
  obtain ⟨ad, rfl, hlt, hc⟩ := RByt.at_ hr hmlt
  have HR1 := Lib.hid hr1
  have HL1 : Hid ((b.take m).length ≤ 1000000) := Lib.hid (by simp; omega)
  have hlm : (b.take m).length = m := by simp; omega
  have hc1 : (b.take m).length ≤ cap := by omega
  have hcm : ((m : Int) ≤ (cap : Int)) = True := eq_true (by omega)
  clear hr hr1
  generalize b.take m = b1 at *
  have hal : Below w.heap.size w (w.alloc (.cells zTok 31)) := (Below.refl _ w).alloc (Nat.le_refl _) _
  have hc2 := (hal.cell (p := ad.add m) (by rw [add_blk]; exact hlt)).trans hc
  generalize b[m] = cd at *
  have hz : (w.alloc (.cells zTok 31)).heap.size = w.heap.size + 1 := by simp
  have HPw : Hid (PaW w ((w.alloc (.cells zTok 31)).alloc (.cells #[.int .i64 kd, .int .u8 (cd : Int), .int .u8 0, .slice none 0 0, .string ⟨#[]⟩, .slice none 0 0] 31)) #[.int .i64 kd, .int .u8 (cd : Int), .int .u8 0, .slice none 0 0, .string ⟨#[]⟩, .slice none 0 0]) := Lib.hid (by
    have b3 := Blk.new (w.alloc (.cells zTok 31)) 31 #[.int .i64 kd, .int .u8 (cd : Int), .int .u8 0, .slice none 0 0, .string ⟨#[]⟩, .slice none 0 0]
    rw [hz] at b3
    exact ⟨b3, (Blk.new w 31 zTok).alloc _, hal.alloc (by simp) _⟩)
  have HPb := Lib.hid (fun (s : ByteArray) (h : s.size ≤ 1000000) W => refParse_all s (by omega) W)
  clear hal hc
  unfold zTok at HPw hz
  go_enter Tryd.func54, Tryd.ntmps54
  --#0
  change (w.alloc (.cells #[.int .i64 0, .int .u8 0, .int .u8 0, .slice none 0 0, .string ⟨#[]⟩, .slice none 0 0] 31)).cell? (ad.add m) = _ at hc2
  go_upto_region 2 with fail
  --#1
  rw [hz] at *
  generalize (w.alloc (.cells #[.int .i64 0, .int .u8 0, .int .u8 0, .slice none 0 0, .string ⟨#[]⟩, .slice none 0 0] 31)).alloc (.cells #[.int .i64 kd, .int .u8 (cd : Int), .int .u8 0, .slice none 0 0, .string ⟨#[]⟩, .slice none 0 0] 31) = w1 at *
  go_upto_region 3 with fail
  --#2
  clear hc2 hz hlt hmlt hw1 m0 m1 hm hl hcm
  subst hlm
  obtain ⟨A1, hA1⟩ : ∃ A1, A1 = some ad := ⟨_, rfl⟩
  obtain ⟨c1, hcc⟩ : ∃ c1, c1 = cap := ⟨_, rfl⟩
  rw [← hA1] at HR1 ⊢
  rw [← hcc] at hc1 ⊢
  clear hA1 hcc hcap
  have HR1b := Lib.hid (HR1.out.next HPw.out.bel)
  have hways : (∃ (hp : 0 < b1.length), 60 ≤ b1[0] ∧ b1[0] ≤ 63) ∨ (markP b1 = (0, b1) ∧ ((((0 : Int) < (b1.length : Int)) = False ∧ (0 < b1.length) = False) ∨ (∃ (ad1 : Addr) (m0 : Nat), A1 = some ad1 ∧ w1.cell? ad1 = some (.int .u8 (m0 : Int)) ∧ ((0 : Int) < (b1.length : Int)) = True ∧ 0 < b1.length ∧ ((((60 : Int) ≤ (m0 : Int)) = False ∧ (60 ≤ m0) = False) ∨ (((60 : Int) ≤ (m0 : Int)) = True ∧ (60 ≤ m0) = True ∧ ((m0 : Int) ≤ 63) = False ∧ (m0 ≤ 63) = False))))) := by
    by_cases hp : 0 < b1.length
    · by_cases hmk : 60 ≤ b1[0] ∧ b1[0] ≤ 63
      · exact .inl ⟨hp, hmk⟩
      · obtain ⟨ad1, ea, _, hcx⟩ := RByt.at_ HR1b.out hp
        rw [ad_zero] at hcx
        refine .inr ⟨mark_no hp hmk, .inr ⟨ad1, b1[0], ea, hcx, eq_true (by omega), hp, ?_⟩⟩
        by_cases h6 : 60 ≤ b1[0]
        · exact .inr ⟨eq_true (by omega), eq_true h6, eq_false (by omega), eq_false (by omega)⟩
        · exact .inl ⟨eq_false (by omega), eq_false h6⟩
    · exact .inr ⟨mark_nil hp, .inl ⟨eq_false (by omega), eq_false hp⟩⟩
  have h0p : (0 : Int) ≤ 0 := Int.le_refl _
  rcases hways with ⟨hp, hk1, hk2⟩ | ⟨hmk, hways⟩
  · obtain ⟨ad1, ea, _, hcx⟩ := RByt.at_ HR1b.out hp
    rw [ad_zero] at hcx
    obtain ⟨A2, c2, hs2, hr2, hc2⟩ := HR1.out.rest (n := 1) (by omega) hc1
    have HS2 : Hid (∀ W, (Instr.slice 24 (.slice A1 b1.length c1) (some (.int .i64 1)) none none).run Tryd.prog W = .ok (.slice A2 (b1.drop 1).length c2) W) := Lib.hid hs2
    have hmk := mark_yes hp ⟨hk1, hk2⟩
    have HL2 : Hid ((b1.drop 1).length ≤ 1000000) := Lib.hid (by have := HL1.out; simp; omega)
    have HR2 := Lib.hid hr2
    have p1 : ((0 : Int) < (b1.length : Int)) = True := eq_true (by omega)
    have p2 : ((60 : Int) ≤ (b1[0] : Int)) = True := eq_true (by omega)
    have p3 : ((b1[0] : Int) ≤ 63) = True := eq_true (by omega)
    generalize b1.drop 1 = b2 at *
    have HP2 := Lib.hid (HPw.out.set 2 (.int .u8 (b1[0] : Int)))
    simp only [List.setIfInBounds_toArray, List.set_cons_zero, List.set_cons_succ] at HP2
    generalize b1[0] = mr at *
    subst ea
    have hsl2 := HS2.out (w1.setCell ⟨w.heap.size + 1, 2, none⟩ (.int .u8 (mr : Int)))
    obtain ⟨z0, z1, z2, z3, z4, z5⟩ := six HPw.out.box
    obtain ⟨f0, f1, f2, f3, f4, f5⟩ := six_fr HPw.out.box
    --#3
    go_upto_region 6 with fail
    --#4
    clear z0 z1 z2 z3 z4 z5 f0 f1 f2 f3 f4 f5 hsl2 hs2 HS2 hcx hr2 HR1b HPw
    generalize w1.setCell ⟨w.heap.size + 1, 2, none⟩ (.int .u8 (mr : Int)) = w2 at *
    have HQ : Hid (parsP kd b = (⟨kd, cd, mr, (parseV (bstr (b2.take (cntP b2))).data.toList).1, bstr (b2.drop (cntP b2)), []⟩, decide ((parseV (bstr (b2.take (cntP b2))).data.toList).2 = 0) && (decide ((b2.drop (cntP b2)).length ≤ 3) && low48 (b2.drop (cntP b2))))) := Lib.hid (by rw [HP.out, hmk])
    have hcl := cnt_le b2
    have HZ2 := Lib.hid (show w.heap.size + 2 ≤ w2.heap.size from by have := HP2.out.box.lt; omega)
    have HR2b := Lib.hid (HR2.out.next HP2.out.bel)
    clear HP hmk HR1
    go_upto_region 7 with fail
    --#5
    go_loopw [7] (fun j wr => ∃ n : Nat, n ≤ cntP b2 ∧ j = .int .i64 n ∧ w2 = wr) (fun j _ => b2.length - (intOf j).toNat)
    case atStart => exact ⟨0, by omega, rfl, rfl⟩
    case round =>
      obtain ⟨n, hn, rfl, hww⟩ := hrel
      subst hww
      have hways2 : (∃ (hnl : n < b2.length), 48 ≤ b2[n]) ∨ (n = cntP b2 ∧ ((((n : Int) < (b2.length : Int)) = False) ∨ (∃ (ad2 : Addr) (x : Nat), A2 = some ad2 ∧ w2.cell? (ad2.add n) = some (.int .u8 (x : Int)) ∧ ((n : Int) < (b2.length : Int)) = True ∧ ((48 : Int) ≤ (x : Int)) = False))) := by
        by_cases hnl : n < b2.length
        · by_cases h48 : 48 ≤ b2[n]
          · exact .inl ⟨hnl, h48⟩
          · obtain ⟨ad2, ea, _, hcx⟩ := RByt.at_ HR2b.out hnl
            exact .inr ⟨cnt_end hnl hn h48, .inr ⟨ad2, b2[n], ea, hcx, eq_true (by omega), eq_false (by omega)⟩⟩
        · exact .inr ⟨by omega, .inl (eq_false (by omega))⟩
      have n0 : (0 : Int) ≤ (n : Int) := by omega
      rcases hways2 with ⟨hnl, h48⟩ | ⟨hne, hways2⟩
      · have hnx := cnt_step hnl hn h48
        have hwn : IntKind.i64.wrap ((n : Int) + 1) = (n : Int) + 1 := IntWalk.i64_in _ (by have := HL2.out; omega)
        have l0 : ((n : Int) < (b2.length : Int)) = True := eq_true (by omega)
        have l1 : ((48 : Int) ≤ (b2[n] : Int)) = True := eq_true (by omega)
        obtain ⟨ad2, ea, _, hcx⟩ := RByt.at_ HR2b.out hnl
        generalize b2[n] = x at *
        subst ea
        --#6
        go_wp2_with fail
        go_roundw
        case rel => exact ⟨n + 1, hnx, by go_num, (by first | trivial | rfl)⟩
        case measure => simp [intOf]; omega
      · have hr3 := HR2.out.pre n
        obtain ⟨A4, c4, hs4, hr4, _⟩ := HR2.out.rest (n := n) (by omega) hc2
        rw [← hne] at HQ
        have hnl : n ≤ b2.length := by omega
        have hcv3 := conv_by (hr3.next HP2.out.bel) c2
        rw [show (b2.take n).length = n by simp; omega] at hcv3
        have n2 : ((n : Int) ≤ (c2 : Int)) = True := eq_true (by omega)
        have HPx := Lib.hid (HPb.out (bstr (b2.take n)) (by have := HL2.out; rw [bstr_size]; simp; omega) w2)
        have HR4 := Lib.hid hr4; have HS4 := Lib.hid hs4
        have hpv := (parseV_range (bstr (b2.take n)).data.toList).2.2
        clear hr3 hs4 hr4 HPb
        generalize parseV (bstr (b2.take n)).data.toList = pv at *
        generalize bstr (b2.take n) = sp at *
        obtain ⟨pl, er⟩ := pv
        dsimp only at HPx hpv HQ
        have h12 : ∃ g0 : Bool, g0 = (decide (er = 0) && decide ((b2.drop n).length ≤ 3)) := ⟨_, rfl⟩
        obtain ⟨g0, hg0⟩ := h12
        have HG0 := Lib.hid hg0
        have HQ2 : Hid (parsP kd b = (⟨kd, cd, mr, pl, bstr (b2.drop n), []⟩, g0 && low48 (b2.drop n))) := Lib.hid (by rw [HQ.out, hg0, Bool.and_assoc])
        clear hg0 HQ hne hn hcl
        have hways3 : (er = 0 ∧ ((((bstr (b2.drop n)).size : Int) ≤ 3) = True) ∧ g0 = true) ∨ (er = 0 ∧ ((((bstr (b2.drop n)).size : Int) ≤ 3) = False) ∧ g0 = false) ∨ (er = 3 ∧ g0 = false) := by
          rw [HG0.out, bstr_size]
          rcases hpv with rfl | rfl
          · by_cases h3 : (b2.drop n).length ≤ 3
            · exact .inl ⟨rfl, eq_true (by omega), by simp; simpa using h3⟩
            · exact .inr (.inl ⟨rfl, eq_false (by omega), by simp; simpa using h3⟩)
          · exact .inr (.inr ⟨rfl, by simp⟩)
        clear hpv HG0
        have HRr : Hid (∀ i (h : i < b2.length), RByt w A2 b2) := Lib.hid (fun _ _ => HR2.out)
        rcases hways2 with l0 | ⟨ad2, x, ea, hcx, l0, l1⟩
        all_goals
          (try subst ea)
          --#7
          go_wp2_with fail
          refine HPx.out.mono ?_
          rintro e w3 ⟨⟨Al, cl, rfl, hol⟩, hb3⟩
          have HP3 := Lib.hid (HP2.out.next hb3)
          have HO3 := Lib.hid hol
          clear hol hb3 HPx HP2 hcv3 n2 l0 HR2b
          (try clear hcx l1)
          have HP4 := Lib.hid (HP3.out.set 3 (.slice Al pl.length cl))
          have HP5 := Lib.hid (HP4.out.set 4 (.string (bstr (b2.drop n))))
          simp only [List.setIfInBounds_toArray, List.set_cons_zero, List.set_cons_succ] at HP4 HP5
          have hsl4 := HS4.out (w3.setCell ⟨w.heap.size + 1, 3, none⟩ (.slice Al pl.length cl))
          have hcv4 := conv_by (HR4.out.next HP4.out.bel) c4
          obtain ⟨L4, hL4⟩ : ∃ L, (b2.drop n).length = L := ⟨_, rfl⟩
          rw [hL4] at hsl4 hcv4
          clear hL4
          have HO5 : Hid (OInts ((w3.setCell ⟨w.heap.size + 1, 3, none⟩ (.slice Al pl.length cl)).setCell ⟨w.heap.size + 1, 4, none⟩ (.string (bstr (b2.drop n)))) (w.heap.size + 2) (.slice Al pl.length cl) pl) := Lib.hid (by
            have h1 : w3.ownsRow (w.heap.size + 2) 3 1 (.slice Al pl.length cl) pl.length (pl.map (Value.int .i64)) := own_base (oints_own HO3.out) HZ2.out
            exact World.ownsRow.kept (World.ownsRow.kept h1 (gb_set _ 3 _) (.inr (fun e => by have := own_ge h1 _ e; omega))) (gb_set _ 4 _) (.inr (fun e => by have := own_ge h1 _ e; omega)))
          clear HS4 HR4 HO3
          generalize bstr (b2.drop n) = it at *
          obtain ⟨z0, z1, z2, z3, z4, z5⟩ := six HP3.out.box
          obtain ⟨f0, f1, f2, f3, f4, f5⟩ := six_fr HP3.out.box
          --#8
          go_upto_region 12 with fail
          --#9
          clear z0 z1 z2 z3 z4 z5 f0 f1 f2 f3 f4 f5 hsl4 hcv4 HP3 HP4
          generalize (w3.setCell ⟨w.heap.size + 1, 3, none⟩ (.slice Al pl.length cl)).setCell ⟨w.heap.size + 1, 4, none⟩ (.string it) = w5 at *
          have HR5 := Lib.hid (HR2.out.next HP5.out.bel)
          obtain ⟨z0, z1, z2, z3, z4, z5⟩ := six HP5.out.box
          rcases hways3 with ⟨rfl, l2, hg0⟩ | ⟨rfl, l2, hg0⟩ | ⟨rfl, hg0⟩
          all_goals
            have HG := Lib.hid hg0
            clear hg0
            --#10
            go_upto_region 14 with fail
            --#11
            clear z0 z1 z2 z3 z4 z5
            (try clear l2)
            go_loopw [10, 11] (fun v j wr => ∃ i : Nat, n ≤ i ∧ i ≤ b2.length ∧ j = .int .i64 i ∧ v = .bool (g0 && low48 ((b2.take i).drop n)) ∧ w5 = wr) (fun _ j _ => b2.length - (intOf j).toNat)
            case atStart => exact ⟨n, Nat.le_refl _, hnl, rfl, by rw [HG.out, List.drop_of_length_le (by simp; omega)]; rfl, rfl⟩
            case round =>
              obtain ⟨i, hi1, hi2, rfl, rfl, hww⟩ := hrel
              subst hww
              by_cases hlt : i < b2.length
              · have hwi : IntKind.i64.wrap ((i : Int) + 1) = (i : Int) + 1 := IntWalk.i64_in _ (by have := HL2.out; omega)
                have i0 : (0 : Int) ≤ (i : Int) := by omega
                have i1 : ((i : Int) < (b2.length : Int)) = True := eq_true (by omega)
                have HSn := Lib.hid (show (g0 && low48 ((b2.take (i + 1)).drop n)) = ((g0 && low48 ((b2.take i).drop n)) && decide (b2[i] < 48)) by rw [take_drop_snoc b2 n i hi1 hlt, low_snoc, Bool.and_assoc])
                obtain ⟨ad5, ea, _, hcx⟩ := RByt.at_ HR5.out hlt
                rcases hq : (g0 && low48 ((b2.take i).drop n)) with _ | _
                · rw [hq] at HSn
                  --#12
                  go_wp2_with fail
                  go_roundw
                  case rel => exact ⟨i + 1, by omega, by omega, by go_num, by rw [HSn.out]; rfl, (by first | trivial | rfl)⟩
                  case measure => simp [intOf]; omega
                · rw [hq] at HSn
                  rw [ea]
                  have hlo : ((b2[i] : Int) < 48) = (decide (b2[i] < 48) = true) := by
                    by_cases h : b2[i] < 48
                    · rw [eq_true (show (b2[i] : Int) < 48 by omega), decide_eq_true h]; simp
                    · rw [eq_false (show ¬ (b2[i] : Int) < 48 by omega), decide_eq_false h]; simp
                  have HLo : Hid ((b2[i] : Int) < 48 ↔ b2[i] < 48) := Lib.hid (by omega)
                  clear hlo
                  generalize b2[i] = x5 at *
                  by_cases h48 : x5 < 48
                  · have l3 : ((x5 : Int) < 48) = True := eq_true (by omega)
                    have HSm := Lib.hid (HSn.out.trans (by rw [decide_eq_true h48]; rfl : (true && decide (x5 < 48)) = true))
                    clear HSn hq
                    --#13
                    go_wp2_with fail
                    go_roundw
                    case rel => exact ⟨i + 1, by omega, by omega, by go_num, by rw [HSm.out], (by first | trivial | rfl)⟩
                    case measure => simp [intOf]; omega
                  · have l3 : ((x5 : Int) < 48) = False := eq_false (by omega)
                    have HSm := Lib.hid (HSn.out.trans (by rw [decide_eq_false h48]; rfl : (true && decide (x5 < 48)) = false))
                    clear HSn hq
                    go_wp2_with fail
                    go_roundw
                    case rel => exact ⟨i + 1, by omega, by omega, by go_num, by rw [HSm.out], (by first | trivial | rfl)⟩
                    case measure => simp [intOf]; omega
              · obtain rfl : i = b2.length := by omega
                have i1 : ((b2.length : Int) < (b2.length : Int)) = False := eq_false (by omega)
                rw [List.take_length]
                generalize (g0 && low48 (b2.drop n)) = gd at *
                --#14
                go_upto_region 17 with fail
                --#16
                repeat (first
                  | (refine wpList_load_row rfl _ _ rfl (w.heap.size + 1) rfl _ _ (0, 0) _ HP5.out.box rtU rfl rtS6 ?_)
                  | (refine wpList_store_row rfl _ _ _ rfl w.heap.size #[.int .i64 kd, .int .u8 (cd : Int), .int .u8 (mr : Int), .slice Al pl.length cl, .string it, .slice none 0 0] rfl rfl _ _ HP5.out.res rtS6 rfl (by simp [Value.oneCell']) ?_)
                  | go_step)
                --#15
                (try simp only [Exit.inBlock, Exit.then])
                exact bodyPost_ret (results_row_tmpP rfl _ _ w.heap.size 31 _ (0, 0) _ rfl (setRow_heap w5 _ _ _ _ _ HP5.out.res) rtU rfl rtS6) rfl (PaQ.of _ _ HP5.out.bel HO5.out HQ2.out rfl)
  · obtain ⟨mr, hmr⟩ : ∃ mr : Nat, mr = 0 := ⟨_, rfl⟩
    rw [← hmr] at hmk
    rw [show (Value.int .u8 0) = Value.int .u8 (mr : Int) by rw [hmr]; rfl] at HPw
    clear hmr HR1b
    have hc2 := hc1
    have HL2 := HL1
    have HP2 := HPw
    have HR2 := HR1
    clear hc1 HL1 HPw
    generalize c1 = c2 at *
    generalize w1 = w2 at *
    generalize b1 = b2 at *
    generalize A1 = A2 at *
    rcases hways with ⟨p1, pz⟩ | ⟨ad1, m0, ea, hcx, p1, pp, ⟨p2, pz⟩ | ⟨p2, py, p3, pz⟩⟩
    all_goals
      (try subst ea)
      --#17
      go_upto_region 6 with fail
      --#18
      (try clear hcx p2)
      (try clear p3 py)
      (try clear pz)
      clear p1
      (try generalize (some ad1 : Option Addr) = A2 at *)
      have HQ : Hid (parsP kd b = (⟨kd, cd, mr, (parseV (bstr (b2.take (cntP b2))).data.toList).1, bstr (b2.drop (cntP b2)), []⟩, decide ((parseV (bstr (b2.take (cntP b2))).data.toList).2 = 0) && (decide ((b2.drop (cntP b2)).length ≤ 3) && low48 (b2.drop (cntP b2))))) := Lib.hid (by rw [HP.out, hmk])
      have hcl := cnt_le b2
      have HZ2 := Lib.hid (show w.heap.size + 2 ≤ w2.heap.size from by have := HP2.out.box.lt; omega)
      have HR2b := Lib.hid (HR2.out.next HP2.out.bel)
      clear HP hmk HR1
      go_upto_region 7 with fail
      --#5
      go_loopw [7] (fun j wr => ∃ n : Nat, n ≤ cntP b2 ∧ j = .int .i64 n ∧ w2 = wr) (fun j _ => b2.length - (intOf j).toNat)
      case atStart => exact ⟨0, by omega, rfl, rfl⟩
      case round =>
        obtain ⟨n, hn, rfl, hww⟩ := hrel
        subst hww
        have hways2 : (∃ (hnl : n < b2.length), 48 ≤ b2[n]) ∨ (n = cntP b2 ∧ ((((n : Int) < (b2.length : Int)) = False) ∨ (∃ (ad2 : Addr) (x : Nat), A2 = some ad2 ∧ w2.cell? (ad2.add n) = some (.int .u8 (x : Int)) ∧ ((n : Int) < (b2.length : Int)) = True ∧ ((48 : Int) ≤ (x : Int)) = False))) := by
          by_cases hnl : n < b2.length
          · by_cases h48 : 48 ≤ b2[n]
            · exact .inl ⟨hnl, h48⟩
            · obtain ⟨ad2, ea, _, hcx⟩ := RByt.at_ HR2b.out hnl
              exact .inr ⟨cnt_end hnl hn h48, .inr ⟨ad2, b2[n], ea, hcx, eq_true (by omega), eq_false (by omega)⟩⟩
          · exact .inr ⟨by omega, .inl (eq_false (by omega))⟩
        have n0 : (0 : Int) ≤ (n : Int) := by omega
        rcases hways2 with ⟨hnl, h48⟩ | ⟨hne, hways2⟩
        · have hnx := cnt_step hnl hn h48
          have hwn : IntKind.i64.wrap ((n : Int) + 1) = (n : Int) + 1 := IntWalk.i64_in _ (by have := HL2.out; omega)
          have l0 : ((n : Int) < (b2.length : Int)) = True := eq_true (by omega)
          have l1 : ((48 : Int) ≤ (b2[n] : Int)) = True := eq_true (by omega)
          obtain ⟨ad2, ea, _, hcx⟩ := RByt.at_ HR2b.out hnl
          generalize b2[n] = x at *
          subst ea
          --#6
          go_wp2_with fail
          go_roundw
          case rel => exact ⟨n + 1, hnx, by go_num, (by first | trivial | rfl)⟩
          case measure => simp [intOf]; omega
        · have hr3 := HR2.out.pre n
          obtain ⟨A4, c4, hs4, hr4, _⟩ := HR2.out.rest (n := n) (by omega) hc2
          rw [← hne] at HQ
          have hnl : n ≤ b2.length := by omega
          have hcv3 := conv_by (hr3.next HP2.out.bel) c2
          rw [show (b2.take n).length = n by simp; omega] at hcv3
          have n2 : ((n : Int) ≤ (c2 : Int)) = True := eq_true (by omega)
          have HPx := Lib.hid (HPb.out (bstr (b2.take n)) (by have := HL2.out; rw [bstr_size]; simp; omega) w2)
          have HR4 := Lib.hid hr4; have HS4 := Lib.hid hs4
          have hpv := (parseV_range (bstr (b2.take n)).data.toList).2.2
          clear hr3 hs4 hr4 HPb
          generalize parseV (bstr (b2.take n)).data.toList = pv at *
          generalize bstr (b2.take n) = sp at *
          obtain ⟨pl, er⟩ := pv
          dsimp only at HPx hpv HQ
          have h12 : ∃ g0 : Bool, g0 = (decide (er = 0) && decide ((b2.drop n).length ≤ 3)) := ⟨_, rfl⟩
          obtain ⟨g0, hg0⟩ := h12
          have HG0 := Lib.hid hg0
          have HQ2 : Hid (parsP kd b = (⟨kd, cd, mr, pl, bstr (b2.drop n), []⟩, g0 && low48 (b2.drop n))) := Lib.hid (by rw [HQ.out, hg0, Bool.and_assoc])
          clear hg0 HQ hne hn hcl
          have hways3 : (er = 0 ∧ ((((bstr (b2.drop n)).size : Int) ≤ 3) = True) ∧ g0 = true) ∨ (er = 0 ∧ ((((bstr (b2.drop n)).size : Int) ≤ 3) = False) ∧ g0 = false) ∨ (er = 3 ∧ g0 = false) := by
            rw [HG0.out, bstr_size]
            rcases hpv with rfl | rfl
            · by_cases h3 : (b2.drop n).length ≤ 3
              · exact .inl ⟨rfl, eq_true (by omega), by simp; simpa using h3⟩
              · exact .inr (.inl ⟨rfl, eq_false (by omega), by simp; simpa using h3⟩)
            · exact .inr (.inr ⟨rfl, by simp⟩)
          clear hpv HG0
          have HRr : Hid (∀ i (h : i < b2.length), RByt w A2 b2) := Lib.hid (fun _ _ => HR2.out)
          rcases hways2 with l0 | ⟨ad2, x, ea, hcx, l0, l1⟩
          all_goals
            (try subst ea)
            --#7
            go_wp2_with fail
            refine HPx.out.mono ?_
            rintro e w3 ⟨⟨Al, cl, rfl, hol⟩, hb3⟩
            have HP3 := Lib.hid (HP2.out.next hb3)
            have HO3 := Lib.hid hol
            clear hol hb3 HPx HP2 hcv3 n2 l0 HR2b
            (try clear hcx l1)
            have HP4 := Lib.hid (HP3.out.set 3 (.slice Al pl.length cl))
            have HP5 := Lib.hid (HP4.out.set 4 (.string (bstr (b2.drop n))))
            simp only [List.setIfInBounds_toArray, List.set_cons_zero, List.set_cons_succ] at HP4 HP5
            have hsl4 := HS4.out (w3.setCell ⟨w.heap.size + 1, 3, none⟩ (.slice Al pl.length cl))
            have hcv4 := conv_by (HR4.out.next HP4.out.bel) c4
            obtain ⟨L4, hL4⟩ : ∃ L, (b2.drop n).length = L := ⟨_, rfl⟩
            rw [hL4] at hsl4 hcv4
            clear hL4
            have HO5 : Hid (OInts ((w3.setCell ⟨w.heap.size + 1, 3, none⟩ (.slice Al pl.length cl)).setCell ⟨w.heap.size + 1, 4, none⟩ (.string (bstr (b2.drop n)))) (w.heap.size + 2) (.slice Al pl.length cl) pl) := Lib.hid (by
              have h1 : w3.ownsRow (w.heap.size + 2) 3 1 (.slice Al pl.length cl) pl.length (pl.map (Value.int .i64)) := own_base (oints_own HO3.out) HZ2.out
              exact World.ownsRow.kept (World.ownsRow.kept h1 (gb_set _ 3 _) (.inr (fun e => by have := own_ge h1 _ e; omega))) (gb_set _ 4 _) (.inr (fun e => by have := own_ge h1 _ e; omega)))
            clear HS4 HR4 HO3
            generalize bstr (b2.drop n) = it at *
            obtain ⟨z0, z1, z2, z3, z4, z5⟩ := six HP3.out.box
            obtain ⟨f0, f1, f2, f3, f4, f5⟩ := six_fr HP3.out.box
            --#8
            go_upto_region 12 with fail
            --#9
            clear z0 z1 z2 z3 z4 z5 f0 f1 f2 f3 f4 f5 hsl4 hcv4 HP3 HP4
            generalize (w3.setCell ⟨w.heap.size + 1, 3, none⟩ (.slice Al pl.length cl)).setCell ⟨w.heap.size + 1, 4, none⟩ (.string it) = w5 at *
            have HR5 := Lib.hid (HR2.out.next HP5.out.bel)
            obtain ⟨z0, z1, z2, z3, z4, z5⟩ := six HP5.out.box
            rcases hways3 with ⟨rfl, l2, hg0⟩ | ⟨rfl, l2, hg0⟩ | ⟨rfl, hg0⟩
            all_goals
              have HG := Lib.hid hg0
              clear hg0
              --#10
              go_upto_region 14 with fail
              --#11
              clear z0 z1 z2 z3 z4 z5
              (try clear l2)
              go_loopw [10, 11] (fun v j wr => ∃ i : Nat, n ≤ i ∧ i ≤ b2.length ∧ j = .int .i64 i ∧ v = .bool (g0 && low48 ((b2.take i).drop n)) ∧ w5 = wr) (fun _ j _ => b2.length - (intOf j).toNat)
              case atStart => exact ⟨n, Nat.le_refl _, hnl, rfl, by rw [HG.out, List.drop_of_length_le (by simp; omega)]; rfl, rfl⟩
              case round =>
                obtain ⟨i, hi1, hi2, rfl, rfl, hww⟩ := hrel
                subst hww
                by_cases hlt : i < b2.length
                · have hwi : IntKind.i64.wrap ((i : Int) + 1) = (i : Int) + 1 := IntWalk.i64_in _ (by have := HL2.out; omega)
                  have i0 : (0 : Int) ≤ (i : Int) := by omega
                  have i1 : ((i : Int) < (b2.length : Int)) = True := eq_true (by omega)
                  have HSn := Lib.hid (show (g0 && low48 ((b2.take (i + 1)).drop n)) = ((g0 && low48 ((b2.take i).drop n)) && decide (b2[i] < 48)) by rw [take_drop_snoc b2 n i hi1 hlt, low_snoc, Bool.and_assoc])
                  obtain ⟨ad5, ea, _, hcx⟩ := RByt.at_ HR5.out hlt
                  rcases hq : (g0 && low48 ((b2.take i).drop n)) with _ | _
                  · rw [hq] at HSn
                    --#12
                    go_wp2_with fail
                    go_roundw
                    case rel => exact ⟨i + 1, by omega, by omega, by go_num, by rw [HSn.out]; rfl, (by first | trivial | rfl)⟩
                    case measure => simp [intOf]; omega
                  · rw [hq] at HSn
                    rw [ea]
                    have hlo : ((b2[i] : Int) < 48) = (decide (b2[i] < 48) = true) := by
                      by_cases h : b2[i] < 48
                      · rw [eq_true (show (b2[i] : Int) < 48 by omega), decide_eq_true h]; simp
                      · rw [eq_false (show ¬ (b2[i] : Int) < 48 by omega), decide_eq_false h]; simp
                    have HLo : Hid ((b2[i] : Int) < 48 ↔ b2[i] < 48) := Lib.hid (by omega)
                    clear hlo
                    generalize b2[i] = x5 at *
                    by_cases h48 : x5 < 48
                    · have l3 : ((x5 : Int) < 48) = True := eq_true (by omega)
                      have HSm := Lib.hid (HSn.out.trans (by rw [decide_eq_true h48]; rfl : (true && decide (x5 < 48)) = true))
                      clear HSn hq
                      --#13
                      go_wp2_with fail
                      go_roundw
                      case rel => exact ⟨i + 1, by omega, by omega, by go_num, by rw [HSm.out], (by first | trivial | rfl)⟩
                      case measure => simp [intOf]; omega
                    · have l3 : ((x5 : Int) < 48) = False := eq_false (by omega)
                      have HSm := Lib.hid (HSn.out.trans (by rw [decide_eq_false h48]; rfl : (true && decide (x5 < 48)) = false))
                      clear HSn hq
                      go_wp2_with fail
                      go_roundw
                      case rel => exact ⟨i + 1, by omega, by omega, by go_num, by rw [HSm.out], (by first | trivial | rfl)⟩
                      case measure => simp [intOf]; omega
                · obtain rfl : i = b2.length := by omega
                  have i1 : ((b2.length : Int) < (b2.length : Int)) = False := eq_false (by omega)
                  rw [List.take_length]
                  generalize (g0 && low48 (b2.drop n)) = gd at *
                  --#14
                  go_upto_region 17 with fail
                  --#16
                  repeat (first
                    | (refine wpList_load_row rfl _ _ rfl (w.heap.size + 1) rfl _ _ (0, 0) _ HP5.out.box rtU rfl rtS6 ?_)
                    | (refine wpList_store_row rfl _ _ _ rfl w.heap.size #[.int .i64 kd, .int .u8 (cd : Int), .int .u8 (mr : Int), .slice Al pl.length cl, .string it, .slice none 0 0] rfl rfl _ _ HP5.out.res rtS6 rfl (by simp [Value.oneCell']) ?_)
                    | go_step)
                  --#15
                  (try simp only [Exit.inBlock, Exit.then])
                  exact bodyPost_ret (results_row_tmpP rfl _ _ w.heap.size 31 _ (0, 0) _ rfl (setRow_heap w5 _ _ _ _ _ HP5.out.res) rtU rfl rtS6) rfl (PaQ.of _ _ HP5.out.bel HO5.out HQ2.out rfl)
end Go.Proofs.YtpiliicphoacfaaDoor
