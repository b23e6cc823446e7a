/-
  The reference's texts of keys: lists of a key and its text.
-/
import Derived.Test.YtlhabooeeohniaaDoorUdkJ
namespace Go.Proofs.YtlhabooeeohniaaDoor
open Go Go.RowKit

/-- A key's text. -/
structure Tx where
  k : Int
  s : ByteArray
def Tx.cells (x : Tx) : List Value := [.int .i64 x.k, .string x.s]
def RTx (w : World) (A : Option Addr) (l : List Tx) : Prop := Reads w w.heap.size 2 A l.length (l.flatMap Tx.cells)
theorem tx_at (l : List Tx) (k : Nat) (hk : k < l.length) : (l.flatMap Tx.cells)[k * 2]? = some (.int .i64 l[k].k) ∧ (l.flatMap Tx.cells)[k * 2 + 1]? = some (.string l[k].s) := by
  induction l generalizing k with
  | nil => simp at hk
  | cons c l ih =>
    cases k with
    | zero => simp [Tx.cells]
    | succ k =>
      have h := ih k (by simpa using hk)
      have e : (k + 1) * 2 = k * 2 + 2 := by omega
      rw [List.flatMap_cons, e]
      simp only [Tx.cells, List.cons_append, List.nil_append, List.getElem?_cons_succ, List.getElem_cons_succ]
      exact h
theorem RTx.next {w w' : World} {A : Option Addr} {l : List Tx} (h : RTx w A l) (hb : Below w.heap.size w w') : RTx w' A l := (Reads.below h hb).more hb.size
theorem RTx.at_ {w : World} {A : Option Addr} {l : List Tx} (h : RTx w A l) {k : Nat} (hk : k < l.length) :
    ∃ ad, A = some ad ∧ ad.block < w.heap.size ∧ w.cell? (ad.add (k * 2)) = some (.int .i64 l[k].k) ∧ w.cell? ⟨(ad.add (k * 2)).block, (ad.add (k * 2)).off + 1, none⟩ = some (.string l[k].s) := by
  obtain ⟨ad, e, hb, hc⟩ := h.2 (by omega)
  obtain ⟨h1, h2⟩ := tx_at l k hk
  have a1 : (⟨(ad.add (k * 2)).block, (ad.add (k * 2)).off + 1, none⟩ : Addr) = ad.add (k * 2 + 1) := (show _ = (ad.add (k * 2)).add 1 from rfl).trans (add_of_add ad _ _)
  refine ⟨ad, e, hb, hc _ _ h1, ?_⟩
  rw [a1]; exact hc _ _ h2
theorem RTx.two {w : World} {ad : Addr} {l : List Tx} (h : RTx w (some ad) l) {k : Nat} (hk : k < l.length) :
    w.cell? (ad.add (k * 2)) = some (.int .i64 l[k].k) ∧ w.cell? ⟨(ad.add (k * 2)).block, (ad.add (k * 2)).off + 1, none⟩ = some (.string l[k].s) := by
  obtain ⟨ad', e, _, h1, h2⟩ := h.at_ hk
  injection e with e; subst e
  exact ⟨h1, h2⟩
/-- A slice of the call's own. -/
def OTx (w : World) (base : Nat) (v : Value) (l : List Tx) : Prop := w.ownsRow base 59 2 v l.length (l.flatMap Tx.cells)
theorem otx_own {w : World} {base : Nat} {v : Value} {l : List Tx} (h : OTx w base v l) : w.ownsRow base 59 2 v l.length (l.flatMap Tx.cells) := h
theorem info_tx : (Tryd.prog.info? 59).map (fun i => (i.zero, i.size, i.bytes)) = some (some (.agg #[.int .i64 0, .string ⟨#[]⟩]), 2, 24) := by kernel_rfl
theorem tx_one (k : Int) (s : ByteArray) : ∀ u ∈ [Value.int .i64 k, .string s], u.oneCell' = true := by
  intro u hu
  simp at hu
  rcases hu with rfl | rfl <;> rfl
theorem OTx.reads {w : World} {base : Nat} {A : Option Addr} {n c : Nat} {l : List Tx} (h : OTx w base (.slice A n c) l) : n = l.length ∧ RTx w A l := by
  have hl := h.1
  rcases h.2 with ⟨e, hn⟩ | ⟨g, cap, cur, e, r⟩
  · injection e with e1 e2 e3
    subst e1
    have : l = [] := List.eq_nil_of_length_eq_zero hn
    subst this
    exact ⟨by omega, Reads.none_⟩
  · injection e with e1 e2 e3
    subst e1 e2
    exact ⟨rfl, Reads.of_own (show w.ownsRow base 59 2 (.slice (some ⟨g, 0, none⟩) l.length c) l.length (l.flatMap Tx.cells) from h)⟩
theorem OTx.form {w : World} {base : Nat} {v : Value} {l : List Tx} (h : OTx w base v l) : ∃ A c, v = .slice A l.length c ∧ RTx w A l ∧ ∀ ad, A = some ad → base ≤ ad.block := by
  have h0 := h
  rcases h.2 with ⟨rfl, hn⟩ | ⟨g, cap, cur, rfl, hb, r⟩
  · exact ⟨none, 0, by rw [hn], (OTx.reads h0).2, fun ad e => by cases e⟩
  · exact ⟨_, _, rfl, (OTx.reads h0).2, fun ad e => by injection e with e; subst e; exact hb⟩
theorem OTx.next {w w' : World} {base : Nat} {v : Value} {l : List Tx} (h : OTx w base v l) (hb : Below w.heap.size w w') : OTx w' base v l :=
  World.ownsRow.kept (row := none) h ⟨hb.os, hb.tape, hb.output, hb.size, fun k hk _ => hb.block k hk⟩ (by cases v.ownBlock <;> simp)

/-- Is it a key? -/
def isU (n : Int) : Bool := decide (17 ≤ n ∧ n ≤ 21) || decide (23 ≤ n ∧ n ≤ 26) || decide (n = 28) || decide (n = 29) || decide (31 ≤ n ∧ n ≤ 34)
theorem isU_any (n : Int) (w : World) : Calls Tryd.prog 18 #[.int .i64 n] w fun e w' => e = .returned (.bool (isU n)) ∧ w = w' := by
  obtain ⟨q, hq⟩ : ∃ q, q = isU n := ⟨_, rfl⟩
  rw [← hq]
  have c : n < 17 ∨ (17 ≤ n ∧ n ≤ 21) ∨ n = 22 ∨ (23 ≤ n ∧ n ≤ 26) ∨ n = 27 ∨ n = 28 ∨ n = 29 ∨ n = 30 ∨ (31 ≤ n ∧ n ≤ 34) ∨ 34 < n := by omega
  rcases c with c | c | c | c | c | c | c | c | c | c
  all_goals
    have hv : q = true ∨ q = false := by cases q <;> simp
    have hz : (q = true ↔ (17 ≤ n ∧ n ≤ 21) ∨ (23 ≤ n ∧ n ≤ 26) ∨ n = 28 ∨ n = 29 ∨ (31 ≤ n ∧ n ≤ 34)) := by rw [hq]; unfold isU; simp only [Bool.or_eq_true, decide_eq_true_eq]; omega
    clear hq
    rcases hv with rfl | rfl
    all_goals first
      | (exfalso; simp at hz; omega)
      | skip
    clear hz
    first
      | subst c
      | ((first | have e1 : (17 ≤ n) = True := eq_true (by omega) | have e1 : (17 ≤ n) = False := eq_false (by omega))
         (first | have e2 : (n ≤ 21) = True := eq_true (by omega) | have e2 : (n ≤ 21) = False := eq_false (by omega))
         (first | have e3 : (23 ≤ n) = True := eq_true (by omega) | have e3 : (23 ≤ n) = False := eq_false (by omega))
         (first | have e4 : (n ≤ 26) = True := eq_true (by omega) | have e4 : (n ≤ 26) = False := eq_false (by omega))
         (first | have e5 : (n == 28) = true := by rw [beq_iff_eq]; omega | have e5 : (n == 28) = false := by rw [beq_eq_false_iff_ne]; omega)
         (first | have e6 : (n == 29) = true := by rw [beq_iff_eq]; omega | have e6 : (n == 29) = false := by rw [beq_eq_false_iff_ne]; omega)
         (first | have e7 : (31 ≤ n) = True := eq_true (by omega) | have e7 : (31 ≤ n) = False := eq_false (by omega))
         (first | have e8 : (n ≤ 34) = True := eq_true (by omega) | have e8 : (n ≤ 34) = False := eq_false (by omega)))
    go_enter Tryd.func18, Tryd.ntmps18
    go_wp2
    go_ret
    exact ⟨rfl, rfl⟩
/-- How many bytes. -/
def usedL (l : List Tx) : Nat := (l.map (·.s.size)).sum
theorem usedL_cut (l : List Tx) (k : Nat) (h : k < l.length) : usedL (l.take (k + 1)) = usedL (l.take k) + l[k].s.size := by
  unfold usedL
  rw [List.take_succ_eq_append_getElem h, List.map_append, List.sum_append]
  rfl
theorem usedL_mono (l : List Tx) (k : Nat) : usedL (l.take k) ≤ usedL l := by
  unfold usedL
  conv => rhs; rw [← List.take_append_drop k l]
  rw [List.map_append, List.sum_append]
  omega
set_option maxHeartbeats 2000000 in
theorem usedL_any (A : Option Addr) (c : Nat) (l : List Tx) (hl : l.length ≤ 1000) (hu : usedL l ≤ 10000000000) (w : World) (hr : RTx w A l) :
    Calls Tryd.prog 24 #[.slice A l.length c] w fun e w' => e = .returned (.int .i64 (usedL l)) ∧ w = w' := by
  have HR := Lib.hid hr
  clear hr
  go_enter Tryd.func24, Tryd.ntmps24
  go_upto_region 3 with fail
  go_loopw [3, 4] (fun v i wr => ∃ k : Nat, k ≤ l.length ∧ v = .int .i64 (usedL (l.take k)) ∧ i = .int .i64 k ∧ w = wr) (fun _ i _ => l.length - (intOf i).toNat)
  case atStart => exact ⟨0, by omega, by simp [usedL], rfl, rfl⟩
  case round =>
    obtain ⟨k, hk, rfl, rfl, rfl⟩ := hrel
    by_cases hlt : k < l.length
    · have hu1 := usedL_cut l k hlt
      have hm := usedL_mono l (k + 1)
      obtain ⟨ad, rfl, _⟩ := HR.out.2 (by omega)
      obtain ⟨_, s1⟩ := HR.out.two hlt
      have hwk : IntKind.i64.wrap ((k : Int) + 1) = (k : Int) + 1 := IntWalk.i64_in _ (by omega)
      have hwn : IntKind.i64.wrap ((usedL (l.take k) : Int) + (l[k].s.size : Int)) = (usedL (l.take (k + 1)) : Int) := (IntWalk.i64_in _ (by omega)).trans (by omega)
      generalize l[k].s = t at *
      clear hu1 hm
      generalize hu2 : usedL (l.take (k + 1)) = u1 at *
      replace hu2 := Lib.hid hu2
      generalize usedL (l.take k) = u0 at *
      go_wp2_with fail
      go_roundw
      case rel => exact ⟨k + 1, by omega, by rw [hu2.out], by go_num, by first | rfl | trivial⟩
      case measure => simp [intOf]; omega
    · obtain rfl : k = l.length := by omega
      have e : l.take l.length = l := List.take_length
      rw [e]
      go_wp2_with fail
      go_ret
      exact ⟨rfl, rfl⟩
/-- What has been put. -/
def putG (key : Int) (s : ByteArray) : Bool → List Tx → List Tx
  | done, [] => if done then [] else [⟨key, s⟩]
  | done, x :: l => (if decide (key ≤ x.k) && !done then [⟨key, s⟩] else []) ++ ((if x.k = key then [] else [x]) ++ putG key s (done || decide (key ≤ x.k)) l)
def putU (l : List Tx) (key : Int) (s : ByteArray) : List Tx := putG key s (decide (s = ⟨#[]⟩)) l
theorem putG_drop (key : Int) (s : ByteArray) (done : Bool) (l : List Tx) (k : Nat) (h : k < l.length) : putG key s done (l.drop k) = (if decide (key ≤ l[k].k) && !done then [⟨key, s⟩] else []) ++ ((if l[k].k = key then [] else [l[k]]) ++ putG key s (done || decide (key ≤ l[k].k)) (l.drop (k + 1))) := by
  rw [List.drop_eq_getElem_cons h]; rfl

def PutB (W W0 : World) (base : Nat) : Prop := W.heap.size ≤ base ∧ Below base W W0
set_option maxRecDepth 100000 in
set_option maxHeartbeats 4000000 in
theorem put_any (A : Option Addr) (c : Nat) (l : List Tx) (hl : l.length ≤ 1000) (key : Int) (s : ByteArray) (w : World) (hr : RTx w A l) :
    Calls Tryd.prog 32 #[.slice A l.length c, .int .i64 key, .string s] w fun e w' => ∃ v, e = .returned v ∧ OTx w' w.heap.size v (putU l key s) ∧ Below w.heap.size w w' := by
  have HR := Lib.hid hr
  have hb0 : s.toList.isEmpty = decide (s = ⟨#[]⟩) := by
    by_cases h : s = ⟨#[]⟩
    · rw [decide_eq_true h, h, ByteArray.toList_eq]; rfl
    · rw [decide_eq_false h]
      cases hs : s.toList with
      | nil =>
        exfalso; apply h
        rw [ByteArray.toList_eq] at hs
        obtain ⟨⟨m⟩⟩ := s
        simp at hs
        rw [hs]
      | cons => rfl
  obtain ⟨Z, hZ⟩ : ∃ Z, Z = putU l key s := ⟨_, rfl⟩
  rw [← hZ]
  unfold putU at hZ
  generalize hd0 : decide (s = ⟨#[]⟩) = d0 at *
  replace hd0 := Lib.hid hd0
  have HZ := Lib.hid hZ
  clear hr hZ
  --#1
  go_enter Tryd.func32, Tryd.ntmps32
  go_upto_region 4 with fail
  clear hb0
  --#2
  go_loopw [7, 8, 9] (fun v d i wr => ∃ (k : Nat) (done : Bool) (out : List Tx), k ≤ l.length ∧ out.length ≤ 2 * k ∧ d = .bool done ∧ i = .int .i64 k ∧ OTx wr w.heap.size v out ∧ out ++ putG key s done (l.drop k) = Z ∧ Below w.heap.size w wr) (fun _ _ i _ => l.length - (intOf i).toNat)
  case atStart => exact ⟨0, d0, [], by omega, by simp, rfl, rfl, ⟨rfl, .inl ⟨rfl, rfl⟩⟩, by rw [HZ.out]; rfl, Below.refl _ _⟩
  case round =>
    obtain ⟨k, done, out, hk, hol, rfl, rfl, hown, hput, hb⟩ := hrel
    have HO := Lib.hid hown; have HP := Lib.hid hput; have HB := Lib.hid hb
    clear hown hput hb
    by_cases hlt : k < l.length
    · obtain ⟨ad, rfl, _⟩ := HR.out.2 (by omega)
      have hst := putG_drop key s done l k hlt
      have HP2 : Hid (out ++ ((if decide (key ≤ l[k].k) && !done then [⟨key, s⟩] else []) ++ ((if l[k].k = key then [] else [l[k]]) ++ putG key s (done || decide (key ≤ l[k].k)) (l.drop (k + 1)))) = Z) := Lib.hid (by rw [← hst]; exact HP.out)
      obtain ⟨s0, s1⟩ := (HR.out.next HB.out).two hlt
      have hwk : IntKind.i64.wrap ((k : Int) + 1) = (k : Int) + 1 := IntWalk.i64_in _ (by omega)
      have HRw := Lib.hid (HR.out.next HB.out)
      clear hst HP
      generalize hx : l[k] = x at *
      obtain ⟨xk, xs⟩ := x
      simp only at s0 s1 HP2
      by_cases hge : key ≤ xk
      · have q1 : (key ≤ xk) = True := eq_true hge
        rw [decide_eq_true hge, Bool.or_true] at HP2
        rcases done with _ | _
        · --#1a
          have HP3 : Hid ((out ++ [⟨key, s⟩]) ++ ((if xk = key then [] else [⟨xk, xs⟩]) ++ putG key s true (l.drop (k + 1))) = Z) := Lib.hid (by have := HP2.out; simpa using this)
          clear HP2
          --#A
          go_upto_region 9 with (at_builtin; refine wpList_pushM rfl _ _ _ rfl w.heap.size 59 _ 2 24 Tryd.underlying27 info_tx rfl (by decide) _ _ _ rfl (otx_own HO.out) [.int .i64 key, .string s] 1 rfl (tx_one key s) _ rfl _ _ _ (by simp) rfl (by unfold maxLen; omega) (by omega) HB.out.size ?_; intro v1 w1 hown1 hg1 hb1)
          have HO1 : Hid (OTx w1 w.heap.size v1 (out ++ [⟨key, s⟩])) := Lib.hid (by unfold OTx; rw [List.length_append, List.flatMap_append]; exact hown1)
          have HB1 := Lib.hid (HB.out.trans hb1)
          have hol1 : (out ++ [(⟨key, s⟩ : Tx)]).length ≤ 2 * k + 1 := by rw [List.length_append]; simp; omega
          obtain ⟨s0', s1'⟩ := (HR.out.next HB1.out).two hlt
          rw [hx] at s0' s1'
          simp only at s0' s1'
          clear hown1 hg1 hb1 s0 s1 hol
          obtain ⟨out1, ho1⟩ : ∃ o, o = out ++ [(⟨key, s⟩ : Tx)] := ⟨_, rfl⟩
          rw [← ho1] at HO1 hol1 HP3
          clear ho1 HO HB
          by_cases he : xk = key
          · subst he
            have HPn : Hid (out1 ++ putG xk s true (l.drop (k + 1)) = Z) := Lib.hid (by have := HP3.out; simpa using this)
            have q2 : (xk != xk) = false := by simp
            clear HP3
            --#B
            go_wp2_with fail
            go_roundw
            case rel => exact ⟨k + 1, true, out1, by omega, by omega, by first | rfl | trivial, by go_num, HO1.out, HPn.out, HB1.out⟩
            case measure => simp [intOf]; omega
          · have q2 : (xk != key) = true := by simpa using he
            have HPn : Hid ((out1 ++ [⟨xk, xs⟩]) ++ putG key s true (l.drop (k + 1)) = Z) := Lib.hid (by have := HP3.out; rw [if_neg he] at this; simpa using this)
            clear HP3
            --#C
            go_wp2_with (at_builtin; refine wpList_pushM rfl _ _ _ rfl w.heap.size 59 _ 2 24 Tryd.underlying27 info_tx rfl (by decide) _ _ _ rfl (otx_own HO1.out) [.int .i64 xk, .string xs] 1 rfl (tx_one xk xs) _ rfl _ _ _ (by simp) rfl (by unfold maxLen; omega) (by omega) HB1.out.size ?_; intro v2 w2 hown2 hg2 hb2)
            go_roundw
            case rel => exact ⟨k + 1, true, out1 ++ [⟨xk, xs⟩], by omega, by rw [List.length_append]; simp; omega, by first | rfl | trivial, by go_num, by unfold OTx; rw [List.length_append, List.flatMap_append]; exact hown2, HPn.out, HB1.out.trans hb2⟩
            case measure => simp [intOf]; omega
        · --#1b
          have HP3 : Hid (out ++ ((if xk = key then [] else [⟨xk, xs⟩]) ++ putG key s true (l.drop (k + 1))) = Z) := Lib.hid (by have := HP2.out; simpa using this)
          clear HP2
          by_cases he : xk = key
          · subst he
            have HPn : Hid (out ++ putG xk s true (l.drop (k + 1)) = Z) := Lib.hid (by have := HP3.out; simpa using this)
            have q2 : (xk != xk) = false := by simp
            clear HP3
            --#B
            go_wp2_with fail
            go_roundw
            case rel => exact ⟨k + 1, true, out, by omega, by omega, by first | rfl | trivial, by go_num, HO.out, HPn.out, HB.out⟩
            case measure => simp [intOf]; omega
          · have q2 : (xk != key) = true := by simpa using he
            have HPn : Hid ((out ++ [⟨xk, xs⟩]) ++ putG key s true (l.drop (k + 1)) = Z) := Lib.hid (by have := HP3.out; rw [if_neg he] at this; simpa using this)
            clear HP3
            --#C
            go_wp2_with (at_builtin; refine wpList_pushM rfl _ _ _ rfl w.heap.size 59 _ 2 24 Tryd.underlying27 info_tx rfl (by decide) _ _ _ rfl (otx_own HO.out) [.int .i64 xk, .string xs] 1 rfl (tx_one xk xs) _ rfl _ _ _ (by simp) rfl (by unfold maxLen; omega) (by omega) HB.out.size ?_; intro v2 w2 hown2 hg2 hb2)
            go_roundw
            case rel => exact ⟨k + 1, true, out ++ [⟨xk, xs⟩], by omega, by rw [List.length_append]; simp; omega, by first | rfl | trivial, by go_num, by unfold OTx; rw [List.length_append, List.flatMap_append]; exact hown2, HPn.out, HB.out.trans hb2⟩
            case measure => simp [intOf]; omega
      · have q1 : (key ≤ xk) = False := eq_false hge
        rw [decide_eq_false hge, Bool.false_and, if_neg (by simp), Bool.or_false] at HP2
        have HP3 : Hid (out ++ ((if xk = key then [] else [⟨xk, xs⟩]) ++ putG key s done (l.drop (k + 1))) = Z) := Lib.hid (by have := HP2.out; simpa using this)
        clear HP2
        by_cases he : xk = key
        · exfalso; omega
        · have q2 : (xk != key) = true := by simpa using he
          have HPn : Hid ((out ++ [⟨xk, xs⟩]) ++ putG key s done (l.drop (k + 1)) = Z) := Lib.hid (by have := HP3.out; rw [if_neg he] at this; simpa using this)
          clear HP3
          --#C
          go_wp2_with (at_builtin; refine wpList_pushM rfl _ _ _ rfl w.heap.size 59 _ 2 24 Tryd.underlying27 info_tx rfl (by decide) _ _ _ rfl (otx_own HO.out) [.int .i64 xk, .string xs] 1 rfl (tx_one xk xs) _ rfl _ _ _ (by simp) rfl (by unfold maxLen; omega) (by omega) HB.out.size ?_; intro v2 w2 hown2 hg2 hb2)
          go_roundw
          case rel => exact ⟨k + 1, done, out ++ [⟨xk, xs⟩], by omega, by rw [List.length_append]; simp; omega, by first | rfl | trivial, by go_num, by unfold OTx; rw [List.length_append, List.flatMap_append]; exact hown2, HPn.out, HB.out.trans hb2⟩
          case measure => simp [intOf]; omega
    · obtain rfl : k = l.length := by omega
      have HPe : Hid (out ++ (if done then [] else [⟨key, s⟩]) = Z) := Lib.hid (by have := HP.out; rw [List.drop_length] at this; exact this)
      clear HP
      rcases done with _ | _
      · --#D
        go_wp2_with (at_builtin; refine wpList_pushM rfl _ _ _ rfl w.heap.size 59 _ 2 24 Tryd.underlying27 info_tx rfl (by decide) _ _ _ rfl (otx_own HO.out) [.int .i64 key, .string s] 1 rfl (tx_one key s) _ rfl _ _ _ (by simp) rfl (by unfold maxLen; omega) (by omega) HB.out.size ?_; intro v2 w2 hown2 hg2 hb2)
        go_ret
        exact ⟨_, rfl, by rw [← HPe.out]; unfold OTx; rw [List.length_append, List.flatMap_append]; exact hown2, HB.out.trans hb2⟩
      · go_wp2_with fail
        go_ret
        exact ⟨_, rfl, by rw [← HPe.out]; simpa using HO.out, HB.out⟩
end Go.Proofs.YtlhabooeeohniaaDoor
