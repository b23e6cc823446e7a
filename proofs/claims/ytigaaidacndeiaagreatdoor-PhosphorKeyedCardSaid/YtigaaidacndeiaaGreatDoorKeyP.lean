/-
  Layer 22's law: what function and editing keys send.
-/
import Derived.Test.YtigaaidacndeiaaGreatDoorKeyH
import Derived.Test.YtigaaidacndeiaaGreatDoorRplB
namespace Go.Proofs.YtigaaidacndeiaaGreatDoor
open Go Go.RowKit
set_option maxRecDepth 100000

def numT : Array Value := #[.int .i64 17, .int .i64 18, .int .i64 19, .int .i64 20, .int .i64 21, .int .i64 23, .int .i64 24, .int .i64 25, .int .i64 26, .int .i64 28, .int .i64 29, .int .i64 31, .int .i64 32, .int .i64 33, .int .i64 34]
theorem numT_at (j : Nat) (hj : j < 15) : numT[j]? = some (.int .i64 (nthU j)) := by
  rcases (by omega : j = 0 ∨ j = 1 ∨ j = 2 ∨ j = 3 ∨ j = 4 ∨ j = 5 ∨ j = 6 ∨ j = 7 ∨ j = 8 ∨ j = 9 ∨ j = 10 ∨ j = 11 ∨ j = 12 ∨ j = 13 ∨ j = 14) with rfl | rfl | rfl | rfl | rfl | rfl | rfl | rfl | rfl | rfl | rfl | rfl | rfl | rfl | rfl <;> rfl
set_option maxHeartbeats 4000000 in
theorem refNum_any (c : Nat) (hc : c < 256) (w : World) : Calls Tryz.prog 16 #[.int .i64 (c : Int)] w fun e w' => e = .returned (.int .i64 (numK c)) ∧ Below w.heap.size w w' := by
  have HB := Lib.hid ((Below.refl w.heap.size w).alloc (Nat.le_refl _) (.cells numT 73))
  have HX := Lib.hid (Blk.new w 73 numT)
  unfold numK
  by_cases h1 : c < 6
  · rw [if_pos (.inl h1)]
    have m1 : ((c : Int) < 6) = True := eq_true (by omega)
    go_enter Tryz.func16, Tryz.ntmps16
    unfold numT at *
    go_wp2_with fail
    go_ret
    exact ⟨rfl, HB.out⟩
  have m1 : ((c : Int) < 6) = False := eq_false (by omega)
  by_cases h2 : 21 ≤ c
  · rw [if_pos (.inr h2)]
    have m2 : ((20 : Int) < (c : Int)) = True := eq_true (by omega)
    go_enter Tryz.func16, Tryz.ntmps16
    unfold numT at *
    go_wp2_with fail
    go_ret
    exact ⟨rfl, HB.out⟩
  have m2 : ((20 : Int) < (c : Int)) = False := eq_false (by omega)
  rw [if_neg (by omega)]
  obtain ⟨j, rfl⟩ : ∃ j, c = j + 6 := ⟨c - 6, by omega⟩
  have hj : j < 15 := by omega
  rw [show j + 6 - 6 = j by omega]
  have e1 : ((j + 6 : Nat) : Int) - 6 = (j : Int) := by omega
  have hw1 : IntKind.i64.wrap (((j + 6 : Nat) : Int) - 6) = (j : Int) := by rw [e1]; exact IntWalk.i64_in _ (by omega)
  have hcl := HX.out.cell j
  rw [numT_at j hj] at hcl
  have k0 : (0 : Int) ≤ (j : Int) := by omega
  have k1 : ((j : Int) < 15) = True := eq_true (by omega)
  generalize hcj : ((j + 6 : Nat) : Int) = cj at *
  clear e1 hcj h1 h2
  go_enter Tryz.func16, Tryz.ntmps16
  unfold numT at *
  go_wp2_with fail
  go_ret
  exact ⟨rfl, HB.out⟩
/-! What is sent. -/
theorem hasN_zero : hasN 0 0 = false := by decide +kernel
/-- Is it a function key that has a number, or an editing key? -/
def okKey (k : Int) (c : Nat) : Prop := (9 ≤ k ∧ k ≤ 14) ∨ (k = 16 ∧ 0 < numK c)
def nKey (k : Int) (c : Nat) : Int := if k = 16 then numK c else k - 8
theorem numK_bounds (c : Nat) : 0 ≤ numK c ∧ numK c ≤ 34 := by
  unfold numK
  split
  · omega
  · rename_i h
    have : ∀ j : Fin 15, 0 ≤ nthU j.val ∧ nthU j.val ≤ 34 := by decide
    exact this ⟨c - 6, by omega⟩
theorem numK_low (c : Nat) (h : 0 < numK c) : 6 ≤ c ∧ c ≤ 20 ∧ 17 ≤ numK c := by
  unfold numK at *
  split at h
  · omega
  · rename_i hc
    rw [if_neg hc]
    have : ∀ j : Fin 15, 17 ≤ nthU j.val := by decide
    exact ⟨by omega, by omega, this ⟨c - 6, by omega⟩⟩
theorem nthU_inj : ∀ i j : Fin 15, nthU i.val = nthU j.val → i = j := by decide
theorem numK_inj {c d : Nat} (hc : 0 < numK c) (hd : 0 < numK d) (h : numK c = numK d) : c = d := by
  have h1 := numK_low c hc
  have h2 := numK_low d hd
  unfold numK at h
  rw [if_neg (by omega), if_neg (by omega)] at h
  have := nthU_inj ⟨c - 6, by omega⟩ ⟨d - 6, by omega⟩ h
  have := congrArg Fin.val this
  dsimp only at this
  omega
theorem nKey_bounds {k : Int} {c : Nat} (h : okKey k c) : 1 ≤ nKey k c ∧ nKey k c ≤ 34 := by
  have := numK_bounds c
  unfold okKey at h
  unfold nKey
  split <;> omega
theorem nKey_inj {k l : Int} {c d : Nat} (h1 : okKey k c) (h2 : okKey l d) : nKey k c = nKey l d ↔ k = l ∧ (k ≠ 16 ∨ c = d) := by
  unfold okKey at h1 h2
  unfold nKey
  have b1 := numK_low c
  have b2 := numK_low d
  by_cases e1 : k = 16
  · by_cases e2 : l = 16
    · subst e1 e2
      rw [if_pos rfl, if_pos rfl]
      have g1 : 0 < numK c := by omega
      have g2 : 0 < numK d := by omega
      exact ⟨fun h => ⟨rfl, .inr (numK_inj g1 g2 h)⟩, fun h => by rcases h.2 with h | h; exact absurd rfl h; rw [h]⟩
    · rw [if_pos e1, if_neg e2]
      have g1 : 0 < numK c := by omega
      have := b1 g1
      constructor
      · intro h; omega
      · intro h; omega
  · by_cases e2 : l = 16
    · rw [if_neg e1, if_pos e2]
      have g2 : 0 < numK d := by omega
      have := b2 g2
      constructor
      · intro h; omega
      · intro h; omega
    · rw [if_neg e1, if_neg e2]
      exact ⟨fun h => ⟨by omega, .inl e1⟩, fun h => by omega⟩
theorem enc_ok {k : Int} {c : Nat} (h : okKey k c) (ct eg : Bool) (T : List ByteArray) : encP k (if k = 16 then c else 0) false ct 0 2 eg T = numbP eg (nKey k c) := by
  unfold encP
  rw [hasN_zero]
  simp only [Bool.false_eq_true, if_false]
  rcases h with ⟨h1, h2⟩ | ⟨rfl, h2⟩
  · have h6 : k = 9 ∨ k = 10 ∨ k = 11 ∨ k = 12 ∨ k = 13 ∨ k = 14 := by omega
    rcases h6 with rfl | rfl | rfl | rfl | rfl | rfl <;> rfl
  · have b := numK_low c h2
    rw [if_pos (by decide), if_pos rfl]
    show funcP c false 2 eg T = numbP eg (numK c)
    unfold funcP
    rw [if_neg (by omega), if_neg (by decide), if_neg (by omega)]
    rfl
theorem numb_chk {n : Int} (h : 1 ≤ n ∧ n ≤ 34) : checkP 4 126 0 [n] ⟨#[]⟩ [] = 0 := check_csi 126 0 [n] (by simp) (fun x hx => by simp at hx; omega) (by decide +kernel)
theorem numb_eq {n : Int} (h : 1 ≤ n ∧ n ≤ 34) (e : Bool) : numbP e n = bytesL 4 126 0 [n] ⟨#[]⟩ [] e := by
  have hin : ∀ x ∈ [n], 0 ≤ x ∧ x ≤ 65535 := fun x hx => by simp at hx; omega
  have e1 : byteAt ⟨#[126]⟩ ((ByteArray.mk #[126]).size - 1) = 126 := by decide +kernel
  have e2 : tkM ⟨#[126]⟩ = 0 := by decide +kernel
  have e3 : tkS ⟨#[126]⟩ = ⟨#[]⟩ := by kernel_rfl
  have e4 : natL (ByteArray.mk #[]).data.toList = [] := rfl
  unfold numbP repL
  rw [if_neg (by decide), nums_in_ (by simp) hin, e1, e2, e3, e4, if_pos (numb_chk h)]
theorem numb_feed {n : Int} (h : 1 ≤ n ∧ n ≤ 34) (e : Bool) : feedL ps0 (numbP e n) = (ps0, [⟨4, 126, 0, [n], ⟨#[]⟩, []⟩]) := by
  rw [numb_eq h]
  exact feed_tok (numb_chk h) (by simp) e
theorem numb_inj {n m : Int} (h1 : 1 ≤ n ∧ n ≤ 34) (h2 : 1 ≤ m ∧ m ≤ 34) (e : Bool) (h : bstr (numbP e n) = bstr (numbP e m)) : n = m := by
  have q := bstr_inj (rep_lt 4 ⟨#[126]⟩ ⟨#[]⟩ [n] e) (rep_lt 4 ⟨#[126]⟩ ⟨#[]⟩ [m] e) h
  have f1 := numb_feed h1 e
  have f2 := numb_feed h2 e
  have q2 : numbP e n = numbP e m := q
  rw [q2, f2] at f1
  simp at f1
  exact f1.symm
theorem enc_A {k : Int} (h : 9 ≤ k ∧ k ≤ 14) (ct eg : Bool) (T : List ByteArray) : encP k 0 false ct 0 2 eg T = numbP eg (k - 8) := by
  have q := enc_ok (k := k) (c := 0) (.inl h) ct eg T
  rw [if_neg (by omega)] at q
  rw [q]
  unfold nKey
  rw [if_neg (by omega)]
theorem enc_B {c : Nat} (h : 0 < numK c) (ct eg : Bool) (T : List ByteArray) : encP 16 c false ct 0 2 eg T = numbP eg (numK c) := enc_ok (k := 16) (c := c) (.inr ⟨rfl, h⟩) ct eg T
/-- What is kept from key to key. -/
structure ApW (w : World) (ga gb K S G : Nat) (Xa Xb X8 : Array Value) (t0 t1 : ByteArray) (W : World) : Prop where
  bel : Below w.heap.size w W
  ba : Blk W ga 38 Xa
  bb : Blk W gb 38 Xb
  key : KeyB W K noT false
  sent : Blk W S 42 #[.string t0, .string t1]
  ls : Blk W G 38 X8
theorem ApW.next {w W W' : World} {ga gb K S G : Nat} {Xa Xb X8 : Array Value} {t0 t1 : ByteArray} (h : ApW w ga gb K S G Xa Xb X8 t0 t1 W) (hb : Below W.heap.size W W') : ApW w ga gb K S G Xa Xb X8 t0 t1 W' :=
  ⟨h.bel.trans (hb.mono h.bel.size), h.ba.next hb, h.bb.next hb, h.key.next hb, h.sent.next hb, h.ls.next hb⟩
theorem ApW.put {w W : World} {ga gb K S G : Nat} {Xa Xb X8 : Array Value} {t0 t1 : ByteArray} (h : ApW w ga gb K S G Xa Xb X8 t0 t1 W) {g i : Nat} (hw : w.heap.size ≤ g) (h1 : ga < g) (h2 : gb < g) (h3 : K < g) (h4 : S < g) (h5 : G < g) (u : Value) : ApW w ga gb K S G Xa Xb X8 t0 t1 (W.setCell ⟨g, i, none⟩ u) := by
  have hb : Below g W (W.setCell ⟨g, i, none⟩ u) := (Below.refl g W).setCell (p := ⟨g, i, none⟩) (by simp) u
  exact ⟨h.bel.trans (hb.mono hw), (hb.block ga h1).trans h.ba, (hb.block gb h2).trans h.bb, ⟨(hb.block K h3).trans h.key.1, h.key.2⟩, (hb.block S h4).trans h.sent, (hb.block G h5).trans h.ls⟩
theorem ApW.sent0 {w W : World} {ga gb K S G : Nat} {Xa Xb X8 : Array Value} {t0 t1 : ByteArray} (h : ApW w ga gb K S G Xa Xb X8 t0 t1 W) (hS : w.heap.size ≤ S) (h1 : ga ≠ S) (h2 : gb ≠ S) (h3 : K ≠ S) (h5 : G ≠ S) (i : Nat) (t : ByteArray) (u0 u1 : ByteArray) (hu : (#[.string t0, .string t1] : Array Value).setIfInBounds i (.string t) = #[.string u0, .string u1]) : ApW w ga gb K S G Xa Xb X8 u0 u1 (W.setCell ⟨S, i, none⟩ (.string t)) := by
  have hb : Below S W (W.setCell ⟨S, i, none⟩ (.string t)) := (Below.refl S W).setCell (p := ⟨S, i, none⟩) (by simp) _
  have far : ∀ {g : Nat} {T : TypeId} {cs : Array Value}, Blk W g T cs → g ≠ S → Blk (W.setCell ⟨S, i, none⟩ (.string t)) g T cs := fun hB hne => hB.far (p := ⟨S, i, none⟩) hne _
  refine ⟨h.bel.trans (hb.mono hS), far h.ba h1, far h.bb h2, ⟨far h.key.1 h3, h.key.2⟩, ?_, far h.ls h5⟩
  have := h.sent.set_ i (.string t)
  rw [hu] at this
  exact this
end Go.Proofs.YtigaaidacndeiaaGreatDoor
