/-
  Layer 22: the table of ways; what a key sends.
  Layer 22: a character with Ctrl; Encode.
  Layer 22: Encode; the law's own calls.
-/
import Derived.Test.YtigaaidacndeiaaGreatDoorKeyC
import Derived.Great.BuildSlice
namespace Go.Proofs.YtigaaidacndeiaaGreatDoor

open Go Go.RowKit

def wayT : Array Value := #[.func (.func 41) #[] #[], .func (.func 42) #[] #[], .func (.func 43) #[] #[], .func (.func 44) #[] #[], .func (.func 45) #[] #[], .func (.func 46) #[] #[], .func (.func 46) #[] #[], .func (.func 46) #[] #[], .func (.func 46) #[] #[], .func (.func 47) #[] #[], .func (.func 47) #[] #[], .func (.func 47) #[] #[], .func (.func 47) #[] #[], .func (.func 47) #[] #[], .func (.func 47) #[] #[], .func (.func 48) #[] #[], .func (.func 49) #[] #[]]
section

variable (c : Nat) (sh ct : Bool) (m : Nat) (lv : Int) (eg : Bool) (K : Nat)

set_option maxRecDepth 100000 in
set_option maxHeartbeats 4000000 in
theorem sent_of (j : Nat) (hj : j < 17) (G : Nat) (hg : wayT[j]? = some (.func (.func G) #[] #[])) (hcf : ∀ args W, (callFunc G args).run Tryz.prog W = .ok (.enter G args) W) (R : List Nat) (w : World)
    (hc : ∀ W, Below w.heap.size w W → Calls Tryz.prog G #[.agg (bdC j c sh ct m lv eg K)] W fun e w' => GivB W.heap.size w' e R ∧ Below W.heap.size W w') :
    Calls Tryz.prog 30 #[.agg (bdC j c sh ct m lv eg K)] w fun e w' => GivB w.heap.size w' e R ∧ Below w.heap.size w w' := by
  have HB0 := Lib.hid (bd_below j c sh ct m lv eg K w)
  have HC := Lib.hid hc
  have m1 : ((j : Int) < 0) = False := eq_false (by omega)
  have m2 : ((17 : Int) ≤ (j : Int)) = False := eq_false (by omega)
  have m3 : (0 : Int) ≤ (j : Int) := by omega
  have m4 : (j : Int) < 17 := by omega
  have q := (bd_blk j c sh ct m lv eg K w).alloc (.cells wayT 92)
  have HB1 := Lib.hid (HB0.out.alloc HB0.out.size (.cells wayT 92))
  have ht := Blk.new (w.alloc (.cells (bdC j c sh ct m lv eg K) 75)) 92 wayT
  rw [World.size_alloc] at ht
  have qt : ((w.alloc (.cells (bdC j c sh ct m lv eg K) 75)).alloc (.cells wayT 92)).cell? ⟨w.heap.size + 1, j, none⟩ = some (.func (.func G) #[] #[]) := (ht.cell j).trans hg
  clear hc ht hg
  unfold bdC at *
  have q0 := q.cell 0; have q1 := q.cell 1; have q2 := q.cell 2; have q3 := q.cell 3; have q4 := q.cell 4; have q5 := q.cell 5; have q6 := q.cell 6; have q7 := q.cell 7
  clear q
  have HZb : Hid (∀ o cs, Blk ((w.alloc o).alloc (.cells cs 92)) (w.heap.size + 1) 92 cs) := Lib.hid (fun o cs => by
    have h := Blk.new (w.alloc o) 92 cs
    rw [World.size_alloc] at h
    exact h)
  have HZr : Hid (∀ o cs, ((w.alloc o).alloc (.cells cs 92)).setRow (w.heap.size + 1) wayT = (w.alloc o).alloc (.cells wayT 92)) := Lib.hid (fun o cs => by
    have h := World.setRow_alloc_new (w.alloc o) cs wayT 92
    rw [World.size_alloc] at h
    exact h)
  --#1
  go_enter Tryz.func30, Tryz.ntmps30
  go_upto_region 2 with (first | (refine wpList_buildTo rfl _ _ rfl _ rfl wayT (by kernel_rfl) ?_) | (refine wpList_store_rowTo rfl _ _ _ rfl rfl (w.heap.size + 1) wayT rfl rfl _ _ (HZb.out _ _) (by kernel_rfl) (by kernel_rfl) (by kernel_rfl) ?_))
  rw [HZr.out]
  clear HZb HZr
  --#2
  generalize ((w.alloc (.cells #[.int .i64 (j : Int), .int .u8 (c : Int), .bool sh, .bool ct, .int .u32 (m : Int), .int .i64 lv, .bool eg, .pointer (some ⟨K, 0, none⟩)] 75)).alloc (.cells wayT 92)) = W1 at *
  clear HB0
  go_upto_region 4 with fail
  go_region_law
    (go_simp; (first | refine (HC.out _ HB1.out).mono ?_ | refine (HC.out _ HB1.out.drew).mono ?_); rintro e w2 ⟨⟨A, cc, rfl, hr, hf⟩, hb2⟩)
  --#3
  go_wp2_with fail
  all_goals
    go_ret
    exact ⟨GivB.up ⟨A, cc, rfl, hr, hf⟩ (by first | exact HB1.out.size | exact HB1.out.drew.size), by first | exact HB1.out.trans (hb2.mono HB1.out.size) | exact HB1.out.drew.trans (hb2.mono HB1.out.size)⟩
end

end Go.Proofs.YtigaaidacndeiaaGreatDoor

namespace Go.Proofs.YtigaaidacndeiaaGreatDoor

open Go Go.RowKit

section

variable (k : Int) (c : Nat) (sh ct : Bool) (m : Nat) (lv : Int) (eg : Bool) (K : Nat)

set_option maxRecDepth 100000 in
set_option maxHeartbeats 4000000 in
theorem charK2_any (hc8 : c < 256) (w : World) : Calls Tryz.prog 41 #[.agg (bdC k c sh true m lv eg K)] w fun e w' => GivB w.heap.size w' e (charP c true lv) ∧ Below w.heap.size w w' := by
  have HB0 := Lib.hid (bd_below k c sh true m lv eg K w)
  have q := bd_blk k c sh true m lv eg K w
  have HBy := Lib.hid (fun W => beyond_any k c sh true m lv eg K W)
  obtain ⟨R, hR⟩ : ∃ R, R = charP c true lv := ⟨_, rfl⟩
  rw [← hR]
  unfold charP at hR
  simp only [Bool.true_and] at hR
  unfold bdC at *
  have q0 := q.cell 0; have q1 := q.cell 1; have q2 := q.cell 2; have q3 := q.cell 3; have q4 := q.cell 4; have q5 := q.cell 5; have q6 := q.cell 6; have q7 := q.cell 7
  clear q
  by_cases h1 : 64 ≤ c ∧ c ≤ 126
  · have m1 : ((64 : Int) ≤ (c : Int)) = True := eq_true (by omega)
    have m2 : ((c : Int) ≤ 126) = True := eq_true (by omega)
    have HR : Hid (R = [c % 32]) := Lib.hid (by rw [hR, decide_eq_true h1.1, decide_eq_true h1.2]; rfl)
    clear h1 hR HBy
    --#1
    go_enter Tryz.func41, Tryz.ntmps41
    go_wp2
    go_ret
    rw [HR.out]
    exact ⟨givB_new _ [c % 32] _ _ (by simp) _ _ _ (by simp) rfl (by first | omega | (simp; omega) | simp | exact HB2.out.size), HB0.out.alloc HB0.out.size _⟩
  · have m1 : (((64 : Int) ≤ (c : Int)) = True ∧ ((c : Int) ≤ 126) = False) ∨ ((64 : Int) ≤ (c : Int)) = False := by
      by_cases h : 64 ≤ c
      · exact .inl ⟨eq_true (by omega), eq_false (by omega)⟩
      · exact .inr (eq_false (by omega))
    have hb : (decide (64 ≤ c) && decide (c ≤ 126)) = false := by simp; omega
    rw [hb, if_neg (by simp)] at hR
    clear hb
    by_cases h2 : c = 32
    · have HR : Hid (R = [0]) := Lib.hid (by rw [hR, decide_eq_true h2]; rfl)
      have e1 : ((c : Int) == 32) = true := by rw [beq_iff_eq]; omega
      clear h1 h2 hR HBy
      rcases m1 with ⟨m1, m2⟩ | m1
      all_goals
        go_enter Tryz.func41, Tryz.ntmps41
        go_wp2
        go_ret
        rw [HR.out]
        exact ⟨givB_new _ [0] _ _ rfl _ _ _ (by simp) rfl (by first | omega | (simp; omega) | simp | exact HB2.out.size), HB0.out.alloc HB0.out.size _⟩
    · have e1 : ((c : Int) == 32) = false := by rw [beq_eq_false_iff_ne]; omega
      rw [decide_eq_false h2, if_neg (by simp)] at hR
      by_cases h3 : c = 63
      · have HR : Hid (R = [127]) := Lib.hid (by rw [hR, decide_eq_true h3]; rfl)
        have e2 : ((c : Int) == 63) = true := by rw [beq_iff_eq]; omega
        clear h1 h2 h3 hR HBy
        rcases m1 with ⟨m1, m2⟩ | m1
        all_goals
          go_enter Tryz.func41, Tryz.ntmps41
          go_wp2
          go_ret
          rw [HR.out]
          exact ⟨givB_new _ [127] _ _ rfl _ _ _ (by simp) rfl (by first | omega | (simp; omega) | simp | exact HB2.out.size), HB0.out.alloc HB0.out.size _⟩
      · have e2 : ((c : Int) == 63) = false := by rw [beq_eq_false_iff_ne]; omega
        rw [decide_eq_false h3, if_neg (by simp)] at hR
        have hcs : (32 ≤ c ∧ c < 64 ∧ R = [c]) ∨ (c < 32 ∧ R = []) ∨ (126 < c ∧ c < 160 ∧ R = []) ∨ (160 ≤ c ∧ R = if decide (2 ≤ lv) then [c] else []) := by
          rcases (by omega : c < 32 ∨ (32 ≤ c ∧ c < 64) ∨ (126 < c ∧ c < 160) ∨ 160 ≤ c) with h | h | h | h
          · right; left; refine ⟨h, ?_⟩; rw [hR, decide_eq_false (by omega : ¬ 32 ≤ c), decide_eq_false (by omega : ¬ 160 ≤ c)]; rfl
          · left; refine ⟨h.1, h.2, ?_⟩; rw [hR, decide_eq_true h.1, decide_eq_true (by omega : c ≤ 126)]; rfl
          · right; right; left; refine ⟨h.1, h.2, ?_⟩; rw [hR, decide_eq_false (by omega : ¬ c ≤ 126), decide_eq_false (by omega : ¬ 160 ≤ c), Bool.and_false]; rfl
          · right; right; right; refine ⟨h, ?_⟩; rw [hR, decide_eq_false (by omega : ¬ c ≤ 126), decide_eq_true h, Bool.and_false, Bool.false_or, Bool.true_and]
        clear h1 h2 h3 hR
        rcases hcs with ⟨g1, g2, g3⟩ | ⟨g1, g3⟩ | ⟨g1, g2, g3⟩ | ⟨g1, g3⟩
        · have m3 : ((32 : Int) ≤ (c : Int)) = True := eq_true (by omega)
          have m4 : ((c : Int) ≤ 126) = True := eq_true (by omega)
          have m5 : ((64 : Int) ≤ (c : Int)) = False := eq_false (by omega)
          have HR := Lib.hid g3
          clear g1 g2 g3 m1 HBy
          go_enter Tryz.func41, Tryz.ntmps41
          go_wp2
          go_ret
          rw [HR.out]
          exact ⟨givB_new _ [c] _ _ rfl _ _ _ (by simp) rfl (by first | omega | (simp; omega) | simp | exact HB2.out.size), HB0.out.alloc HB0.out.size _⟩
        · have m3 : ((32 : Int) ≤ (c : Int)) = False := eq_false (by omega)
          have m4 : ((160 : Int) ≤ (c : Int)) = False := eq_false (by omega)
          have m5 : ((64 : Int) ≤ (c : Int)) = False := eq_false (by omega)
          have HR := Lib.hid g3
          clear g1 g3 m1 HBy
          go_enter Tryz.func41, Tryz.ntmps41
          go_wp2
          go_ret
          rw [HR.out]
          exact ⟨givB_nil _, HB0.out⟩
        · have m3 : ((32 : Int) ≤ (c : Int)) = True := eq_true (by omega)
          have m4 : ((c : Int) ≤ 126) = False := eq_false (by omega)
          have m5 : ((160 : Int) ≤ (c : Int)) = False := eq_false (by omega)
          have m6 : ((64 : Int) ≤ (c : Int)) = True := eq_true (by omega)
          have HR := Lib.hid g3
          clear g1 g2 g3 m1 HBy
          go_enter Tryz.func41, Tryz.ntmps41
          go_wp2
          go_ret
          rw [HR.out]
          exact ⟨givB_nil _, HB0.out⟩
        · have m3 : ((32 : Int) ≤ (c : Int)) = True := eq_true (by omega)
          have m4 : ((c : Int) ≤ 126) = False := eq_false (by omega)
          have m5 : ((160 : Int) ≤ (c : Int)) = True := eq_true (by omega)
          have m6 : ((64 : Int) ≤ (c : Int)) = True := eq_true (by omega)
          have HR := Lib.hid g3
          clear g1 g3 m1
          generalize decide (2 ≤ lv) = b at *
          rcases b with _ | _
          all_goals
            go_enter Tryz.func41, Tryz.ntmps41
            go_wp2_with fail
            refine (HBy.out _).mono ?_
            rintro e w2 ⟨rfl, hb2⟩
            have HB2 := Lib.hid (HB0.out.trans (hb2.mono HB0.out.size))
            clear hb2
            go_wp2_with fail
            go_ret
            rw [HR.out]
            first
              | exact ⟨givB_nil _, HB2.out⟩
              | exact ⟨givB_new _ [c] _ _ rfl _ _ _ (by simp) rfl (by first | omega | (simp; omega) | simp | exact HB2.out.size), HB2.out.alloc HB2.out.size _⟩
theorem charKK_any (hc8 : c < 256) (w : World) : Calls Tryz.prog 41 #[.agg (bdC k c sh ct m lv eg K)] w fun e w' => GivB w.heap.size w' e (charP c ct lv) ∧ Below w.heap.size w w' := by
  cases ct
  · exact charK_any k c sh m lv eg K hc8 w
  · exact charK2_any k c sh m lv eg K hc8 w
/-- What a kind of key sends. -/
def wayP (T : List ByteArray) : Nat → List Nat
  | 0 => charP c ct lv
  | 1 => enterP (hasN m 3)
  | 2 => tabP sh lv eg
  | 3 => backP (hasN m 13)
  | 4 => [27]
  | 5 => cursP eg 0 (hasN m 4)
  | 6 => cursP eg 1 (hasN m 4)
  | 7 => cursP eg 2 (hasN m 4)
  | 8 => cursP eg 3 (hasN m 4)
  | 9 => editP 9 lv eg
  | 10 => editP 10 lv eg
  | 11 => editP 11 lv eg
  | 12 => editP 12 lv eg
  | 13 => editP 13 lv eg
  | 14 => editP 14 lv eg
  | 15 => padP c eg (hasN m 12) (hasN m 3)
  | 16 => funcP c sh lv eg T
  | _ => []
/-- What stays in memory while keys are asked. -/
structure KeyW (w : World) (K : Nat) (T : List ByteArray) (lk : Bool) : Prop where
  key : KeyB w K T lk
  nums : Nums w
  knum : KNums w
  ten : Ten w
theorem KeyW.next {w w' : World} {K : Nat} {T : List ByteArray} {lk : Bool} (h : KeyW w K T lk) (hb : Below w.heap.size w w') : KeyW w' K T lk := ⟨h.key.next hb, h.nums.next hb, h.knum.next hb, h.ten.next hb⟩
theorem sent_any (T : List ByteArray) (lk : Bool) (hc8 : c < 256) (hm : m < 2 ^ 32) (j : Nat) (hj : j < 17) (w : World) (h : KeyW w K T lk) :
    Calls Tryz.prog 30 #[.agg (bdC j c sh ct m lv eg K)] w fun e w' => GivB w.heap.size w' e (wayP c sh ct m lv eg T j) ∧ Below w.heap.size w w' := by
  have hk : ∀ W, Below w.heap.size w W → KeyW W K T lk := fun W hW => h.next hW
  match j, hj with
  | 0, _ => exact sent_of c sh ct m lv eg K 0 (by omega) _ rfl Tryz.call41 _ w (fun W _ => charKK_any _ c sh ct m lv eg K hc8 W)
  | 1, _ => exact sent_of c sh ct m lv eg K 1 (by omega) _ rfl Tryz.call42 _ w (fun W _ => enterK_any _ c sh ct m lv eg K hm W)
  | 2, _ => exact sent_of c sh ct m lv eg K 2 (by omega) _ rfl Tryz.call43 _ w (fun W hW => tabK_any _ c sh ct m lv eg K W (hk W hW).ten)
  | 3, _ => exact sent_of c sh ct m lv eg K 3 (by omega) _ rfl Tryz.call44 _ w (fun W _ => backK_any _ c sh ct m lv eg K hm W)
  | 4, _ => exact sent_of c sh ct m lv eg K 4 (by omega) _ rfl Tryz.call45 _ w (fun W _ => escK_any _ c sh ct m lv eg K W)
  | 5, _ => exact sent_of c sh ct m lv eg K 5 (by omega) _ rfl Tryz.call46 _ w (fun W hW => cursK_any c sh ct m lv eg K 0 (by omega) hm W (hk W hW).ten)
  | 6, _ => exact sent_of c sh ct m lv eg K 6 (by omega) _ rfl Tryz.call46 _ w (fun W hW => cursK_any c sh ct m lv eg K 1 (by omega) hm W (hk W hW).ten)
  | 7, _ => exact sent_of c sh ct m lv eg K 7 (by omega) _ rfl Tryz.call46 _ w (fun W hW => cursK_any c sh ct m lv eg K 2 (by omega) hm W (hk W hW).ten)
  | 8, _ => exact sent_of c sh ct m lv eg K 8 (by omega) _ rfl Tryz.call46 _ w (fun W hW => cursK_any c sh ct m lv eg K 3 (by omega) hm W (hk W hW).ten)
  | 9, _ => exact sent_of c sh ct m lv eg K 9 (by omega) _ rfl Tryz.call47 _ w (fun W hW => editK_any _ c sh ct m lv eg K (by decide) W (hk W hW).ten)
  | 10, _ => exact sent_of c sh ct m lv eg K 10 (by omega) _ rfl Tryz.call47 _ w (fun W hW => editK_any _ c sh ct m lv eg K (by decide) W (hk W hW).ten)
  | 11, _ => exact sent_of c sh ct m lv eg K 11 (by omega) _ rfl Tryz.call47 _ w (fun W hW => editK_any _ c sh ct m lv eg K (by decide) W (hk W hW).ten)
  | 12, _ => exact sent_of c sh ct m lv eg K 12 (by omega) _ rfl Tryz.call47 _ w (fun W hW => editK_any _ c sh ct m lv eg K (by decide) W (hk W hW).ten)
  | 13, _ => exact sent_of c sh ct m lv eg K 13 (by omega) _ rfl Tryz.call47 _ w (fun W hW => editK_any _ c sh ct m lv eg K (by decide) W (hk W hW).ten)
  | 14, _ => exact sent_of c sh ct m lv eg K 14 (by omega) _ rfl Tryz.call47 _ w (fun W hW => editK_any _ c sh ct m lv eg K (by decide) W (hk W hW).ten)
  | 15, _ => exact sent_of c sh ct m lv eg K 15 (by omega) _ rfl Tryz.call48 _ w (fun W hW => padK_any _ c sh ct m lv eg K hc8 hm W (hk W hW).ten)
  | 16, _ => exact sent_of c sh ct m lv eg K 16 (by omega) _ rfl Tryz.call49 _ w (fun W hW => funcK_any _ c sh ct m lv eg K T lk hc8 W (hk W hW).key (hk W hW).nums (hk W hW).knum (hk W hW).ten)
  | n + 17, h17 => exact absurd h17 (by omega)
end

end Go.Proofs.YtigaaidacndeiaaGreatDoor

namespace Go.Proofs.YtigaaidacndeiaaGreatDoor

open Go Go.RowKit

section

variable (k : Int) (c : Nat) (sh ct : Bool) (m : Nat) (lv : Int) (eg : Bool) (K : Nat)

set_option maxRecDepth 100000 in
set_option maxHeartbeats 4000000 in
theorem sent_no (hk : k < 0 ∨ 17 ≤ k) (w : World) : Calls Tryz.prog 30 #[.agg (bdC k c sh ct m lv eg K)] w fun e w' => GivB w.heap.size w' e [] ∧ Below w.heap.size w w' := by
  have HB0 := Lib.hid (bd_below k c sh ct m lv eg K w)
  have hm12 : ((k < 0) = True) ∨ ((k < 0) = False ∧ ((17 : Int) ≤ k) = True) := by
    by_cases h : k < 0
    · exact .inl (eq_true h)
    · exact .inr ⟨eq_false h, eq_true (by omega)⟩
  have q := (bd_blk k c sh ct m lv eg K w).alloc (.cells wayT 92)
  have HB1 := Lib.hid (HB0.out.alloc HB0.out.size (.cells wayT 92))
  clear hk
  unfold bdC at *
  have q0 := q.cell 0
  clear q
  have HZb : Hid (∀ o cs, Blk ((w.alloc o).alloc (.cells cs 92)) (w.heap.size + 1) 92 cs) := Lib.hid (fun o cs => by
    have h := Blk.new (w.alloc o) 92 cs
    rw [World.size_alloc] at h
    exact h)
  have HZr : Hid (∀ o cs, ((w.alloc o).alloc (.cells cs 92)).setRow (w.heap.size + 1) wayT = (w.alloc o).alloc (.cells wayT 92)) := Lib.hid (fun o cs => by
    have h := World.setRow_alloc_new (w.alloc o) cs wayT 92
    rw [World.size_alloc] at h
    exact h)
  go_enter Tryz.func30, Tryz.ntmps30
  go_upto_region 2 with (first | (refine wpList_buildTo rfl _ _ rfl _ rfl wayT (by kernel_rfl) ?_) | (refine wpList_store_rowTo rfl _ _ _ rfl rfl (w.heap.size + 1) wayT rfl rfl _ _ (HZb.out _ _) (by kernel_rfl) (by kernel_rfl) (by kernel_rfl) ?_))
  rw [HZr.out]
  clear HZb HZr
  generalize ((w.alloc (.cells #[.int .i64 k, .int .u8 (c : Int), .bool sh, .bool ct, .int .u32 (m : Int), .int .i64 lv, .bool eg, .pointer (some ⟨K, 0, none⟩)] 75)).alloc (.cells wayT 92)) = W1 at *
  clear HB0
  rcases hm12 with m1 | ⟨m1, m2⟩
  all_goals
    go_wp2_with fail
    go_ret
    exact ⟨givB_nil _, HB1.out⟩
/-- What a key sends. -/
def encP (T : List ByteArray) : List Nat := if hasN m 0 then [] else if 0 ≤ k ∧ k < 17 then wayP c sh ct m lv eg T k.toNat else []
set_option maxRecDepth 100000 in
set_option maxHeartbeats 4000000 in
theorem enc_any (T : List ByteArray) (lk : Bool) (hc8 : c < 256) (hm : m < 2 ^ 32) (w : World) (h : KeyW w K T lk) :
    Calls Tryz.prog 17 #[.agg #[.int .i64 k, .int .u8 (c : Int), .bool sh, .bool ct], .int .u32 (m : Int), .int .i64 lv, .bool eg, .pointer (some ⟨K, 0, none⟩)] w fun e w' => GivB w.heap.size w' e (encP k c sh ct m lv eg T) ∧ Below w.heap.size w w' := by
  have HH := Lib.hid (fun W => has_any m hm 0 W)
  obtain ⟨R, hR⟩ : ∃ R, R = encP k c sh ct m lv eg T := ⟨_, rfl⟩
  rw [← hR]
  unfold encP at hR
  have HB0 := Lib.hid (show Below w.heap.size w (w.alloc (.cells #[.int .i64 k, .int .u8 (c : Int), .bool sh, .bool ct] 46)) from (Below.refl _ _).alloc (Nat.le_refl _) _)
  have hS : ∃ S : List Nat, (if 0 ≤ k ∧ k < 17 then wayP c sh ct m lv eg T k.toNat else []) = S ∧ ∀ W, Below w.heap.size w W → Calls Tryz.prog 30 #[.agg (bdC k c sh ct m lv eg K)] W fun e w' => GivB W.heap.size w' e S ∧ Below W.heap.size W w' := by
    by_cases hk : 0 ≤ k ∧ k < 17
    · refine ⟨_, if_pos hk, fun W hW => ?_⟩
      have hs := sent_any c sh ct m lv eg K T lk hc8 hm k.toNat (by omega) W (h.next hW)
      rw [show ((k.toNat : Nat) : Int) = k from by omega] at hs
      exact hs
    · exact ⟨[], if_neg hk, fun W _ => sent_no k c sh ct m lv eg K (by omega) W⟩
  obtain ⟨S, hS1, hS2⟩ := hS
  rw [hS1] at hR
  have HS := Lib.hid hS2
  clear hS1 hS2 h
  generalize hasN m 0 = b at *
  rcases b with _ | _
  · have HR : Hid (R = S) := Lib.hid hR
    unfold bdC at *
    clear hR
    --#1
    go_enter Tryz.func17, Tryz.ntmps17
    go_wp2_with fail
    refine (HH.out _).mono ?_
    rintro e w1 ⟨rfl, rfl⟩
    go_wp2_with fail
    refine (HS.out _ HB0.out).mono ?_
    rintro e w2 ⟨⟨A, cc, rfl, hr, hf⟩, hb2⟩
    go_wp2_with fail
    go_ret
    rw [HR.out]
    exact ⟨GivB.up ⟨A, cc, rfl, hr, hf⟩ HB0.out.size, HB0.out.trans (hb2.mono HB0.out.size)⟩
  · have HR : Hid (R = []) := Lib.hid hR
    clear hR HS
    go_enter Tryz.func17, Tryz.ntmps17
    go_wp2_with fail
    refine (HH.out _).mono ?_
    rintro e w1 ⟨rfl, rfl⟩
    go_wp2_with fail
    go_ret
    rw [HR.out]
    exact ⟨givB_nil _, HB0.out⟩
end

end Go.Proofs.YtigaaidacndeiaaGreatDoor
