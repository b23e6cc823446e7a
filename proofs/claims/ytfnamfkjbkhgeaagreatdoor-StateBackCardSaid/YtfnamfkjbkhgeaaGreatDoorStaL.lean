/-
  All of it, brought back: plainly, and by the program.
-/
import Derived.Test.YtfnamfkjbkhgeaaGreatDoorStaK
import Derived.Test.YtfnamfkjbkhgeaaGreatDoorParV
namespace Go.Proofs.YtfnamfkjbkhgeaaGreatDoor

open Go Go.RowKit

set_option maxHeartbeats 800000 in
theorem equalS_any (A B : Option Addr) (c d : Nat) (ns ms : List Int) (hn : ns.length ≤ maxLen) (hm : ms.length ≤ maxLen) (w : World) (hr : RInts w A ns) (hs : RInts w B ms) :
    Calls Tryz.prog 51 #[.slice A ns.length c, .slice B ms.length d] w fun e w' => e = .returned (.bool (ns == ms)) ∧ Below w.heap.size w w' := by
  unfold maxLen at hn hm
  by_cases hl : ns.length = ms.length
  · have hl0 : ((ns.length : Int) != ms.length) = false := by simp; omega
    have HL := Lib.hid hl
    clear hl
    go_enter Tryz.func51, Tryz.ntmps51
    go_wp2
    go_loopw [13] (fun i wr => ∃ k : Nat, k ≤ ns.length ∧ i = .int .i64 k ∧ ns.take k = ms.take k ∧ Below w.heap.size w wr) (fun i _ => ns.length - (intOf i).toNat)
    case atStart => exact ⟨0, by omega, rfl, rfl, Below.refl _ _⟩
    case round =>
      obtain ⟨k, hk, rfl, heq, hb⟩ := hrel
      have HEq := Lib.hid heq
      clear heq hl0
      by_cases hlt : k < ns.length
      · have hlt2 : k < ms.length := by rw [← HL.out]; exact hlt
        obtain ⟨ad, rfl, hbd, hc⟩ := (hr.next hb).at_ hlt
        obtain ⟨bd, rfl, hbe, hd⟩ := (hs.next hb).at_ hlt2
        have HT := Lib.hid (take_snoc ns k hlt)
        have HU := Lib.hid (take_snoc ms k hlt2)
        by_cases e : ns[k] = ms[k]
        · have E := Lib.hid e
          have t : (ns[k] == ms[k]) = true := by simpa using e
          have t2 : (ns[k] != ms[k]) = false := by simpa using e
          clear e
          go_wp2_with fail
          go_quiet (fail)
          go_wp2
          go_roundw
          case rel => exact ⟨k + 1, by omega, by go_num, by rw [HT.out, HU.out, HEq.out, E.out], below_drewN hb _⟩
          case measure => simp [intOf]; omega
        · have hne : (ns == ms) = false := by
            rw [beq_eq_false_iff_ne]; rintro rfl; exact e rfl
          have HNe := Lib.hid hne
          clear hne
          have t : (ns[k] == ms[k]) = false := by simpa using e
          have t2 : (ns[k] != ms[k]) = true := by simpa using e
          clear e
          go_wp2_with fail
          go_quiet (fail)
          go_wp2
          go_ret
          exact ⟨ret_bool HNe.out.symm, below_drewN hb _⟩
      · obtain rfl : k = ns.length := by omega
        go_wp2
        go_ret
        exact ⟨ret_bool (by
          have := HEq.out
          rw [List.take_length, HL.out, List.take_length] at this
          simp [this]), hb⟩
  · have hl0 : ((ns.length : Int) != ms.length) = true := by simp; omega
    have hne : (ns == ms) = false := by
      rw [beq_eq_false_iff_ne]; rintro rfl; exact hl rfl
    go_enter Tryz.func51, Tryz.ntmps51
    go_wp2
    go_ret
    exact ⟨ret_bool hne.symm, Below.refl _ _⟩
/-- A core with the numbers that were told. -/
def thenP (y : Co) (n0 n1 n2 n3 n4 n5 n6 n7 n8 n9 n10 n11 : Int) : Co := ⟨y.r, y.c, y.wp, ⟨y.K.rd, y.K.kp, n11 == 1, y.K.a, y.K.b, y.K.c, y.K.d, y.K.l, y.K.r, y.K.s⟩, ⟨y.f.pt, y.f.pl, y.f.pb, y.f.pr, n7, n8, n9, n10⟩, (n2 * 4096 + n3).toNat, n0, n1 == 1, n4 == 1, n5, n6 == 1, y.pg, y.ps⟩
/-- Can they be told? -/
def okN (y : Co) (n0 n1 n2 n3 n4 n5 n6 n7 n8 n9 n10 n11 : Int) : Bool :=
  decide ((n1 < 2 ∧ n4 < 2 ∧ n6 < 2 ∧ n11 < 2) ∧ (1 ≤ n0 ∧ n0 ≤ 5 ∧ n2 ≤ 31 ∧ n3 ≤ 4095 ∧ n5 ≤ 2) ∧ (n7 < n9 ∧ n8 < n10 ∧ n9 ≤ y.f.pb ∧ n10 ≤ y.f.pr))
/-- What more is known of a core that is clean. -/
structure ClOk2 (y : Co) : Prop where
  r : y.r ≤ y.f.pb - 1
  c : y.c ≤ y.f.pr - 1
  l : 0 ≤ y.K.l ∧ y.K.l ≤ 3
  r3 : 0 ≤ y.K.r ∧ y.K.r ≤ 3
  s : y.K.s = 0 ∨ y.K.s = 2 ∨ y.K.s = 3
  pg : y.pg ≤ y.ps - 1
theorem cl_ok2 {x : Co} {H W it il ib ir : Int} (h : FrOk x.f H W it il ib ir) : ClOk2 (clnP x H W it il ib ir) := by
  have hH := h.hH; have hW := h.hW
  have hc : 1 ≤ clipP x.ps 1 16 ∧ clipP x.ps 1 16 ≤ 16 := by unfold clipP; omega
  refine ⟨?_, ?_, left_in (isoY x), right_in (isoY x), ?_, ?_⟩
  · show clipP x.r 0 (H - 1) ≤ H - 1; unfold clipP; omega
  · show clipP x.c 0 (W - 1) ≤ W - 1; unfold clipP; omega
  · show sgP x.K.s = 0 ∨ sgP x.K.s = 2 ∨ sgP x.K.s = 3
    unfold sgP; split
    · rename_i h; rcases h with h | h <;> simp [h]
    · simp
  · show clipP x.pg 0 (clipP x.ps 1 16 - 1) ≤ clipP x.ps 1 16 - 1
    generalize clipP x.ps 1 16 = q at *; unfold clipP; omega
theorem inB_yes {g : Int} (h : 0 ≤ g ∧ g ≤ 3) : isoInB 0 g = true := by unfold isoInB; simp; omega
theorem mrg_ok {t l b r H W it il ib ir m0 m1 m2 m3 : Int} (hm : meetT t l b r 0 0 H W = (m0, m1, m2, m3)) (hx : (bEm m0 m1 m2 m3 = true ∧ it = 0 ∧ il = 0 ∧ ib = H ∧ ir = W) ∨ (bEm m0 m1 m2 m3 = false ∧ it = m0 ∧ il = m1 ∧ ib = m2 ∧ ir = m3)) (hH : 1 ≤ H) (hW : 1 ≤ W) (ht : 0 ≤ t) (hl : 0 ≤ l) :
    (it = t ∧ il = l ∧ ib = b ∧ ir = r) ↔ (t < b ∧ l < r ∧ b ≤ H ∧ r ≤ W) := by
  unfold meetT at hm
  rcases hE : bEm (max t 0) (max l 0) (min b H) (min r W) with _ | _
  · rw [if_neg (by rw [hE]; simp)] at hm
    simp only [Prod.mk.injEq] at hm
    obtain ⟨rfl, rfl, rfl, rfl⟩ := hm
    unfold bEm emB at hE hx
    simp only [Bool.or_eq_false_iff, decide_eq_false_iff_not, Bool.or_eq_true, decide_eq_true_eq] at hE hx
    rcases hx with ⟨h1, h2⟩ | ⟨h1, h2⟩
    · omega
    · obtain ⟨rfl, rfl, rfl, rfl⟩ := h2
      constructor <;> intro h <;> omega
  · rw [if_pos hE] at hm
    simp only [Prod.mk.injEq] at hm
    obtain ⟨rfl, rfl, rfl, rfl⟩ := hm
    unfold bEm emB at hE hx
    simp only [Bool.or_eq_false_iff, decide_eq_false_iff_not, Bool.or_eq_true, decide_eq_true_eq] at hE hx
    rcases hx with ⟨h1, h2⟩ | ⟨h1, h2⟩
    · obtain ⟨rfl, rfl, rfl, rfl⟩ := h2
      constructor <;> intro h <;> omega
    · omega
theorem bit_iff (n : Int) (h : 0 ≤ n) : ((n == 1).toNat : Int) = n ↔ n < 2 := by
  rcases hb : (n == 1) with _ | _
  · have : n ≠ 1 := by simpa using hb
    constructor <;> intro hh <;> simp at hh ⊢ <;> omega
  · have : n = 1 := by simpa using hb
    subst this; simp
theorem words_iff (a b : Int) (ha : 0 ≤ a ∧ a ≤ 65535) (hb : 0 ≤ b ∧ b ≤ 65535) : ((((a * 4096 + b).toNat % 131072 / 4096 : Nat) : Int) = a ∧ (((a * 4096 + b).toNat % 131072 % 4096 : Nat) : Int) = b) ↔ (a ≤ 31 ∧ b ≤ 4095) := by
  constructor <;> intro h <;> omega
theorem rest_iff (y : Co) (hk : ClOk y) (_hk2 : ClOk2 y) (n0 n1 n2 n3 n4 n5 n6 n7 n8 n9 n10 n11 : Int) (hn : ∀ n ∈ [n0, n1, n2, n3, n4, n5, n6, n7, n8, n9, n10, n11], 0 ≤ n ∧ n ≤ 65535)
    {H W it il ib ir : Int} (h : FrOk (thenP y n0 n1 n2 n3 n4 n5 n6 n7 n8 n9 n10 n11).f H W it il ib ir) :
    (nbrP (clnP (thenP y n0 n1 n2 n3 n4 n5 n6 n7 n8 n9 n10 n11) H W it il ib ir) == [n0, n1, n2, n3, n4, n5, n6, n7, n8, n9, n10, n11]) = okN y n0 n1 n2 n3 n4 n5 n6 n7 n8 n9 n10 n11 := by
  have hn0 := hn n0 (by simp)
  have hn1 := hn n1 (by simp)
  have hn2 := hn n2 (by simp)
  have hn3 := hn n3 (by simp)
  have hn4 := hn n4 (by simp)
  have hn5 := hn n5 (by simp)
  have hn6 := hn n6 (by simp)
  have hn7 := hn n7 (by simp)
  have hn8 := hn n8 (by simp)
  have hn9 := hn n9 (by simp)
  have hn10 := hn n10 (by simp)
  have hn11 := hn n11 (by simp)
  have hH : H = y.f.pb := by have h1 := h.eH; have h2 := hk.h2; simp only [thenP] at h1; omega
  have hW : W = y.f.pr := by have h1 := h.eW; have h2 := hk.h3; simp only [thenP] at h1; omega
  obtain ⟨m0, m1, m2, m3, hm, hx⟩ := h.inn
  simp only [thenP] at hm
  have hbox := mrg_ok hm hx (by have := h.hH; omega) (by have := h.hW; omega) hn7.1 hn8.1
  have hb1 := bit_iff n1 hn1.1; have hb4 := bit_iff n4 hn4.1; have hb6 := bit_iff n6 hn6.1; have hb11 := bit_iff n11 hn11.1
  have hw := words_iff n2 n3 hn2 hn3
  have hc0 : clipP n0 1 5 = n0 ↔ 1 ≤ n0 ∧ n0 ≤ 5 := by unfold clipP; omega
  have hc5 : clipP n5 0 2 = n5 ↔ n5 ≤ 2 := by unfold clipP; omega
  rw [Bool.eq_iff_iff]
  simp only [beq_iff_eq, okN, decide_eq_true_eq, nbrP, clnP, thenP, List.cons.injEq, and_true]
  rw [hc0, hb1, hb4, hc5, hb6, hb11]
  rw [hH, hW] at hbox
  constructor
  · rintro ⟨a0, a1, a2, a3, a4, a5, a6, a7, a8, a9, a10, a11⟩
    have := hw.1 ⟨a2, a3⟩; have := hbox.1 ⟨a7, a8, a9, a10⟩
    omega
  · rintro ⟨⟨a1, a4, a6, a11⟩, ⟨b0, b1, b2, b3, b4⟩, c0, c1, c2, c3⟩
    have hw2 := hw.2 ⟨b2, b3⟩; have hbx := hbox.2 ⟨c0, c1, c2, c3⟩
    exact ⟨⟨b0, b1⟩, a1, hw2.1, hw2.2, a4, b4, a6, hbx.1, hbx.2.1, hbx.2.2.1, hbx.2.2.2, a11⟩
set_option maxHeartbeats 1000000 in
theorem rest_same (y : Co) (hk : ClOk y) (hk2 : ClOk2 y) (n0 n1 n2 n3 n4 n5 n6 n7 n8 n9 n10 n11 : Int) (hn : ∀ n ∈ [n0, n1, n2, n3, n4, n5, n6, n7, n8, n9, n10, n11], 0 ≤ n ∧ n ≤ 65535)
    {H W it il ib ir : Int} (h : FrOk (thenP y n0 n1 n2 n3 n4 n5 n6 n7 n8 n9 n10 n11).f H W it il ib ir) (hok : okN y n0 n1 n2 n3 n4 n5 n6 n7 n8 n9 n10 n11 = true) :
    clnP (thenP y n0 n1 n2 n3 n4 n5 n6 n7 n8 n9 n10 n11) H W it il ib ir = thenP y n0 n1 n2 n3 n4 n5 n6 n7 n8 n9 n10 n11 := by
  have hn0 := hn n0 (by simp)
  have hn1 := hn n1 (by simp)
  have hn2 := hn n2 (by simp)
  have hn3 := hn n3 (by simp)
  have hn4 := hn n4 (by simp)
  have hn5 := hn n5 (by simp)
  have hn6 := hn n6 (by simp)
  have hn7 := hn n7 (by simp)
  have hn8 := hn n8 (by simp)
  have hn9 := hn n9 (by simp)
  have hn10 := hn n10 (by simp)
  have hn11 := hn n11 (by simp)
  have hH : H = y.f.pb := by have h1 := h.eH; have h2 := hk.h2; simp only [thenP] at h1; omega
  have hW : W = y.f.pr := by have h1 := h.eW; have h2 := hk.h3; simp only [thenP] at h1; omega
  obtain ⟨m0, m1, m2, m3, hm, hx⟩ := h.inn
  simp only [thenP] at hm
  have hbox := mrg_ok hm hx (by have := h.hH; omega) (by have := h.hW; omega) hn7.1 hn8.1
  have hb1 := bit_iff n1 hn1.1; have hb4 := bit_iff n4 hn4.1; have hb6 := bit_iff n6 hn6.1; have hb11 := bit_iff n11 hn11.1
  have hw := words_iff n2 n3 hn2 hn3
  have hc0 : clipP n0 1 5 = n0 ↔ 1 ≤ n0 ∧ n0 ≤ 5 := by unfold clipP; omega
  have hc5 : clipP n5 0 2 = n5 ↔ n5 ≤ 2 := by unfold clipP; omega
  unfold okN at hok
  simp only [decide_eq_true_eq] at hok
  obtain ⟨⟨a1, a4, a6, a11⟩, ⟨b0, b1, b2, b3, b4⟩, c0, c1, c2, c3⟩ := hok
  rw [hH, hW] at hbox
  obtain ⟨x0, x1, x2, x3⟩ := hbox.2 ⟨c0, c1, c2, c3⟩
  have r1 : clipP y.r 0 (y.f.pb - 1) = y.r := by have := hk.r; have := hk2.r; unfold clipP; omega
  have r2 : clipP y.c 0 (y.f.pr - 1) = y.c := by have := hk.c; have := hk2.c; unfold clipP; omega
  have r3 : y.K.rd % 32 = y.K.rd := by have := hk.rd; omega
  have r4 : glP y.K.l = y.K.l := if_pos (inB_yes hk2.l)
  have r5 : grP y.K.r = y.K.r := if_pos (inB_yes hk2.r3)
  have r6 : sgP y.K.s = y.K.s := by unfold sgP; rcases hk2.s with h | h | h <;> simp [h]
  have r7 : (n2 * 4096 + n3).toNat % 131072 = (n2 * 4096 + n3).toNat := by omega
  have r8 := hc0.2 ⟨b0, b1⟩
  have r9 := hc5.2 b4
  have r10 : clipP y.ps 1 16 = y.ps := by have := hk.ps; unfold clipP; omega
  have r11 : clipP y.pg 0 (y.ps - 1) = y.pg := by have := hk.pg; have := hk2.pg; unfold clipP; omega
  have r12 := hk.h1.1; have r13 := hk.h1.2
  simp only [clnP, thenP, r1, r2, r3, r4, r5, r6, r7, r8, r9, r10, r11, x0, x1, x2, x3, hH, hW, r12, r13]
end Go.Proofs.YtfnamfkjbkhgeaaGreatDoor
