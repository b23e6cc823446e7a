/-
  What keys send, and what a parser makes of it.
-/
import Derived.Test.YtigaaidacndeiaaGreatDoorKeyP
namespace Go.Proofs.YtigaaidacndeiaaGreatDoor
open Go Go.RowKit
set_option maxRecDepth 100000

structure Ev4 where
  k : Int
  c : Nat
  sh : Bool
  ct : Bool
def Ev4.cs (e : Ev4) : List Value := [.int .i64 e.k, .int .u8 (e.c : Int), .bool e.sh, .bool e.ct]
def REvs (w : World) (A : Option Addr) (l : List Ev4) : Prop := Reads w w.heap.size 4 A l.length (l.flatMap Ev4.cs)
theorem REvs.next {w w' : World} {A : Option Addr} {l : List Ev4} (h : REvs w A l) (hb : Below w.heap.size w w') : REvs w' A l := (Reads.below h hb).more hb.size
theorem ev_len : ∀ l : List Ev4, (l.flatMap Ev4.cs).length = l.length * 4
  | [] => rfl
  | e :: l => by
    rw [List.flatMap_cons, List.length_append, ev_len l, List.length_cons]
    show 4 + _ = _
    omega
theorem ev_at : ∀ (l : List Ev4) (k : Nat) (hk : k < l.length) (j : Nat) (u : Value), l[k].cs[j]? = some u → (l.flatMap Ev4.cs)[k * 4 + j]? = some u
  | [], k, hk, _, _, _ => by simp at hk
  | e :: l, 0, _, j, u, hu => by
    have hj : j < 4 := (List.getElem?_eq_some_iff.1 hu).1
    rw [List.flatMap_cons, Nat.zero_mul, Nat.zero_add, List.getElem?_append_left (by exact hj)]
    exact hu
  | e :: l, k + 1, hk, j, u, hu => by
    have h4 : e.cs.length = 4 := rfl
    rw [List.flatMap_cons, List.getElem?_append_right (by rw [h4]; omega), h4, show (k + 1) * 4 + j - 4 = k * 4 + j by omega]
    exact ev_at l k (by simpa using hk) j u hu
theorem REvs.at_ {w : World} {A : Option Addr} {l : List Ev4} (h : REvs w A l) {k : Nat} (hk : k < l.length) : ∃ ad, A = some ad ∧ ad.block < w.heap.size ∧ w.cell? (ad.add (k * 4)) = some (.int .i64 l[k].k) ∧ w.cell? ⟨(ad.add (k * 4)).block, (ad.add (k * 4)).off + 1, none⟩ = some (.int .u8 (l[k].c : Int)) ∧
    w.cell? ⟨(ad.add (k * 4)).block, (ad.add (k * 4)).off + 2, none⟩ = some (.bool l[k].sh) ∧ w.cell? ⟨(ad.add (k * 4)).block, (ad.add (k * 4)).off + 3, none⟩ = some (.bool l[k].ct) := by
  obtain ⟨ad, rfl, hb, hc⟩ := h.2 (by omega)
  have a1 : (⟨(ad.add (k * 4)).block, (ad.add (k * 4)).off + 1, none⟩ : Addr) = ad.add (k * 4 + 1) := (show _ = (ad.add (k * 4)).add 1 from rfl).trans (add_of_add ad _ _)
  have a2 : (⟨(ad.add (k * 4)).block, (ad.add (k * 4)).off + 2, none⟩ : Addr) = ad.add (k * 4 + 2) := (show _ = (ad.add (k * 4)).add 2 from rfl).trans (add_of_add ad _ _)
  have a3 : (⟨(ad.add (k * 4)).block, (ad.add (k * 4)).off + 3, none⟩ : Addr) = ad.add (k * 4 + 3) := (show _ = (ad.add (k * 4)).add 3 from rfl).trans (add_of_add ad _ _)
  refine ⟨ad, rfl, hb, ?_⟩
  rw [a1, a2, a3]
  exact ⟨hc _ _ (ev_at l k hk 0 _ rfl), hc _ _ (ev_at l k hk 1 _ rfl), hc _ _ (ev_at l k hk 2 _ rfl), hc _ _ (ev_at l k hk 3 _ rfl)⟩
set_option maxHeartbeats 2000000 in
theorem curQ_any (k : Int) (w : World) : Calls Tryz.prog 21 #[.int .i64 k] w fun e w' => e = .returned (.bool (decide (5 ≤ k) && decide (k ≤ 8))) ∧ w = w' := by
  by_cases h1 : 5 ≤ k
  · have g1 : ((5 : Int) ≤ k) = True := eq_true h1
    by_cases h2 : k ≤ 8
    · have g2 : (k ≤ 8) = True := eq_true h2
      rw [decide_eq_true h1, decide_eq_true h2]
      go_enter Tryz.func21, Tryz.ntmps21
      go_wp2_with fail
      go_ret
      exact ⟨rfl, rfl⟩
    · have g2 : (k ≤ 8) = False := eq_false h2
      rw [decide_eq_true h1, decide_eq_false h2]
      go_enter Tryz.func21, Tryz.ntmps21
      go_wp2_with fail
      go_ret
      exact ⟨rfl, rfl⟩
  · have g1 : ((5 : Int) ≤ k) = False := eq_false h1
    rw [decide_eq_false h1]
    go_enter Tryz.func21, Tryz.ntmps21
    go_wp2_with fail
    go_ret
    exact ⟨rfl, rfl⟩
/-! Plainly. -/
def prtU (c : Nat) : Tok := ⟨1, c, 0, [], ⟨#[]⟩, []⟩
def ctlU (c : Nat) : Tok := ⟨2, c, 0, [], ⟨#[]⟩, []⟩
def ss3U : Tok := ⟨3, 79, 0, [], ⟨#[]⟩, []⟩
def csiU (c : Nat) (ps : List Int) : Tok := ⟨4, c, 0, ps, ⟨#[]⟩, []⟩
theorem prt_chk : ∀ c : Fin 256, (32 ≤ c.val ∧ c.val ≤ 126) ∨ 160 ≤ c.val → checkP 1 c.val 0 [] ⟨#[]⟩ [] = 0 := by decide +kernel
theorem prt_can {c : Nat} (h8 : c < 256) (h : (32 ≤ c ∧ c ≤ 126) ∨ 160 ≤ c) : (prtU c).can := ⟨h8, prt_chk ⟨c, h8⟩ h, fun n hn => by cases hn⟩
theorem ctl_can {c : Nat} (h : c = 8 ∨ c = 9 ∨ c = 10 ∨ c = 13) : (ctlU c).can := by
  rcases h with rfl | rfl | rfl | rfl <;> exact ⟨by decide, by decide +kernel, fun n hn => by cases hn⟩
theorem ss3_can : ss3U.can := ⟨by decide, by decide +kernel, fun n hn => by cases hn⟩
theorem code_chk : ∀ c : Fin 127, 64 ≤ c.val → (pureB 4 c.val 0 [] ⟨#[]⟩ [] && (codedB 4 c.val ⟨#[]⟩ && writtenB 0 ⟨#[]⟩ [])) = true := by decide +kernel
theorem csi_can {c : Nat} (h : 64 ≤ c ∧ c ≤ 126) (ps : List Int) (hl : ps.length ≤ 30) (hp : ∀ n ∈ ps, 0 ≤ n ∧ n ≤ 65535) : (csiU c ps).can := ⟨by show c < 256; omega, check_csi c 0 ps hl hp (code_chk ⟨c, by omega⟩ h.1), fun n hn => by cases hn⟩
theorem rep_csi {c : Nat} (h : 64 ≤ c ∧ c ≤ 126) (ps : List Int) (hl : ps.length ≤ 30) (hp : ∀ n ∈ ps, 0 ≤ n ∧ n ≤ 65535) (e : Bool) : repL 4 ⟨#[UInt8.ofNat c]⟩ ⟨#[]⟩ ps e = (csiU c ps).bys e := by
  have e1 : byteAt ⟨#[UInt8.ofNat c]⟩ ((ByteArray.mk #[UInt8.ofNat c]).size - 1) = c := by
    show (UInt8.ofNat c).toNat = c
    rw [UInt8.toNat_ofNat']
    omega
  have hm : markedB ⟨#[UInt8.ofNat c]⟩ = false := rfl
  have e2 : tkM ⟨#[UInt8.ofNat c]⟩ = 0 := by unfold tkM; rw [hm]; rfl
  have e3 : tkS ⟨#[UInt8.ofNat c]⟩ = ⟨#[]⟩ := by
    unfold tkS
    rw [hm]
    apply ByteArray.ext
    apply Array.ext'
    rw [ByteArray.data_extract, Array.toList_extract, List.extract_eq_take_drop]
    rfl
  have e4 : natL (ByteArray.mk #[]).data.toList = [] := rfl
  have hc := (csi_can h ps hl hp).2.1
  unfold repL
  rw [if_neg (by show ¬ (1 = 0); decide), nums_in_ hl hp, e1, e2, e3, e4]
  exact if_pos hc
theorem sing_bys (eg : Bool) (c : Nat) : singP eg c = [ss3U, prtU c].flatMap fun t => t.bys eg := by
  cases eg <;> rfl
/-- What is sent leaves no parser in the middle. -/
structure Sent (l : List Nat) (ts : List Tok) : Prop where
  feed : feedL ps0 l = (ps0, ts)
  two : ts.length ≤ 2
  six : l.length ≤ 6
  lt : ∀ n ∈ l, n < 256
  szs : ∀ t ∈ ts, t.szs
theorem Sent.nil : Sent [] [] := ⟨rfl, by simp, by simp, fun n h => (by cases h), fun t h => (by cases h)⟩
theorem Sent.of (ts : List Tok) (e : Bool) (h2 : ts.length ≤ 2) (hc : ∀ t ∈ ts, t.can) (h6 : (ts.flatMap fun t => t.bys e).length ≤ 6) : Sent (ts.flatMap fun t => t.bys e) ts :=
  ⟨feed_toks e ts hc, h2, h6, fun n hn => by
    obtain ⟨t, ht, hn⟩ := List.mem_flatMap.1 hn
    exact bys_lt (hc t ht) e n hn, fun t ht => can_szs (hc t ht)⟩
theorem Sent.one (t : Tok) (e : Bool) (hc : t.can) (h6 : (t.bys e).length ≤ 6) : Sent (t.bys e) [t] := by
  have q := Sent.of [t] e (by simp) (fun x hx => by simp at hx; rw [hx]; exact hc) (by rw [List.flatMap_singleton]; exact h6)
  rw [List.flatMap_singleton] at q
  exact q
theorem sent_sing (eg : Bool) {c : Nat} (h8 : c < 256) (h : (32 ≤ c ∧ c ≤ 126) ∨ 160 ≤ c) : Sent (singP eg c) [ss3U, prtU c] := by
  rw [sing_bys]
  refine Sent.of _ eg (by simp) (fun t ht => ?_) ?_
  · simp only [List.mem_cons, List.not_mem_nil, or_false] at ht
    rcases ht with rfl | rfl
    · exact ss3_can
    · exact prt_can h8 h
  · cases eg <;> exact Nat.le_of_ble_eq_true rfl
theorem sent_prt {c : Nat} (h8 : c < 256) (h : (32 ≤ c ∧ c ≤ 126) ∨ 160 ≤ c) : Sent [c] [prtU c] := Sent.one (prtU c) false (prt_can h8 h) (by show 1 ≤ 6; decide)
theorem sent_ctl {c : Nat} (h : c = 8 ∨ c = 9 ∨ c = 10 ∨ c = 13) : Sent [c] [ctlU c] := Sent.one (ctlU c) false (ctl_can h) (by show 1 ≤ 6; decide)
theorem sent_enter (b : Bool) : ∃ ts, Sent (enterP b) ts := by
  cases b
  · exact ⟨_, sent_ctl (.inr (.inr (.inr rfl)))⟩
  · exact ⟨[ctlU 13, ctlU 10], Sent.of [ctlU 13, ctlU 10] false (by simp) (fun t ht => by
      simp only [List.mem_cons, List.not_mem_nil, or_false] at ht
      rcases ht with rfl | rfl
      · exact ctl_can (by decide)
      · exact ctl_can (by decide)) (by decide)⟩
theorem csi_len (c : Nat) (eg : Bool) : ((csiU c []).bys eg).length ≤ 6 := by cases eg <;> exact Nat.le_of_ble_eq_true rfl
theorem sent_csi0 (eg : Bool) {c : Nat} (h : 64 ≤ c ∧ c ≤ 126) : Sent (repL 4 ⟨#[UInt8.ofNat c]⟩ ⟨#[]⟩ [] eg) [csiU c []] := by
  rw [rep_csi h [] (by simp) (by simp)]
  exact Sent.one _ eg (csi_can h [] (by simp) (by simp)) (csi_len c eg)
theorem numb_len : ∀ n : Fin 35, ∀ e : Bool, (bytesL 4 126 0 [(n.val : Int)] ⟨#[]⟩ [] e).length ≤ 6 := by decide +kernel
theorem sent_numb (eg : Bool) {n : Int} (h : 1 ≤ n ∧ n ≤ 34) : Sent (numbP eg n) [csiU 126 [n]] := by
  have e : numbP eg n = (csiU 126 [n]).bys eg := numb_eq h eg
  rw [e]
  refine Sent.one _ eg (csi_can (by decide) [n] (by simp) (fun x hx => by simp at hx; omega)) ?_
  have := numb_len ⟨n.toNat, by omega⟩ eg
  rw [show ((n.toNat : Nat) : Int) = n by omega] at this
  exact this
theorem text_none (n : Int) : textP noT n = [] := by
  unfold textP getU
  have h : ∀ k : Nat, noT.getD k ⟨#[]⟩ = ⟨#[]⟩ := fun k => by
    rcases Nat.lt_or_ge k 15 with h | h
    · have : ∀ k : Fin 15, noT.getD k.val ⟨#[]⟩ = ⟨#[]⟩ := by decide +kernel
      exact this ⟨k, h⟩
    · rw [List.getD_eq_getElem?_getD, List.getElem?_eq_none (by simpa [noT] using h)]; rfl
  split
  · split <;> rfl
  · rw [if_pos (h _)]
    rfl
def skipK (k : Int) (lv : Int) (ct : Bool) : Prop := k = 4 ∨ (k = 16 ∧ lv < 2) ∨ (k = 0 ∧ ct = true)
theorem keyed (k : Int) (c : Nat) (hc : c < 256) (sh ct : Bool) (m : Nat) (lv : Int) (eg : Bool) (hs : ¬ skipK k lv ct) : ∃ ts, Sent (encP k c sh ct m lv eg noT) ts := by
  unfold encP
  by_cases h0 : hasN m 0 = true
  · rw [if_pos h0]; exact ⟨[], Sent.nil⟩
  rw [if_neg h0]
  by_cases hk : 0 ≤ k ∧ k < 17
  rotate_left
  · rw [if_neg hk]; exact ⟨[], Sent.nil⟩
  rw [if_pos hk]
  unfold skipK at hs
  have h17 : k = 0 ∨ k = 1 ∨ k = 2 ∨ k = 3 ∨ (5 ≤ k ∧ k ≤ 8) ∨ (9 ≤ k ∧ k ≤ 14) ∨ k = 15 ∨ k = 16 := by omega
  rcases h17 with rfl | rfl | rfl | rfl | h | h | rfl | rfl
  · have hct : ct = false := by cases ct; rfl; exact absurd (.inr (.inr ⟨rfl, rfl⟩)) hs
    subst hct
    show ∃ ts, Sent (charP c false lv) ts
    unfold charP
    simp only [Bool.false_and, Bool.false_eq_true, if_false]
    split
    · rename_i h
      simp only [Bool.or_eq_true, Bool.and_eq_true, decide_eq_true_eq] at h
      exact ⟨_, sent_prt hc (by omega)⟩
    · exact ⟨_, Sent.nil⟩
  · exact sent_enter _
  · show ∃ ts, Sent (tabP sh lv eg) ts
    unfold tabP
    split
    · exact ⟨_, sent_csi0 eg (c := 90) (by decide)⟩
    · exact ⟨_, sent_ctl (by decide)⟩
  · show ∃ ts, Sent (backP (hasN m 13)) ts
    cases hasN m 13
    · exact ⟨[], rfl, by simp, by decide, by decide, fun t h => (by cases h)⟩
    · exact ⟨_, sent_ctl (by decide)⟩
  · have h4 : k = 5 ∨ k = 6 ∨ k = 7 ∨ k = 8 := by omega
    have hh : ∀ j : Nat, j < 4 → ∃ ts, Sent (cursP eg j (hasN m 4)) ts := fun j hj => by
      unfold cursP
      split
      · exact ⟨_, sent_sing eg (by omega) (by omega)⟩
      · exact ⟨_, sent_csi0 eg (by omega)⟩
    rcases h4 with rfl | rfl | rfl | rfl
    · exact hh 0 (by decide)
    · exact hh 1 (by decide)
    · exact hh 2 (by decide)
    · exact hh 3 (by decide)
  · have h6 : k = 9 ∨ k = 10 ∨ k = 11 ∨ k = 12 ∨ k = 13 ∨ k = 14 := by omega
    have hh : ∀ j : Int, 9 ≤ j ∧ j ≤ 14 → ∃ ts, Sent (editP j lv eg) ts := fun j hj => by
      unfold editP
      split
      · exact ⟨_, sent_numb eg (by omega)⟩
      · exact ⟨_, Sent.nil⟩
    rcases h6 with rfl | rfl | rfl | rfl | rfl | rfl
    · exact hh 9 (by decide)
    · exact hh 10 (by decide)
    · exact hh 11 (by decide)
    · exact hh 12 (by decide)
    · exact hh 13 (by decide)
    · exact hh 14 (by decide)
  · show ∃ ts, Sent (padP c eg (hasN m 12) (hasN m 3)) ts
    unfold padP
    split
    · rename_i hq
      unfold padQ at hq
      simp only [Bool.or_eq_true, Bool.and_eq_true, decide_eq_true_eq] at hq
      split
      · exact ⟨_, sent_sing eg (by omega) (by omega)⟩
      · split
        · exact sent_enter _
        · exact ⟨_, sent_prt hc (by omega)⟩
    · exact ⟨_, Sent.nil⟩
  · show ∃ ts, Sent (funcP c sh lv eg noT) ts
    unfold funcP
    split
    · exact ⟨_, sent_sing eg (by omega) (by omega)⟩
    · split
      · omega
      · split
        · exact ⟨_, Sent.nil⟩
        · rename_i hn
          split
          · rw [text_none]; exact ⟨_, Sent.nil⟩
          · have := numK_bounds c
            exact ⟨_, sent_numb eg (by omega)⟩
theorem keyed_cur {k : Int} (h : 5 ≤ k ∧ k ≤ 8) (c : Nat) (sh ct : Bool) (m : Nat) (h0 : hasN m 0 = false) (lv : Int) (eg : Bool) : Sent (encP k c sh ct m lv eg noT) (if hasN m 4 then [ss3U, prtU (60 + k).toNat] else [csiU (60 + k).toNat []]) := by
  unfold encP
  rw [if_neg (by rw [h0]; decide), if_pos (by omega)]
  have hh : ∀ j : Nat, j < 4 → Sent (cursP eg j (hasN m 4)) (if hasN m 4 then [ss3U, prtU (65 + j)] else [csiU (65 + j) []]) := fun j hj => by
    unfold cursP
    split
    · exact sent_sing eg (by omega) (by omega)
    · exact sent_csi0 eg (by omega)
  have h4 : k = 5 ∨ k = 6 ∨ k = 7 ∨ k = 8 := by omega
  rcases h4 with rfl | rfl | rfl | rfl
  · exact hh 0 (by decide)
  · exact hh 1 (by decide)
  · exact hh 2 (by decide)
  · exact hh 3 (by decide)
end Go.Proofs.YtigaaidacndeiaaGreatDoor
