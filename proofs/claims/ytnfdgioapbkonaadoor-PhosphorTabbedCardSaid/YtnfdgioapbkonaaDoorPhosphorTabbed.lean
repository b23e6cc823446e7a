/-
  PhosphorTabbed holds, whatever the input: the card of the statement, with the library's three tables tied to the program's text.
-/
import Derived.Test.YtnfdgioapbkonaaDoorCards
import Derived.Test.YtnfdgioapbkonaaDoorTie
import Derived.Test.YtnfdgioapbkonaaDoorFrameQ
import Derived.Test.YtnfdgioapbkonaaDoorTabP
import Derived.Test.YtnfdgioapbkonaaDoorTabR
import Derived.Test.YtnfdgioapbkonaaDoorTabU
import Derived.Test.YtnfdgioapbkonaaDoorClip
namespace Go.Proofs.YtnfdgioapbkonaaDoor.phosphorTabbed
open Go.ChangeShapes Go.WideShapes Go.ChangeAt Go.RowKit
open Go.ChangeMaps (open_string)

theorem nextG_col (h : Nat → Bool) (c c' : Int) : ∀ r (a : Nat) (k : Int), c < (a : Int) → c' < (a : Int) → nextG h c r a k = nextG h c' r a k := by
  intro r
  induction r with
  | zero => intro a k _ _; rfl
  | succ r ih =>
    intro a k h1 h2
    rw [nextG_succ, nextG_succ, decide_eq_true h1, decide_eq_true h2, ih (a + 1) k (by omega) (by omega), ih (a + 1) (k - 1) (by omega) (by omega)]
theorem nextG_more (h : Nat → Bool) (c : Int) : ∀ r a k, 1 ≤ k → nextG h c r a (k + 1) = match nextG h c r a k with | some m => nextG h m r a 1 | none => none := by
  intro r
  induction r with
  | zero => intro a k _; rfl
  | succ r ih =>
    intro a k hk
    have key : ∀ k', 1 ≤ k' → nextG h c r (a + 1) (k' + 1) = match nextG h c r (a + 1) k' with | some m => nextG h m (r + 1) a 1 | none => none := by
      intro k' hk'
      rw [ih (a + 1) k' hk']
      rcases e : nextG h c r (a + 1) k' with _ | m
      · rfl
      · obtain ⟨h1, _⟩ := nextG_lt h c r (a + 1) k' m e
        show nextG h m r (a + 1) 1 = nextG h m (r + 1) a 1
        rw [nextG_succ, if_neg (by simp; omega)]
    rw [nextG_succ h c r a (k + 1), nextG_succ h c r a k]
    by_cases hc : (decide (c < (a : Int)) && h a) = true
    · rw [if_pos hc, if_pos hc, if_neg (by omega)]
      by_cases h1 : k - 1 = 0
      · rw [if_pos h1, show k + 1 - 1 = 1 from by omega]
        show _ = nextG h a (r + 1) a 1
        rw [nextG_succ, if_neg (by simp)]
        simp at hc
        exact nextG_col h c a r (a + 1) 1 (by omega) (by omega)
      · rw [if_neg h1]
        have := key (k - 1) (by omega)
        rw [show k - 1 + 1 = k + 1 - 1 from by omega] at this
        exact this
    · rw [if_neg hc, if_neg hc]
      exact key k hk
/-- One stop further is one more. -/
theorem next_step (h : Nat → Bool) (n : Nat) (hn : 1 ≤ n) (k : Int) (hk : 1 ≤ k) : nextP h n (nextP h n 0 k) 1 = nextP h n 0 (k + 1) := by
  have e := nextG_more h 0 n 0 k hk
  rcases e1 : nextG h 0 n 0 k with _ | m
  · rw [e1] at e
    have e2 : nextG h ((n : Int) - 1) n 0 1 = none := by
      rcases e3 : nextG h ((n : Int) - 1) n 0 1 with _ | m
      · rfl
      · obtain ⟨h1, h2, h3, h4⟩ := nextG_lt h _ n 0 1 m e3
        omega
    rw [nextP_none h n 0 k (by omega) e1, nextP_none h n 0 (k + 1) (by omega) e, show nearP n n = (n : Int) - 1 from by unfold nearP; omega, nextP_none h n _ 1 (by omega) e2]
    unfold nearP; omega
  · rw [e1] at e
    rw [nextP_some h n 0 k (by omega) m e1]
    rcases e2 : nextG h m n 0 1 with _ | m2
    · rw [nextP_none h n _ 1 (by omega) e2, nextP_none h n 0 (k + 1) (by omega) (e.trans e2)]
    · rw [nextP_some h n _ 1 (by omega) m2 e2, nextP_some h n 0 (k + 1) (by omega) m2 (e.trans e2)]
/-- Where one is behind so many steps. -/
def colAt (h : Nat → Bool) (n : Nat) (k : Nat) : Int := if k = 0 then 0 else nextP h n 0 k
theorem colAt_zero (h : Nat → Bool) (n : Nat) : colAt h n 0 = 0 := rfl
theorem colAt_pos (h : Nat → Bool) (n k : Nat) (hk : 0 < k) : colAt h n k = nextP h n 0 k := if_neg (by omega)
theorem colAt_step (h : Nat → Bool) (n : Nat) (hn : 1 ≤ n) (k : Nat) : nextP h n (colAt h n k) 1 = colAt h n (k + 1) := by
  rw [colAt_pos h n (k + 1) (by omega)]
  by_cases hk : k = 0
  · subst hk; rfl
  · rw [colAt_pos h n k (by omega), next_step h n hn k (by omega)]
    rfl
def stp (h : Nat → Bool) (c : Int) (a r : Nat) : List Nat := (List.range' a r).filter fun x => decide (c < (x : Int)) && h x
theorem nextG_list (h : Nat → Bool) (c : Int) : ∀ r a (k : Nat), nextG h c r a ((k : Int) + 1) = (stp h c a r)[k]? := by
  intro r
  induction r with
  | zero => intro a k; rfl
  | succ r ih =>
    intro a k
    unfold stp at ih ⊢
    rw [nextG_succ, List.range'_succ, List.filter_cons]
    by_cases hc : (decide (c < (a : Int)) && h a) = true
    · rw [if_pos hc, if_pos hc]
      cases k with
      | zero => rw [if_pos (by omega)]; rfl
      | succ k =>
        rw [if_neg (by omega), List.getElem?_cons_succ, ← ih (a + 1) k]
        congr 1
        omega
    · rw [if_neg hc, if_neg hc]
      exact ih (a + 1) k
/-- The stops but the first column. -/
def restL (h : Nat → Bool) (n : Nat) : List Int := (stp h 0 0 n).map fun (x : Nat) => (x : Int)
theorem rest_cases (h : Nat → Bool) (n : Nat) : (lstP h n = 0 :: restL h n) ∨ (lstP h n = restL h n ∧ ∀ x r, restL h n = x :: r → x ≠ 0) := by
  have hne : ∀ x ∈ restL h n, x ≠ 0 := by
    intro x hx
    unfold restL stp at hx
    obtain ⟨y, hy, rfl⟩ := List.mem_map.1 hx
    have := (List.mem_filter.1 hy).2
    simp at this
    omega
  cases n with
  | zero => exact .inr ⟨rfl, fun x r e => by cases e⟩
  | succ n =>
    have e1 : (List.range' 1 n).filter h = (List.range' 1 n).filter (fun (x : Nat) => decide ((0 : Int) < (x : Int)) && h x) := by
      apply List.filter_congr
      intro x hx
      have := (List.mem_range'_1.1 hx).1
      rw [decide_eq_true (by omega)]
      rfl
    have e2 : restL h (n + 1) = ((List.range' 1 n).filter h).map fun (x : Nat) => (x : Int) := by
      unfold restL stp
      rw [List.range'_succ, List.filter_cons, if_neg (by simp), ← e1]
    have e3 : lstP h (n + 1) = ((if h 0 = true then 0 :: (List.range' 1 n).filter h else (List.range' 1 n).filter h)).map fun (x : Nat) => (x : Int) := by
      unfold lstP
      rw [List.range_eq_range', List.range'_succ, List.filter_cons]
    rw [e2, e3]
    rcases hh : h 0 with _ | _
    · right
      rw [if_neg (by simp)]
      exact ⟨rfl, fun x r e => hne x (by rw [e2, e]; simp)⟩
    · left
      rw [if_pos rfl]
      rfl
theorem rest_len (h : Nat → Bool) (n : Nat) : (restL h n).length ≤ n := by
  unfold restL stp
  rw [List.length_map]
  exact Nat.le_trans (List.length_filter_le _ _) (by simp)
/-- Where one comes to is the stop of that number, or the edge. -/
theorem colAt_in (h : Nat → Bool) (n : Nat) (k : Nat) (hk : k < (restL h n).length) : (restL h n)[k] = colAt h n (k + 1) := by
  have e := nextG_list h 0 n 0 k
  have hk' : k < (stp h 0 0 n).length := by unfold restL at hk; simpa using hk
  rw [List.getElem?_eq_getElem hk'] at e
  rw [colAt_pos h n (k + 1) (by omega), nextP_some h n 0 ((k + 1 : Nat) : Int) (by omega) _ e]
  exact List.getElem_map (fun (x : Nat) => (x : Int))
theorem colAt_out (h : Nat → Bool) (n : Nat) (hn : 1 ≤ n) (k : Nat) (hk : (restL h n).length ≤ k) : (n : Int) - 1 = colAt h n (k + 1) := by
  have e := nextG_list h 0 n 0 k
  have hk' : (stp h 0 0 n).length ≤ k := by unfold restL at hk; simpa using hk
  rw [List.getElem?_eq_none hk'] at e
  rw [colAt_pos h n (k + 1) (by omega), nextP_none h n 0 ((k + 1 : Nat) : Int) (by omega) e]
  unfold nearP; omega
theorem back_pos (h : Nat → Bool) (n : Nat) (col k : Int) : 0 ≤ backP h n col k := by
  by_cases hk : k < 1
  · rw [backP_small h n col k hk]; unfold nearP; omega
  · rcases e : (leftL h col n)[(k - 1).toNat]? with _ | a
    · rw [backP_none h n col k hk e]; omega
    · rw [backP_some h n col k hk a e]; omega
theorem OInts.cell1 {W : World} {b g n c : Nat} {L : List Int} (h : OInts W b (.slice (some ⟨g, 0, none⟩) n c) L) (hn : n = L.length) {k : Nat} (hk : k < L.length) :
    W.cell? ⟨g, k, none⟩ = some (.int .i64 L[k]) ∧ W.frozen? ⟨g, k, none⟩ = false := by
  subst hn
  refine ⟨?_, World.ownsRow.frozenAt h k⟩
  rw [World.ownsRow.cellAt h _ (by omega)]
  simp [List.getElem?_eq_getElem hk]
/-- Between two others, as the document has it. -/
def c3 (n a b : Int) : Int := if n < a then a else if b < n then b else n
theorem c3_in (n a b : Int) (h : a ≤ b) : a ≤ c3 n a b ∧ c3 n a b ≤ b := by unfold c3; split <;> (try split) <;> omega
theorem clamp3_any (n a b : Int) (w : World) :
    Calls Tryd.prog 14 #[.int .i64 n, .int .i64 a, .int .i64 b] w fun e w' => e = .returned (.int .i64 (c3 n a b)) ∧ w = w' := by
  have hcs : (n < a ∧ c3 n a b = a) ∨ (¬ n < a ∧ b < n ∧ c3 n a b = b) ∨ (¬ n < a ∧ ¬ b < n ∧ c3 n a b = n) := by
    unfold c3
    by_cases g : n < a
    · exact .inl ⟨g, if_pos g⟩
    · by_cases g2 : b < n
      · exact .inr (.inl ⟨g, g2, by rw [if_neg g, if_pos g2]⟩)
      · exact .inr (.inr ⟨g, g2, by rw [if_neg g, if_neg g2]⟩)
  rcases hcs with ⟨g, e⟩ | ⟨g, g2, e⟩ | ⟨g, g2, e⟩
  all_goals
    rw [e]
    clear e
    go_enter Tryd.func14, Tryd.ntmps14
    go_wp2_with fail
    go_ret
    exact ⟨rfl, rfl⟩
theorem cols_new (cols : Int) : ∃ N : Nat, c3 cols 1 200 = N ∧ 1 ≤ N ∧ N ≤ 200 ∧ colsT (c3 cols 1 200) = N := by
  obtain ⟨h1, h2⟩ := c3_in cols 1 200 (by omega)
  refine ⟨(c3 cols 1 200).toNat, by omega, by omega, by omega, ?_⟩
  unfold colsT; omega
theorem clip_in (n a b : Int) (h : a ≤ b) : a ≤ clipP n a b ∧ clipP n a b ≤ b := by unfold clipP; omega
set_option maxRecDepth 100000 in
set_option maxHeartbeats 8000000 in
theorem walk (cols : Int) (s : ByteArray) (hs : s.size ≤ maxLen) (n : Int) (w : World) (ht : Ten w) :
    Calls Tryd.prog 4 #[.int .i64 cols, .string s, .int .i64 n] w fun e w' => e = .returned (.bool true) ∧ Below w.heap.size w w' := by
  unfold maxLen at hs
  obtain ⟨N, hN, hN1, hN2, hNc⟩ := cols_new cols
  obtain ⟨t, hts, hcase⟩ : ∃ t : ByteArray, t.size ≤ 300 ∧ ((s = t ∧ ¬ 300 < s.size) ∨ (s.extract 0 300 = t ∧ 300 < s.size)) := by
    by_cases h : 300 < s.size
    · exact ⟨_, by simp; omega, .inr ⟨rfl, h⟩⟩
    · exact ⟨_, by omega, .inl ⟨rfl, h⟩⟩
  have HC1 : Hid (∀ W, Calls Tryd.prog 14 #[.int .i64 cols, .int .i64 1, .int .i64 200] W fun e w' => e = .returned (.int .i64 (N : Int)) ∧ W = w') := Lib.hid (fun W => by rw [← hN]; exact clamp3_any cols 1 200 W)
  have HNw : Hid (∀ W, Calls Tryd.prog 15 #[.int .i64 (N : Int)] W fun e w' => e = .returned (.pointer (some ⟨W.heap.size, 0, none⟩)) ∧ Stp w' W.heap.size N (newH N) ∧ Below W.heap.size W w') := Lib.hid (fun W => by
    have := new_any (N : Int) W
    rwa [← hN, hNc, hN] at this)
  obtain ⟨q, hq, hq30⟩ : ∃ q : Nat, c3 n 0 30 = q ∧ q ≤ 30 := ⟨(c3 n 0 30).toNat, by have := c3_in n 0 30 (by omega); omega, by have := c3_in n 0 30 (by omega); omega⟩
  have HC2 : Hid (∀ W, Calls Tryd.prog 14 #[.int .i64 n, .int .i64 0, .int .i64 30] W fun e w' => e = .returned (.int .i64 (q : Int)) ∧ W = w') := Lib.hid (fun W => by rw [← hq]; exact clamp3_any n 0 30 W)
  clear hN hNc hq
  have HTen := Lib.hid ht
  clear ht
  have hl1 := less_one
  have HRst := Lib.hid (fun B W st => restore_any B N (newH N) t (by omega) W st)
  rcases hcase with ⟨rfl, hlen⟩ | ⟨he, hlen⟩
  all_goals
    go_enter Tryd.func4, Tryd.ntmps4
    go_wp2_with fail
    refine (HC1.out _).mono ?_
    rintro e w1 ⟨rfl, rfl⟩
    go_wp2_with fail
    refine (HNw.out _).mono ?_
    rintro e w1 ⟨rfl, hs1, hb1⟩
    have HS1 := Lib.hid hs1; have HB1 := Lib.hid hb1
    clear hs1 hb1
    go_wp2_with fail
    refine (HNw.out _).mono ?_
    rintro e w2 ⟨rfl, hs2, hb2⟩
    have HS2 := Lib.hid (HS1.out.next hb2); have HT2 := Lib.hid hs2; have HB2 := Lib.hid (HB1.out.trans (hb2.mono HB1.out.size))
    have hBl := HS1.out.lt
    have hne : w.heap.size ≠ w1.heap.size := by omega
    have hCw : w.heap.size ≤ w1.heap.size := by omega
    clear hs2 hb2 HS1
    generalize w1.heap.size = C at *
    go_wp2_with fail
    refine (HRst.out _ _ HS2.out).mono ?_
    rintro e w3 ⟨hg3, hz⟩
    have HT3 := Lib.hid (stp_grown HT2.out hg3 (Ne.symm hne))
    have HB3 := Lib.hid (HB2.out.grown hg3 HB2.out.size (fun k hk => by injection hk with hk; omega))
    clear hg3 HT2
    obtain ⟨out, _, hol, rfl, hs3⟩ | ⟨_, rfl, hs3⟩ := hz
    rotate_left
    · have HS3 := Lib.hid hs3
      clear hs3
      have HRep := Lib.hid (fun B W s t => report_any B N (newH N) W s t)
      generalize repB (lstP (newH N) N) = T at *
      go_wp2_with fail
      refine (HRep.out _ _ HS3.out (HTen.out.next HB3.out)).mono ?_
      rintro e w4 ⟨rfl, hb4⟩
      have HB4 := Lib.hid (HB3.out.trans (hb4.mono HB3.out.size)); have HT4 := Lib.hid (HT3.out.next hb4)
      clear hb4
      go_wp2_with fail
      refine (HRep.out _ _ HT4.out (HTen.out.next HB4.out)).mono ?_
      rintro e w5 ⟨rfl, hb5⟩
      have HB5 := Lib.hid (HB4.out.trans (hb5.mono HB4.out.size))
      clear hb5
      go_wp2_with fail
      go_ret
      exact ⟨rfl, HB5.out⟩
    · have HS3 := Lib.hid hs3
      clear hs3
      have hol2 : out.length ≤ 500 := by omega
      obtain ⟨out2, hout, hol3, hoe⟩ := rst_all out hol2
      have hsz : (repB (lstP (hOf out) out.length)).size ≤ 100000 := by
        have h1 := repB_size (lstP (hOf out) out.length) (fun x hx => by have := lstP_mem _ _ x hx; omega)
        have h2 := lstP_len (hOf out) out.length
        omega
      have HRs2 := Lib.hid (fun W st => restore_any C N (newH N) (repB (lstP (hOf out) out.length)) hsz W st)
      rw [hol] at hout HRs2
      have HRes : Hid (∀ W, Stp W C N (newH N) → Calls Tryd.prog 11 #[.pointer (some ⟨C, 0, none⟩), .string (repB (lstP (hOf out) N))] W fun e w' => e = .returned (.int .i64 0) ∧ Stp w' C N (hOf out2) ∧ W.grownBy w' (some C)) := Lib.hid (fun W st => (HRs2.out W st).mono fun e w' ⟨hg, hz⟩ => by
        rw [hout] at hz
        obtain ⟨o3, e1, _, rfl, hs⟩ | ⟨e1, _⟩ := hz
        · injection e1 with e1; subst e1; exact ⟨rfl, hs, hg⟩
        · cases e1)
      have HRep := Lib.hid (fun W s t => report_any w.heap.size N (hOf out) W s t)
      have HRep2 : Hid (∀ W, Stp W C N (hOf out2) → Ten W → Calls Tryd.prog 7 #[.pointer (some ⟨C, 0, none⟩)] W fun e w' => e = .returned (.string (repB (lstP (hOf out) N))) ∧ Below W.heap.size W w') := Lib.hid (fun W s t => by
        have := report_any C N (hOf out2) W s t
        rwa [lstP_congr (hOf out2) (hOf out) N (fun d _ => hoe d)] at this)
      clear hout hoe hsz HRs2 hol hol2 hol3 HRst
      generalize hOf out2 = h2 at *
      generalize hOf out = h at *
      have HNx : Hid (∀ (k : Nat) W, Stp W w.heap.size N h → Calls Tryd.prog 16 #[.pointer (some ⟨w.heap.size, 0, none⟩), .int .i64 (colAt h N k), .int .i64 1] W fun e w' => e = .returned (.int .i64 (colAt h N (k + 1))) ∧ Below W.heap.size W w') := Lib.hid (fun k W s => by
        rw [← colAt_step h N hN1 k]
        exact next_any w.heap.size N h (colAt h N k) 1 less_one W s)
      have HLi := Lib.hid (fun W s => list_any w.heap.size N h W s)
      go_wp2_with fail
      refine (HC2.out _).mono ?_
      rintro e w4 ⟨rfl, rfl⟩
      go_wp2_with fail
      go_loopw [9, 10] (fun c i wr => ∃ k : Nat, k ≤ q ∧ i = .int .i64 k ∧ c = .int .i64 (colAt h N k) ∧ Stp wr w.heap.size N h ∧ Stp wr C N (newH N) ∧ Below w.heap.size w wr) (fun _ i _ => q - (intOf i).toNat)
      case atStart => exact ⟨0, by omega, rfl, rfl, HS3.out, HT3.out, HB3.out⟩
      case round =>
        obtain ⟨k, hk, rfl, rfl, hs, ht, hb⟩ := hrel
        have HS := Lib.hid hs; have HT := Lib.hid ht; have HB := Lib.hid hb
        clear hs ht hb
        by_cases hlt : k < q
        · have HNk := Lib.hid (HNx.out k)
          generalize colAt h N k = c0 at *
          generalize hc1 : colAt h N (k + 1) = c1 at *
          have HC := Lib.hid hc1
          clear hc1
          go_wp2_with fail
          refine (HNk.out _ HS.out).mono ?_
          rintro e w5 ⟨rfl, hb5⟩
          have HS5 := Lib.hid (HS.out.next hb5); have HT5 := Lib.hid (HT.out.next hb5); have HB5 := Lib.hid (HB.out.trans (hb5.mono HB.out.size))
          clear hb5
          go_wp2_with fail
          go_roundw
          case rel => exact ⟨k + 1, by omega, by go_num, by rw [HC.out], HS5.out, HT5.out, HB5.out⟩
          case measure => simp [intOf]; omega
        · obtain rfl : k = q := by omega
          go_wp2_with fail
          refine (HLi.out _ HS.out).mono ?_
          rintro e w5 ⟨v, rfl, ho5, hb5⟩
          have HO5 := Lib.hid ho5
          have HS5 := Lib.hid (HS.out.next hb5); have HT5 := Lib.hid (HT.out.next hb5); have HB5 := Lib.hid (HB.out.trans (hb5.mono HB.out.size))
          clear hb5 ho5
          have hcs := rest_cases h N
          have hrl := rest_len h N
          have hin := colAt_in h N
          have hout := colAt_out h N hN1
          have HCl := Lib.hid (fun W => clip_any (k : Int) 1 30 W)
          have hcl := clip_in (k : Int) 1 30 (by omega)
          have HBk := Lib.hid (fun W s => back_any w.heap.size N h (colAt h N k) (clipP (k : Int) 1 30) (less_of _ (by omega)) W s)
          have hbz := back_pos h N (colAt h N k) (clipP (k : Int) 1 30)
          generalize backP h N (colAt h N k) (clipP (k : Int) 1 30) = z at *
          generalize clipP (k : Int) 1 30 = kc at *
          have gz : decide (0 ≤ z) = true := by simpa using hbz
          clear hcl hbz
          generalize repB (lstP h N) = T at *
          generalize restL h N = R at *
          obtain ⟨A5, c5, rfl⟩ := OInts.form HO5.out
          generalize lstP h N = L at *
          have hk3 : (k = 0 ∧ colAt h N k = 0) ∨ (decide (0 < (k : Int)) = true ∧ ((k : Int) == 0) = false ∧ ∃ (p : Nat) (cc : Int), k = p + 1 ∧ IntKind.i64.wrap ((k : Int) - 1) = p ∧ colAt h N k = cc ∧ (∀ W, Stp W w.heap.size N h → Calls Tryd.prog 16 #[.pointer (some ⟨w.heap.size, 0, none⟩), .int .i64 0, .int .i64 (k : Int)] W fun e w' => e = .returned (.int .i64 cc) ∧ Below W.heap.size W w') ∧ ((∃ hp : p < R.length, R[p] = cc) ∨ (R.length ≤ p ∧ (N : Int) - 1 = cc))) := by
            rcases Nat.eq_zero_or_pos k with rfl | hp
            · exact .inl ⟨rfl, rfl⟩
            · refine .inr ⟨by simp; omega, by rw [beq_eq_false_iff_ne]; omega, k - 1, _, by omega, (IntWalk.i64_in _ (by omega)).trans (by omega), rfl, fun W s => ?_, ?_⟩
              · rw [colAt_pos h N k hp]
                exact next_any w.heap.size N h 0 k (less_of _ (by omega)) W s
              · by_cases hlt : k - 1 < R.length
                · exact .inl ⟨hlt, by rw [hin _ hlt, show k - 1 + 1 = k from by omega]⟩
                · exact .inr ⟨by omega, by rw [hout (k - 1) (by omega), show k - 1 + 1 = k from by omega]⟩
          have hL : (L.length = 0 ∧ R = []) ∨ (∃ h0 : 0 < L.length, ((L[0] == 0) = false) ∧ L = R) ∨ (∃ h0 : 0 < L.length, L[0] = 0 ∧ R.length + 1 = L.length ∧ ∀ (p : Nat) (hp : p < R.length) (hq : p + 1 < L.length), L[p + 1] = R[p]) := by
            rcases hcs with rfl | ⟨rfl, hx⟩
            · exact .inr (.inr ⟨by simp, rfl, by simp, fun p hp hq => rfl⟩)
            · cases L with
              | nil => exact .inl ⟨rfl, rfl⟩
              | cons x r => exact .inr (.inl ⟨by simp, by rw [beq_eq_false_iff_ne]; exact hx x r rfl, rfl⟩)
          have hLm : L.length ≤ 201 := by rcases hcs with rfl | ⟨rfl, _⟩ <;> first | omega | (rw [List.length_cons]; omega)
          clear hin hout hcs
          generalize colAt h N k = c0 at *
          have hwN : IntKind.i64.wrap ((N : Int) - 1) = (N : Int) - 1 := IntWalk.i64_in _ (by omega)
          go_wp2_with fail
          go_loopw [11, 49] (fun v i wr => v = .slice A5 L.length c5 ∧ i = .int .i64 0 ∧ wr = w5) (fun _ _ _ => 0)
          case atStart => exact ⟨rfl, rfl, rfl⟩
          case round =>
            obtain ⟨rfl, rfl, rfl⟩ := hrel
            rcases hL with ⟨h0, rfl⟩ | ⟨h0, hx, rfl⟩ | ⟨h0, hx, hRL, hRp⟩
            · rw [h0]
              rcases hk3 with ⟨rfl, rfl⟩ | ⟨g0, g1, p, cc, rfl, hw1, rfl, hN2, hc⟩
              · have HS6 := HS5; have HT6 := HT5; have HB6 := HB5
                go_wp2_with fail
                refine (HCl.out _).mono ?_
                rintro e w7 ⟨rfl, rfl⟩
                go_wp2_with fail
                refine (HBk.out _ HS6.out).mono ?_
                rintro e w7 ⟨rfl, hb7⟩
                have HS7 := Lib.hid (HS6.out.next hb7); have HT7 := Lib.hid (HT6.out.next hb7); have HB7 := Lib.hid (HB6.out.trans (hb7.mono HB6.out.size))
                clear hb7
                go_wp2_with fail
                refine (HRep.out _ HS7.out (HTen.out.next HB7.out)).mono ?_
                rintro e w8 ⟨rfl, hb8⟩
                have HS8 := Lib.hid (HS7.out.next hb8); have HT8 := Lib.hid (HT7.out.next hb8); have HB8 := Lib.hid (HB7.out.trans (hb8.mono HB7.out.size))
                clear hb8
                go_wp2_with fail
                refine (HRes.out _ HT8.out).mono ?_
                rintro e w9 ⟨rfl, ht9, hg9⟩
                have HT9 := Lib.hid ht9; have HS9 := Lib.hid (stp_grown HS8.out hg9 hne)
                have HB9 := Lib.hid (HB8.out.grown hg9 HB8.out.size (fun k hk => by injection hk with hk; omega))
                clear ht9 hg9
                go_wp2_with fail
                refine (HRep2.out _ HT9.out (HTen.out.next HB9.out)).mono ?_
                rintro e w10 ⟨rfl, hb10⟩
                have HS10 := Lib.hid (HS9.out.next hb10); have HB10 := Lib.hid (HB9.out.trans (hb10.mono HB9.out.size))
                clear hb10
                go_wp2_with fail
                refine (HRep.out _ HS10.out (HTen.out.next HB10.out)).mono ?_
                rintro e w11 ⟨rfl, hb11⟩
                have HB11 := Lib.hid (HB10.out.trans (hb11.mono HB10.out.size))
                clear hb11
                go_wp2_with fail
                go_ret
                exact ⟨rfl, HB11.out⟩
              · obtain ⟨hp, _⟩ | ⟨_, rfl⟩ := hc
                · exact absurd hp (by simp)
                · have HN2 := Lib.hid hN2
                  have g2 : decide ((p : Int) + 1 ≤ 0) = false := by rw [decide_eq_false_iff_not]; omega
                  clear hN2 h0
                  go_wp2_with fail
                  refine (HN2.out _ HS5.out).mono ?_
                  rintro e w6 ⟨rfl, hb6⟩
                  have HS6 := Lib.hid (HS5.out.next hb6); have HT6 := Lib.hid (HT5.out.next hb6); have HB6 := Lib.hid (HB5.out.trans (hb6.mono HB5.out.size))
                  clear hb6
                  go_wp2_with fail
                  refine (HCl.out _).mono ?_
                  rintro e w7 ⟨rfl, rfl⟩
                  go_wp2_with fail
                  refine (HBk.out _ HS6.out).mono ?_
                  rintro e w7 ⟨rfl, hb7⟩
                  have HS7 := Lib.hid (HS6.out.next hb7); have HT7 := Lib.hid (HT6.out.next hb7); have HB7 := Lib.hid (HB6.out.trans (hb7.mono HB6.out.size))
                  clear hb7
                  go_wp2_with fail
                  refine (HRep.out _ HS7.out (HTen.out.next HB7.out)).mono ?_
                  rintro e w8 ⟨rfl, hb8⟩
                  have HS8 := Lib.hid (HS7.out.next hb8); have HT8 := Lib.hid (HT7.out.next hb8); have HB8 := Lib.hid (HB7.out.trans (hb8.mono HB7.out.size))
                  clear hb8
                  go_wp2_with fail
                  refine (HRes.out _ HT8.out).mono ?_
                  rintro e w9 ⟨rfl, ht9, hg9⟩
                  have HT9 := Lib.hid ht9; have HS9 := Lib.hid (stp_grown HS8.out hg9 hne)
                  have HB9 := Lib.hid (HB8.out.grown hg9 HB8.out.size (fun k hk => by injection hk with hk; omega))
                  clear ht9 hg9
                  go_wp2_with fail
                  refine (HRep2.out _ HT9.out (HTen.out.next HB9.out)).mono ?_
                  rintro e w10 ⟨rfl, hb10⟩
                  have HS10 := Lib.hid (HS9.out.next hb10); have HB10 := Lib.hid (HB9.out.trans (hb10.mono HB9.out.size))
                  clear hb10
                  go_wp2_with fail
                  refine (HRep.out _ HS10.out (HTen.out.next HB10.out)).mono ?_
                  rintro e w11 ⟨rfl, hb11⟩
                  have HB11 := Lib.hid (HB10.out.trans (hb11.mono HB10.out.size))
                  clear hb11
                  go_wp2_with fail
                  go_ret
                  exact ⟨rfl, HB11.out⟩
            · obtain ⟨g, cap, hv, _⟩ := World.ownsRow.form (oints_own HO5.out) h0
              simp only [Value.slice.injEq] at hv
              obtain ⟨rfl, -, rfl⟩ := hv
              have d0 := (OInts.cell1 HO5.out rfl h0).1
              generalize L[0] = x at *
              rcases hk3 with ⟨rfl, rfl⟩ | ⟨g0, g1, p, cc, rfl, hw1, rfl, hN2, hc⟩
              · have HS6 := HS5; have HT6 := HT5; have HB6 := HB5
                go_wp2_with fail
                refine (HCl.out _).mono ?_
                rintro e w7 ⟨rfl, rfl⟩
                go_wp2_with fail
                refine (HBk.out _ HS6.out).mono ?_
                rintro e w7 ⟨rfl, hb7⟩
                have HS7 := Lib.hid (HS6.out.next hb7); have HT7 := Lib.hid (HT6.out.next hb7); have HB7 := Lib.hid (HB6.out.trans (hb7.mono HB6.out.size))
                clear hb7
                go_wp2_with fail
                refine (HRep.out _ HS7.out (HTen.out.next HB7.out)).mono ?_
                rintro e w8 ⟨rfl, hb8⟩
                have HS8 := Lib.hid (HS7.out.next hb8); have HT8 := Lib.hid (HT7.out.next hb8); have HB8 := Lib.hid (HB7.out.trans (hb8.mono HB7.out.size))
                clear hb8
                go_wp2_with fail
                refine (HRes.out _ HT8.out).mono ?_
                rintro e w9 ⟨rfl, ht9, hg9⟩
                have HT9 := Lib.hid ht9; have HS9 := Lib.hid (stp_grown HS8.out hg9 hne)
                have HB9 := Lib.hid (HB8.out.grown hg9 HB8.out.size (fun k hk => by injection hk with hk; omega))
                clear ht9 hg9
                go_wp2_with fail
                refine (HRep2.out _ HT9.out (HTen.out.next HB9.out)).mono ?_
                rintro e w10 ⟨rfl, hb10⟩
                have HS10 := Lib.hid (HS9.out.next hb10); have HB10 := Lib.hid (HB9.out.trans (hb10.mono HB9.out.size))
                clear hb10
                go_wp2_with fail
                refine (HRep.out _ HS10.out (HTen.out.next HB10.out)).mono ?_
                rintro e w11 ⟨rfl, hb11⟩
                have HB11 := Lib.hid (HB10.out.trans (hb11.mono HB10.out.size))
                clear hb11
                go_wp2_with fail
                go_ret
                exact ⟨rfl, HB11.out⟩
              · have HN2 := Lib.hid hN2
                clear hN2
                obtain ⟨hp, hcp⟩ | ⟨hp, rfl⟩ := hc
                · have d1 := (OInts.cell1 HO5.out rfl hp).1
                  rw [hcp] at d1
                  have g2 : decide (p + 1 ≤ L.length) = true := by rw [decide_eq_true_iff]; omega
                  have g3 : decide (p < L.length) = true := by simpa using hp
                  clear hcp
                  go_wp2_with fail
                  refine (HN2.out _ HS5.out).mono ?_
                  rintro e w6 ⟨rfl, hb6⟩
                  have HS6 := Lib.hid (HS5.out.next hb6); have HT6 := Lib.hid (HT5.out.next hb6); have HB6 := Lib.hid (HB5.out.trans (hb6.mono HB5.out.size))
                  clear hb6
                  go_wp2_with fail
                  refine (HCl.out _).mono ?_
                  rintro e w7 ⟨rfl, rfl⟩
                  go_wp2_with fail
                  refine (HBk.out _ HS6.out).mono ?_
                  rintro e w7 ⟨rfl, hb7⟩
                  have HS7 := Lib.hid (HS6.out.next hb7); have HT7 := Lib.hid (HT6.out.next hb7); have HB7 := Lib.hid (HB6.out.trans (hb7.mono HB6.out.size))
                  clear hb7
                  go_wp2_with fail
                  refine (HRep.out _ HS7.out (HTen.out.next HB7.out)).mono ?_
                  rintro e w8 ⟨rfl, hb8⟩
                  have HS8 := Lib.hid (HS7.out.next hb8); have HT8 := Lib.hid (HT7.out.next hb8); have HB8 := Lib.hid (HB7.out.trans (hb8.mono HB7.out.size))
                  clear hb8
                  go_wp2_with fail
                  refine (HRes.out _ HT8.out).mono ?_
                  rintro e w9 ⟨rfl, ht9, hg9⟩
                  have HT9 := Lib.hid ht9; have HS9 := Lib.hid (stp_grown HS8.out hg9 hne)
                  have HB9 := Lib.hid (HB8.out.grown hg9 HB8.out.size (fun k hk => by injection hk with hk; omega))
                  clear ht9 hg9
                  go_wp2_with fail
                  refine (HRep2.out _ HT9.out (HTen.out.next HB9.out)).mono ?_
                  rintro e w10 ⟨rfl, hb10⟩
                  have HS10 := Lib.hid (HS9.out.next hb10); have HB10 := Lib.hid (HB9.out.trans (hb10.mono HB9.out.size))
                  clear hb10
                  go_wp2_with fail
                  refine (HRep.out _ HS10.out (HTen.out.next HB10.out)).mono ?_
                  rintro e w11 ⟨rfl, hb11⟩
                  have HB11 := Lib.hid (HB10.out.trans (hb11.mono HB10.out.size))
                  clear hb11
                  go_wp2_with fail
                  go_ret
                  exact ⟨rfl, HB11.out⟩
                · have g2 : decide (p + 1 ≤ L.length) = false := by rw [decide_eq_false_iff_not]; omega
                  go_wp2_with fail
                  refine (HN2.out _ HS5.out).mono ?_
                  rintro e w6 ⟨rfl, hb6⟩
                  have HS6 := Lib.hid (HS5.out.next hb6); have HT6 := Lib.hid (HT5.out.next hb6); have HB6 := Lib.hid (HB5.out.trans (hb6.mono HB5.out.size))
                  clear hb6
                  go_wp2_with fail
                  refine (HCl.out _).mono ?_
                  rintro e w7 ⟨rfl, rfl⟩
                  go_wp2_with fail
                  refine (HBk.out _ HS6.out).mono ?_
                  rintro e w7 ⟨rfl, hb7⟩
                  have HS7 := Lib.hid (HS6.out.next hb7); have HT7 := Lib.hid (HT6.out.next hb7); have HB7 := Lib.hid (HB6.out.trans (hb7.mono HB6.out.size))
                  clear hb7
                  go_wp2_with fail
                  refine (HRep.out _ HS7.out (HTen.out.next HB7.out)).mono ?_
                  rintro e w8 ⟨rfl, hb8⟩
                  have HS8 := Lib.hid (HS7.out.next hb8); have HT8 := Lib.hid (HT7.out.next hb8); have HB8 := Lib.hid (HB7.out.trans (hb8.mono HB7.out.size))
                  clear hb8
                  go_wp2_with fail
                  refine (HRes.out _ HT8.out).mono ?_
                  rintro e w9 ⟨rfl, ht9, hg9⟩
                  have HT9 := Lib.hid ht9; have HS9 := Lib.hid (stp_grown HS8.out hg9 hne)
                  have HB9 := Lib.hid (HB8.out.grown hg9 HB8.out.size (fun k hk => by injection hk with hk; omega))
                  clear ht9 hg9
                  go_wp2_with fail
                  refine (HRep2.out _ HT9.out (HTen.out.next HB9.out)).mono ?_
                  rintro e w10 ⟨rfl, hb10⟩
                  have HS10 := Lib.hid (HS9.out.next hb10); have HB10 := Lib.hid (HB9.out.trans (hb10.mono HB9.out.size))
                  clear hb10
                  go_wp2_with fail
                  refine (HRep.out _ HS10.out (HTen.out.next HB10.out)).mono ?_
                  rintro e w11 ⟨rfl, hb11⟩
                  have HB11 := Lib.hid (HB10.out.trans (hb11.mono HB10.out.size))
                  clear hb11
                  go_wp2_with fail
                  go_ret
                  exact ⟨rfl, HB11.out⟩
            · rcases (oints_own HO5.out).2 with ⟨_, hz0⟩ | ⟨g, cap, cur, hv, _, _, hcap, _⟩
              · omega
              simp only [Value.slice.injEq] at hv
              obtain ⟨rfl, -, rfl⟩ := hv
              have d0 := (OInts.cell1 HO5.out rfl h0).1
              rw [hx] at d0
              by_cases hc1 : c5 = 1
              · subst hc1
                rcases hk3 with ⟨rfl, rfl⟩ | ⟨g0, g1, p, cc, rfl, hw1, rfl, hN2, hc⟩
                · have HS6 := HS5; have HT6 := HT5; have HB6 := HB5
                  go_wp2_with fail
                  refine (HCl.out _).mono ?_
                  rintro e w7 ⟨rfl, rfl⟩
                  go_wp2_with fail
                  refine (HBk.out _ HS6.out).mono ?_
                  rintro e w7 ⟨rfl, hb7⟩
                  have HS7 := Lib.hid (HS6.out.next hb7); have HT7 := Lib.hid (HT6.out.next hb7); have HB7 := Lib.hid (HB6.out.trans (hb7.mono HB6.out.size))
                  clear hb7
                  go_wp2_with fail
                  refine (HRep.out _ HS7.out (HTen.out.next HB7.out)).mono ?_
                  rintro e w8 ⟨rfl, hb8⟩
                  have HS8 := Lib.hid (HS7.out.next hb8); have HT8 := Lib.hid (HT7.out.next hb8); have HB8 := Lib.hid (HB7.out.trans (hb8.mono HB7.out.size))
                  clear hb8
                  go_wp2_with fail
                  refine (HRes.out _ HT8.out).mono ?_
                  rintro e w9 ⟨rfl, ht9, hg9⟩
                  have HT9 := Lib.hid ht9; have HS9 := Lib.hid (stp_grown HS8.out hg9 hne)
                  have HB9 := Lib.hid (HB8.out.grown hg9 HB8.out.size (fun k hk => by injection hk with hk; omega))
                  clear ht9 hg9
                  go_wp2_with fail
                  refine (HRep2.out _ HT9.out (HTen.out.next HB9.out)).mono ?_
                  rintro e w10 ⟨rfl, hb10⟩
                  have HS10 := Lib.hid (HS9.out.next hb10); have HB10 := Lib.hid (HB9.out.trans (hb10.mono HB9.out.size))
                  clear hb10
                  go_wp2_with fail
                  refine (HRep.out _ HS10.out (HTen.out.next HB10.out)).mono ?_
                  rintro e w11 ⟨rfl, hb11⟩
                  have HB11 := Lib.hid (HB10.out.trans (hb11.mono HB10.out.size))
                  clear hb11
                  go_wp2_with fail
                  go_ret
                  exact ⟨rfl, HB11.out⟩
                · have HN2 := Lib.hid hN2
                  clear hN2
                  obtain ⟨hp, hcp⟩ | ⟨hp, rfl⟩ := hc
                  · exfalso; omega
                  · have g2 : decide (p + 1 ≤ L.length - 1) = false := by rw [decide_eq_false_iff_not]; omega
                    go_wp2_with fail
                    refine (HN2.out _ HS5.out).mono ?_
                    rintro e w6 ⟨rfl, hb6⟩
                    have HS6 := Lib.hid (HS5.out.next hb6); have HT6 := Lib.hid (HT5.out.next hb6); have HB6 := Lib.hid (HB5.out.trans (hb6.mono HB5.out.size))
                    clear hb6
                    go_wp2_with fail
                    refine (HCl.out _).mono ?_
                    rintro e w7 ⟨rfl, rfl⟩
                    go_wp2_with fail
                    refine (HBk.out _ HS6.out).mono ?_
                    rintro e w7 ⟨rfl, hb7⟩
                    have HS7 := Lib.hid (HS6.out.next hb7); have HT7 := Lib.hid (HT6.out.next hb7); have HB7 := Lib.hid (HB6.out.trans (hb7.mono HB6.out.size))
                    clear hb7
                    go_wp2_with fail
                    refine (HRep.out _ HS7.out (HTen.out.next HB7.out)).mono ?_
                    rintro e w8 ⟨rfl, hb8⟩
                    have HS8 := Lib.hid (HS7.out.next hb8); have HT8 := Lib.hid (HT7.out.next hb8); have HB8 := Lib.hid (HB7.out.trans (hb8.mono HB7.out.size))
                    clear hb8
                    go_wp2_with fail
                    refine (HRes.out _ HT8.out).mono ?_
                    rintro e w9 ⟨rfl, ht9, hg9⟩
                    have HT9 := Lib.hid ht9; have HS9 := Lib.hid (stp_grown HS8.out hg9 hne)
                    have HB9 := Lib.hid (HB8.out.grown hg9 HB8.out.size (fun k hk => by injection hk with hk; omega))
                    clear ht9 hg9
                    go_wp2_with fail
                    refine (HRep2.out _ HT9.out (HTen.out.next HB9.out)).mono ?_
                    rintro e w10 ⟨rfl, hb10⟩
                    have HS10 := Lib.hid (HS9.out.next hb10); have HB10 := Lib.hid (HB9.out.trans (hb10.mono HB9.out.size))
                    clear hb10
                    go_wp2_with fail
                    refine (HRep.out _ HS10.out (HTen.out.next HB10.out)).mono ?_
                    rintro e w11 ⟨rfl, hb11⟩
                    have HB11 := Lib.hid (HB10.out.trans (hb11.mono HB10.out.size))
                    clear hb11
                    go_wp2_with fail
                    go_ret
                    exact ⟨rfl, HB11.out⟩
              · rcases hk3 with ⟨rfl, rfl⟩ | ⟨g0, g1, p, cc, rfl, hw1, rfl, hN2, hc⟩
                · have HS6 := HS5; have HT6 := HT5; have HB6 := HB5
                  go_wp2_with fail
                  refine (HCl.out _).mono ?_
                  rintro e w7 ⟨rfl, rfl⟩
                  go_wp2_with fail
                  refine (HBk.out _ HS6.out).mono ?_
                  rintro e w7 ⟨rfl, hb7⟩
                  have HS7 := Lib.hid (HS6.out.next hb7); have HT7 := Lib.hid (HT6.out.next hb7); have HB7 := Lib.hid (HB6.out.trans (hb7.mono HB6.out.size))
                  clear hb7
                  go_wp2_with fail
                  refine (HRep.out _ HS7.out (HTen.out.next HB7.out)).mono ?_
                  rintro e w8 ⟨rfl, hb8⟩
                  have HS8 := Lib.hid (HS7.out.next hb8); have HT8 := Lib.hid (HT7.out.next hb8); have HB8 := Lib.hid (HB7.out.trans (hb8.mono HB7.out.size))
                  clear hb8
                  go_wp2_with fail
                  refine (HRes.out _ HT8.out).mono ?_
                  rintro e w9 ⟨rfl, ht9, hg9⟩
                  have HT9 := Lib.hid ht9; have HS9 := Lib.hid (stp_grown HS8.out hg9 hne)
                  have HB9 := Lib.hid (HB8.out.grown hg9 HB8.out.size (fun k hk => by injection hk with hk; omega))
                  clear ht9 hg9
                  go_wp2_with fail
                  refine (HRep2.out _ HT9.out (HTen.out.next HB9.out)).mono ?_
                  rintro e w10 ⟨rfl, hb10⟩
                  have HS10 := Lib.hid (HS9.out.next hb10); have HB10 := Lib.hid (HB9.out.trans (hb10.mono HB9.out.size))
                  clear hb10
                  go_wp2_with fail
                  refine (HRep.out _ HS10.out (HTen.out.next HB10.out)).mono ?_
                  rintro e w11 ⟨rfl, hb11⟩
                  have HB11 := Lib.hid (HB10.out.trans (hb11.mono HB10.out.size))
                  clear hb11
                  go_wp2_with fail
                  go_ret
                  exact ⟨rfl, HB11.out⟩
                · have HN2 := Lib.hid hN2
                  clear hN2
                  obtain ⟨hp, hcp⟩ | ⟨hp, rfl⟩ := hc
                  · have d1 := (OInts.cell1 HO5.out rfl (k := p + 1) (by omega)).1
                    rw [hRp p hp (by omega), hcp, Nat.add_comm p 1] at d1
                    have g2 : decide (p + 1 ≤ L.length - 1) = true := by rw [decide_eq_true_iff]; omega
                    have g3 : decide (p < L.length - 1) = true := by rw [decide_eq_true_iff]; omega
                    clear hcp
                    go_wp2_with fail
                    refine (HN2.out _ HS5.out).mono ?_
                    rintro e w6 ⟨rfl, hb6⟩
                    have HS6 := Lib.hid (HS5.out.next hb6); have HT6 := Lib.hid (HT5.out.next hb6); have HB6 := Lib.hid (HB5.out.trans (hb6.mono HB5.out.size))
                    clear hb6
                    go_wp2_with fail
                    refine (HCl.out _).mono ?_
                    rintro e w7 ⟨rfl, rfl⟩
                    go_wp2_with fail
                    refine (HBk.out _ HS6.out).mono ?_
                    rintro e w7 ⟨rfl, hb7⟩
                    have HS7 := Lib.hid (HS6.out.next hb7); have HT7 := Lib.hid (HT6.out.next hb7); have HB7 := Lib.hid (HB6.out.trans (hb7.mono HB6.out.size))
                    clear hb7
                    go_wp2_with fail
                    refine (HRep.out _ HS7.out (HTen.out.next HB7.out)).mono ?_
                    rintro e w8 ⟨rfl, hb8⟩
                    have HS8 := Lib.hid (HS7.out.next hb8); have HT8 := Lib.hid (HT7.out.next hb8); have HB8 := Lib.hid (HB7.out.trans (hb8.mono HB7.out.size))
                    clear hb8
                    go_wp2_with fail
                    refine (HRes.out _ HT8.out).mono ?_
                    rintro e w9 ⟨rfl, ht9, hg9⟩
                    have HT9 := Lib.hid ht9; have HS9 := Lib.hid (stp_grown HS8.out hg9 hne)
                    have HB9 := Lib.hid (HB8.out.grown hg9 HB8.out.size (fun k hk => by injection hk with hk; omega))
                    clear ht9 hg9
                    go_wp2_with fail
                    refine (HRep2.out _ HT9.out (HTen.out.next HB9.out)).mono ?_
                    rintro e w10 ⟨rfl, hb10⟩
                    have HS10 := Lib.hid (HS9.out.next hb10); have HB10 := Lib.hid (HB9.out.trans (hb10.mono HB9.out.size))
                    clear hb10
                    go_wp2_with fail
                    refine (HRep.out _ HS10.out (HTen.out.next HB10.out)).mono ?_
                    rintro e w11 ⟨rfl, hb11⟩
                    have HB11 := Lib.hid (HB10.out.trans (hb11.mono HB10.out.size))
                    clear hb11
                    go_wp2_with fail
                    go_ret
                    exact ⟨rfl, HB11.out⟩
                  · have g2 : decide (p + 1 ≤ L.length - 1) = false := by rw [decide_eq_false_iff_not]; omega
                    go_wp2_with fail
                    refine (HN2.out _ HS5.out).mono ?_
                    rintro e w6 ⟨rfl, hb6⟩
                    have HS6 := Lib.hid (HS5.out.next hb6); have HT6 := Lib.hid (HT5.out.next hb6); have HB6 := Lib.hid (HB5.out.trans (hb6.mono HB5.out.size))
                    clear hb6
                    go_wp2_with fail
                    refine (HCl.out _).mono ?_
                    rintro e w7 ⟨rfl, rfl⟩
                    go_wp2_with fail
                    refine (HBk.out _ HS6.out).mono ?_
                    rintro e w7 ⟨rfl, hb7⟩
                    have HS7 := Lib.hid (HS6.out.next hb7); have HT7 := Lib.hid (HT6.out.next hb7); have HB7 := Lib.hid (HB6.out.trans (hb7.mono HB6.out.size))
                    clear hb7
                    go_wp2_with fail
                    refine (HRep.out _ HS7.out (HTen.out.next HB7.out)).mono ?_
                    rintro e w8 ⟨rfl, hb8⟩
                    have HS8 := Lib.hid (HS7.out.next hb8); have HT8 := Lib.hid (HT7.out.next hb8); have HB8 := Lib.hid (HB7.out.trans (hb8.mono HB7.out.size))
                    clear hb8
                    go_wp2_with fail
                    refine (HRes.out _ HT8.out).mono ?_
                    rintro e w9 ⟨rfl, ht9, hg9⟩
                    have HT9 := Lib.hid ht9; have HS9 := Lib.hid (stp_grown HS8.out hg9 hne)
                    have HB9 := Lib.hid (HB8.out.grown hg9 HB8.out.size (fun k hk => by injection hk with hk; omega))
                    clear ht9 hg9
                    go_wp2_with fail
                    refine (HRep2.out _ HT9.out (HTen.out.next HB9.out)).mono ?_
                    rintro e w10 ⟨rfl, hb10⟩
                    have HS10 := Lib.hid (HS9.out.next hb10); have HB10 := Lib.hid (HB9.out.trans (hb10.mono HB9.out.size))
                    clear hb10
                    go_wp2_with fail
                    refine (HRep.out _ HS10.out (HTen.out.next HB10.out)).mono ?_
                    rintro e w11 ⟨rfl, hb11⟩
                    have HB11 := Lib.hid (HB10.out.trans (hb11.mono HB10.out.size))
                    clear hb11
                    go_wp2_with fail
                    go_ret
                    exact ⟨rfl, HB11.out⟩

/-- What the walk gives, for every argument and every world that holds the table. -/
theorem contract (H : Type) (enc : TypeId × Value → H) (W : World) (base : Nat) (args : Array Value) (ds gs : List (DataW H)) (before : List MemPlace)
    (hval : ∀ (j : Nat) t v, Tryd.f4.params[j]? = some t → args[j]? = some v → Value.okWide Tryd.prog W .any base t v)
    (hW : DataW.Whole enc Tryd.prog Tryd.f4.params.toList Rows.phosphorTabbedSpec.vars false W args.toList ds gs before) (hL : laidMetH Tryd.prog Rows.phosphorTabbedRow.laid W)
    (hreach : (DataW.weightsEach Tryd.prog (Tryd.f4.params.toList ++ []) (ds ++ gs)).all (· ≤ reachBytes) = true) :
    Calls Tryd.prog 4 args W fun e W' => ∃ v, e = .returned v ∧ Rows.phosphorTabbedSpec.post enc Tryd.prog Tryd.f4 false true false false W args v W' := by
  have hW' := hW
  have ht := ten_of hL
  have hlts : ∀ x ∈ before, x.block < W.heap.size := fun x hx => hW'.lt x hx
  obtain ⟨p, q, hA0, hV, rfl, hfz, hnd⟩ := hW
  have hA : DataW.TrodAll enc Tryd.prog W 0 (fun _ => true) true Tryd.f4.params.toList args.toList ds p := hA0
  rw [Tryd.params4] at hA hval hreach
  obtain ⟨v0, vs0, d0, ds0, pp0, qq0, hargs, rfl, rfl, h0, rr0⟩ := trodAll_cons hA
  obtain ⟨v1, vs1, d1, ds1, pp1, qq1, rfl, rfl, rfl, h1, rr1⟩ := trodAll_cons rr0
  obtain ⟨v2, vs2, d2, ds2, pp2, qq2, rfl, rfl, rfl, h2, rr2⟩ := trodAll_cons rr1
  obtain ⟨rfl, rfl, rfl⟩ := trodAll_nil rr2
  obtain rfl : args = #[v0, v1, v2] := by cases args; simp_all
  obtain ⟨rfl, rfl⟩ := trodVars_none hV
  obtain ⟨a0, rfl, rfl, rfl, w0⟩ := open_int Tryd.underlying3 (hval 0 3 v0 rfl rfl) h0
  obtain ⟨s1, rfl, rfl, rfl, hs1⟩ := open_string Tryd.underlying9 (hval 1 9 v1 rfl rfl) h1
  obtain ⟨a2, rfl, rfl, rfl, w2⟩ := open_int Tryd.underlying3 (hval 2 3 v2 rfl rfl) h2
  clear hA0
  refine (walk a0 s1 hs1 a2 W ht).mono fun e W' ⟨he, hb⟩ => ?_
  subst he
  exact ⟨_, rfl, post_law laidOut (by kernel_rfl) (by kernel_rfl) rfl hW' rfl hb⟩

theorem laid_met (os : Os) : laidMet Tryd.prog Rows.phosphorTabbedRow.laid ((laidWorld os).forCall (fun _ _ => 0) ⟨#[], #[Value.int .i64 0, Value.string ⟨#[]⟩, Value.int .i64 0], []⟩).memory :=
  laidMet_of_run' 8 (by kernel_rfl) (by kernel_rfl)
theorem reads (os : Os) {H : Type} (enc : TypeId × Value → H) : ∃ places, DataW.whole enc Tryd.prog ((laidWorld os).forCall (fun _ _ => 0) ⟨#[], #[Value.int .i64 0, Value.string ⟨#[]⟩, Value.int .i64 0], []⟩).memory Tryd.f4.params.toList Rows.phosphorTabbedSpec.vars false (#[Value.int .i64 0, Value.string ⟨#[]⟩, Value.int .i64 0] : Array Value).toList 8 = some ([.lit (.int .i64 0), .lit (.string []), .lit (.int .i64 0)], [], places) :=
  ⟨[], by kernel_rfl⟩

set_option maxRecDepth 100000 in
theorem lifted (os : Os) (started : os.Started) (H : Type) (enc : TypeId × Value → H) (F : Stop.Interp) :
    ReturnsInHanded {} Tryd.checked os 4 .any ((OpenSpec.ofChange Rows.phosphorTabbedSpec).preRow enc Tryd.prog Tryd.f4 Rows.phosphorTabbedRow.domain false Rows.phosphorTabbedRow.laid) (((OpenSpec.ofChange Rows.phosphorTabbedSpec).at F).post enc Tryd.prog Tryd.f4 false true false false) := by
  obtain ⟨places, hx⟩ := reads os enc
  refine returnsInHanded_of_row (C := Tryd.checked) (s := OpenSpec.ofChange Rows.phosphorTabbedSpec) own started (by kernel_rfl) Tryd.func4
    (witness_row_at (enc := enc) (C := Tryd.checked) false (laidWorld os) #[Value.int .i64 0, Value.string ⟨#[]⟩, Value.int .i64 0] rfl (by kernel_rfl) (by kernel_rfl) (by kernel_rfl)
      (OpenSpec.preRow_of_cond 8 hx (by kernel_rfl) (fun k hk => by cases hk) (by kernel_rfl) (laid_met os))) ?_
  intro W base args ds gs before hval hW _ _ hreach hL _ _
  exact contract H enc W base args ds gs before hval hW hL hreach

theorem said : Rows.PhosphorTabbedSaid :=
  OpenClaim.holds_of_cond 4 Tryd.f4 rfl rfl rfl rfl rfl rfl rfl ⟨rfl, rfl, rfl, rfl, rfl⟩ rfl rfl rfl rfl rfl (by kernel_rfl) Tryd.func4 (by kernel_rfl)
    (of_decide_eq_true (by kernel_rfl)) (by unfold Func.isWrapper; first | (rw [if_pos (by decide +kernel)]; kernel_rfl) | (rw [if_neg (by decide +kernel)]; exact ⟨rfl, rfl⟩))
    (fun os started H enc _ F => by rw [OpenClaim.pre_eq_preRow]; exact lifted os started H enc F)

theorem plain (f : FuncId) (fn : Func) (hf : Tryd.pinned.checked.prog.funcNamed "phosphor/phosphortop.PhosphorTabbed" = some f) (hfn : Tryd.pinned.checked.prog.funcs[f]? = some fn) :
    false = Tryd.pinned.checked.prog.looks [] ∧ ∀ (j : Nat) t, fn.params[j]? = some t → Tryd.pinned.checked.prog.wantsStandIn t = false := by
  obtain rfl : f = 4 := Option.some.inj ((show Tryd.prog.funcNamed "phosphor/phosphortop.PhosphorTabbed" = some 4 by kernel_rfl).symm.trans hf) |>.symm
  obtain rfl : fn = Tryd.f4 := (Option.some.inj (Tryd.func4.symm.trans hfn)).symm
  refine ⟨by kernel_rfl, fun j t ht => ?_⟩
  rw [Tryd.params4] at ht
  have hm : t ∈ [3, 9, 3] := by simpa using Array.mem_of_getElem? ht
  have hall : ([3, 9, 3].all fun u => !Tryd.prog.wantsStandIn u) = true := by kernel_rfl
  exact (show Tryd.prog.wantsStandIn t = false by simpa using List.all_eq_true.1 hall t hm)

/-- The card. -/
theorem card : Rows.PhosphorTabbedCardSaid :=
  Claim7.holds_tied_plain_at .later [] _ _ _ _ said (fun _ h => by cases h) (by kernel_rfl) (fun _ h => by cases h) phosphorTabbed_row_tie rfl ⟨rfl, rfl⟩ (by kernel_rfl) rfl plain (by kernel_rfl)
#print axioms card
end Go.Proofs.YtnfdgioapbkonaaDoor.phosphorTabbed
