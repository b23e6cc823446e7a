/-
  The reference reads one definition as the program does.
-/
import Derived.Test.YtlhabooeeohniaaDoorUdkK
namespace Go.Proofs.YtlhabooeeohniaaDoor
open Go Go.RowKit

def isD (c : Nat) : Bool := decide (48 ≤ c) && decide (c ≤ 57)
/-- Digits, read up to the first sign that is none; never beyond a thousand. -/
def dgK (n : Nat) : List Nat → Nat × List Nat
  | [] => (n, [])
  | c :: l => if isD c then dgK (min (10 * n + (c - 48)) 1000) l else (n, c :: l)
def refR (n : Nat) (r : List Nat) : Option (Int × List Nat) := match r with
  | 47 :: r => if isU n then (fhL r).map fun b => ((n : Int), b) else none
  | _ => none
def refS (x : List Nat) : Option (Int × List Nat) := refR (dgK 0 x).1 (dgK 0 x).2
theorem refR_yes (n : Nat) (r : List Nat) : refR n (47 :: r) = if isU n then (fhL r).map fun b => ((n : Int), b) else none := rfl
theorem refR_no (n c : Nat) (r : List Nat) (h : c ≠ 47) : refR n (c :: r) = none := by
  unfold refR
  split
  · rename_i e; injection e with e _; exact absurd e h
  · rfl
theorem isD_iff (c : Nat) : isD c = true ↔ 48 ≤ c ∧ c ≤ 57 := by unfold isD; simp
theorem dgK_split : ∀ (l : List Nat) (n : Nat), ∃ d, l = d ++ (dgK n l).2 ∧ (∀ c ∈ d, isD c = true) ∧ (∀ c r, (dgK n l).2 = c :: r → isD c = false)
  | [], n => ⟨[], rfl, by simp, fun c r h => by simp [dgK] at h⟩
  | c :: l, n => by
    unfold dgK
    by_cases h : isD c = true
    · rw [if_pos h]
      obtain ⟨d, h1, h2, h3⟩ := dgK_split l (min (10 * n + (c - 48)) 1000)
      refine ⟨c :: d, by rw [List.cons_append, ← h1], fun x hx => ?_, h3⟩
      rcases List.mem_cons.1 hx with rfl | hx
      · exact h
      · exact h2 x hx
    · rw [if_neg h]
      exact ⟨[], rfl, by simp, fun x r e => by injection e with e; subst e; simpa using h⟩
theorem dgK_cap : ∀ (l : List Nat) (n : Nat), n ≤ 1000 → (dgK n l).1 ≤ 1000
  | [], n, h => h
  | c :: l, n, h => by
    unfold dgK
    split
    · exact dgK_cap l _ (by omega)
    · exact h
theorem dgK_far : ∀ (l : List Nat) (n : Nat), 255 < n → 255 < (dgK n l).1
  | [], n, h => h
  | c :: l, n, h => by
    unfold dgK
    split
    · exact dgK_far l _ (by omega)
    · exact h
def b8 (l : List Nat) : List UInt8 := l.map fun n => UInt8.ofNat n
/-- What the library reads of digits, and what the reference reads. -/
theorem pu_dgK : ∀ (d r : List Nat) (n : Nat), (∀ c ∈ d, isD c = true) → n ≤ 255 → (∀ c t, r = c :: t → isD c = false) →
    (∃ v, Lib.parseUintM 255 n (b8 d) = .ok v ∧ dgK n (d ++ r) = (v, r)) ∨ (Lib.parseUintM 255 n (b8 d) = .range ∧ 255 < (dgK n (d ++ r)).1)
  | [], r, n, _, hn, hr => .inl ⟨n, rfl, by
    cases r with
    | nil => rfl
    | cons c t =>
      show dgK n (c :: t) = _
      unfold dgK
      rw [if_neg (by simp [hr c t rfl])]⟩
  | c :: d, r, n, hd, hn, hr => by
    have hc := hd c (by simp)
    obtain ⟨c1, c2⟩ := (isD_iff c).1 hc
    have hcb : (UInt8.ofNat c).toNat = c := by rw [UInt8.toNat_ofNat']; omega
    have e1 : Lib.parseUintM 255 n (b8 (c :: d)) = if 255 < n * 10 + (c - 48) then .range else Lib.parseUintM 255 (n * 10 + (c - 48)) (b8 d) := by
      show Lib.parseUintM 255 n (UInt8.ofNat c :: b8 d) = _
      rw [Lib.parseUintM, hcb, if_pos ⟨c1, c2⟩, if_neg (by omega)]
    have e2 : dgK n ((c :: d) ++ r) = dgK (min (10 * n + (c - 48)) 1000) (d ++ r) := by
      show dgK n (c :: (d ++ r)) = _
      rw [dgK, if_pos hc]
    rw [e1, e2]
    by_cases hb : 255 < n * 10 + (c - 48)
    · rw [if_pos hb]
      exact .inr ⟨rfl, dgK_far _ _ (by omega)⟩
    · rw [if_neg hb, show min (10 * n + (c - 48)) 1000 = n * 10 + (c - 48) from by omega]
      exact pu_dgK d r _ (fun x hx => hd x (by simp [hx])) (by omega) hr
theorem pu_bad : ∀ (d r : List Nat) (c n : Nat), (∀ c ∈ d, isD c = true) → isD c = false → c < 256 → Lib.parseUintM 255 n (b8 (d ++ c :: r)) = .syntax ∨ Lib.parseUintM 255 n (b8 (d ++ c :: r)) = .range
  | [], r, c, n, _, hc, h256 => .inl (by
    show Lib.parseUintM 255 n (UInt8.ofNat c :: b8 r) = _
    have hcb : (UInt8.ofNat c).toNat = c := by rw [UInt8.toNat_ofNat']; omega
    rw [Lib.parseUintM, hcb, if_neg (fun h => by rw [(isD_iff c).2 h] at hc; cases hc)])
  | x :: d, r, c, n, hd, hc, h256 => by
    have hx := hd x (by simp)
    obtain ⟨c1, c2⟩ := (isD_iff x).1 hx
    have hcb : (UInt8.ofNat x).toNat = x := by rw [UInt8.toNat_ofNat']; omega
    show Lib.parseUintM 255 n (UInt8.ofNat x :: b8 (d ++ c :: r)) = _ ∨ Lib.parseUintM 255 n (UInt8.ofNat x :: b8 (d ++ c :: r)) = _
    rw [Lib.parseUintM, hcb, if_pos ⟨c1, c2⟩]
    split
    · exact .inr rfl
    · split
      · exact .inr rfl
      · exact pu_bad d r c _ (fun y hy => hd y (by simp [hy])) hc h256
theorem bstr_b8 (l : List Nat) : (bstr l).data.toList = b8 l := by
  rw [bstr_list]; rfl
theorem puK_of (l : List Nat) : puK (bstr l) = if l = [] then none else match Lib.parseUintM 255 0 (b8 l) with
    | .ok n => some n
    | _ => none := by
  unfold puK
  rw [bstr_b8, bstr_size]
  by_cases h : l = []
  · rw [if_pos h, if_pos (by rw [h]; rfl)]
  · rw [if_neg h, if_neg (by intro e; exact h (List.eq_nil_of_length_eq_zero e))]
    cases Lib.parseUintM 255 0 (b8 l) <;> rfl
theorem plc_isU : ∀ n : Nat, n ≤ 255 → (isU n = decide (0 ≤ plc n)) ∧ (0 ≤ plc n → nthU (plc n).toNat = (n : Int)) := by decide +kernel
theorem isU_far (n : Int) (h : 255 < n) : isU n = false := by unfold isU; simp; omega
theorem cutQ_dig (d r : List Nat) (hd : ∀ c ∈ d, isD c = true) : cutQ (d ++ 47 :: r) = (d, r, true) := by
  induction d with
  | nil => rfl
  | cons c d ih =>
    have hc := hd c (by simp)
    have h47 : c ≠ 47 := fun e => by subst e; simp [isD] at hc
    show cutQ (c :: (d ++ 47 :: r)) = _
    rw [cutQ, if_neg h47, ih (fun x hx => hd x (by simp [hx]))]
theorem cutQ_form : ∀ l : List Nat, ((cutQ l).2.2 = true ∧ l = (cutQ l).1 ++ 47 :: (cutQ l).2.1) ∨ (cutQ l).2.2 = false
  | [] => .inr rfl
  | c :: l => by
    unfold cutQ
    by_cases h : c = 47
    · rw [if_pos h]; exact .inl ⟨rfl, by rw [h]; rfl⟩
    · rw [if_neg h]
      rcases cutQ_form l with ⟨h1, h2⟩ | h1
      · exact .inl ⟨h1, by conv => lhs; rw [h2]
                           rfl⟩
      · exact .inr h1
theorem defP_false (o : Option Nat) (h : List Nat) : defP o false h = none := by cases o <;> rfl
theorem defP_none (f : Bool) (h : List Nat) : defP none f h = none := rfl
theorem pre_of : ∀ (d r y z : List Nat) (c : Nat), (∀ x ∈ d, isD x = true) → c ≠ 47 → d ++ c :: r = y ++ 47 :: z → ∃ t, y = d ++ c :: t
  | [], r, [], z, c, _, hc, e => by injection e with e6 _; exact absurd e6 hc
  | [], r, a :: y, z, c, _, hc, e => by injection e with e6 _; subst e6; exact ⟨y, rfl⟩
  | a :: d, r, [], z, c, h2, hc, e => by
    injection e with e6 _
    have := h2 a (by simp)
    rw [e6] at this; simp [isD] at this
  | a :: d, r, a2 :: y, z, c, h2, hc, e => by
    injection e with e6 e7
    subst e6
    obtain ⟨t, ht⟩ := pre_of d r y z c (fun x hx => h2 x (by simp [hx])) hc e7
    exact ⟨t, by rw [ht]; rfl⟩
/-- Both say the same of a definition. -/
theorem refS_eq (x : List Nat) (h8 : ∀ c ∈ x, c < 256) : refS x = (defS x).map fun p => (nthU p.1, p.2) := by
  obtain ⟨d, h1, h2, h3⟩ := dgK_split x 0
  unfold refS defS
  generalize hq : dgK 0 x = q at *
  obtain ⟨n, r⟩ := q
  simp only at h1 h3 ⊢
  subst h1
  match r, h3, hq with
  | [], h3, hq =>
    rcases cutQ_form (d ++ []) with ⟨_, e⟩ | e
    · exfalso
      have hm : 47 ∈ d ++ [] := by rw [e]; simp
      rw [List.append_nil] at hm
      have := h2 47 hm
      simp [isD] at this
    · rw [e, defP_false]; rfl
  | c :: r, h3, hq =>
    by_cases hc : c = 47
    · subst hc
      rw [cutQ_dig d r h2, refR_yes]
      simp only
      rw [puK_of]
      rcases pu_dgK d (47 :: r) 0 h2 (by omega) (fun c t e => by injection e with e; subst e; rfl) with ⟨v, e1, e2⟩ | ⟨e1, e2⟩
      · rw [hq] at e2
        injection e2 with e2 _
        subst e2
        have hv : n ≤ 255 := pu_le _ 0 n (by omega) e1
        obtain ⟨u1, u2⟩ := plc_isU n hv
        by_cases hd0 : d = []
        · subst hd0
          have : n = 0 := by injection e1 with e1; exact e1.symm
          subst this
          rw [if_pos rfl]
          rfl
        · rw [if_neg hd0, e1, u1]
          show _ = Option.map _ (if true = true ∧ 0 ≤ plc (n : Int) then (fhL r).map fun b => ((plc (n : Int)).toNat, b) else none)
          by_cases hp : 0 ≤ plc (n : Int)
          · rw [decide_eq_true hp, if_pos rfl, if_pos ⟨rfl, hp⟩]
            cases fhL r with
            | none => rfl
            | some b => show some ((n : Int), b) = some (nthU (plc (n : Int)).toNat, b); rw [u2 hp]
          · rw [decide_eq_false hp, if_neg (by simp), if_neg (fun h => hp h.2)]; rfl
      · rw [hq] at e2
        rw [isU_far _ (by simp at e2; omega), if_neg (by simp), e1]
        split <;> rfl
    · have hcd := h3 c r rfl
      rw [refR_no n c r hc]
      rcases cutQ_form (d ++ c :: r) with ⟨e, e5⟩ | e
      · have hpre := pre_of d r _ _ c h2 hc e5
        obtain ⟨t, ht⟩ := hpre
        rw [ht, puK_of, if_neg (by simp)]
        rcases pu_bad d t c 0 h2 hcd (h8 c (by simp)) with e6 | e6 <;> rw [e6] <;> rfl
      · rw [e, defP_false]; rfl

theorem refS_at (x : List Nat) (n : Nat) (r : List Nat) (h : dgK 0 x = (n, r)) : refS x = refR n r := by
  unfold refS
  rw [h]
theorem nb_drop (s : ByteArray) (k : Nat) : nb (s.extract k s.size) = (nb s).drop k := by
  unfold nb
  rw [natQ_ext, List.take_of_length_le (by rw [natB_len]; exact Nat.le_refl _)]
theorem nb_cons (s : ByteArray) (k : Nat) (h : k < s.size) : (nb s).drop k = (s[k]).toNat :: (nb s).drop (k + 1) := by
  have hl : k < (nb s).length := by rw [nb_len]; exact h
  rw [List.drop_eq_getElem_cons hl]
  congr 1
  rw [List.getElem_eq_iff]
  unfold nb natL
  rw [List.getElem?_map, List.getElem?_eq_getElem (by rw [Array.length_toList]; exact h)]
  rfl
/-- What one definition makes of a list of texts. -/
def oneL (l : List Tx) (x : List Nat) : Option (List Tx) := if x = [] then some l else (refS x).map fun p => putU l p.1 (bstr p.2)
def OneQ (w w' : World) (A : Option Addr) (c : Nat) (l : List Tx) (o : Option (List Tx)) (e : Ending) : Prop := match o with
  | some l' => ∃ A' c', e = .returned (.tuple #[.slice A' l'.length c', .bool true]) ∧ RTx w' A' l' ∧ (A' = A ∧ l' = l ∨ ∀ ad, A' = some ad → w.heap.size ≤ ad.block)
  | none => e = .returned (.tuple #[.slice A l.length c, .bool false])
theorem dgK_step (s : ByteArray) (k n : Nat) (h : k < s.size) : dgK n ((nb s).drop k) = if isD (s[k]).toNat then dgK (min (10 * n + ((s[k]).toNat - 48)) 1000) ((nb s).drop (k + 1)) else (n, (nb s).drop k) := by
  have hl : k < (nb s).length := by rw [nb_len]; exact h
  have e : (nb s)[k] = (s[k]).toNat := by
    rw [List.getElem_eq_iff]
    unfold nb natL
    rw [List.getElem?_map, List.getElem?_eq_getElem (by rw [Array.length_toList]; exact h)]
    rfl
  rw [List.drop_eq_getElem_cons hl, e]
  rfl
set_option maxRecDepth 100000 in
set_option maxHeartbeats 4000000 in
theorem one_any (A : Option Addr) (c : Nat) (l : List Tx) (hl : l.length ≤ 1000) (s : ByteArray) (hs : s.size ≤ 100000) (w : World) (hr : RTx w A l) :
    Calls Tryd.prog 28 #[.slice A l.length c, .string s] w fun e w' => OneQ w w' A c l (oneL l (nb s)) e ∧ Below w.heap.size w w' := by
  have HR := Lib.hid hr
  have HPut := Lib.hid (fun key t W r => put_any A c l hl key t W r)
  obtain ⟨Z, hZ⟩ : ∃ Z, Z = oneL l (nb s) := ⟨_, rfl⟩
  rw [← hZ]
  clear hr
  by_cases h0 : s.size = 0
  · have he : s = ⟨#[]⟩ := ByteArray.ext (Array.eq_empty_of_size_eq_zero h0)
    have hb : s.toList.isEmpty = true := by rw [he, ByteArray.toList_eq]; rfl
    have hz : Z = some l := by rw [hZ, he]; rfl
    clear hZ he h0 HPut
    --#1
    go_enter Tryd.func28, Tryd.ntmps28
    go_wp2_with fail
    go_ret2
    rw [hz]
    exact ⟨⟨A, c, rfl, HR.out, .inl ⟨rfl, rfl⟩⟩, Below.refl _ _⟩
  · have hb : s.toList.isEmpty = false := by
      cases hs : s.toList with
      | nil =>
        exfalso; apply h0
        rw [ByteArray.toList_eq] at hs
        rw [← nb_len]; unfold nb; rw [hs]; rfl
      | cons => rfl
    have hx : nb s ≠ [] := fun e => h0 (by rw [← nb_len, e]; rfl)
    have HZ : Hid (Z = (refS (nb s)).map fun p => putU l p.1 (bstr p.2)) := Lib.hid (by rw [hZ]; unfold oneL; rw [if_neg hx])
    clear hZ hx h0
    --#2
    go_enter Tryd.func28, Tryd.ntmps28
    go_upto_region 5 with fail
    clear hb
    go_loopw [6, 7] (fun v i wr => ∃ k n : Nat, k ≤ s.size ∧ n ≤ 1000 ∧ v = .int .i64 n ∧ i = .int .i64 k ∧ dgK n ((nb s).drop k) = dgK 0 (nb s) ∧ w = wr) (fun _ i _ => s.size - (intOf i).toNat)
    case atStart => exact ⟨0, 0, by omega, by omega, rfl, rfl, rfl, rfl⟩
    case round =>
      obtain ⟨k, n, hk, hn, rfl, rfl, hdg, rfl⟩ := hrel
      have HDg := Lib.hid hdg
      clear hdg
      by_cases hlt : k < s.size
      · have hst := dgK_step s k n hlt
        have hk0 : (0 : Int) ≤ (k : Int) := by omega
        have hkl : (k : Int) < (s.size : Int) := by omega
        have hwk : IntKind.i64.wrap ((k : Int) + 1) = (k : Int) + 1 := IntWalk.i64_in _ (by omega)
        have hc8 : (s[k]).toNat < 256 := (s[k]).toNat_lt
        by_cases hd : isD (s[k]).toNat = true
        · obtain ⟨d1, d2⟩ := (isD_iff _).1 hd
          rw [if_pos hd] at hst
          have HDn := Lib.hid (hst.symm.trans HDg.out)
          have q1 : ((48 : Int) ≤ ((s[k]).toNat : Int)) = True := eq_true (by omega)
          have q2 : (((s[k]).toNat : Int) ≤ 57) = True := eq_true (by omega)
          have hw1 : IntKind.i64.wrap (10 * (n : Int)) = 10 * (n : Int) := IntWalk.i64_in _ (by omega)
          have hw2 : IntKind.u8.wrap (((s[k]).toNat : Int) - 48) = (((s[k]).toNat - 48 : Nat) : Int) := (IntWalk.u8_in _ (by omega)).trans (by omega)
          have hw3 : IntKind.i64.wrap ((((s[k]).toNat - 48 : Nat) : Int)) = (((s[k]).toNat - 48 : Nat) : Int) := IntWalk.i64_in _ (by omega)
          have hw4 : IntKind.i64.wrap (10 * (n : Int) + (((s[k]).toNat - 48 : Nat) : Int)) = ((10 * n + ((s[k]).toNat - 48) : Nat) : Int) := (IntWalk.i64_in _ (by omega)).trans (by omega)
          clear hst hd HDg HZ HPut
          by_cases hb : 1000 < 10 * n + ((s[k]).toNat - 48)
          · rw [show min (10 * n + ((s[k]).toNat - 48)) 1000 = 1000 from by omega] at HDn
            have q5 : ((1000 : Int) < ((10 * n + ((s[k]).toNat - 48) : Nat) : Int)) = True := eq_true (by omega)
            generalize 10 * n + ((s[k]).toNat - 48) = n2 at *
            --#3
            go_wp2_with fail
            go_roundw
            case rel => exact ⟨k + 1, 1000, by omega, by omega, rfl, by go_num, HDn.out, by first | rfl | trivial⟩
            case measure => simp [intOf]; omega
          · rw [show min (10 * n + ((s[k]).toNat - 48)) 1000 = 10 * n + ((s[k]).toNat - 48) from by omega] at HDn
            have q5 : ((1000 : Int) < ((10 * n + ((s[k]).toNat - 48) : Nat) : Int)) = False := eq_false (by omega)
            generalize 10 * n + ((s[k]).toNat - 48) = n2 at *
            --#4
            go_wp2_with fail
            go_roundw
            case rel => exact ⟨k + 1, n2, by omega, by omega, rfl, by go_num, HDn.out, by first | rfl | trivial⟩
            case measure => simp [intOf]; omega
        · have hd' : (s[k]).toNat < 48 ∨ 57 < (s[k]).toNat := by
            rcases Nat.lt_or_ge (s[k]).toNat 48 with h | h
            · exact .inl h
            · rcases Nat.lt_or_ge 57 (s[k]).toNat with h' | h'
              · exact .inr h'
              · exact absurd ((isD_iff _).2 ⟨h, h'⟩) hd
          rcases hd' with hd1 | hd1
          · have q1 : ((48 : Int) ≤ ((s[k]).toNat : Int)) = False := eq_false (by omega)
            have hdn : dgK 0 (nb s) = (n, (s[k]).toNat :: (nb s).drop (k + 1)) := by rw [← HDg.out, hst, if_neg hd, nb_cons s k hlt]
            have hR := refS_at _ _ _ hdn
            clear hst hdn HDg
            by_cases h47 : (s[k]).toNat = 47
            · have q3 : (((s[k]).toNat : Int) != 47) = false := by simp [h47]
              rw [h47, refR_yes] at hR
              have HRs : Hid (Z = Option.map (fun p : Int × List Nat => putU l p.1 (bstr p.2)) (if isU n = true then (fhL ((nb s).drop (k + 1))).map fun b => ((n : Int), b) else none)) := Lib.hid (by rw [HZ.out, hR])
              clear hR
              have HIs := Lib.hid (fun W => isU_any n W)
              have q4 : ((k : Int) == (s.size : Int)) = false := by rw [beq_eq_false_iff_ne]; omega
              rcases hu : isU (n : Int) with _ | _
              · rw [hu] at HIs HRs
                have HZn : Hid (Z = none) := Lib.hid HRs.out
                clear HRs
                --#U
                go_wp2_with fail
                refine (HIs.out _).mono ?_
                rintro e w1 ⟨rfl, rfl⟩
                go_wp2_with fail
                go_ret2
                rw [HZn.out]
                exact ⟨rfl, Below.refl _ _⟩
              · rw [hu] at HIs HRs
                have hF := fun W => refFromHex_any (s.extract (k + 1) s.size) (by rw [ByteArray.size_extract]; omega) W
                have hnd := nb_drop s (k + 1)
                unfold nb at hnd
                rw [hnd] at hF
                have HRt : Hid (Z = Option.map (fun p : Int × List Nat => putU l p.1 (bstr p.2)) ((fhL ((nb s).drop (k + 1))).map fun b => ((n : Int), b))) := HRs
                unfold nb at HRt
                clear HRs hnd
                generalize fhL (List.drop (k + 1) (natL s.data.toList)) = o at *
                have g3 : (0 : Int) ≤ (k : Int) + 1 := by omega
                have g4 : ((k : Int) + 1 : Int) ≤ ↑s.size := by omega
                rcases o with _ | b
                · have HZn : Hid (Z = none) := HRt
                  have HF : Hid (∀ W, Calls Tryd.prog 31 #[.string (s.extract (k + 1) s.size)] W fun e w' => e = .returned (.tuple #[.string ⟨#[]⟩, .bool false]) ∧ Below W.heap.size W w') := Lib.hid hF
                  clear HRt hF
                  --#V
                  go_wp2_with fail
                  refine (HIs.out _).mono ?_
                  rintro e w1 ⟨rfl, rfl⟩
                  go_wp2_with fail
                  refine (HF.out _).mono ?_
                  rintro e w2 ⟨rfl, hb2⟩
                  go_wp2_with fail
                  go_ret2
                  rw [HZn.out]
                  exact ⟨rfl, hb2⟩
                · have HZn : Hid (Z = some (putU l n (bstr b))) := HRt
                  have HF : Hid (∀ W, Calls Tryd.prog 31 #[.string (s.extract (k + 1) s.size)] W fun e w' => e = .returned (.tuple #[.string (bstr b), .bool true]) ∧ Below W.heap.size W w') := Lib.hid hF
                  clear HRt hF
                  generalize bstr b = t at *
                  --#W
                  go_wp2_with fail
                  refine (HIs.out _).mono ?_
                  rintro e w1 ⟨rfl, rfl⟩
                  go_wp2_with fail
                  refine (HF.out _).mono ?_
                  rintro e w2 ⟨rfl, hb2⟩
                  have HB2 := Lib.hid hb2
                  clear hb2
                  go_wp2_with fail
                  refine (HPut.out n t w2 (HR.out.next HB2.out)).mono ?_
                  rintro e w3 ⟨v, rfl, ho3, hb3⟩
                  have HO3 := Lib.hid ho3; have HB3 := Lib.hid (HB2.out.trans (hb3.mono HB2.out.size))
                  clear ho3 hb3
                  go_wp2_with fail
                  go_ret2
                  rw [HZn.out]
                  obtain ⟨A', c', rfl, hr', hfa⟩ := HO3.out.form
                  exact ⟨⟨A', c', rfl, hr', .inr fun ad e => Nat.le_trans HB2.out.size (hfa ad e)⟩, HB3.out⟩
            · have q3 : (((s[k]).toNat : Int) != 47) = true := by simp; omega
              have HZn : Hid (Z = none) := Lib.hid (by
                rw [HZ.out, hR, refR_no n _ _ h47]; rfl)
              have q4 : ((k : Int) == (s.size : Int)) = false := by rw [beq_eq_false_iff_ne]; omega
              clear hR
              --#X
              go_wp2_with fail
              go_ret2
              rw [HZn.out]
              exact ⟨rfl, Below.refl _ _⟩
          · have q1 : ((48 : Int) ≤ ((s[k]).toNat : Int)) = True := eq_true (by omega)
            have q2 : (((s[k]).toNat : Int) ≤ 57) = False := eq_false (by omega)
            have hdn : dgK 0 (nb s) = (n, (s[k]).toNat :: (nb s).drop (k + 1)) := by rw [← HDg.out, hst, if_neg hd, nb_cons s k hlt]
            have hR := refS_at _ _ _ hdn
            clear hst hdn HDg
            by_cases h47 : (s[k]).toNat = 47
            · have q3 : (((s[k]).toNat : Int) != 47) = false := by simp [h47]
              rw [h47, refR_yes] at hR
              have HRs : Hid (Z = Option.map (fun p : Int × List Nat => putU l p.1 (bstr p.2)) (if isU n = true then (fhL ((nb s).drop (k + 1))).map fun b => ((n : Int), b) else none)) := Lib.hid (by rw [HZ.out, hR])
              clear hR
              have HIs := Lib.hid (fun W => isU_any n W)
              have q4 : ((k : Int) == (s.size : Int)) = false := by rw [beq_eq_false_iff_ne]; omega
              rcases hu : isU (n : Int) with _ | _
              · rw [hu] at HIs HRs
                have HZn : Hid (Z = none) := Lib.hid HRs.out
                clear HRs
                --#U
                go_wp2_with fail
                refine (HIs.out _).mono ?_
                rintro e w1 ⟨rfl, rfl⟩
                go_wp2_with fail
                go_ret2
                rw [HZn.out]
                exact ⟨rfl, Below.refl _ _⟩
              · rw [hu] at HIs HRs
                have hF := fun W => refFromHex_any (s.extract (k + 1) s.size) (by rw [ByteArray.size_extract]; omega) W
                have hnd := nb_drop s (k + 1)
                unfold nb at hnd
                rw [hnd] at hF
                have HRt : Hid (Z = Option.map (fun p : Int × List Nat => putU l p.1 (bstr p.2)) ((fhL ((nb s).drop (k + 1))).map fun b => ((n : Int), b))) := HRs
                unfold nb at HRt
                clear HRs hnd
                generalize fhL (List.drop (k + 1) (natL s.data.toList)) = o at *
                have g3 : (0 : Int) ≤ (k : Int) + 1 := by omega
                have g4 : ((k : Int) + 1 : Int) ≤ ↑s.size := by omega
                rcases o with _ | b
                · have HZn : Hid (Z = none) := HRt
                  have HF : Hid (∀ W, Calls Tryd.prog 31 #[.string (s.extract (k + 1) s.size)] W fun e w' => e = .returned (.tuple #[.string ⟨#[]⟩, .bool false]) ∧ Below W.heap.size W w') := Lib.hid hF
                  clear HRt hF
                  --#V
                  go_wp2_with fail
                  refine (HIs.out _).mono ?_
                  rintro e w1 ⟨rfl, rfl⟩
                  go_wp2_with fail
                  refine (HF.out _).mono ?_
                  rintro e w2 ⟨rfl, hb2⟩
                  go_wp2_with fail
                  go_ret2
                  rw [HZn.out]
                  exact ⟨rfl, hb2⟩
                · have HZn : Hid (Z = some (putU l n (bstr b))) := HRt
                  have HF : Hid (∀ W, Calls Tryd.prog 31 #[.string (s.extract (k + 1) s.size)] W fun e w' => e = .returned (.tuple #[.string (bstr b), .bool true]) ∧ Below W.heap.size W w') := Lib.hid hF
                  clear HRt hF
                  generalize bstr b = t at *
                  --#W
                  go_wp2_with fail
                  refine (HIs.out _).mono ?_
                  rintro e w1 ⟨rfl, rfl⟩
                  go_wp2_with fail
                  refine (HF.out _).mono ?_
                  rintro e w2 ⟨rfl, hb2⟩
                  have HB2 := Lib.hid hb2
                  clear hb2
                  go_wp2_with fail
                  refine (HPut.out n t w2 (HR.out.next HB2.out)).mono ?_
                  rintro e w3 ⟨v, rfl, ho3, hb3⟩
                  have HO3 := Lib.hid ho3; have HB3 := Lib.hid (HB2.out.trans (hb3.mono HB2.out.size))
                  clear ho3 hb3
                  go_wp2_with fail
                  go_ret2
                  rw [HZn.out]
                  obtain ⟨A', c', rfl, hr', hfa⟩ := HO3.out.form
                  exact ⟨⟨A', c', rfl, hr', .inr fun ad e => Nat.le_trans HB2.out.size (hfa ad e)⟩, HB3.out⟩
            · have q3 : (((s[k]).toNat : Int) != 47) = true := by simp; omega
              have HZn : Hid (Z = none) := Lib.hid (by
                rw [HZ.out, hR, refR_no n _ _ h47]; rfl)
              have q4 : ((k : Int) == (s.size : Int)) = false := by rw [beq_eq_false_iff_ne]; omega
              clear hR
              --#X
              go_wp2_with fail
              go_ret2
              rw [HZn.out]
              exact ⟨rfl, Below.refl _ _⟩
      · obtain rfl : k = s.size := by omega
        have hdn : dgK 0 (nb s) = (n, []) := by rw [← HDg.out, List.drop_of_length_le (by rw [nb_len]; exact Nat.le_refl _)]; rfl
        have HZn : Hid (Z = none) := Lib.hid (by rw [HZ.out, refS_at _ _ _ hdn]; rfl)
        clear hdn HDg HZ
        --#Y
        go_wp2_with fail
        go_ret2
        rw [HZn.out]
        exact ⟨rfl, Below.refl _ _⟩
end Go.Proofs.YtlhabooeeohniaaDoor
