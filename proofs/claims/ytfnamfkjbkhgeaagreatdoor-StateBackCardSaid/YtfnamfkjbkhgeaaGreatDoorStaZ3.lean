/-
  The document's readers of a field: a number, a byte of few bits.
  The document's fields of a text: what stands between semicolons.
  The document's fields and the program's: the same ten, wherever there are ten.
  The program's readers of a field and the document's say the same.
  The document's cursor brought back, plainly: what is made of nine numbers and a text counts as what the program puts.
  The document tells a state's cursor: the same text as the program's.
  The document's cursor brought back: what it answers of any text.
  The document's cursor brought back from a text of ten fields.
  The program's SetCursor where the report has not ten fields.
  The cursor brought back: the program and the document answer the same of any text.
-/
import Derived.Test.YtfnamfkjbkhgeaaGreatDoorParV
import Derived.Test.YtfnamfkjbkhgeaaGreatDoorParP
import Derived.Lib.Split
import Derived.Lib.IndexBytes
import Derived.Test.YtfnamfkjbkhgeaaGreatDoorStaO
import Derived.Test.YtfnamfkjbkhgeaaGreatDoorStaT
import Derived.Test.YtfnamfkjbkhgeaaGreatDoorStaF
import Derived.Test.YtfnamfkjbkhgeaaGreatDoorStaC
import Derived.Test.YtfnamfkjbkhgeaaGreatDoorStaH
import Derived.Test.YtfnamfkjbkhgeaaGreatDoorIsoJ
import Derived.Test.YtfnamfkjbkhgeaaGreatDoorKit2
import Derived.Test.YtfnamfkjbkhgeaaGreatDoorIsoO
import Derived.Test.YtfnamfkjbkhgeaaGreatDoorStaE
import Derived.Test.YtfnamfkjbkhgeaaGreatDoorStaQ
import Derived.Test.YtfnamfkjbkhgeaaGreatDoorStaS
namespace Go.Proofs.YtfnamfkjbkhgeaaGreatDoor
open Go Go.RowKit

def refNum (s : ByteArray) : Int := match (parseV s.data.toList).1, (parseV s.data.toList).2 with
  | [n], 0 => n
  | _, _ => -1
def refBit (s : ByteArray) (most : Int) : Int := if s.size = 1 ∧ 64 ≤ ((s.data.toList.getD 0 0).toNat : Int) ∧ ((s.data.toList.getD 0 0).toNat : Int) ≤ 64 + most then ((s.data.toList.getD 0 0).toNat : Int) - 64 else -1
set_option maxRecDepth 100000 in
set_option maxHeartbeats 4000000 in
theorem refNumber_any (s : ByteArray) (hs : s.size ≤ 140737488355328) (w : World) :
    Calls Tryz.prog 38 #[.string s] w fun e w' => e = .returned (.int .i64 (refNum s)) ∧ Below w.heap.size w w' := by
  have HP := Lib.hid (fun W => refParse_all s hs W)
  obtain ⟨_, _, her⟩ := parseV_range s.data.toList
  unfold refNum
  generalize (parseV s.data.toList).1 = ns at *
  generalize (parseV s.data.toList).2 = er at *
  by_cases hok : er = 0 ∧ ns.length = 1
  · obtain ⟨rfl, hl⟩ := hok
    obtain ⟨n, rfl⟩ : ∃ n, ns = [n] := by
      match ns, hl with
      | [n], _ => exact ⟨n, rfl⟩
    clear hl her
    show Calls _ _ _ _ fun e w' => e = .returned (.int .i64 n) ∧ _
    go_enter Tryz.func38, Tryz.ntmps38
    go_wp2_with fail
    refine (HP.out _).mono ?_
    rintro e w2 ⟨⟨A, c, rfl, hown⟩, hb⟩
    have HB2 := Lib.hid hb
    obtain ⟨P0, rfl, _, y0⟩ := (OInts.reads hown).at_ (k := 0) (by simp)
    replace y0 : w2.cell? P0 = some (.int .i64 n) := y0
    clear hb hown
    go_wp2_with fail
    go_ret
    exact ⟨rfl, HB2.out⟩
  · have hr : (match ns, er with
      | [n], 0 => n
      | _, _ => (-1 : Int)) = -1 := by
      split
      · exact absurd ⟨rfl, rfl⟩ hok
      · rfl
    rw [hr]
    clear hr
    rcases her with rfl | rfl
    · have g1 : ((ns.length : Int) != 1) = true := by simp; omega
      have g2 : ((ns.length : Int) = 1) = False := eq_false (by omega)
      clear hok
      go_enter Tryz.func38, Tryz.ntmps38
      go_wp2_with fail
      refine (HP.out _).mono ?_
      rintro e w2 ⟨⟨A, c, rfl, hown⟩, hb⟩
      have HB2 := Lib.hid hb
      clear hb hown
      go_wp2_with fail
      go_ret
      exact ⟨rfl, HB2.out⟩
    · clear hok
      go_enter Tryz.func38, Tryz.ntmps38
      go_wp2_with fail
      refine (HP.out _).mono ?_
      rintro e w2 ⟨⟨A, c, rfl, hown⟩, hb⟩
      have HB2 := Lib.hid hb
      clear hb hown
      go_wp2_with fail
      go_ret
      exact ⟨rfl, HB2.out⟩
set_option maxRecDepth 100000 in
set_option maxHeartbeats 4000000 in
theorem refFew_any (s : ByteArray) (most : Int) (hm : 0 ≤ most ∧ most ≤ 1000) (w : World) :
    Calls Tryz.prog 39 #[.string s, .int .i64 most] w fun e w' => e = .returned (.int .i64 (refBit s most)) ∧ w = w' := by
  have hwm : IntKind.i64.wrap (64 + most) = 64 + most := IntWalk.i64_in _ (by omega)
  unfold refBit
  by_cases h1 : s.size = 1
  · have hc : (s.data.toList.getD 0 0).toNat = (s[0]'(by omega)).toNat := by
      obtain ⟨⟨l⟩⟩ := s
      match l, h1 with
      | [a], _ => rfl
    rw [hc]
    have hlt : (s[0]'(by omega)).toNat < 256 := UInt8.toNat_lt _
    have hw0 : IntKind.i64.wrap ((s[0]'(by omega)).toNat : Int) = ((s[0]'(by omega)).toNat : Int) := IntWalk.i64_in _ (by omega)
    have hw1 : IntKind.i64.wrap (((s[0]'(by omega)).toNat : Int) - 64) = ((s[0]'(by omega)).toNat : Int) - 64 := IntWalk.i64_in _ (by omega)
    have g1 : ((s.size : Int) != 1) = false := by simp; omega
    have g0 : (0 : Int) < (s.size : Int) := by omega
    clear hc
    by_cases h2 : 64 ≤ ((s[0]'(by omega)).toNat : Int)
    · have e2 : (((s[0]'(by omega)).toNat : Int) < 64) = False := eq_false (by omega)
      by_cases h3 : ((s[0]'(by omega)).toNat : Int) ≤ 64 + most
      · have e3 : ((64 : Int) + most < ((s[0]'(by omega)).toNat : Int)) = False := eq_false (by omega)
        rw [if_pos ⟨h1, h2, h3⟩]
        clear hlt h2 h3 hm
        go_enter Tryz.func39, Tryz.ntmps39
        go_wp2_with fail
        go_ret
        exact ⟨rfl, rfl⟩
      · have e3 : ((64 : Int) + most < ((s[0]'(by omega)).toNat : Int)) = True := eq_true (by omega)
        rw [if_neg (fun h => h3 h.2.2)]
        clear hlt h2 h3 hm
        go_enter Tryz.func39, Tryz.ntmps39
        go_wp2_with fail
        go_ret
        exact ⟨rfl, rfl⟩
    · have e2 : (((s[0]'(by omega)).toNat : Int) < 64) = True := eq_true (by omega)
      rw [if_neg (fun h => h2 h.2.1)]
      clear hlt h2 hm
      go_enter Tryz.func39, Tryz.ntmps39
      go_wp2_with fail
      go_ret
      exact ⟨rfl, rfl⟩
  · rw [if_neg (fun h => h1 h.1)]
    have g1 : ((s.size : Int) != 1) = true := by simp; omega
    clear h1 hm
    go_enter Tryz.func39, Tryz.ntmps39
    go_wp2_with fail
    go_ret
    exact ⟨rfl, rfl⟩
end Go.Proofs.YtfnamfkjbkhgeaaGreatDoor

namespace Go.Proofs.YtfnamfkjbkhgeaaGreatDoor
open Go Go.RowKit

/-- The fields from a place on, the first of them begun at b; so many places are left. -/
def fldB (s : ByteArray) : Nat → Nat → Nat → List ByteArray
  | 0, _, _ => []
  | n + 1, b, i => if i = s.size ∨ s.data.toList.getD i 0 = 59 then s.extract b i :: fldB s n (i + 1) (i + 1) else fldB s n b (i + 1)
/-- The fields of a text. -/
def fldsR (s : ByteArray) : List ByteArray := fldB s (s.size + 1) 0 0
theorem fldB_len (s : ByteArray) : ∀ n b i, (fldB s n b i).length ≤ n
  | 0, _, _ => Nat.le_refl _
  | n + 1, b, i => by
    unfold fldB
    split
    · have := fldB_len s n (i + 1) (i + 1); simp only [List.length_cons]; omega
    · have := fldB_len s n b (i + 1); omega
theorem fld_get (s : ByteArray) (k : Nat) (h : k < s.size) : s.data.toList.getD k 0 = s[k] := by
  rw [List.getD_eq_getElem?_getD, List.getElem?_eq_getElem (by rw [data_len]; exact h), Option.getD_some, data_at s k h]
set_option maxRecDepth 100000 in
set_option maxHeartbeats 8000000 in
theorem refFields_any (s : ByteArray) (hs : s.size ≤ 1000000) (w : World) :
    Calls Tryz.prog 37 #[.string s] w fun e w' => ∃ v, e = .returned v ∧ OStr w' w.heap.size v (fldsR s) ∧ Below w.heap.size w w' := by
  go_enter Tryz.func37, Tryz.ntmps37
  go_wp2_with fail
  go_loopw [3, 4, 5] (fun o b i wr => ∃ (k bg : Nat) (acc : List ByteArray) (v : Value), k ≤ s.size + 1 ∧ bg ≤ k ∧ i = .int .i64 k ∧ b = .int .i64 bg ∧ o = v ∧ acc.length ≤ k ∧ acc ++ fldB s (s.size + 1 - k) bg k = fldsR s ∧ OStr wr w.heap.size v acc ∧ Below w.heap.size w wr) (fun _ _ i _ => s.size + 1 - (intOf i).toNat)
  case atStart => exact ⟨0, 0, [], _, by omega, by omega, rfl, rfl, rfl, by simp, rfl, World.ownsRow_nil _ _ _ _, Below.refl _ _⟩
  case round =>
    obtain ⟨k, bg, acc, v, hk, hbk, rfl, rfl, rfl, hal, hacc, hown, hb⟩ := hrel
    have HAc := Lib.hid hacc
    have HOwn := Lib.hid hown
    have HB := Lib.hid hb
    have HLe := Lib.hid (And.intro hal (And.intro hbk hs))
    have hwk : IntKind.i64.wrap ((k : Int) + 1) = (k : Int) + 1 := IntWalk.i64_in _ (by omega)
    obtain ⟨Av, cv, rfl, _⟩ := hown.form
    clear hacc hown hb hal
    by_cases hle : k ≤ s.size
    · have hn : s.size + 1 - k = (s.size - k) + 1 := by omega
      have kle : ((k : Int) ≤ (s.size : Int)) = True := eq_true (by omega)
      by_cases hcut : k = s.size ∨ s.data.toList.getD k 0 = 59
      · have HA2 : Hid ((acc ++ [s.extract bg k]) ++ fldB s (s.size + 1 - (k + 1)) (k + 1) (k + 1) = fldsR s) := Lib.hid (by
          have q := HAc.out
          rw [hn, fldB, if_pos hcut] at q
          rw [← q, List.append_assoc, show s.size + 1 - (k + 1) = s.size - k by omega]
          rfl)
        rcases Nat.lt_or_ge k s.size with hlt | hge
        · have hg : (s[k]'hlt) = 59 := by
            rcases hcut with h | h
            · omega
            · rwa [fld_get s k hlt] at h
          have h59n : ((s[k].toNat : Int) == 59) = true := by rw [hg]; decide
          have kne : ((k : Int) = (s.size : Int)) = False := eq_false (by omega)
          have knb : ((k : Int) == (s.size : Int)) = false := beq_eq_false_iff_ne.2 (by omega)
          have klt : (k : Int) < (s.size : Int) := by omega
          clear hcut hg
          --#1
          go_wp2_with (at_builtin; refine wpList_push rfl _ _ _ rfl w.heap.size 9 (.string ⟨#[]⟩) 16 Tryz.underlying49 info_string rfl _ _ _ rfl (ostr_own HOwn.out) (.string (s.extract bg k)) rfl _ _ _ (by simp) rfl (by have := HLe.out; unfold maxLen; omega) (by have := HLe.out; omega) HB.out.size ?_; intro v' w' hown' hg' hb')
          go_roundw
          case rel => exact ⟨k + 1, k + 1, acc ++ [s.extract bg k], _, by omega, by omega, by go_num, by go_num, rfl, by have := HLe.out; simp; omega, HA2.out, by simpa [OStr] using hown', HB.out.trans hb'⟩
          case measure => simp [intOf]; omega
        · obtain rfl : k = s.size := by omega
          have kne : ((s.size : Int) = (s.size : Int)) = True := eq_true rfl
          clear hcut
          --#2
          go_wp2_with (at_builtin; refine wpList_push rfl _ _ _ rfl w.heap.size 9 (.string ⟨#[]⟩) 16 Tryz.underlying49 info_string rfl _ _ _ rfl (ostr_own HOwn.out) (.string (s.extract bg s.size)) rfl _ _ _ (by simp) rfl (by have := HLe.out; unfold maxLen; omega) (by have := HLe.out; omega) HB.out.size ?_; intro v' w' hown' hg' hb')
          go_roundw
          case rel => exact ⟨s.size + 1, s.size + 1, acc ++ [s.extract bg s.size], _, by omega, by omega, by go_num, by go_num, rfl, by have := HLe.out; simp; omega, HA2.out, by simpa [OStr] using hown', HB.out.trans hb'⟩
          case measure => simp [intOf]
      · have hlt : k < s.size := by
          rcases Nat.lt_or_ge k s.size with h | h
          · exact h
          · exact absurd (.inl (by omega)) hcut
        have hg : (s[k]'hlt) ≠ 59 := fun e => hcut (.inr (by rw [fld_get s k hlt]; exact e))
        have HA2 : Hid (acc ++ fldB s (s.size + 1 - (k + 1)) bg (k + 1) = fldsR s) := Lib.hid (by
          have q := HAc.out
          rw [hn, fldB, if_neg hcut] at q
          rw [← q, show s.size + 1 - (k + 1) = s.size - k by omega])
        have h59n : ((s[k].toNat : Int) == 59) = false := by
          have : s[k].toNat ≠ 59 := fun e => hg (UInt8.toNat_inj.1 e)
          exact beq_eq_false_iff_ne.2 (by omega)
        have kne : ((k : Int) = (s.size : Int)) = False := eq_false (by omega)
        have knb : ((k : Int) == (s.size : Int)) = false := beq_eq_false_iff_ne.2 (by omega)
        have klt : (k : Int) < (s.size : Int) := by omega
        clear hcut hg
        --#3
        go_wp2_with fail
        go_roundw
        case rel => exact ⟨k + 1, bg, acc, _, by omega, by omega, by go_num, rfl, rfl, by have := HLe.out; omega, HA2.out, HOwn.out, HB.out⟩
        case measure => simp [intOf]; omega
    · obtain rfl : k = s.size + 1 := by omega
      have kle : (((s.size + 1 : Nat) : Int) ≤ (s.size : Int)) = False := eq_false (by omega)
      have HE : Hid (acc = fldsR s) := Lib.hid (by have q := HAc.out; rw [Nat.sub_self] at q; simpa [fldB] using q)
      --#4
      go_wp2_with fail
      go_ret
      exact ⟨_, rfl, by rw [← HE.out]; exact HOwn.out, HB.out⟩
end Go.Proofs.YtfnamfkjbkhgeaaGreatDoor

namespace Go.Proofs.YtfnamfkjbkhgeaaGreatDoor
open Go Go.RowKit

/-- A text cut at its semicolons; what is begun is p. -/
def cutW : List UInt8 → List UInt8 → List (List UInt8)
  | p, [] => [p]
  | p, c :: t => if c = 59 then p :: cutW [] t else cutW (p ++ [c]) t
theorem cutW_hit (t : List UInt8) : ∀ q p, (59 : UInt8) ∉ q → cutW p (q ++ 59 :: t) = (p ++ q) :: cutW [] t
  | [], p, _ => by simp [cutW]
  | c :: q, p, h => by
    have hc : c ≠ 59 := fun e => h (by simp [e])
    rw [List.cons_append, cutW, if_neg hc, cutW_hit t q (p ++ [c]) (fun hq => h (by simp [hq]))]
    simp
theorem cutW_miss : ∀ q p, (59 : UInt8) ∉ q → cutW p q = [p ++ q]
  | [], p, _ => by simp [cutW]
  | c :: q, p, h => by
    have hc : c ≠ 59 := fun e => h (by simp [e])
    rw [cutW, if_neg hc, cutW_miss q (p ++ [c]) (fun hq => h (by simp [hq]))]
    simp
theorem index_cases : ∀ l : List UInt8, (Lib.indexByte l 59 = -1 ∧ (59 : UInt8) ∉ l) ∨ ∃ p t, l = p ++ 59 :: t ∧ (59 : UInt8) ∉ p ∧ Lib.indexByte l 59 = (p.length : Int)
  | [] => .inl ⟨rfl, by simp⟩
  | c :: l => by
    by_cases hc : c = 59
    · subst hc
      exact .inr ⟨[], l, rfl, by simp, rfl⟩
    · have hb : (c == 59) = false := beq_eq_false_iff_ne.2 hc
      rcases index_cases l with ⟨h1, h2⟩ | ⟨p, t, h1, h2, h3⟩
      · refine .inl ⟨?_, fun h => ?_⟩
        · unfold Lib.indexByte; rw [hb, h1]; rfl
        · rcases List.mem_cons.1 h with h | h
          · exact hc h.symm
          · exact h2 h
      · refine .inr ⟨c :: p, t, by rw [h1]; rfl, fun h => ?_, ?_⟩
        · rcases List.mem_cons.1 h with h | h
          · exact hc h.symm
          · exact h2 h
        · unfold Lib.indexByte
          rw [hb, h3]
          have : ((p.length : Int) == -1) = false := beq_eq_false_iff_ne.2 (by omega)
          rw [this]
          simp
theorem split_cut : ∀ k l, ((cutW [] l).length ≤ k + 1 → Lib.splitK [59] 0 k l = cutW [] l) ∧ (k + 1 < (cutW [] l).length → (Lib.splitK [59] 0 k l).length = k + 1)
  | 0, l => by
    rcases index_cases l with ⟨_, h2⟩ | ⟨p, t, h1, h2, _⟩
    · rw [cutW_miss l [] h2]
      exact ⟨fun _ => rfl, fun _ => rfl⟩
    · refine ⟨fun h => ?_, fun _ => rfl⟩
      rw [h1, cutW_hit t p [] h2, List.length_cons] at h
      have : 0 < (cutW [] t).length := by
        rcases index_cases t with ⟨_, h2⟩ | ⟨p, t', h1, h2, _⟩
        · rw [cutW_miss t [] h2]; simp
        · rw [h1, cutW_hit t' p [] h2]; simp
      omega
  | k + 1, l => by
    rcases index_cases l with ⟨h1, h2⟩ | ⟨p, t, h1, h2, h3⟩
    · rw [cutW_miss l [] h2]
      refine ⟨fun _ => ?_, fun h => absurd h (by simp)⟩
      unfold Lib.splitK
      rw [Lib.index_one, h1]
      rfl
    · have e : Lib.splitK [59] 0 (k + 1) l = p :: Lib.splitK [59] 0 k t := by
        rw [Lib.splitK, Lib.index_one, h3, if_neg (by simp), Int.toNat_natCast, h1]
        simp
      obtain ⟨i1, i2⟩ := split_cut k t
      rw [e, h1, cutW_hit t p [] h2, List.length_cons, List.length_cons]
      exact ⟨fun h => by rw [i1 (by omega)]; rfl, fun h => by rw [i2 (by omega)]⟩
theorem fld_cut (s : ByteArray) : ∀ n b i, i + n = s.size + 1 → b ≤ i → (fldB s n b i).map (·.data.toList) = if n = 0 then [] else cutW ((s.data.toList.drop b).take (i - b)) (s.data.toList.drop i)
  | 0, _, _, _, _ => rfl
  | n + 1, b, i, h, hb => by
    have hx : (s.extract b i).data.toList = (s.data.toList.drop b).take (i - b) := by
      rw [Lib.extract_data]
    rw [if_neg (by omega), fldB]
    rcases Nat.lt_or_ge i s.size with hi | hi
    · have hd : s.data.toList.drop i = s[i] :: s.data.toList.drop (i + 1) := by
        rw [List.drop_eq_getElem_cons (by rw [data_len]; exact hi), data_at s i hi]
      rw [fld_get s i hi, hd, cutW]
      by_cases hc : s[i] = 59
      · rw [if_pos (.inr hc), if_pos hc, List.map_cons, hx, fld_cut s n (i + 1) (i + 1) (by omega) (by omega), if_neg (by omega)]
        simp
      · rw [if_neg (by rintro (h | h); omega; exact hc h), if_neg hc, fld_cut s n b (i + 1) (by omega) (by omega), if_neg (by omega)]
        have ht : (s.data.toList.drop b).take (i + 1 - b) = (s.data.toList.drop b).take (i - b) ++ [s[i]] := by
          rw [show i + 1 - b = (i - b) + 1 by omega, List.take_succ_eq_append_getElem (by rw [List.length_drop, data_len]; omega)]
          congr 2
          rw [List.getElem_drop]
          have e : b + (i - b) = i := by omega
          simp only [e]
          exact data_at s i hi
        rw [ht]
    · have hn : n = 0 := by omega
      have hi2 : i = s.size := by omega
      subst hn
      rw [if_pos (.inl hi2), List.map_cons, hx]
      rw [show s.data.toList.drop i = [] from List.drop_eq_nil_of_le (by rw [data_len]; omega)]
      rfl
theorem flds_cut (s : ByteArray) : (fldsR s).map (·.data.toList) = cutW [] s.data.toList := by
  unfold fldsR
  rw [fld_cut s (s.size + 1) 0 0 (by omega) (by omega), if_neg (by omega)]
  simp
theorem data_inj : ∀ {xs ys : List ByteArray}, xs.map (·.data.toList) = ys.map (·.data.toList) → xs = ys
  | [], [], _ => rfl
  | [], _ :: _, h => by cases h
  | _ :: _, [], h => by cases h
  | ⟨a⟩ :: xs, ⟨b⟩ :: ys, h => by
    rw [List.map_cons, List.map_cons] at h
    injection h with h1 h2
    rw [data_inj h2, show a = b from Array.toList_inj.1 h1]
/-- Ten fields are the same ten. -/
theorem flds_ten (s : ByteArray) : ((Lib.splitB ⟨#[59]⟩ 0 (min 11 (s.size + 1) - 1) s).length = 10 ↔ (fldsR s).length = 10) ∧ ((fldsR s).length = 10 → Lib.splitB ⟨#[59]⟩ 0 (min 11 (s.size + 1) - 1) s = fldsR s) := by
  have hD := Lib.splitB_data ⟨#[59]⟩ 0 (min 11 (s.size + 1) - 1) s
  have hF := flds_cut s
  have hl1 := congrArg List.length hD
  have hl2 := congrArg List.length hF
  rw [List.length_map] at hl1 hl2
  obtain ⟨c1, c2⟩ := split_cut (min 11 (s.size + 1) - 1) s.data.toList
  have hsm : (fldsR s).length ≤ s.size + 1 := fldB_len s _ _ _
  change _ = Lib.splitK [59] 0 _ _ at hD
  change _ = (Lib.splitK [59] 0 _ _).length at hl1
  by_cases h : (cutW [] s.data.toList).length ≤ min 11 (s.size + 1) - 1 + 1
  · have e := c1 h
    have heq : Lib.splitB ⟨#[59]⟩ 0 (min 11 (s.size + 1) - 1) s = fldsR s := data_inj (by rw [hD, e, hF])
    rw [heq]
    exact ⟨Iff.rfl, fun _ => rfl⟩
  · have e := c2 (by omega)
    rw [hl1, e]
    refine ⟨⟨fun h10 => by omega, fun h10 => by omega⟩, fun h10 => by omega⟩
end Go.Proofs.YtfnamfkjbkhgeaaGreatDoor

namespace Go.Proofs.YtfnamfkjbkhgeaaGreatDoor

open Go Go.RowKit

/-- The program's reader of a number and the document's. -/
theorem near_ref (lo hi : Int) (f : ByteArray) : (rdNear lo hi f).2 = decide (0 ≤ refNum f) ∧ (0 ≤ refNum f → (rdNear lo hi f).1 = clipP (refNum f) lo hi) := by
  obtain ⟨h1, _, h2⟩ := parseV_range f.data.toList
  by_cases hok : (parseV f.data.toList).2 = 0 ∧ (parseV f.data.toList).1.length = 1
  · obtain ⟨he, hl⟩ := hok
    obtain ⟨n, hn⟩ : ∃ n, (parseV f.data.toList).1 = [n] := by
      match (parseV f.data.toList).1, hl with
      | [n], _ => exact ⟨n, rfl⟩
    have h0 : 0 ≤ n := (h1 n (by rw [hn]; simp)).1
    have e1 : rdNear lo hi f = (clipP n lo hi, true) := by unfold rdNear; rw [hn, he]; rfl
    have e2 : refNum f = n := by unfold refNum; rw [hn, he]; rfl
    rw [e1, e2]
    exact ⟨(decide_eq_true h0).symm, fun _ => rfl⟩
  · have e1 : rdNear lo hi f = (0, false) := by
      unfold rdNear
      split
      · rename_i a b; exact absurd ⟨b, by rw [a]; rfl⟩ hok
      · rfl
    have e2 : refNum f = -1 := by
      unfold refNum
      split
      · rename_i a b; exact absurd ⟨b, by rw [a]; rfl⟩ hok
      · rfl
    rw [e1, e2]
    exact ⟨rfl, fun h => absurd h (by decide)⟩
/-- The program's reader of bits and the document's. -/
theorem bits_ref (most : Int) (hm : 0 ≤ most) (f : ByteArray) : (rdBits 0 most f).2 = decide (0 ≤ refBit f most) ∧ (0 ≤ refBit f most → (rdBits 0 most f).1 = refBit f most) := by
  unfold rdBits refBit
  generalize ((f.data.toList.getD 0 0).toNat : Int) = c at *
  by_cases h1 : f.size = 1
  · rw [if_pos h1]
    by_cases h2 : 64 ≤ c ∧ c ≤ 64 + most
    · rw [if_pos ⟨h1, h2⟩]
      refine ⟨?_, fun _ => rfl⟩
      rw [decide_eq_decide]
      unfold clipP
      omega
    · rw [if_neg (fun h => h2 h.2)]
      refine ⟨?_, fun h => absurd h (by decide)⟩
      rw [decide_eq_decide]
      unfold clipP
      omega
  · rw [if_neg h1, if_neg (fun h => h1 h.1)]
    exact ⟨rfl, fun h => absurd h (by decide)⟩
end Go.Proofs.YtfnamfkjbkhgeaaGreatDoor

namespace Go.Proofs.YtfnamfkjbkhgeaaGreatDoor
open Go Go.RowKit

/-- A frame that counts as it is. -/
theorem fr_clean {f : Fr} {H W it il ib ir : Int} (h : FrOk f H W it il ib ir) : FrOk ⟨0, 0, H, W, it, il, ib, ir⟩ H W it il ib ir := by
  have hH := h.hH; have hW := h.hW; have hi := h.hi; have hj := h.hj
  have hb : bEm it il ib ir = false := by unfold bEm emB; simp; omega
  refine ⟨by simp only; omega, by simp only; omega, hH, hW, ⟨it, il, ib, ir, ?_, .inr ⟨hb, rfl, rfl, rfl, rfl⟩⟩, hi, hj⟩
  unfold meetT
  simp only
  rw [show max it 0 = it by omega, show max il 0 = il by omega, show min ib H = ib by omega, show min ir W = ir by omega, hb]
  rfl
/-- The single set of so many bits. -/
def docS (n : Int) : Int := if 0 < n.toNat / 2 % 4 then (n.toNat / 2 % 4 : Nat) + 1 else 0
/-- The nine numbers of a text's fields. -/
def dcN (f0 f1 f2 f3 f4 f5 f6 f7 f8 : ByteArray) : Nat → Int
  | 0 => refNum f0 | 1 => refNum f1 | 2 => refNum f2 | 3 => refBit f3 31 | 4 => refBit f4 1 | 5 => refBit f5 15 | 6 => refNum f6 | 7 => refNum f7 | _ => refBit f8 15
def dcOk (n : Nat → Int) : Bool := decide (0 ≤ n 0) && (decide (0 ≤ n 1) && (decide (0 ≤ n 2) && (decide (0 ≤ n 3) && (decide (0 ≤ n 4) && (decide (0 ≤ n 5) && (decide (0 ≤ n 6) && (decide (0 ≤ n 7) && decide (0 ≤ n 8))))))))
/-- What they make of a state, ahead of its counting. -/
def docY (y : Co) (n : Nat → Int) (R : Iso) : Co := ⟨n 0 - 1, n 1 - 1, decide (8 ≤ n 5), ⟨n 3, n 4 == 1, (n 5).tmod 2 == 1, R.a, R.b, R.c, R.d, R.l, R.r, docS (n 5)⟩, y.f, y.m, y.lv, y.eg, y.st, y.su, y.bl, n 2 - 1, y.ps⟩
def docR (y : Co) (n : Nat → Int) (f9 : ByteArray) : Iso × Bool := restP (isoY y) (n 6) (n 7) (64 + (n 8).toNat) f9
def docOk (y : Co) (n : Nat → Int) (f9 : ByteArray) : Bool := (docR y n f9).2 && !((n 5).toNat / 2 % 4 == 3)
def clnY (y : Co) (z : Co) : Co := clnP z y.f.pb y.f.pr y.f.mt y.f.ml y.f.mb y.f.mr
def docP (y : Co) (n : Nat → Int) (f9 : ByteArray) : Co × Bool := if (dcOk n && docOk y n f9) = true then (clnY y (docY y n (docR y n f9).1), true) else (y, false)
theorem ref_in (f : ByteArray) : refNum f ≤ 65535 := by
  obtain ⟨h1, _, h2⟩ := parseV_range f.data.toList
  unfold refNum
  split
  · rename_i n hn _
    have := h1 n (by rw [hn]; simp)
    omega
  · omega
theorem bit_in (f : ByteArray) (m : Int) (hm : 0 ≤ m) : refBit f m ≤ m := by
  unfold refBit
  split
  · omega
  · omega
theorem sg_nat : ∀ n : Nat, n < 16 → (n / 2 % 4 == 3) = (decide (n / 2 % 2 = 1) && decide (n / 4 % 2 = 1)) ∧ ((n / 2 % 4 == 3) = false → sgP (if 0 < n / 2 % 4 then ((n / 2 % 4 : Nat) : Int) + 1 else 0) = sglP n) := by decide +kernel
/-- What a restored set of charsets calls. -/
theorem rest_lr {x : Iso} {l r : Int} {sz : Nat} {s : ByteArray} (h : (restP x l r sz s).2 = true) : glP (restP x l r sz s).1.l = (restP x l r sz s).1.l ∧ grP (restP x l r sz s).1.r = (restP x l r sz s).1.r := by
  have key : ∀ k g y t z u, runR sz k g y t = some (z, u) → z.l = y.l ∧ z.r = y.r := by
    intro k
    induction k with
    | zero => intro g y t z u h; unfold runR at h; cases h; exact ⟨rfl, rfl⟩
    | succ k ih =>
      intro g y t z u h
      have hy : y = y.lr y.l y.r := rfl
      unfold runR at h
      rw [hy, step_lr] at h
      cases hs : stepR sz g y t with
      | none => rw [hs] at h; simp at h
      | some p =>
        rw [hs] at h
        have q := ih _ _ _ _ _ h
        exact q
  unfold restP at h ⊢
  by_cases hg : isoInB 0 l = true ∧ isoInB 1 r = true ∧ 64 ≤ sz ∧ sz ≤ 79
  · rw [if_pos hg] at h ⊢
    cases hr : runR sz 4 0 (x.lr l r) s with
    | none => simp [hr] at h
    | some p =>
      simp only [hr] at h ⊢
      by_cases h0 : p.2.size = 0
      · rw [if_pos h0]
        obtain ⟨e1, e2⟩ := key _ _ _ _ p.1 p.2 hr
        have e1' : p.1.l = l := e1
        have e2' : p.1.r = r := e2
        have h0r : isoInB 0 r = true := by have := hg.2.1; unfold isoInB at this ⊢; simp at this ⊢; omega
        exact ⟨by unfold glP; rw [e1', if_pos hg.1], by unfold grP; rw [e2', if_pos h0r]⟩
      · rw [if_neg h0] at h; simp at h
  · rw [if_neg hg] at h; simp at h
theorem clip_one (n H : Int) (_h : 1 ≤ H) : clipP (n - 1) 0 (H - 1) = clipP n 1 H - 1 := by unfold clipP; omega
/-- The program's answer is the document's. -/
theorem sc_same (y : Co) (hk : ClOk y) (f0 f1 f2 f3 f4 f5 f6 f7 f8 f9 : ByteArray) :
    scV y (scQ y f0 f1 f2 f3 f4 f5 f6 f7 f8) f9 = .tuple #[coV .u32 (docP y (dcN f0 f1 f2 f3 f4 f5 f6 f7 f8) f9).1, .int .i64 (if (docP y (dcN f0 f1 f2 f3 f4 f5 f6 f7 f8) f9).2 = true then 0 else 3)] := by
  have e0 := near_ref 1 y.f.pb f0
  have e1 := near_ref 1 y.f.pr f1
  have e2 := near_ref 1 y.ps f2
  have e3 := bits_ref 31 (by omega) f3
  have e4 := bits_ref 1 (by omega) f4
  have e5 := bits_ref 15 (by omega) f5
  have e6 := near_ref 0 65535 f6
  have e7 := near_ref 0 65535 f7
  have e8 := bits_ref 15 (by omega) f8
  have i3 := bit_in f3 31 (by omega); have i4 := bit_in f4 1 (by omega); have i5 := bit_in f5 15 (by omega); have i8 := bit_in f8 15 (by omega)
  have i6 := ref_in f6; have i7 := ref_in f7
  have hok : scOk (scQ y f0 f1 f2 f3 f4 f5 f6 f7 f8) = dcOk (dcN f0 f1 f2 f3 f4 f5 f6 f7 f8) := by
    unfold scOk dcOk
    simp only [scQ, dcN]
    rw [e0.1, e1.1, e2.1, e3.1, e4.1, e5.1, e6.1, e7.1, e8.1]
  unfold scV docP
  rw [hok]
  by_cases hd : dcOk (dcN f0 f1 f2 f3 f4 f5 f6 f7 f8) = true
  · rw [if_pos hd, hd, Bool.true_and]
    have hd2 := hd
    unfold dcOk at hd2
    simp only [dcN, Bool.and_eq_true, decide_eq_true_eq] at hd2
    obtain ⟨o0, o1, o2, o3, o4, o5, o6, o7, o8⟩ := hd2
    have hR : restP (isoY y) (scQ y f0 f1 f2 f3 f4 f5 f6 f7 f8 6).1 (scQ y f0 f1 f2 f3 f4 f5 f6 f7 f8 7).1 (64 + (scQ y f0 f1 f2 f3 f4 f5 f6 f7 f8 8).1.toNat) f9 = docR y (dcN f0 f1 f2 f3 f4 f5 f6 f7 f8) f9 := by
      unfold docR
      simp only [scQ, dcN]
      rw [e6.2 o6, e7.2 o7, e8.2 o8, show clipP (refNum f6) 0 65535 = refNum f6 by unfold clipP; omega, show clipP (refNum f7) 0 65535 = refNum f7 by unfold clipP; omega]
    unfold scP
    rw [hR]
    have q5 : (scQ y f0 f1 f2 f3 f4 f5 f6 f7 f8 5).1 = refBit f5 15 := by simp only [scQ]; exact e5.2 o5
    have q4 : (scQ y f0 f1 f2 f3 f4 f5 f6 f7 f8 4).1 = refBit f4 1 := by simp only [scQ]; exact e4.2 o4
    have q3 : (scQ y f0 f1 f2 f3 f4 f5 f6 f7 f8 3).1 = refBit f3 31 := by simp only [scQ]; exact e3.2 o3
    have q0 : (scQ y f0 f1 f2 f3 f4 f5 f6 f7 f8 0).1 = clipP (refNum f0) 1 y.f.pb := by simp only [scQ]; exact e0.2 o0
    have q1 : (scQ y f0 f1 f2 f3 f4 f5 f6 f7 f8 1).1 = clipP (refNum f1) 1 y.f.pr := by simp only [scQ]; exact e1.2 o1
    have q2 : (scQ y f0 f1 f2 f3 f4 f5 f6 f7 f8 2).1 = clipP (refNum f2) 1 y.ps := by simp only [scQ]; exact e2.2 o2
    rw [q0, q1, q2, q3, q4, q5]
    have hs := sg_nat (refBit f5 15).toNat (by omega)
    have hpk : plcOk (refBit f5 15).toNat (docR y (dcN f0 f1 f2 f3 f4 f5 f6 f7 f8) f9).2 = docOk y (dcN f0 f1 f2 f3 f4 f5 f6 f7 f8) f9 := by
      unfold plcOk docOk
      simp only [dcN]
      rw [hs.1]
    unfold plcV
    rw [hpk]
    by_cases hp : docOk y (dcN f0 f1 f2 f3 f4 f5 f6 f7 f8) f9 = true
    · rw [if_pos hp, if_pos hp, if_pos hp]
      have hp2 := hp
      unfold docOk at hp2
      simp only [dcN, Bool.and_eq_true, Bool.not_eq_true'] at hp2
      have hlr := rest_lr hp2.1
      have hsg := hs.2 hp2.2
      have hl : glP (docR y (dcN f0 f1 f2 f3 f4 f5 f6 f7 f8) f9).1.l = (docR y (dcN f0 f1 f2 f3 f4 f5 f6 f7 f8) f9).1.l := hlr.1
      have hr : grP (docR y (dcN f0 f1 f2 f3 f4 f5 f6 f7 f8) f9).1.r = (docR y (dcN f0 f1 f2 f3 f4 f5 f6 f7 f8) f9).1.r := hlr.2
      generalize (docR y (dcN f0 f1 f2 f3 f4 f5 f6 f7 f8) f9).1 = R at *
      have hz : clnY y (docY y (dcN f0 f1 f2 f3 f4 f5 f6 f7 f8) R) = plcY y (clipP (refNum f0) 1 y.f.pb) (clipP (refNum f1) 1 y.f.pr) (clipP (refNum f2) 1 y.ps) (refBit f3 31) (refBit f4 1).toNat (refBit f5 15).toNat R := by
        unfold clnY docY clnP plcY
        simp only [dcN]
        rw [hl, hr, clip_one _ _ hk.h2.1, clip_one _ _ hk.h3.1]
        have hps : clipP y.ps 1 16 = y.ps := by have := hk.ps; unfold clipP; omega
        rw [hps, clip_one _ _ hk.ps.1]
        have hlv : clipP y.lv 1 5 = y.lv := by have := hk.lv; unfold clipP; omega
        have hsu : clipP y.su 0 2 = y.su := by have := hk.su; unfold clipP; omega
        have hmm : y.m % 131072 = y.m := Nat.mod_eq_of_lt hk.m
        have h31 : refBit f3 31 % 32 = refBit f3 31 := by omega
        have h41 : (refBit f4 1 == 1) = decide ((refBit f4 1).toNat ≠ 0) := by
          rcases (show refBit f4 1 = 0 ∨ refBit f4 1 = 1 by omega) with e | e <;> rw [e] <;> rfl
        have h58 : decide (8 ≤ refBit f5 15) = decide (8 ≤ (refBit f5 15).toNat) := by
          by_cases h : 8 ≤ refBit f5 15
          · rw [decide_eq_true h, decide_eq_true (by omega)]
          · rw [decide_eq_false h, decide_eq_false (by omega)]
        have h52 : ((refBit f5 15).tmod 2 == 1) = decide ((refBit f5 15).toNat % 2 = 1) := by
          rw [Int.tmod_eq_emod_of_nonneg o5]
          by_cases h : refBit f5 15 % 2 = 1
          · rw [decide_eq_true (by omega), h]; rfl
          · rw [decide_eq_false (by omega)]; exact beq_eq_false_iff_ne.2 h
        have hf : (⟨0, 0, y.f.pb, y.f.pr, y.f.mt, y.f.ml, y.f.mb, y.f.mr⟩ : Fr) = y.f := by
          have h1 := hk.h1.1; have h2 := hk.h1.2
          cases hy : y.f
          rw [hy] at h1 h2
          simp only at h1 h2
          rw [h1, h2]
        rw [hlv, hsu, hmm, h31, h41, h58, h52, hf]
        rw [show docS (refBit f5 15) = (if 0 < (refBit f5 15).toNat / 2 % 4 then (((refBit f5 15).toNat / 2 % 4 : Nat) : Int) + 1 else 0) from rfl, hsg]
      rw [hz]
      rfl
    · rw [if_neg hp, if_neg hp, if_neg hp]
      rfl
  · rw [if_neg hd]
    rw [show dcOk (dcN f0 f1 f2 f3 f4 f5 f6 f7 f8) = false from by simpa using hd, Bool.false_and]
    rfl
end Go.Proofs.YtfnamfkjbkhgeaaGreatDoor

namespace Go.Proofs.YtfnamfkjbkhgeaaGreatDoor
open Go Go.RowKit

/-- A letter that is a slice of so many elements in memory of its own. -/
def BnF (n : Nat) (T : TypeId) (cs : Array Value) (B : Nat) (u : Value) (W : World) : Prop := ∃ g, u = .slice (some ⟨g, 0, none⟩) n n ∧ B ≤ g ∧ Blk W g T cs
def BnP (n : Nat) (u : Value) : Prop := ∃ g, u = .slice (some ⟨g, 0, none⟩) n n
theorem bnF_stab (n : Nat) (ks : Kinds) (wr : World) (T : TypeId) (cs : Array Value) (ht : T ∉ boxes ks) : ∀ v w w', Kept ks wr w w' → BnF n T cs wr.heap.size v w → BnF n T cs wr.heap.size v w' := by
  rintro v w w' hk ⟨g, e, hb, hh⟩
  refine ⟨g, e, hb, ?_⟩
  refine (hk.block g hh.lt hb (fun cs' T' fr e => by
    have e2 : some (Obj.cells cs T (0, 0)) = some (.cells cs' T' fr) := hh.symm.trans e
    injection e2 with e2
    injection e2 with _ e3 _
    rw [← e3]; exact ht)).trans hh
theorem rints_blk {W : World} {g : Nat} {T : TypeId} {cs : Array Value} (h : Blk W g T cs) (ns : List Int) (he : cs = (ns.map (Value.int .i64)).toArray) : RInts W (some ⟨g, 0, none⟩) ns := by
  subst he
  refine ⟨by simp, fun _ => ⟨_, rfl, h.lt, fun j u hu => ?_⟩⟩
  have hadd : (⟨g, 0, none⟩ : Addr).add j = ⟨g, j, none⟩ := by unfold Addr.add; split <;> simp_all
  rw [hadd, h.cell j]
  simpa using hu
def fiveT (rd : Int) (kp fl : Nat) : ByteArray := ⟨#[UInt8.ofNat (64 + rd).toNat, 59, UInt8.ofNat (64 + kp), 59, UInt8.ofNat (64 + fl)]⟩
theorem five_conv (W : World) (g : Nat) (rd : Int) (kp fl : Nat) (h : Blk W g 5 #[.int .u8 (64 + rd), .int .u8 59, .int .u8 (64 + (kp : Int)), .int .u8 59, .int .u8 (64 + (fl : Int))]) : (convert 63 9 (.slice (some ⟨g, 0, none⟩) 5 5)).run Tryz.prog W = .ok (.string (fiveT rd kp fl)) W := by
  have H := run_convert_bytes_arg W 63 5 Tryz.underlying63 Tryz.underlying5 g 0 5 5 [64 + rd, 59, 64 + (kp : Int), 59, 64 + (fl : Int)] rfl (fun i hi => by
    match i, hi with
    | 0, _ => exact h.cell 0
    | 1, _ => exact h.cell 1
    | 2, _ => exact h.cell 2
    | 3, _ => exact h.cell 3
    | 4, _ => exact h.cell 4) 9 Tryz.underlying9
  exact H
theorem told_str (y : Co) (hk : ClOk y) (hl : leftP (isoY y) = y.K.l ∧ rightP (isoY y) = y.K.r) :
    joinT (curF y) = bytesOf (fmtL [y.r + 1, y.c + 1, y.pg + 1]) ++ ⟨#[59]⟩ ++ fiveT y.K.rd y.K.kp.toNat (flgP y.wp y.K.og y.K.s) ++ ⟨#[59]⟩ ++ bytesOf (fmtL [y.K.l, y.K.r]) ++ ⟨#[59]⟩ ++ szT (sizP (isoY y) 4) ++ ⟨#[59]⟩ ++ idtP (isoY y) 4 := by
  have hrd : (64 + y.K.rd).toNat = 64 + y.K.rd.toNat := by have := hk.rd; omega
  apply ByteArray.ext
  apply Array.ext'
  simp only [ByteArray.data_append, Array.toList_append]
  unfold joinT curF bytesOf fmtL szT sgnB itT fiveT
  rw [hl.1, hl.2, hrd]
  simp [Lib.join, bytesOf]
theorem cl_lr (x : Co) (H W it il ib ir : Int) : leftP (isoY (clnP x H W it il ib ir)) = (clnP x H W it il ib ir).K.l ∧ rightP (isoY (clnP x H W it il ib ir)) = (clnP x H W it il ib ir).K.r := by
  constructor
  · show glP (glP x.K.l) = glP x.K.l
    unfold glP
    by_cases h : isoInB 0 x.K.l = true
    · rw [if_pos h, if_pos h]
    · rw [if_neg h]; rfl
  · show grP (grP x.K.r) = grP x.K.r
    unfold grP
    by_cases h : isoInB 0 x.K.r = true
    · rw [if_pos h, if_pos h]
    · rw [if_neg h]; rfl
set_option maxRecDepth 100000 in
set_option maxHeartbeats 16000000 in
theorem refToldC_any {x : Co} {H W it il ib ir : Int} (h : FrOk x.f H W it il ib ir) (hr0 : 0 ≤ x.K.rd) (hr1 : x.K.rd ≤ 255) (w : World) :
    Calls Tryz.prog 10 #[coV .i64 x] w fun e w' => e = .returned (.string (joinT (curF (clnP x H W it il ib ir)))) ∧ Below w.heap.size w w' := by
  have HCl := Lib.hid (fun V => refCleanC_any h hr0 hr1 V)
  have hk := cl_ok h
  have hcl := cl_lr x H W it il ib ir
  obtain ⟨y, hy⟩ : ∃ y, y = clnP x H W it il ib ir := ⟨_, rfl⟩
  rw [← hy] at HCl hk hcl ⊢
  clear h hr0 hr1 hy
  have HRp := Lib.hid (fun V => refReport_any (isoY y) V)
  have hlf := left_in (isoY y); have hrt := right_in (isoY y)
  have hk1 := hk.r; have hk2 := hk.c; have hk3 := hk.rd; have hk4 := hk.pg
  rw [told_str y hk hcl]
  rw [hcl.1] at hlf
  rw [hcl.2] at hrt
  have hz3 := fmtS [y.r + 1, y.c + 1, y.pg + 1]; have hz2 := fmtS [y.K.l, y.K.r]
  have hz4 := idt_size (isoY y) 4
  have HF3 := Lib.hid (fun A V (r : RInts V A [y.r + 1, y.c + 1, y.pg + 1]) => refFormat_any A 3 [y.r + 1, y.c + 1, y.pg + 1] (by unfold maxLen; simp) V r)
  have HF2 := Lib.hid (fun A V (r : RInts V A [y.K.l, y.K.r]) => refFormat_any A 2 [y.K.l, y.K.r] (by unfold maxLen; simp) V r)
  have hsz := siz_le (isoY y) 4
  have hfl : flgP y.wp y.K.og y.K.s ≤ 15 := by
    unfold flgP
    have h1 : y.K.og.toNat ≤ 1 := by cases y.K.og <;> decide
    have h2 : y.wp.toNat ≤ 1 := by cases y.wp <;> decide
    split <;> (try split) <;> omega
  have hkp : y.K.kp.toNat ≤ 1 := by cases y.K.kp <;> decide
  have hog : y.K.og.toNat ≤ 1 := by cases y.K.og <;> decide
  have hwp : y.wp.toNat ≤ 1 := by cases y.wp <;> decide
  have HK := Lib.hid (fun V => one_any y.K.kp V); have HO := Lib.hid (fun V => one_any y.K.og V); have HW := Lib.hid (fun V => one_any y.wp V)
  have HFv := Lib.hid (fun W g b => five_conv W g y.K.rd y.K.kp.toNat (flgP y.wp y.K.og y.K.s) b)
  have hzv : (fiveT y.K.rd y.K.kp.toNat (flgP y.wp y.K.og y.K.s)).size = 5 := rfl
  have hzs : (szT (sizP (isoY y) 4)).size = 1 := rfl
  have HSz := Lib.hid (fun V g hh => sz_conv V g (sizP (isoY y) 4) hh)
  have hflg : (y.K.s = 2 ∧ flgP y.wp y.K.og y.K.s = (y.K.og.toNat + y.wp.toNat * 8) + 2) ∨ (y.K.s = 3 ∧ flgP y.wp y.K.og y.K.s = (y.K.og.toNat + y.wp.toNat * 8) + 4) ∨ (y.K.s ≠ 2 ∧ y.K.s ≠ 3 ∧ flgP y.wp y.K.og y.K.s = (y.K.og.toNat + y.wp.toNat * 8)) := by
    unfold flgP
    by_cases h2 : y.K.s = 2
    · exact .inl ⟨h2, by rw [if_pos h2]⟩
    · by_cases h3 : y.K.s = 3
      · exact .inr (.inl ⟨h3, by rw [if_neg h2, if_pos h3]⟩)
      · exact .inr (.inr ⟨h2, h3, by rw [if_neg h2, if_neg h3]; rfl⟩)
  clear hcl
  unfold isoY Iso.val Iso.cs at HRp
  simp only at HRp
  generalize bytesOf (fmtL [y.r + 1, y.c + 1, y.pg + 1]) = f3 at *
  generalize bytesOf (fmtL [y.K.l, y.K.r]) = f2 at *
  generalize fiveT y.K.rd y.K.kp.toNat (flgP y.wp y.K.og y.K.s) = fv at *
  generalize flgP y.wp y.K.og y.K.s = fl at *
  have hrp : sizP (isoY y) 4 = sizP ⟨y.K.a, y.K.b, y.K.c, y.K.d, y.K.l, y.K.r, y.K.s⟩ 4 ∧ idtP (isoY y) 4 = idtP ⟨y.K.a, y.K.b, y.K.c, y.K.d, y.K.l, y.K.r, y.K.s⟩ 4 := ⟨rfl, rfl⟩
  rw [← hrp.1, ← hrp.2] at HRp
  clear hrp
  generalize sizP (isoY y) 4 = sz at *
  generalize szT sz = s1 at *
  generalize idtP (isoY y) 4 = ids at *
  have HAdd := Lib.hid (fun (a b : ByteArray) (hd : a.size + b.size ≤ 1000) W => run_string_add_sum (P := Tryz.prog) W a b (by omega))
  obtain ⟨g1, hg1⟩ : ∃ g : ByteArray, g = f3 ++ ⟨#[59]⟩ := ⟨_, rfl⟩
  have z1 : g1.size = f3.size + 1 := by rw [hg1, ByteArray.size_append]; rfl
  have A1 := HAdd.out f3 ⟨#[59]⟩ (by rw [show (⟨#[59]⟩ : ByteArray).size = 1 from rfl]; omega)
  rw [← hg1] at A1 ⊢
  obtain ⟨g2, hg2⟩ : ∃ g : ByteArray, g = g1 ++ fv := ⟨_, rfl⟩
  have z2 : g2.size = g1.size + fv.size := by rw [hg2, ByteArray.size_append]
  have A2 := HAdd.out g1 fv (by omega)
  rw [← hg2] at A2 ⊢
  obtain ⟨g3, hg3⟩ : ∃ g : ByteArray, g = g2 ++ ⟨#[59]⟩ := ⟨_, rfl⟩
  have z3 : g3.size = g2.size + 1 := by rw [hg3, ByteArray.size_append]; rfl
  have A3 := HAdd.out g2 ⟨#[59]⟩ (by rw [show (⟨#[59]⟩ : ByteArray).size = 1 from rfl]; omega)
  rw [← hg3] at A3 ⊢
  obtain ⟨g4, hg4⟩ : ∃ g : ByteArray, g = g3 ++ f2 := ⟨_, rfl⟩
  have z4 : g4.size = g3.size + f2.size := by rw [hg4, ByteArray.size_append]
  have A4 := HAdd.out g3 f2 (by omega)
  rw [← hg4] at A4 ⊢
  obtain ⟨g5, hg5⟩ : ∃ g : ByteArray, g = g4 ++ ⟨#[59]⟩ := ⟨_, rfl⟩
  have z5 : g5.size = g4.size + 1 := by rw [hg5, ByteArray.size_append]; rfl
  have A5 := HAdd.out g4 ⟨#[59]⟩ (by rw [show (⟨#[59]⟩ : ByteArray).size = 1 from rfl]; omega)
  rw [← hg5] at A5 ⊢
  obtain ⟨g6, hg6⟩ : ∃ g : ByteArray, g = g5 ++ s1 := ⟨_, rfl⟩
  have z6 : g6.size = g5.size + s1.size := by rw [hg6, ByteArray.size_append]
  have A6 := HAdd.out g5 s1 (by omega)
  rw [← hg6] at A6 ⊢
  obtain ⟨g7, hg7⟩ : ∃ g : ByteArray, g = g6 ++ ⟨#[59]⟩ := ⟨_, rfl⟩
  have z7 : g7.size = g6.size + 1 := by rw [hg7, ByteArray.size_append]; rfl
  have A7 := HAdd.out g6 ⟨#[59]⟩ (by rw [show (⟨#[59]⟩ : ByteArray).size = 1 from rfl]; omega)
  rw [← hg7] at A7 ⊢
  obtain ⟨g8, hg8⟩ : ∃ g : ByteArray, g = g7 ++ ids := ⟨_, rfl⟩
  have z8 : g8.size = g7.size + ids.size := by rw [hg8, ByteArray.size_append]
  have A8 := HAdd.out g7 ids (by omega)
  rw [← hg8] at A8 ⊢
  clear hg1 z1 hg2 z2 hg3 z3 hg4 z4 hg5 z5 hg6 z6 hg7 z7 hg8 z8 HAdd
  clear hz2 hz3 hz4 hzv hzs
  have hS1 := coS .i64 x; have hS2 := coS .i64 y; have hO2 := co_one .i64 y
  unfold coV at *
  generalize coC .i64 x = X at *
  generalize hY : coC .i64 y = Y at *
  replace hY := Lib.hid hY
  have HS := Lib.hid ((Bs.nil w).alloc 33 X)
  go_enter Tryz.func10, Tryz.ntmps10
  go_wp2_with (first | (refine wpList_load_row rfl _ _ rfl w.heap.size rfl _ X (0, 0) _ HS.out.b0 under_cr rfl (by rw [hS1]; exact info_cr) ?_))
  refine (HCl.out _).mono ?_
  rintro e w1 ⟨rfl, hb⟩
  have HK1 := Lib.hid (HS.out.next hb)
  clear hb HS
  go_upto_region 2 with (refine wpList_store_row rfl _ _ _ rfl w.heap.size Y rfl rfl _ _ HK1.out.b0 (by rw [hS2]; exact info_cr) (by rw [hS1, hS2]) hO2 ?_)
  refine world_gen (fun V => Bs w [(w.heap.size, 33, Y)] V) (HK1.out.row Y) ?_
  intro w2 HV0
  replace HV0 := Lib.hid HV0
  clear HK1 HCl hS1 hS2 hO2
  obtain ⟨r, c, wp, ⟨rd, kp, og, a, b, cc, d, l, rr, s⟩, ⟨pt, pl, pb, pr, mt, ml, mb, mr⟩, m, lv, eg, st, su, bl, pg, ps⟩ := y
  simp only [coC] at *
  generalize (m : Int) = mz at *
  rw [← hY.out] at HV0
  clear hY
  --#1
  have c0 : w2.cell? ⟨w.heap.size, 0, none⟩ = some (.int .i64 r) := Blk.cell HV0.out.b0 0
  have c1 : w2.cell? ⟨w.heap.size, 1, none⟩ = some (.int .i64 c) := Blk.cell HV0.out.b0 1
  have c2 : w2.cell? ⟨w.heap.size, 2, none⟩ = some (.int .u8 rd) := Blk.cell HV0.out.b0 2
  have c3 : w2.cell? ⟨w.heap.size, 3, none⟩ = some (.bool kp) := Blk.cell HV0.out.b0 3
  have c4 : w2.cell? ⟨w.heap.size, 4, none⟩ = some (.bool wp) := Blk.cell HV0.out.b0 4
  have c5 : w2.cell? ⟨w.heap.size, 5, none⟩ = some (.bool og) := Blk.cell HV0.out.b0 5
  have c6 : w2.cell? ⟨w.heap.size, 6, none⟩ = some (.int .i64 a) := Blk.cell HV0.out.b0 6
  have c7 : w2.cell? ⟨w.heap.size, 7, none⟩ = some (.int .i64 b) := Blk.cell HV0.out.b0 7
  have c8 : w2.cell? ⟨w.heap.size, 8, none⟩ = some (.int .i64 cc) := Blk.cell HV0.out.b0 8
  have c9 : w2.cell? ⟨w.heap.size, 9, none⟩ = some (.int .i64 d) := Blk.cell HV0.out.b0 9
  have c10 : w2.cell? ⟨w.heap.size, 10, none⟩ = some (.int .i64 l) := Blk.cell HV0.out.b0 10
  have c11 : w2.cell? ⟨w.heap.size, 11, none⟩ = some (.int .i64 rr) := Blk.cell HV0.out.b0 11
  have c12 : w2.cell? ⟨w.heap.size, 12, none⟩ = some (.int .i64 s) := Blk.cell HV0.out.b0 12
  go_upto_region 3 with fail
  refine world_gen (fun V => Bs w [(w2.heap.size, 27, #[.int .i64 r, .int .i64 c, .int .u8 rd, .bool kp, .bool wp, .bool og, .int .i64 a, .int .i64 b, .int .i64 cc, .int .i64 d, .int .i64 l, .int .i64 rr, .int .i64 s]), (w.heap.size, 33, #[.int .i64 r, .int .i64 c, .int .u8 rd, .bool kp, .bool wp, .bool og, .int .i64 a, .int .i64 b, .int .i64 cc, .int .i64 d, .int .i64 l, .int .i64 rr, .int .i64 s, .int .i64 pt, .int .i64 pl, .int .i64 pb, .int .i64 pr, .int .i64 mt, .int .i64 ml, .int .i64 mb, .int .i64 mr, .int .i64 mz, .int .i64 lv, .bool eg, .bool st, .int .i64 su, .bool bl, .int .i64 pg, .int .i64 ps])] V) (by first | exact HV0.out.alloc _ _ | exact (HV0.out.alloc _ _).row _) ?_
  intro V1 HV1
  generalize w2.heap.size = b8 at *
  replace HV1 := Lib.hid HV1
  clear HV0 c0 c1 c2 c3 c4 c5 c6 c7 c8 c9 c10 c11 c12
  --#2
  have d0 : V1.cell? ⟨b8, 0, none⟩ = some (.int .i64 r) := Blk.cell HV1.out.b0 0
  have HC4 := Lib.hid (fun w' (h : Only [] V1 w') => And.intro (Blk.cell (h.blk HV1.out.b0 (by simp)) 4) (Blk.cell (h.blk HV1.out.b0 (by simp)) 5))
  have hw8 : IntKind.i64.wrap (8 * (wp.toNat : Int)) = 8 * (wp.toNat : Int) := IntWalk.i64_in _ (by omega)
  have hwo : IntKind.i64.wrap ((og.toNat : Int) + 8 * (wp.toNat : Int)) = (og.toNat : Int) + 8 * (wp.toNat : Int) := IntWalk.i64_in _ (by omega)
  refine wp_region_mix_lit (by kernel_rfl) [(2, .call (.int .i64 (og.toNat : Int))), (5, .call (.int .i64 (wp.toNat : Int)))] (by kernel_rfl) (by kernel_rfl) (by kernel_rfl) (by rfl) (by simp [apartK] <;> omega) (by simp [startK]) (by simp [stabK]) (⟨fun _ => undef, by simp [okK]⟩) (fun β hβ => ?_)
  repeat (
    refine lex_val (v := ?_) rfl rfl (fun w' hf => ?_) ?_
    rotate_left
    · obtain ⟨q4, q5⟩ := HC4.out w' hf.only; go_simp
      try rfl
    try simp only [Act.put, List.setIfInBounds_toArray, List.set_cons_zero, List.set_cons_succ])
  refine lex_call (f := 31) (args := ?_) rfl rfl (fun w' hf => ?_) (fun w' hf => ?_) ?_
  rotate_left
  · obtain ⟨q4, q5⟩ := HC4.out w' hf.only; go_simp
    try rfl
  · obtain ⟨q4, q5⟩ := HC4.out w' hf.only; exact (HO.out w').mono (by rintro e w'' ⟨rfl, rfl⟩; exact ⟨rfl, Below.refl _ _⟩)
  try simp only [Act.put, List.setIfInBounds_toArray, List.set_cons_zero, List.set_cons_succ]
  repeat (
    refine lex_val (v := ?_) rfl rfl (fun w' hf => ?_) ?_
    rotate_left
    · obtain ⟨q4, q5⟩ := HC4.out w' hf.only; go_simp
      try rfl
    try simp only [Act.put, List.setIfInBounds_toArray, List.set_cons_zero, List.set_cons_succ])
  refine lex_call (f := 31) (args := ?_) rfl rfl (fun w' hf => ?_) (fun w' hf => ?_) ?_
  rotate_left
  · obtain ⟨q4, q5⟩ := HC4.out w' hf.only; go_simp
    try rfl
  · obtain ⟨q4, q5⟩ := HC4.out w' hf.only; exact (HW.out w').mono (by rintro e w'' ⟨rfl, rfl⟩; exact ⟨rfl, Below.refl _ _⟩)
  try simp only [Act.put, List.setIfInBounds_toArray, List.set_cons_zero, List.set_cons_succ]
  repeat (
    refine lex_val (v := ?_) rfl rfl (fun w' hf => ?_) ?_
    rotate_left
    · obtain ⟨q4, q5⟩ := HC4.out w' hf.only; go_simp
      try rfl
    try simp only [Act.put, List.setIfInBounds_toArray, List.set_cons_zero, List.set_cons_succ])
  refine lex_nil fun w3 he => ?_
  have HK3 := Lib.hid (HV1.out.only he.only)
  clear he hβ HC4 HO HW HV1 d0 hw8 hwo
  --#3
  have e6 : w3.cell? ⟨b8, 6, none⟩ = some (.int .i64 a) := Blk.cell HK3.out.b0 6
  have e7 : w3.cell? ⟨b8, 7, none⟩ = some (.int .i64 b) := Blk.cell HK3.out.b0 7
  have e8 : w3.cell? ⟨b8, 8, none⟩ = some (.int .i64 cc) := Blk.cell HK3.out.b0 8
  have e9 : w3.cell? ⟨b8, 9, none⟩ = some (.int .i64 d) := Blk.cell HK3.out.b0 9
  have e10 : w3.cell? ⟨b8, 10, none⟩ = some (.int .i64 l) := Blk.cell HK3.out.b0 10
  have e11 : w3.cell? ⟨b8, 11, none⟩ = some (.int .i64 rr) := Blk.cell HK3.out.b0 11
  have e12 : w3.cell? ⟨b8, 12, none⟩ = some (.int .i64 s) := Blk.cell HK3.out.b0 12
  have hq : Hid (((og.toNat + wp.toNat * 8 : Nat) : Int) = (og.toNat : Int) + 8 * (wp.toNat : Int)) := Lib.hid (by omega)
  generalize (og.toNat : Int) + 8 * (wp.toNat : Int) = q at *
  have hwr : IntKind.i64.wrap (r + 1) = r + 1 := IntWalk.i64_in _ (by omega)
  have hwc : IntKind.i64.wrap (c + 1) = c + 1 := IntWalk.i64_in _ (by omega)
  have hwp' : IntKind.i64.wrap (pg + 1) = pg + 1 := IntWalk.i64_in _ (by omega)
  have hw1 : IntKind.i64.wrap rd = rd := IntWalk.i64_in _ (by omega)
  have hw2 : IntKind.i64.wrap (64 + rd) = 64 + rd := IntWalk.i64_in _ (by omega)
  have hw3 : IntKind.u8.wrap (64 + rd) = 64 + rd := IntWalk.u8_in _ (by omega)
  have hw4 : IntKind.i64.wrap (64 + (kp.toNat : Int)) = 64 + (kp.toNat : Int) := IntWalk.i64_in _ (by omega)
  have hw5 : IntKind.u8.wrap (64 + (kp.toNat : Int)) = 64 + (kp.toNat : Int) := IntWalk.u8_in _ (by omega)
  have hw6 : IntKind.i64.wrap (64 + (fl : Int)) = 64 + (fl : Int) := IntWalk.i64_in _ (by omega)
  have hw7 : IntKind.u8.wrap (64 + (fl : Int)) = 64 + (fl : Int) := IntWalk.u8_in _ (by omega)
  have hcase : (s = 2 ∧ IntKind.i64.wrap (q + 2) = (fl : Int)) ∨ (s = 3 ∧ IntKind.i64.wrap (q + 4) = (fl : Int)) ∨ (s ≠ 2 ∧ s ≠ 3 ∧ q = (fl : Int)) := by
    have hq := hq.out
    rcases hflg with ⟨h1, h2⟩ | ⟨h1, h2⟩ | ⟨h1, h2, h3⟩
    · exact .inl ⟨h1, (IntWalk.i64_in _ (by omega)).trans (by omega)⟩
    · exact .inr (.inl ⟨h1, (IntWalk.i64_in _ (by omega)).trans (by omega)⟩)
    · exact .inr (.inr ⟨h1, h2, by omega⟩)
  clear hflg hq hfl hkp hog hwp hk hlf hrt hk1 hk2 hk3 hk4 hsz
  replace hcase := Lib.hid hcase
  have key : ∀ w4, Below w3.heap.size w3 w4 → True := fun _ _ => trivial
  clear key
  rcases hcase.out with ⟨rfl, hq⟩ | ⟨rfl, hq⟩ | ⟨hs2, hs3, rfl⟩
  rotate_left 2
  · have g2 : (s = 2) = False := eq_false hs2
    have g3 : (s = 3) = False := eq_false hs3
    have g2b : (s == 2) = false := beq_eq_false_iff_ne.2 hs2
    have g3b : (s == 3) = false := beq_eq_false_iff_ne.2 hs3
    clear hs2 hs3 hcase
    --#4
    go_wp2_with fail
    refine (HRp.out _).mono ?_
    rintro e w4 ⟨rfl, hb⟩
    have HK4 := Lib.hid (HK3.out.next hb)
    clear hb HK3 HRp e6 e7 e8 e9 e10 e11 e12
    go_upto_region 9 with fail
    have HX := Lib.hid (fun w' (h : Only [] w4 w') => And.intro (Blk.cell (h.blk HK4.out.b0 (by simp)) 0) (And.intro (Blk.cell (h.blk HK4.out.b0 (by simp)) 1) (And.intro (Blk.cell (h.blk HK4.out.b0 (by simp)) 2) (And.intro (Blk.cell (h.blk HK4.out.b0 (by simp)) 3) (And.intro (Blk.cell (h.blk HK4.out.b0 (by simp)) 10) (And.intro (Blk.cell (h.blk HK4.out.b0 (by simp)) 11) (Blk.cell (h.blk HK4.out.b1 (by simp)) 27)))))))
    --#5
    refine wp_region_mix_lit (by kernel_rfl) [(9, .letter (BnP 3) (BnF 3 3 #[.int .i64 (r + 1), .int .i64 (c + 1), .int .i64 (pg + 1)] w4.heap.size)), (10, .call (.string f3)), (19, .call (.int .i64 (kp.toNat : Int))), (25, .letter (BnP 5) (BnF 5 5 #[.int .u8 (64 + rd), .int .u8 59, .int .u8 (64 + (kp.toNat : Int)), .int .u8 59, .int .u8 (64 + (fl : Int))] w4.heap.size)), (35, .letter (BnP 2) (BnF 2 3 #[.int .i64 l, .int .i64 rr] w4.heap.size)), (36, .call (.string f2)), (40, .letter (BnP 1) (BnF 1 5 #[.int .u8 (sz : Int)] w4.heap.size))] (by kernel_rfl) (by kernel_rfl) (by kernel_rfl) (by rfl) (by simp [apartK] <;> omega) (by simp [startK]) (by simp only [List.forall_mem_cons]; exact ⟨bnF_stab _ _ _ _ _ (by simp [boxes, Kind.boxed]), trivial, trivial, bnF_stab _ _ _ _ _ (by simp [boxes, Kind.boxed]), bnF_stab _ _ _ _ _ (by simp [boxes, Kind.boxed]), trivial, bnF_stab _ _ _ _ _ (by simp [boxes, Kind.boxed]), by simp⟩) (⟨fun i => if i = 9 then .slice (some ⟨0, 0, none⟩) 3 3 else if i = 25 then .slice (some ⟨0, 0, none⟩) 5 5 else if i = 35 then .slice (some ⟨0, 0, none⟩) 2 2 else .slice (some ⟨0, 0, none⟩) 1 1, by simp only [List.forall_mem_cons]; exact ⟨⟨0, rfl⟩, trivial, trivial, ⟨0, rfl⟩, ⟨0, rfl⟩, trivial, ⟨0, rfl⟩, by simp⟩⟩) (fun β hβ => ?_)
    obtain ⟨a9, q9⟩ := (hβ 9 : BnP 3 (β 9))
    obtain ⟨a25, q25⟩ := (hβ 25 : BnP 5 (β 25))
    obtain ⟨a35, q35⟩ := (hβ 35 : BnP 2 (β 35))
    obtain ⟨a40, q40⟩ := (hβ 40 : BnP 1 (β 40))
    iterate 9 (
      refine lex_val (v := ?_) rfl rfl (fun w' hf => ?_) ?_
      rotate_left
      · obtain ⟨x0, x1, x2, x3, x10, x11, x27⟩ := HX.out w' hf.only; go_simp
        try rfl
      try simp only [Act.put, List.setIfInBounds_toArray, List.set_cons_zero, List.set_cons_succ])
    --#6
    refine lex_made rfl rfl (fun w' hf => ⟨.slice (some ⟨w'.heap.size, 0, none⟩) 3 3, w'.alloc (.cells #[.int .i64 (r + 1), .int .i64 (c + 1), .int .i64 (pg + 1)] 3), ?_, ⟨_, rfl⟩, ⟨_, rfl, hf.only.size, Blk.new _ _ _⟩, (Below.refl _ _).alloc (Nat.le_refl _) _⟩) ?_
    · go_simp
    try simp only [Act.put, List.setIfInBounds_toArray, List.set_cons_zero, List.set_cons_succ]
    rw [q9]
    refine lex_call (f := 33) (args := ?_) rfl rfl (fun w' hf => ?_) (fun w' hf => ?_) ?_
    rotate_left
    · go_simp
      try rfl
    · have h9 : BnF 3 3 #[.int .i64 (r + 1), .int .i64 (c + 1), .int .i64 (pg + 1)] w4.heap.size (β 9) w' := hf.got 9 _ _ rfl (by kernel_rfl)
      rw [q9] at h9
      obtain ⟨g9, e9, _, hB9⟩ := h9
      have e7 : a9 = g9 := by simpa using e9
      subst e7
      exact HF3.out _ w' (rints_blk hB9 _ rfl)
    try simp only [Act.put, List.setIfInBounds_toArray, List.set_cons_zero, List.set_cons_succ]
    --#7
    repeat (
      refine lex_val (v := ?_) rfl rfl (fun w' hf => ?_) ?_
      rotate_left
      · obtain ⟨x0, x1, x2, x3, x10, x11, x27⟩ := HX.out w' hf.only; go_simp
        try rfl
      try simp only [Act.put, List.setIfInBounds_toArray, List.set_cons_zero, List.set_cons_succ])
    refine lex_call (f := 31) (args := ?_) rfl rfl (fun w' hf => ?_) (fun w' hf => ?_) ?_
    rotate_left
    · obtain ⟨x0, x1, x2, x3, x10, x11, x27⟩ := HX.out w' hf.only; go_simp
      try rfl
    · obtain ⟨x0, x1, x2, x3, x10, x11, x27⟩ := HX.out w' hf.only; exact (HK.out w').mono (by rintro e w'' ⟨rfl, rfl⟩; exact ⟨rfl, Below.refl _ _⟩)
    try simp only [Act.put, List.setIfInBounds_toArray, List.set_cons_zero, List.set_cons_succ]
    repeat (
      refine lex_val (v := ?_) rfl rfl (fun w' hf => ?_) ?_
      rotate_left
      · obtain ⟨x0, x1, x2, x3, x10, x11, x27⟩ := HX.out w' hf.only; go_simp
        try rfl
      try simp only [Act.put, List.setIfInBounds_toArray, List.set_cons_zero, List.set_cons_succ])
    --#a
    refine lex_made rfl rfl (fun w' hf => ⟨.slice (some ⟨w'.heap.size, 0, none⟩) 5 5, w'.alloc (.cells #[.int .u8 (64 + rd), .int .u8 59, .int .u8 (64 + (kp.toNat : Int)), .int .u8 59, .int .u8 (64 + (fl : Int))] 5), ?_, ⟨_, rfl⟩, ⟨_, rfl, hf.only.size, Blk.new _ _ _⟩, (Below.refl _ _).alloc (Nat.le_refl _) _⟩) ?_
    · go_simp
    try simp only [Act.put, List.setIfInBounds_toArray, List.set_cons_zero, List.set_cons_succ]
    rw [q25]
    refine lex_val (v := .string fv) rfl rfl (fun w' hf => ?_) ?_
    · have h8 : BnF 5 5 #[.int .u8 (64 + rd), .int .u8 59, .int .u8 (64 + (kp.toNat : Int)), .int .u8 59, .int .u8 (64 + (fl : Int))] w4.heap.size (β 25) w' := hf.got 25 _ _ rfl (by kernel_rfl)
      rw [q25] at h8
      obtain ⟨g8, e8, _, hB8⟩ := h8
      have e7 : a25 = g8 := by simpa using e8
      have hcv := HFv.out w' a25 (by rw [e7]; exact hB8)
      clear e8 e7 hB8 hf
      go_simp
    try simp only [Act.put, List.setIfInBounds_toArray, List.set_cons_zero, List.set_cons_succ]
    --#b
    repeat (
      refine lex_val (v := ?_) rfl rfl (fun w' hf => ?_) ?_
      rotate_left
      · obtain ⟨x0, x1, x2, x3, x10, x11, x27⟩ := HX.out w' hf.only; go_simp
        try rfl
      try simp only [Act.put, List.setIfInBounds_toArray, List.set_cons_zero, List.set_cons_succ])
    refine lex_made rfl rfl (fun w' hf => ⟨.slice (some ⟨w'.heap.size, 0, none⟩) 2 2, w'.alloc (.cells #[.int .i64 l, .int .i64 rr] 3), ?_, ⟨_, rfl⟩, ⟨_, rfl, hf.only.size, Blk.new _ _ _⟩, (Below.refl _ _).alloc (Nat.le_refl _) _⟩) ?_
    · go_simp
    try simp only [Act.put, List.setIfInBounds_toArray, List.set_cons_zero, List.set_cons_succ]
    rw [q35]
    refine lex_call (f := 33) (args := ?_) rfl rfl (fun w' hf => ?_) (fun w' hf => ?_) ?_
    rotate_left
    · go_simp
      try rfl
    · have h9 : BnF 2 3 #[.int .i64 l, .int .i64 rr] w4.heap.size (β 35) w' := hf.got 35 _ _ rfl (by kernel_rfl)
      rw [q35] at h9
      obtain ⟨g9, e9, _, hB9⟩ := h9
      have e7 : a35 = g9 := by simpa using e9
      subst e7
      exact HF2.out _ w' (rints_blk hB9 _ rfl)
    try simp only [Act.put, List.setIfInBounds_toArray, List.set_cons_zero, List.set_cons_succ]
    repeat (
      refine lex_val (v := ?_) rfl rfl (fun w' hf => ?_) ?_
      rotate_left
      · go_simp
        try rfl
      try simp only [Act.put, List.setIfInBounds_toArray, List.set_cons_zero, List.set_cons_succ])
    --#c
    refine lex_made rfl rfl (fun w' hf => ⟨.slice (some ⟨w'.heap.size, 0, none⟩) 1 1, w'.alloc (.cells #[.int .u8 (sz : Int)] 5), ?_, ⟨_, rfl⟩, ⟨_, rfl, hf.only.size, Blk.new _ _ _⟩, (Below.refl _ _).alloc (Nat.le_refl _) _⟩) ?_
    · go_simp
    try simp only [Act.put, List.setIfInBounds_toArray, List.set_cons_zero, List.set_cons_succ]
    rw [q40]
    refine lex_val (v := .string s1) rfl rfl (fun w' hf => ?_) ?_
    · have h8 : BnF 1 5 #[.int .u8 (sz : Int)] w4.heap.size (β 40) w' := hf.got 40 _ _ rfl (by kernel_rfl)
      rw [q40] at h8
      obtain ⟨g8, e8, _, hB8⟩ := h8
      have e7 : a40 = g8 := by simpa using e8
      have hcv := HSz.out w' a40 (by rw [e7]; exact hB8.cell 0)
      clear e8 e7 hB8 hf
      go_simp
    try simp only [Act.put, List.setIfInBounds_toArray, List.set_cons_zero, List.set_cons_succ]
    repeat (
      refine lex_val (v := ?_) rfl rfl (fun w' hf => ?_) ?_
      rotate_left
      · go_simp
        try rfl
      try simp only [Act.put, List.setIfInBounds_toArray, List.set_cons_zero, List.set_cons_succ])
    refine lex_nil fun w5 he => ?_
    have hbe := Lib.hid (HK4.out.only he.only).bel
    clear he hβ HX HK4
    --#d
    go_wp2_with fail
    go_ret
    exact ⟨rfl, hbe.out⟩
  · clear hcase
    --#8
    go_wp2_with fail
    refine (HRp.out _).mono ?_
    rintro e w4 ⟨rfl, hb⟩
    have HK4 := Lib.hid (HK3.out.next hb)
    clear hb HK3 HRp e6 e7 e8 e9 e10 e11 e12
    go_upto_region 9 with fail
    have HX := Lib.hid (fun w' (h : Only [] w4 w') => And.intro (Blk.cell (h.blk HK4.out.b0 (by simp)) 0) (And.intro (Blk.cell (h.blk HK4.out.b0 (by simp)) 1) (And.intro (Blk.cell (h.blk HK4.out.b0 (by simp)) 2) (And.intro (Blk.cell (h.blk HK4.out.b0 (by simp)) 3) (And.intro (Blk.cell (h.blk HK4.out.b0 (by simp)) 10) (And.intro (Blk.cell (h.blk HK4.out.b0 (by simp)) 11) (Blk.cell (h.blk HK4.out.b1 (by simp)) 27)))))))
    --#5
    refine wp_region_mix_lit (by kernel_rfl) [(9, .letter (BnP 3) (BnF 3 3 #[.int .i64 (r + 1), .int .i64 (c + 1), .int .i64 (pg + 1)] w4.heap.size)), (10, .call (.string f3)), (19, .call (.int .i64 (kp.toNat : Int))), (25, .letter (BnP 5) (BnF 5 5 #[.int .u8 (64 + rd), .int .u8 59, .int .u8 (64 + (kp.toNat : Int)), .int .u8 59, .int .u8 (64 + (fl : Int))] w4.heap.size)), (35, .letter (BnP 2) (BnF 2 3 #[.int .i64 l, .int .i64 rr] w4.heap.size)), (36, .call (.string f2)), (40, .letter (BnP 1) (BnF 1 5 #[.int .u8 (sz : Int)] w4.heap.size))] (by kernel_rfl) (by kernel_rfl) (by kernel_rfl) (by rfl) (by simp [apartK] <;> omega) (by simp [startK]) (by simp only [List.forall_mem_cons]; exact ⟨bnF_stab _ _ _ _ _ (by simp [boxes, Kind.boxed]), trivial, trivial, bnF_stab _ _ _ _ _ (by simp [boxes, Kind.boxed]), bnF_stab _ _ _ _ _ (by simp [boxes, Kind.boxed]), trivial, bnF_stab _ _ _ _ _ (by simp [boxes, Kind.boxed]), by simp⟩) (⟨fun i => if i = 9 then .slice (some ⟨0, 0, none⟩) 3 3 else if i = 25 then .slice (some ⟨0, 0, none⟩) 5 5 else if i = 35 then .slice (some ⟨0, 0, none⟩) 2 2 else .slice (some ⟨0, 0, none⟩) 1 1, by simp only [List.forall_mem_cons]; exact ⟨⟨0, rfl⟩, trivial, trivial, ⟨0, rfl⟩, ⟨0, rfl⟩, trivial, ⟨0, rfl⟩, by simp⟩⟩) (fun β hβ => ?_)
    obtain ⟨a9, q9⟩ := (hβ 9 : BnP 3 (β 9))
    obtain ⟨a25, q25⟩ := (hβ 25 : BnP 5 (β 25))
    obtain ⟨a35, q35⟩ := (hβ 35 : BnP 2 (β 35))
    obtain ⟨a40, q40⟩ := (hβ 40 : BnP 1 (β 40))
    iterate 9 (
      refine lex_val (v := ?_) rfl rfl (fun w' hf => ?_) ?_
      rotate_left
      · obtain ⟨x0, x1, x2, x3, x10, x11, x27⟩ := HX.out w' hf.only; go_simp
        try rfl
      try simp only [Act.put, List.setIfInBounds_toArray, List.set_cons_zero, List.set_cons_succ])
    --#6
    refine lex_made rfl rfl (fun w' hf => ⟨.slice (some ⟨w'.heap.size, 0, none⟩) 3 3, w'.alloc (.cells #[.int .i64 (r + 1), .int .i64 (c + 1), .int .i64 (pg + 1)] 3), ?_, ⟨_, rfl⟩, ⟨_, rfl, hf.only.size, Blk.new _ _ _⟩, (Below.refl _ _).alloc (Nat.le_refl _) _⟩) ?_
    · go_simp
    try simp only [Act.put, List.setIfInBounds_toArray, List.set_cons_zero, List.set_cons_succ]
    rw [q9]
    refine lex_call (f := 33) (args := ?_) rfl rfl (fun w' hf => ?_) (fun w' hf => ?_) ?_
    rotate_left
    · go_simp
      try rfl
    · have h9 : BnF 3 3 #[.int .i64 (r + 1), .int .i64 (c + 1), .int .i64 (pg + 1)] w4.heap.size (β 9) w' := hf.got 9 _ _ rfl (by kernel_rfl)
      rw [q9] at h9
      obtain ⟨g9, e9, _, hB9⟩ := h9
      have e7 : a9 = g9 := by simpa using e9
      subst e7
      exact HF3.out _ w' (rints_blk hB9 _ rfl)
    try simp only [Act.put, List.setIfInBounds_toArray, List.set_cons_zero, List.set_cons_succ]
    --#7
    repeat (
      refine lex_val (v := ?_) rfl rfl (fun w' hf => ?_) ?_
      rotate_left
      · obtain ⟨x0, x1, x2, x3, x10, x11, x27⟩ := HX.out w' hf.only; go_simp
        try rfl
      try simp only [Act.put, List.setIfInBounds_toArray, List.set_cons_zero, List.set_cons_succ])
    refine lex_call (f := 31) (args := ?_) rfl rfl (fun w' hf => ?_) (fun w' hf => ?_) ?_
    rotate_left
    · obtain ⟨x0, x1, x2, x3, x10, x11, x27⟩ := HX.out w' hf.only; go_simp
      try rfl
    · obtain ⟨x0, x1, x2, x3, x10, x11, x27⟩ := HX.out w' hf.only; exact (HK.out w').mono (by rintro e w'' ⟨rfl, rfl⟩; exact ⟨rfl, Below.refl _ _⟩)
    try simp only [Act.put, List.setIfInBounds_toArray, List.set_cons_zero, List.set_cons_succ]
    repeat (
      refine lex_val (v := ?_) rfl rfl (fun w' hf => ?_) ?_
      rotate_left
      · obtain ⟨x0, x1, x2, x3, x10, x11, x27⟩ := HX.out w' hf.only; go_simp
        try rfl
      try simp only [Act.put, List.setIfInBounds_toArray, List.set_cons_zero, List.set_cons_succ])
    --#a
    refine lex_made rfl rfl (fun w' hf => ⟨.slice (some ⟨w'.heap.size, 0, none⟩) 5 5, w'.alloc (.cells #[.int .u8 (64 + rd), .int .u8 59, .int .u8 (64 + (kp.toNat : Int)), .int .u8 59, .int .u8 (64 + (fl : Int))] 5), ?_, ⟨_, rfl⟩, ⟨_, rfl, hf.only.size, Blk.new _ _ _⟩, (Below.refl _ _).alloc (Nat.le_refl _) _⟩) ?_
    · go_simp
    try simp only [Act.put, List.setIfInBounds_toArray, List.set_cons_zero, List.set_cons_succ]
    rw [q25]
    refine lex_val (v := .string fv) rfl rfl (fun w' hf => ?_) ?_
    · have h8 : BnF 5 5 #[.int .u8 (64 + rd), .int .u8 59, .int .u8 (64 + (kp.toNat : Int)), .int .u8 59, .int .u8 (64 + (fl : Int))] w4.heap.size (β 25) w' := hf.got 25 _ _ rfl (by kernel_rfl)
      rw [q25] at h8
      obtain ⟨g8, e8, _, hB8⟩ := h8
      have e7 : a25 = g8 := by simpa using e8
      have hcv := HFv.out w' a25 (by rw [e7]; exact hB8)
      clear e8 e7 hB8 hf
      go_simp
    try simp only [Act.put, List.setIfInBounds_toArray, List.set_cons_zero, List.set_cons_succ]
    --#b
    repeat (
      refine lex_val (v := ?_) rfl rfl (fun w' hf => ?_) ?_
      rotate_left
      · obtain ⟨x0, x1, x2, x3, x10, x11, x27⟩ := HX.out w' hf.only; go_simp
        try rfl
      try simp only [Act.put, List.setIfInBounds_toArray, List.set_cons_zero, List.set_cons_succ])
    refine lex_made rfl rfl (fun w' hf => ⟨.slice (some ⟨w'.heap.size, 0, none⟩) 2 2, w'.alloc (.cells #[.int .i64 l, .int .i64 rr] 3), ?_, ⟨_, rfl⟩, ⟨_, rfl, hf.only.size, Blk.new _ _ _⟩, (Below.refl _ _).alloc (Nat.le_refl _) _⟩) ?_
    · go_simp
    try simp only [Act.put, List.setIfInBounds_toArray, List.set_cons_zero, List.set_cons_succ]
    rw [q35]
    refine lex_call (f := 33) (args := ?_) rfl rfl (fun w' hf => ?_) (fun w' hf => ?_) ?_
    rotate_left
    · go_simp
      try rfl
    · have h9 : BnF 2 3 #[.int .i64 l, .int .i64 rr] w4.heap.size (β 35) w' := hf.got 35 _ _ rfl (by kernel_rfl)
      rw [q35] at h9
      obtain ⟨g9, e9, _, hB9⟩ := h9
      have e7 : a35 = g9 := by simpa using e9
      subst e7
      exact HF2.out _ w' (rints_blk hB9 _ rfl)
    try simp only [Act.put, List.setIfInBounds_toArray, List.set_cons_zero, List.set_cons_succ]
    repeat (
      refine lex_val (v := ?_) rfl rfl (fun w' hf => ?_) ?_
      rotate_left
      · go_simp
        try rfl
      try simp only [Act.put, List.setIfInBounds_toArray, List.set_cons_zero, List.set_cons_succ])
    --#c
    refine lex_made rfl rfl (fun w' hf => ⟨.slice (some ⟨w'.heap.size, 0, none⟩) 1 1, w'.alloc (.cells #[.int .u8 (sz : Int)] 5), ?_, ⟨_, rfl⟩, ⟨_, rfl, hf.only.size, Blk.new _ _ _⟩, (Below.refl _ _).alloc (Nat.le_refl _) _⟩) ?_
    · go_simp
    try simp only [Act.put, List.setIfInBounds_toArray, List.set_cons_zero, List.set_cons_succ]
    rw [q40]
    refine lex_val (v := .string s1) rfl rfl (fun w' hf => ?_) ?_
    · have h8 : BnF 1 5 #[.int .u8 (sz : Int)] w4.heap.size (β 40) w' := hf.got 40 _ _ rfl (by kernel_rfl)
      rw [q40] at h8
      obtain ⟨g8, e8, _, hB8⟩ := h8
      have e7 : a40 = g8 := by simpa using e8
      have hcv := HSz.out w' a40 (by rw [e7]; exact hB8.cell 0)
      clear e8 e7 hB8 hf
      go_simp
    try simp only [Act.put, List.setIfInBounds_toArray, List.set_cons_zero, List.set_cons_succ]
    repeat (
      refine lex_val (v := ?_) rfl rfl (fun w' hf => ?_) ?_
      rotate_left
      · go_simp
        try rfl
      try simp only [Act.put, List.setIfInBounds_toArray, List.set_cons_zero, List.set_cons_succ])
    refine lex_nil fun w5 he => ?_
    have hbe := Lib.hid (HK4.out.only he.only).bel
    clear he hβ HX HK4
    --#d
    go_wp2_with fail
    go_ret
    exact ⟨rfl, hbe.out⟩
  · clear hcase
    --#9
    go_wp2_with fail
    refine (HRp.out _).mono ?_
    rintro e w4 ⟨rfl, hb⟩
    have HK4 := Lib.hid (HK3.out.next hb)
    clear hb HK3 HRp e6 e7 e8 e9 e10 e11 e12
    go_upto_region 9 with fail
    have HX := Lib.hid (fun w' (h : Only [] w4 w') => And.intro (Blk.cell (h.blk HK4.out.b0 (by simp)) 0) (And.intro (Blk.cell (h.blk HK4.out.b0 (by simp)) 1) (And.intro (Blk.cell (h.blk HK4.out.b0 (by simp)) 2) (And.intro (Blk.cell (h.blk HK4.out.b0 (by simp)) 3) (And.intro (Blk.cell (h.blk HK4.out.b0 (by simp)) 10) (And.intro (Blk.cell (h.blk HK4.out.b0 (by simp)) 11) (Blk.cell (h.blk HK4.out.b1 (by simp)) 27)))))))
    --#5
    refine wp_region_mix_lit (by kernel_rfl) [(9, .letter (BnP 3) (BnF 3 3 #[.int .i64 (r + 1), .int .i64 (c + 1), .int .i64 (pg + 1)] w4.heap.size)), (10, .call (.string f3)), (19, .call (.int .i64 (kp.toNat : Int))), (25, .letter (BnP 5) (BnF 5 5 #[.int .u8 (64 + rd), .int .u8 59, .int .u8 (64 + (kp.toNat : Int)), .int .u8 59, .int .u8 (64 + (fl : Int))] w4.heap.size)), (35, .letter (BnP 2) (BnF 2 3 #[.int .i64 l, .int .i64 rr] w4.heap.size)), (36, .call (.string f2)), (40, .letter (BnP 1) (BnF 1 5 #[.int .u8 (sz : Int)] w4.heap.size))] (by kernel_rfl) (by kernel_rfl) (by kernel_rfl) (by rfl) (by simp [apartK] <;> omega) (by simp [startK]) (by simp only [List.forall_mem_cons]; exact ⟨bnF_stab _ _ _ _ _ (by simp [boxes, Kind.boxed]), trivial, trivial, bnF_stab _ _ _ _ _ (by simp [boxes, Kind.boxed]), bnF_stab _ _ _ _ _ (by simp [boxes, Kind.boxed]), trivial, bnF_stab _ _ _ _ _ (by simp [boxes, Kind.boxed]), by simp⟩) (⟨fun i => if i = 9 then .slice (some ⟨0, 0, none⟩) 3 3 else if i = 25 then .slice (some ⟨0, 0, none⟩) 5 5 else if i = 35 then .slice (some ⟨0, 0, none⟩) 2 2 else .slice (some ⟨0, 0, none⟩) 1 1, by simp only [List.forall_mem_cons]; exact ⟨⟨0, rfl⟩, trivial, trivial, ⟨0, rfl⟩, ⟨0, rfl⟩, trivial, ⟨0, rfl⟩, by simp⟩⟩) (fun β hβ => ?_)
    obtain ⟨a9, q9⟩ := (hβ 9 : BnP 3 (β 9))
    obtain ⟨a25, q25⟩ := (hβ 25 : BnP 5 (β 25))
    obtain ⟨a35, q35⟩ := (hβ 35 : BnP 2 (β 35))
    obtain ⟨a40, q40⟩ := (hβ 40 : BnP 1 (β 40))
    iterate 9 (
      refine lex_val (v := ?_) rfl rfl (fun w' hf => ?_) ?_
      rotate_left
      · obtain ⟨x0, x1, x2, x3, x10, x11, x27⟩ := HX.out w' hf.only; go_simp
        try rfl
      try simp only [Act.put, List.setIfInBounds_toArray, List.set_cons_zero, List.set_cons_succ])
    --#6
    refine lex_made rfl rfl (fun w' hf => ⟨.slice (some ⟨w'.heap.size, 0, none⟩) 3 3, w'.alloc (.cells #[.int .i64 (r + 1), .int .i64 (c + 1), .int .i64 (pg + 1)] 3), ?_, ⟨_, rfl⟩, ⟨_, rfl, hf.only.size, Blk.new _ _ _⟩, (Below.refl _ _).alloc (Nat.le_refl _) _⟩) ?_
    · go_simp
    try simp only [Act.put, List.setIfInBounds_toArray, List.set_cons_zero, List.set_cons_succ]
    rw [q9]
    refine lex_call (f := 33) (args := ?_) rfl rfl (fun w' hf => ?_) (fun w' hf => ?_) ?_
    rotate_left
    · go_simp
      try rfl
    · have h9 : BnF 3 3 #[.int .i64 (r + 1), .int .i64 (c + 1), .int .i64 (pg + 1)] w4.heap.size (β 9) w' := hf.got 9 _ _ rfl (by kernel_rfl)
      rw [q9] at h9
      obtain ⟨g9, e9, _, hB9⟩ := h9
      have e7 : a9 = g9 := by simpa using e9
      subst e7
      exact HF3.out _ w' (rints_blk hB9 _ rfl)
    try simp only [Act.put, List.setIfInBounds_toArray, List.set_cons_zero, List.set_cons_succ]
    --#7
    repeat (
      refine lex_val (v := ?_) rfl rfl (fun w' hf => ?_) ?_
      rotate_left
      · obtain ⟨x0, x1, x2, x3, x10, x11, x27⟩ := HX.out w' hf.only; go_simp
        try rfl
      try simp only [Act.put, List.setIfInBounds_toArray, List.set_cons_zero, List.set_cons_succ])
    refine lex_call (f := 31) (args := ?_) rfl rfl (fun w' hf => ?_) (fun w' hf => ?_) ?_
    rotate_left
    · obtain ⟨x0, x1, x2, x3, x10, x11, x27⟩ := HX.out w' hf.only; go_simp
      try rfl
    · obtain ⟨x0, x1, x2, x3, x10, x11, x27⟩ := HX.out w' hf.only; exact (HK.out w').mono (by rintro e w'' ⟨rfl, rfl⟩; exact ⟨rfl, Below.refl _ _⟩)
    try simp only [Act.put, List.setIfInBounds_toArray, List.set_cons_zero, List.set_cons_succ]
    repeat (
      refine lex_val (v := ?_) rfl rfl (fun w' hf => ?_) ?_
      rotate_left
      · obtain ⟨x0, x1, x2, x3, x10, x11, x27⟩ := HX.out w' hf.only; go_simp
        try rfl
      try simp only [Act.put, List.setIfInBounds_toArray, List.set_cons_zero, List.set_cons_succ])
    --#a
    refine lex_made rfl rfl (fun w' hf => ⟨.slice (some ⟨w'.heap.size, 0, none⟩) 5 5, w'.alloc (.cells #[.int .u8 (64 + rd), .int .u8 59, .int .u8 (64 + (kp.toNat : Int)), .int .u8 59, .int .u8 (64 + (fl : Int))] 5), ?_, ⟨_, rfl⟩, ⟨_, rfl, hf.only.size, Blk.new _ _ _⟩, (Below.refl _ _).alloc (Nat.le_refl _) _⟩) ?_
    · go_simp
    try simp only [Act.put, List.setIfInBounds_toArray, List.set_cons_zero, List.set_cons_succ]
    rw [q25]
    refine lex_val (v := .string fv) rfl rfl (fun w' hf => ?_) ?_
    · have h8 : BnF 5 5 #[.int .u8 (64 + rd), .int .u8 59, .int .u8 (64 + (kp.toNat : Int)), .int .u8 59, .int .u8 (64 + (fl : Int))] w4.heap.size (β 25) w' := hf.got 25 _ _ rfl (by kernel_rfl)
      rw [q25] at h8
      obtain ⟨g8, e8, _, hB8⟩ := h8
      have e7 : a25 = g8 := by simpa using e8
      have hcv := HFv.out w' a25 (by rw [e7]; exact hB8)
      clear e8 e7 hB8 hf
      go_simp
    try simp only [Act.put, List.setIfInBounds_toArray, List.set_cons_zero, List.set_cons_succ]
    --#b
    repeat (
      refine lex_val (v := ?_) rfl rfl (fun w' hf => ?_) ?_
      rotate_left
      · obtain ⟨x0, x1, x2, x3, x10, x11, x27⟩ := HX.out w' hf.only; go_simp
        try rfl
      try simp only [Act.put, List.setIfInBounds_toArray, List.set_cons_zero, List.set_cons_succ])
    refine lex_made rfl rfl (fun w' hf => ⟨.slice (some ⟨w'.heap.size, 0, none⟩) 2 2, w'.alloc (.cells #[.int .i64 l, .int .i64 rr] 3), ?_, ⟨_, rfl⟩, ⟨_, rfl, hf.only.size, Blk.new _ _ _⟩, (Below.refl _ _).alloc (Nat.le_refl _) _⟩) ?_
    · go_simp
    try simp only [Act.put, List.setIfInBounds_toArray, List.set_cons_zero, List.set_cons_succ]
    rw [q35]
    refine lex_call (f := 33) (args := ?_) rfl rfl (fun w' hf => ?_) (fun w' hf => ?_) ?_
    rotate_left
    · go_simp
      try rfl
    · have h9 : BnF 2 3 #[.int .i64 l, .int .i64 rr] w4.heap.size (β 35) w' := hf.got 35 _ _ rfl (by kernel_rfl)
      rw [q35] at h9
      obtain ⟨g9, e9, _, hB9⟩ := h9
      have e7 : a35 = g9 := by simpa using e9
      subst e7
      exact HF2.out _ w' (rints_blk hB9 _ rfl)
    try simp only [Act.put, List.setIfInBounds_toArray, List.set_cons_zero, List.set_cons_succ]
    repeat (
      refine lex_val (v := ?_) rfl rfl (fun w' hf => ?_) ?_
      rotate_left
      · go_simp
        try rfl
      try simp only [Act.put, List.setIfInBounds_toArray, List.set_cons_zero, List.set_cons_succ])
    --#c
    refine lex_made rfl rfl (fun w' hf => ⟨.slice (some ⟨w'.heap.size, 0, none⟩) 1 1, w'.alloc (.cells #[.int .u8 (sz : Int)] 5), ?_, ⟨_, rfl⟩, ⟨_, rfl, hf.only.size, Blk.new _ _ _⟩, (Below.refl _ _).alloc (Nat.le_refl _) _⟩) ?_
    · go_simp
    try simp only [Act.put, List.setIfInBounds_toArray, List.set_cons_zero, List.set_cons_succ]
    rw [q40]
    refine lex_val (v := .string s1) rfl rfl (fun w' hf => ?_) ?_
    · have h8 : BnF 1 5 #[.int .u8 (sz : Int)] w4.heap.size (β 40) w' := hf.got 40 _ _ rfl (by kernel_rfl)
      rw [q40] at h8
      obtain ⟨g8, e8, _, hB8⟩ := h8
      have e7 : a40 = g8 := by simpa using e8
      have hcv := HSz.out w' a40 (by rw [e7]; exact hB8.cell 0)
      clear e8 e7 hB8 hf
      go_simp
    try simp only [Act.put, List.setIfInBounds_toArray, List.set_cons_zero, List.set_cons_succ]
    repeat (
      refine lex_val (v := ?_) rfl rfl (fun w' hf => ?_) ?_
      rotate_left
      · go_simp
        try rfl
      try simp only [Act.put, List.setIfInBounds_toArray, List.set_cons_zero, List.set_cons_succ])
    refine lex_nil fun w5 he => ?_
    have hbe := Lib.hid (HK4.out.only he.only).bel
    clear he hβ HX HK4
    --#d
    go_wp2_with fail
    go_ret
    exact ⟨rfl, hbe.out⟩
end Go.Proofs.YtfnamfkjbkhgeaaGreatDoor

namespace Go.Proofs.YtfnamfkjbkhgeaaGreatDoor
open Go Go.RowKit

theorem fldB_size (s : ByteArray) : ∀ n b i, ∀ f ∈ fldB s n b i, f.size ≤ s.size
  | 0, _, _ => fun f hf => by unfold fldB at hf; cases hf
  | n + 1, b, i => fun f hf => by
    unfold fldB at hf
    split at hf
    · rcases List.mem_cons.1 hf with rfl | hf
      · rw [ByteArray.size_extract]; omega
      · exact fldB_size s n _ _ f hf
    · exact fldB_size s n _ _ f hf
def z9 : Array Value := #[.int .i64 0, .int .i64 0, .int .i64 0, .int .i64 0, .int .i64 0, .int .i64 0, .int .i64 0, .int .i64 0, .int .i64 0]
def ar9 (n : Nat → Int) : Array Value := #[.int .i64 (n 0), .int .i64 (n 1), .int .i64 (n 2), .int .i64 (n 3), .int .i64 (n 4), .int .i64 (n 5), .int .i64 (n 6), .int .i64 (n 7), .int .i64 (n 8)]
theorem ar9_at (n : Nat → Int) : ∀ k, k < 9 → (ar9 n)[k]? = some (.int .i64 (n k))
  | 0, _ => rfl | 1, _ => rfl | 2, _ => rfl | 3, _ => rfl | 4, _ => rfl | 5, _ => rfl | 6, _ => rfl | 7, _ => rfl | 8, _ => rfl
theorem dcOk_all (n : Nat → Int) (h : ∀ k, k < 9 → 0 ≤ n k) : dcOk n = true := by
  unfold dcOk
  simp only [Bool.and_eq_true, decide_eq_true_eq]
  exact ⟨h 0 (by omega), h 1 (by omega), h 2 (by omega), h 3 (by omega), h 4 (by omega), h 5 (by omega), h 6 (by omega), h 7 (by omega), h 8 (by omega)⟩
theorem dcOk_not (n : Nat → Int) (k : Nat) (hk : k < 9) (h : n k < 0) : dcOk n = false := by
  cases hd : dcOk n
  · rfl
  · unfold dcOk at hd
    simp only [Bool.and_eq_true, decide_eq_true_eq] at hd
    obtain ⟨o0, o1, o2, o3, o4, o5, o6, o7, o8⟩ := hd
    match k, hk with
    | 0, _ => omega | 1, _ => omega | 2, _ => omega | 3, _ => omega | 4, _ => omega | 5, _ => omega | 6, _ => omega | 7, _ => omega | 8, _ => omega
def dcV (p : Co × Bool) : Value := .tuple #[coV .i64 p.1, .bool p.2]
set_option maxRecDepth 100000 in
set_option maxHeartbeats 8000000 in
theorem refSetNo_any {x : Co} {H W it il ib ir : Int} (h : FrOk x.f H W it il ib ir) (hr0 : 0 ≤ x.K.rd) (hr1 : x.K.rd ≤ 255) (s : ByteArray) (hs : s.size ≤ 100000) (hno : (fldsR s).length ≠ 10) (w : World) :
    Calls Tryz.prog 12 #[coV .i64 x, .string s] w fun e w' => e = .returned (dcV (clnP x H W it il ib ir, false)) ∧ Below w.heap.size w w' := by
  have HCl := Lib.hid (fun V => refCleanC_any h hr0 hr1 V)
  have HFi := Lib.hid (fun V => refFields_any s (by omega) V)
  have hn1 : (((fldsR s).length : Int) != 10) = true := by simp; omega
  have hn2 : (((fldsR s).length : Int) = 10) = False := eq_false (by omega)
  have hn3 : (((fldsR s).length : Int) == 10) = false := beq_eq_false_iff_ne.2 (by omega)
  unfold dcV
  obtain ⟨y, hy⟩ : ∃ y, y = clnP x H W it il ib ir := ⟨_, rfl⟩
  rw [← hy] at HCl ⊢
  clear h hr0 hr1 hy hs hno
  generalize fldsR s = FL at *
  have hS1 := coS .i64 x; have hS2 := coS .i64 y; have hO2 := co_one .i64 y
  unfold coV at *
  generalize coC .i64 x = X at *
  generalize coC .i64 y = Y at *
  have HS := Lib.hid (Bs.start2' w 33 33 X (zO .i64))
  go_enter Tryz.func12, Tryz.ntmps12
  go_wp2_with (first | (refine wpList_load_row rfl _ _ rfl w.heap.size rfl _ X (0, 0) _ HS.out.b0 under_cr rfl (by rw [hS1]; exact info_cr) ?_))
  refine (HCl.out _).mono ?_
  rintro e w1 ⟨rfl, hb⟩
  have HK1 := Lib.hid (HS.out.next hb)
  clear hb
  --#1
  go_upto_region 2 with (refine wpList_store_row rfl _ _ _ rfl w.heap.size Y rfl rfl _ _ HK1.out.b0 (by rw [hS2]; exact info_cr) (by rw [hS1, hS2]) hO2 ?_)
  refine world_gen (fun V => Bs w [(w.heap.size, 33, Y), (w.heap.size + 1, 33, zO .i64)] V) (HK1.out.row Y) ?_
  intro w2 HV0
  replace HV0 := Lib.hid HV0
  clear HK1 HS HCl
  go_wp2_with fail
  refine (HFi.out _).mono ?_
  rintro e w3 ⟨v, rfl, hown, hb⟩
  obtain ⟨A, cp, rfl, _⟩ := hown.form
  have HK3 := Lib.hid (HV0.out.next hb)
  have HKf := Lib.hid (HK3.out.sw1.row Y)
  clear hb hown HFi HV0
  --#2
  go_upto_region 4 with fail
  go_step
  refine wpList_load_row rfl _ _ rfl w.heap.size rfl _ Y (0, 0) _ HK3.out.b0 under_cr rfl (by rw [hS2]; exact info_cr) ?_
  refine wpList_store_row rfl _ _ _ rfl (w.heap.size + 1) Y rfl rfl _ _ HK3.out.b1 (by rw [hS2]; exact info_cr) (by rw [hS2]; rfl) hO2 ?_
  repeat go_step
  refine bodyPost_ret (v := .tuple #[.agg Y, .bool false]) (results_row_tmp rfl _ _ (w.heap.size + 1) 33 Y (0, 0) _ (.bool false) rfl rfl HKf.out.b0 under_cr rfl (by rw [hS2]; exact info_cr)) rfl ⟨rfl, HKf.out.bel⟩
end Go.Proofs.YtfnamfkjbkhgeaaGreatDoor

namespace Go.Proofs.YtfnamfkjbkhgeaaGreatDoor
open Go Go.RowKit

theorem one7 (a b c d e f g : Int) : (#[Value.int .i64 a, Value.int .i64 b, Value.int .i64 c, Value.int .i64 d, Value.int .i64 e, Value.int .i64 f, Value.int .i64 g]).all (·.oneCell') = true := by kernel_rfl
theorem ar9_one (n : Nat → Int) : (ar9 n).all (·.oneCell') = true := by kernel_rfl
set_option maxRecDepth 100000 in
set_option maxHeartbeats 16000000 in
theorem refSetTen_any {x : Co} {H W it il ib ir : Int} (h : FrOk x.f H W it il ib ir) (hr0 : 0 ≤ x.K.rd) (hr1 : x.K.rd ≤ 255) (s : ByteArray) (hs : s.size ≤ 100000) (f0 f1 f2 f3 f4 f5 f6 f7 f8 f9 : ByteArray) (hfl : fldsR s = [f0, f1, f2, f3, f4, f5, f6, f7, f8, f9]) (w : World) :
    Calls Tryz.prog 12 #[coV .i64 x, .string s] w fun e w' => e = .returned (dcV (docP (clnP x H W it il ib ir) (dcN f0 f1 f2 f3 f4 f5 f6 f7 f8) f9)) ∧ Below w.heap.size w w' := by
  have HCl := Lib.hid (fun V => refCleanC_any h hr0 hr1 V)
  have HFi := Lib.hid (fun V => refFields_any s (by omega) V)
  have hsz : ∀ f ∈ fldsR s, f.size ≤ s.size := fldB_size s _ _ _
  rw [hfl] at HFi hsz
  have hfr := fr_clean h
  have hk := cl_ok h
  have hyf : clnP x H W it il ib ir = { clnP x H W it il ib ir with f := ⟨0, 0, H, W, it, il, ib, ir⟩ } := rfl
  obtain ⟨y, hy⟩ : ∃ y, y = clnP x H W it il ib ir := ⟨_, rfl⟩
  have hyc : ∀ z : Co, z.f = y.f → FrOk z.f y.f.pb y.f.pr y.f.mt y.f.ml y.f.mb y.f.mr := by
    intro z hz; rw [hz, hy]; exact hfr
  rw [← hy] at HCl hk ⊢
  clear h hr0 hr1 hfr hyf hy hfl
  have q9 : f9.size ≤ 100000 := by have := hsz f9 (by simp); omega
  have HN0 := Lib.hid (fun V => refNumber_any f0 (by have := hsz f0 (by simp); omega) V)
  have HN1 := Lib.hid (fun V => refNumber_any f1 (by have := hsz f1 (by simp); omega) V)
  have HN2 := Lib.hid (fun V => refNumber_any f2 (by have := hsz f2 (by simp); omega) V)
  have HN3 := Lib.hid (fun V => refFew_any f3 31 (by omega) V)
  have HN4 := Lib.hid (fun V => refFew_any f4 1 (by omega) V)
  have HN5 := Lib.hid (fun V => refFew_any f5 15 (by omega) V)
  have HN6 := Lib.hid (fun V => refNumber_any f6 (by have := hsz f6 (by simp); omega) V)
  have HN7 := Lib.hid (fun V => refNumber_any f7 (by have := hsz f7 (by simp); omega) V)
  have HN8 := Lib.hid (fun V => refFew_any f8 15 (by omega) V)
  clear hsz hs
  have m0 := ref_in f0; have m1 := ref_in f1; have m2 := ref_in f2; have m3 := bit_in f3 31 (by omega); have m4 := bit_in f4 1 (by omega); have m5 := bit_in f5 15 (by omega); have m6 := ref_in f6; have m7 := ref_in f7; have m8 := bit_in f8 15 (by omega)
  obtain ⟨n, hn⟩ : ∃ n, n = dcN f0 f1 f2 f3 f4 f5 f6 f7 f8 := ⟨_, rfl⟩
  rw [← hn]
  rw [show refNum f0 = n 0 from by rw [hn]; rfl] at HN0 m0
  rw [show refNum f1 = n 1 from by rw [hn]; rfl] at HN1 m1
  rw [show refNum f2 = n 2 from by rw [hn]; rfl] at HN2 m2
  rw [show refBit f3 31 = n 3 from by rw [hn]; rfl] at HN3 m3
  rw [show refBit f4 1 = n 4 from by rw [hn]; rfl] at HN4 m4
  rw [show refBit f5 15 = n 5 from by rw [hn]; rfl] at HN5 m5
  rw [show refNum f6 = n 6 from by rw [hn]; rfl] at HN6 m6
  rw [show refNum f7 = n 7 from by rw [hn]; rfl] at HN7 m7
  rw [show refBit f8 15 = n 8 from by rw [hn]; rfl] at HN8 m8
  clear hn
  obtain ⟨DP, hDP⟩ : ∃ DP, DP = docP y n f9 := ⟨_, rfl⟩
  rw [← hDP]
  have HD0 : Hid (dcOk n = false → dcV DP = .tuple #[coV .i64 y, .bool false]) := Lib.hid (fun h => by rw [hDP]; unfold docP; rw [h, Bool.false_and, if_neg (by decide)]; rfl)
  have HD1 : Hid (docOk y n f9 = false → dcV DP = .tuple #[coV .i64 y, .bool false]) := Lib.hid (fun h => by rw [hDP]; unfold docP; rw [h, Bool.and_false, if_neg (by decide)]; rfl)
  have HD2 : Hid (dcOk n = true → docOk y n f9 = true → dcV DP = .tuple #[coV .i64 (clnY y (docY y n (docR y n f9).1)), .bool true]) := Lib.hid (fun h1 h2 => by rw [hDP]; unfold docP; rw [h1, h2, if_pos (by decide)]; rfl)
  clear hDP
  generalize dcV DP = out at *
  have HLast : Hid (dcOk n = true → ∀ R V, Calls Tryz.prog 14 #[coV .i64 (docY y n R)] V fun e w' => e = .returned (coV .i64 (clnY y (docY y n R))) ∧ Below V.heap.size V w') := Lib.hid (fun h1 R V => by
    have h3 : 0 ≤ n 3 := by unfold dcOk at h1; simp only [Bool.and_eq_true, decide_eq_true_eq] at h1; exact h1.2.2.2.1
    exact refCleanC_any (x := docY y n R) (hyc _ rfl) h3 (by show n 3 ≤ 255; omega) V)
  have HRs := Lib.hid (fun (h : n 8 ≤ 15) V => isoRefRestore_any (isoY y) (n 6) (n 7) (64 + (n 8).toNat) (by omega) f9 q9 V)
  clear hyc q9
  have hS1 := coS .i64 x; have hS2 := coS .i64 y; have hO2 := co_one .i64 y
  have HF : Hid (∀ (k : Nat) f, [f0, f1, f2, f3, f4, f5, f6, f7, f8, f9][k]? = some f → True) := Lib.hid (fun _ _ _ => trivial)
  clear HF
  have hcx : Hid (coV .i64 x = .agg (coC .i64 x)) := Lib.hid rfl
  unfold coV at HCl HD0 HD1
  generalize coC .i64 x = X at *
  obtain ⟨Y, hY⟩ : ∃ Y, Y = coC .i64 y := ⟨_, rfl⟩
  rw [← hY] at HCl hS2 hO2 HD0 HD1
  replace hY := Lib.hid hY
  rw [hcx.out]
  clear hcx
  have HS := Lib.hid (Bs.start2' w 33 33 X (zO .i64))
  go_enter Tryz.func12, Tryz.ntmps12
  go_wp2_with (first | (refine wpList_load_row rfl _ _ rfl w.heap.size rfl _ X (0, 0) _ HS.out.b0 under_cr rfl (by rw [hS1]; exact info_cr) ?_))
  refine (HCl.out _).mono ?_
  rintro e w1 ⟨rfl, hb⟩
  have HK1 := Lib.hid (HS.out.next hb)
  clear hb
  --#1
  go_upto_region 2 with (refine wpList_store_row rfl _ _ _ rfl w.heap.size Y rfl rfl _ _ HK1.out.b0 (by rw [hS2]; exact info_cr) (by rw [hS1, hS2]) hO2 ?_)
  refine world_gen (fun V => Bs w [(w.heap.size, 33, Y), (w.heap.size + 1, 33, zO .i64)] V) (HK1.out.row Y) ?_
  intro w2 HV0
  replace HV0 := Lib.hid HV0
  clear HK1 HS HCl
  go_wp2_with fail
  refine (HFi.out _).mono ?_
  rintro e w3 ⟨v, rfl, hown, hb⟩
  obtain ⟨A, cp, rfl, _, hcl⟩ := hown.form
  obtain ⟨gl, rfl, hgl, hfc⟩ := hcl (by simp)
  have HK3 := Lib.hid (HV0.out.next hb)
  have HFc := Lib.hid (fun w' (h : Only [] w3 w') (k : Nat) f (hf : [f0, f1, f2, f3, f4, f5, f6, f7, f8, f9][k]? = some f) => (h.below0.cell (p := ⟨gl, 0 + k, none⟩) hgl).trans (hfc k f hf))
  clear hb hown HFi HV0 hcl hgl hfc
  --#2
  go_upto_region 5 with fail
  refine wp_region_mix_lit (by kernel_rfl) [(3, .call (.int .i64 (n 0))), (7, .call (.int .i64 (n 1))), (11, .call (.int .i64 (n 2))), (15, .call (.int .i64 (n 3))), (19, .call (.int .i64 (n 4))), (23, .call (.int .i64 (n 5))), (27, .call (.int .i64 (n 6))), (31, .call (.int .i64 (n 7))), (35, .call (.int .i64 (n 8))), (37, .alloc 38 84 z9 (fun _ => ar9 n)), (38, .init 37)] (by kernel_rfl) (by kernel_rfl) (by kernel_rfl) (by rfl) (by simp [apartK] <;> omega) (by simp [startK]) (by simp [stabK]) (⟨fun i => .pointer (some ⟨w3.heap.size, 0, none⟩), by simp only [List.forall_mem_cons]; exact ⟨trivial, trivial, trivial, trivial, trivial, trivial, trivial, trivial, trivial, ⟨_, rfl, Nat.le_refl _⟩, trivial, by simp⟩⟩) (fun β hβ => ?_)
  --#3
  iterate 3 (
    refine lex_val (v := ?_) rfl rfl (fun w' hf => ?_) ?_
    rotate_left
    · have hh := HFc.out w' hf.only 0 f0 rfl; go_simp
      try rfl
    try simp only [Act.put, List.setIfInBounds_toArray, List.set_cons_zero, List.set_cons_succ])
  refine lex_call (f := 38) (args := ?_) rfl rfl (fun w' hf => ?_) (fun w' hf => ?_) ?_
  rotate_left
  · skip; go_simp
    try rfl
  · skip; exact HN0.out w'
  try simp only [Act.put, List.setIfInBounds_toArray, List.set_cons_zero, List.set_cons_succ]
  iterate 3 (
    refine lex_val (v := ?_) rfl rfl (fun w' hf => ?_) ?_
    rotate_left
    · have hh := HFc.out w' hf.only 1 f1 rfl; go_simp
      try rfl
    try simp only [Act.put, List.setIfInBounds_toArray, List.set_cons_zero, List.set_cons_succ])
  refine lex_call (f := 38) (args := ?_) rfl rfl (fun w' hf => ?_) (fun w' hf => ?_) ?_
  rotate_left
  · skip; go_simp
    try rfl
  · skip; exact HN1.out w'
  try simp only [Act.put, List.setIfInBounds_toArray, List.set_cons_zero, List.set_cons_succ]
  iterate 3 (
    refine lex_val (v := ?_) rfl rfl (fun w' hf => ?_) ?_
    rotate_left
    · have hh := HFc.out w' hf.only 2 f2 rfl; go_simp
      try rfl
    try simp only [Act.put, List.setIfInBounds_toArray, List.set_cons_zero, List.set_cons_succ])
  refine lex_call (f := 38) (args := ?_) rfl rfl (fun w' hf => ?_) (fun w' hf => ?_) ?_
  rotate_left
  · skip; go_simp
    try rfl
  · skip; exact HN2.out w'
  try simp only [Act.put, List.setIfInBounds_toArray, List.set_cons_zero, List.set_cons_succ]
  iterate 3 (
    refine lex_val (v := ?_) rfl rfl (fun w' hf => ?_) ?_
    rotate_left
    · have hh := HFc.out w' hf.only 3 f3 rfl; go_simp
      try rfl
    try simp only [Act.put, List.setIfInBounds_toArray, List.set_cons_zero, List.set_cons_succ])
  refine lex_call (f := 39) (args := ?_) rfl rfl (fun w' hf => ?_) (fun w' hf => ?_) ?_
  rotate_left
  · skip; go_simp
    try rfl
  · skip; exact (HN3.out w').mono (by rintro e w'' ⟨rfl, rfl⟩; exact ⟨rfl, Below.refl _ _⟩)
  try simp only [Act.put, List.setIfInBounds_toArray, List.set_cons_zero, List.set_cons_succ]
  iterate 3 (
    refine lex_val (v := ?_) rfl rfl (fun w' hf => ?_) ?_
    rotate_left
    · have hh := HFc.out w' hf.only 4 f4 rfl; go_simp
      try rfl
    try simp only [Act.put, List.setIfInBounds_toArray, List.set_cons_zero, List.set_cons_succ])
  refine lex_call (f := 39) (args := ?_) rfl rfl (fun w' hf => ?_) (fun w' hf => ?_) ?_
  rotate_left
  · skip; go_simp
    try rfl
  · skip; exact (HN4.out w').mono (by rintro e w'' ⟨rfl, rfl⟩; exact ⟨rfl, Below.refl _ _⟩)
  try simp only [Act.put, List.setIfInBounds_toArray, List.set_cons_zero, List.set_cons_succ]
  iterate 3 (
    refine lex_val (v := ?_) rfl rfl (fun w' hf => ?_) ?_
    rotate_left
    · have hh := HFc.out w' hf.only 5 f5 rfl; go_simp
      try rfl
    try simp only [Act.put, List.setIfInBounds_toArray, List.set_cons_zero, List.set_cons_succ])
  refine lex_call (f := 39) (args := ?_) rfl rfl (fun w' hf => ?_) (fun w' hf => ?_) ?_
  rotate_left
  · skip; go_simp
    try rfl
  · skip; exact (HN5.out w').mono (by rintro e w'' ⟨rfl, rfl⟩; exact ⟨rfl, Below.refl _ _⟩)
  try simp only [Act.put, List.setIfInBounds_toArray, List.set_cons_zero, List.set_cons_succ]
  iterate 3 (
    refine lex_val (v := ?_) rfl rfl (fun w' hf => ?_) ?_
    rotate_left
    · have hh := HFc.out w' hf.only 6 f6 rfl; go_simp
      try rfl
    try simp only [Act.put, List.setIfInBounds_toArray, List.set_cons_zero, List.set_cons_succ])
  refine lex_call (f := 38) (args := ?_) rfl rfl (fun w' hf => ?_) (fun w' hf => ?_) ?_
  rotate_left
  · skip; go_simp
    try rfl
  · skip; exact HN6.out w'
  try simp only [Act.put, List.setIfInBounds_toArray, List.set_cons_zero, List.set_cons_succ]
  iterate 3 (
    refine lex_val (v := ?_) rfl rfl (fun w' hf => ?_) ?_
    rotate_left
    · have hh := HFc.out w' hf.only 7 f7 rfl; go_simp
      try rfl
    try simp only [Act.put, List.setIfInBounds_toArray, List.set_cons_zero, List.set_cons_succ])
  refine lex_call (f := 38) (args := ?_) rfl rfl (fun w' hf => ?_) (fun w' hf => ?_) ?_
  rotate_left
  · skip; go_simp
    try rfl
  · skip; exact HN7.out w'
  try simp only [Act.put, List.setIfInBounds_toArray, List.set_cons_zero, List.set_cons_succ]
  iterate 3 (
    refine lex_val (v := ?_) rfl rfl (fun w' hf => ?_) ?_
    rotate_left
    · have hh := HFc.out w' hf.only 8 f8 rfl; go_simp
      try rfl
    try simp only [Act.put, List.setIfInBounds_toArray, List.set_cons_zero, List.set_cons_succ])
  refine lex_call (f := 39) (args := ?_) rfl rfl (fun w' hf => ?_) (fun w' hf => ?_) ?_
  rotate_left
  · skip; go_simp
    try rfl
  · skip; exact (HN8.out w').mono (by rintro e w'' ⟨rfl, rfl⟩; exact ⟨rfl, Below.refl _ _⟩)
  try simp only [Act.put, List.setIfInBounds_toArray, List.set_cons_zero, List.set_cons_succ]
  --#4
  refine lex_val (v := .agg (ar9 n)) rfl rfl (fun w' hf => ?_) ?_
  · unfold ar9
    go_simp
    try rfl
  try simp only [Act.put, List.setIfInBounds_toArray, List.set_cons_zero, List.set_cons_succ]
  refine lex_alloc rfl rfl (fun w' => ?_) ?_
  · unfold z9
    go_simp
    try rfl
  try simp only [Act.put, List.setIfInBounds_toArray, List.set_cons_zero, List.set_cons_succ]
  refine lex_init rfl rfl rfl (fun bl w' hb hf hB => ⟨_, exec_store_row 84 (.tmp 7) (.tmp 56) rfl hb rfl hB (by kernel_rfl) rfl (ar9_one n), row_repl hB _⟩) ?_
  try simp only [Act.put]
  refine lex_nil fun w4 he => ?_
  --#5
  obtain ⟨b9, hb9, hge, hB9⟩ := he.facts 37
  have HK4 := Lib.hid (Bs.made HK3.out he.only hge hB9)
  have hc9 : Hid (w4.cell? ⟨gl, 9, none⟩ = some (.string f9)) := Lib.hid (by simpa using HFc.out w4 he.only 9 f9 rfl)
  have hgw : Hid (gl < w4.heap.size) := Lib.hid (by
    have h := hc9.out
    rcases Nat.lt_or_ge gl w4.heap.size with h0 | h0
    · exact h0
    · exfalso
      have : w4.heap[gl]? = none := Array.getElem?_eq_none h0
      simp [World.cell?, this] at h)
  rw [hb9]
  clear hb9 he hβ HFc HN0 HN1 HN2 HN3 HN4 HN5 HN6 HN7 HN8 hge hB9
  --#6
  go_wp2_with fail
  go_loopw [8] (fun i wr => ∃ k : Nat, k ≤ 9 ∧ i = .int .i64 k ∧ w4 = wr ∧ (∀ j, j < k → 0 ≤ n j)) (fun i _ => 9 - (intOf i).toNat)
  case atStart => exact ⟨0, by omega, rfl, rfl, fun j hj => absurd hj (by omega)⟩
  case round =>
    obtain ⟨k, hk9, rfl, rfl, hall⟩ := hrel
    by_cases hlt : k < 9
    · have hcell : w4.cell? ⟨b9, k, none⟩ = some (.int .i64 (n k)) := (Blk.cell HK4.out.b0 k).trans (ar9_at n k hlt)
      by_cases hneg : n k < 0
      · have g : (n k < 0) = True := eq_true hneg
        have ho := Lib.hid (HD0.out (dcOk_not n k hlt hneg))
        have HKf := Lib.hid ((HK4.out.tl.sw1).row Y)
        clear HD0 HD1 HD2 HLast HRs m0 m1 m2 m3 m4 m5 m6 m7 m8 hall hneg hc9 hgw
        --#7
        go_upto_region 10 with fail
        go_step
        refine wpList_load_row rfl _ _ rfl w.heap.size rfl _ Y (0, 0) _ HK4.out.b1 under_cr rfl (by rw [hS2]; exact info_cr) ?_
        refine wpList_store_row rfl _ _ _ rfl (w.heap.size + 1) Y rfl rfl _ _ HK4.out.b2 (by rw [hS2]; exact info_cr) (by rw [hS2]; rfl) hO2 ?_
        repeat go_step
        refine bodyPost_ret (v := .tuple #[.agg Y, .bool false]) (results_row_tmp rfl _ _ (w.heap.size + 1) 33 Y (0, 0) _ (.bool false) rfl rfl HKf.out.b0 under_cr rfl (by rw [hS2]; exact info_cr)) rfl ⟨by rw [ho.out], HKf.out.bel⟩
      · have g : (n k < 0) = False := eq_false hneg
        have hall2 : Hid (∀ j, j < k + 1 → 0 ≤ n j) := Lib.hid (fun j hj => by
          rcases Nat.lt_or_ge j k with h | h
          · exact hall j h
          · obtain rfl : j = k := by omega
            omega)
        have hwk : IntKind.i64.wrap ((k : Int) + 1) = (k : Int) + 1 := IntWalk.i64_in _ (by omega)
        clear HD0 HD1 HD2 HLast HRs m0 m1 m2 m3 m4 m5 m6 m7 m8 hall hneg hc9 hgw
        --#8
        go_wp2_with fail
        go_roundw
        case rel => exact ⟨k + 1, by omega, by go_num, by first | rfl | trivial, hall2.out⟩
        case measure => simp [intOf]; omega
    · obtain rfl : k = 9 := by omega
      have hok := dcOk_all n hall
      have p0 := hall 0 (by omega); have p1 := hall 1 (by omega); have p2 := hall 2 (by omega); have p3 := hall 3 (by omega); have p4 := hall 4 (by omega); have p5 := hall 5 (by omega); have p8 := hall 8 (by omega)
      replace HD2 := Lib.hid (HD2.out hok); replace HLast := Lib.hid (HLast.out hok); replace HRs := Lib.hid (HRs.out (by omega))
      have hdo : Hid (docOk y n f9 = ((docR y n f9).2 && !((n 5).toNat / 2 % 4 == 3))) := Lib.hid rfl
      have hdr : restP (isoY y) (n 6) (n 7) (64 + (n 8).toNat) f9 = docR y n f9 := rfl
      rw [hdr] at HRs
      clear hdr
      obtain ⟨q8, hq8⟩ : ∃ q, q = 64 + (n 8).toNat := ⟨_, rfl⟩
      rw [← hq8] at HRs
      obtain ⟨P, hP⟩ : ∃ P, P = docR y n f9 := ⟨_, rfl⟩
      rw [← hP] at HRs HD2 hdo
      clear hP
      obtain ⟨⟨ra, rb, rc, rd', rl, rq, rs⟩, okr⟩ := P
      unfold desV isoY Iso.val Iso.cs at HRs
      simp only at hdo HRs HD2
      have w8 : IntKind.i64.wrap (64 + n 8) = 64 + n 8 := IntWalk.i64_in _ (by omega)
      have w8' : IntKind.u8.wrap (64 + n 8) = (q8 : Int) := (IntWalk.u8_in _ (by omega)).trans (by omega)
      clear hq8
      have HX : Hid (∀ w', Only [] w4 w' → w'.cell? ⟨b9, 6, none⟩ = some (.int .i64 (n 6)) ∧ w'.cell? ⟨b9, 7, none⟩ = some (.int .i64 (n 7)) ∧ w'.cell? ⟨b9, 8, none⟩ = some (.int .i64 (n 8))) := Lib.hid (fun w' h => ⟨Blk.cell (h.blk HK4.out.b0 (by simp)) 6, Blk.cell (h.blk HK4.out.b0 (by simp)) 7, Blk.cell (h.blk HK4.out.b0 (by simp)) 8⟩)
      have HZ : Hid (∀ w', Only [] w4 w' → Blk w' w.heap.size 33 (coC .i64 y)) := Lib.hid (fun w' h => by have := h.blk HK4.out.b1 (by simp); rw [hY.out] at this; exact this)
      have HY7 : Hid (∀ w', Only [] w4 w' → w'.cell? ⟨w.heap.size, 6, none⟩ = some (.int .i64 y.K.a) ∧ w'.cell? ⟨w.heap.size, 7, none⟩ = some (.int .i64 y.K.b) ∧ w'.cell? ⟨w.heap.size, 8, none⟩ = some (.int .i64 y.K.c) ∧ w'.cell? ⟨w.heap.size, 9, none⟩ = some (.int .i64 y.K.d) ∧ w'.cell? ⟨w.heap.size, 10, none⟩ = some (.int .i64 y.K.l) ∧ w'.cell? ⟨w.heap.size, 11, none⟩ = some (.int .i64 y.K.r) ∧ w'.cell? ⟨w.heap.size, 12, none⟩ = some (.int .i64 y.K.s)) := Lib.hid (fun w' h => ⟨Blk.cell (HZ.out w' h) 6, Blk.cell (HZ.out w' h) 7, Blk.cell (HZ.out w' h) 8, Blk.cell (HZ.out w' h) 9, Blk.cell (HZ.out w' h) 10, Blk.cell (HZ.out w' h) 11, Blk.cell (HZ.out w' h) 12⟩)
      have HC9 := Lib.hid (fun w' (h : Only [] w4 w') => (h.below0.cell (p := ⟨gl, 9, none⟩) hgw.out).trans hc9.out)
      clear hc9 HZ hall hok hgw
      --#9
      go_upto_region 11 with fail
      refine wp_region_mix_lit (by kernel_rfl) [(14, .call (.tuple #[.agg #[.int .i64 ra, .int .i64 rb, .int .i64 rc, .int .i64 rd', .int .i64 rl, .int .i64 rq, .int .i64 rs], .bool okr])), (18, .alloc 19 25 #[.int .i64 0, .int .i64 0, .int .i64 0, .int .i64 0, .int .i64 0, .int .i64 0, .int .i64 0] (fun _ => #[.int .i64 ra, .int .i64 rb, .int .i64 rc, .int .i64 rd', .int .i64 rl, .int .i64 rq, .int .i64 rs])), (19, .init 18)] (by kernel_rfl) (by kernel_rfl) (by kernel_rfl) (by rfl) (by simp [apartK] <;> omega) (by simp [startK]) (by simp [stabK]) (⟨fun i => .pointer (some ⟨w4.heap.size, 0, none⟩), by simp only [List.forall_mem_cons]; exact ⟨trivial, ⟨_, rfl, Nat.le_refl _⟩, trivial, by simp⟩⟩) (fun β hβ => ?_)
      --#a
      iterate 2 (
        refine lex_val (v := ?_) rfl rfl (fun w' hf => ?_) ?_
        rotate_left
        · skip; go_simp
          try rfl
        try simp only [Act.put, List.setIfInBounds_toArray, List.set_cons_zero, List.set_cons_succ])
      --#a1
      iterate 1 (
        refine lex_val (v := ?_) rfl rfl (fun w' hf => ?_) ?_
        rotate_left
        · obtain ⟨u6, u7, u8, u9, u10, u11, u12⟩ := HY7.out w' hf.only; go_simp
          try rfl
        try simp only [Act.put, List.setIfInBounds_toArray, List.set_cons_zero, List.set_cons_succ])
      --#a2
      iterate 6 (
        refine lex_val (v := ?_) rfl rfl (fun w' hf => ?_) ?_
        rotate_left
        · obtain ⟨x6, x7, x8⟩ := HX.out w' hf.only; go_simp
          try rfl
        try simp only [Act.put, List.setIfInBounds_toArray, List.set_cons_zero, List.set_cons_succ])
      --#a3
      iterate 2 (
        refine lex_val (v := ?_) rfl rfl (fun w' hf => ?_) ?_
        rotate_left
        · skip; go_simp
          try rfl
        try simp only [Act.put, List.setIfInBounds_toArray, List.set_cons_zero, List.set_cons_succ])
      --#a4
      iterate 3 (
        refine lex_val (v := ?_) rfl rfl (fun w' hf => ?_) ?_
        rotate_left
        · have hh := HC9.out w' hf.only; go_simp
          try rfl
        try simp only [Act.put, List.setIfInBounds_toArray, List.set_cons_zero, List.set_cons_succ])
      --#a5
      refine lex_call (f := 40) (args := ?_) rfl rfl (fun w' hf => ?_) (fun w' hf => ?_) ?_
      rotate_left
      · skip; go_simp
        try rfl
      · skip; exact HRs.out w'
      try simp only [Act.put, List.setIfInBounds_toArray, List.set_cons_zero, List.set_cons_succ]
      --#b1
      iterate 3 (
        refine lex_val (v := ?_) rfl rfl (fun w' hf => ?_) ?_
        rotate_left
        · skip; go_simp
          try rfl
        try simp only [Act.put, List.setIfInBounds_toArray, List.set_cons_zero, List.set_cons_succ])
      --#b2
      refine lex_alloc rfl rfl (fun w' => ?_) ?_
      · go_simp
      try simp only [Act.put, List.setIfInBounds_toArray, List.set_cons_zero, List.set_cons_succ]
      --#b
      refine lex_init rfl rfl rfl (fun bl w' hb hf hB => ⟨_, exec_store_row 25 (.tmp 9) (.tmp 82) rfl hb rfl hB (by kernel_rfl) rfl (one7 ra rb rc rd' rl rq rs), row_repl hB _⟩) ?_
      try simp only [Act.put]
      repeat (
        refine lex_val (v := ?_) rfl rfl (fun w' hf => ?_) ?_
        rotate_left
        · go_simp
          try rfl
        try simp only [Act.put, List.setIfInBounds_toArray, List.set_cons_zero, List.set_cons_succ])
      refine lex_nil fun w5 he => ?_
      obtain ⟨ba, hba, hge, hBa⟩ := he.facts 18
      have HK5 : Hid (Bs w [(ba, 25, #[.int .i64 ra, .int .i64 rb, .int .i64 rc, .int .i64 rd', .int .i64 rl, .int .i64 rq, .int .i64 rs]), (b9, 84, ar9 n), (w.heap.size, 33, Y), (w.heap.size + 1, 33, zO .i64)] w5) := Lib.hid (Bs.made HK4.out he.only hge hBa)
      rw [hba]
      clear hba he hβ HX HY7 HC9 HRs hge hBa HK4 w8 w8'
      --#c
      have k5 : w5.cell? ⟨b9, 5, none⟩ = some (.int .i64 (n 5)) := Blk.cell HK5.out.b1 5
      obtain ⟨q2, hq2⟩ : ∃ q, q = (n 5).toNat / 2 := ⟨_, rfl⟩
      obtain ⟨sg, hsg⟩ : ∃ q, q = q2 % 4 := ⟨_, rfl⟩
      have t1 : (n 5).tdiv 2 = (q2 : Int) := by rw [Int.tdiv_eq_ediv_of_nonneg p5]; omega
      have t2 : IntKind.i64.wrap (q2 : Int) = (q2 : Int) := IntWalk.i64_in _ (by omega)
      have t3 : (q2 : Int).tmod 4 = (sg : Int) := by rw [Int.tmod_eq_emod_of_nonneg (by omega)]; omega
      have t4 : IntKind.i64.wrap (sg : Int) = (sg : Int) := IntWalk.i64_in _ (by omega)
      have hds : docS (n 5) = if 0 < sg then (sg : Int) + 1 else 0 := by rw [hsg, hq2]; rfl
      have hs4 : sg < 4 := by rw [hsg]; exact Nat.mod_lt _ (by omega)
      rw [← hq2, ← hsg] at hdo
      clear hsg hq2
      go_upto_region 13 with fail
      clear t1 t2 t3 t4
      cases okr with
      | false =>
        have ho := Lib.hid (HD1.out (by rw [hdo.out]; rfl))
        have HKf := Lib.hid ((HK5.out.tl.tl.sw1).row Y)
        clear HD0 HD1 HD2 HLast hds hdo m0 m1 m2 m3 m4 m5 m6 m7 m8 p0 p1 p2 p3 p4 p5 p8
        --#d
        go_upto_region 14 with fail
        go_step
        refine wpList_load_row rfl _ _ rfl w.heap.size rfl _ Y (0, 0) _ HK5.out.b2 under_cr rfl (by rw [hS2]; exact info_cr) ?_
        refine wpList_store_row rfl _ _ _ rfl (w.heap.size + 1) Y rfl rfl _ _ HK5.out.b3 (by rw [hS2]; exact info_cr) (by rw [hS2]; rfl) hO2 ?_
        repeat go_step
        refine bodyPost_ret (v := .tuple #[.agg Y, .bool false]) (results_row_tmp rfl _ _ (w.heap.size + 1) 33 Y (0, 0) _ (.bool false) rfl rfl HKf.out.b0 under_cr rfl (by rw [hS2]; exact info_cr)) rfl ⟨by rw [ho.out], HKf.out.bel⟩
      | true =>
        by_cases h3 : sg = 3
        · have ho := Lib.hid (HD1.out (by rw [hdo.out, h3]; rfl))
          have g3 : (((sg : Nat) : Int) = 3) = True := eq_true (by omega)
          have g3b : (((sg : Nat) : Int) == 3) = true := beq_iff_eq.2 (by omega)
          clear h3 hs4
          have HKf := Lib.hid ((HK5.out.tl.tl.sw1).row Y)
          clear HD0 HD1 HD2 HLast hds hdo m0 m1 m2 m3 m4 m5 m6 m7 m8 p0 p1 p2 p3 p4 p5 p8
          --#e
          go_upto_region 14 with fail
          go_step
          refine wpList_load_row rfl _ _ rfl w.heap.size rfl _ Y (0, 0) _ HK5.out.b2 under_cr rfl (by rw [hS2]; exact info_cr) ?_
          refine wpList_store_row rfl _ _ _ rfl (w.heap.size + 1) Y rfl rfl _ _ HK5.out.b3 (by rw [hS2]; exact info_cr) (by rw [hS2]; rfl) hO2 ?_
          repeat go_step
          refine bodyPost_ret (v := .tuple #[.agg Y, .bool false]) (results_row_tmp rfl _ _ (w.heap.size + 1) 33 Y (0, 0) _ (.bool false) rfl rfl HKf.out.b0 under_cr rfl (by rw [hS2]; exact info_cr)) rfl ⟨by rw [ho.out], HKf.out.bel⟩
        · have ho := Lib.hid (HD2.out (by rw [hdo.out]; simp [h3]))
          have g3 : (((sg : Nat) : Int) = 3) = False := eq_false (by omega)
          have g3b : (((sg : Nat) : Int) == 3) = false := beq_eq_false_iff_ne.2 (by omega)
          have e0 : IntKind.i64.wrap (n 0 - 1) = n 0 - 1 := IntWalk.i64_in _ (by omega)
          have e1 : IntKind.i64.wrap (n 1 - 1) = n 1 - 1 := IntWalk.i64_in _ (by omega)
          have e2 : IntKind.i64.wrap (n 2 - 1) = n 2 - 1 := IntWalk.i64_in _ (by omega)
          have e3 : IntKind.u8.wrap (n 3) = n 3 := IntWalk.u8_in _ (by omega)
          have e5 : IntKind.i64.wrap ((n 5).tmod 2) = (n 5).tmod 2 := IntWalk.i64_in _ (by rw [Int.tmod_eq_emod_of_nonneg p5]; omega)
          have e7 : IntKind.i64.wrap ((sg : Int) + 1) = (sg : Int) + 1 := IntWalk.i64_in _ (by omega)
          have j0 : w5.cell? ⟨b9, 0, none⟩ = some (.int .i64 (n 0)) := Blk.cell HK5.out.b1 0
          have HZ : Hid (Blk w5 w.heap.size 33 (coC .i64 y)) := Lib.hid (by have := HK5.out.b2; rw [hY.out] at this; exact this)
          clear HD0 HD1 HD2 hdo m0 m1 m2 m3 m4 m5 m6 m7 m8 p0 p1 p2 p3 p4 p5 p8 h3 hs4 j0
          --#f
          have hfz : w5.frozen? ⟨ba, 6, none⟩ = false := HK5.out.b0.frozen 6
          have hcz : w5.cell? ⟨ba, 6, none⟩ = some (.int .i64 rs) := Blk.cell HK5.out.b0 6
          obtain ⟨ds, hdse⟩ : ∃ ds, ds = docS (n 5) := ⟨_, rfl⟩
          have HDY : Hid (∀ u, coC .i64 (docY y n ⟨ra, rb, rc, rd', rl, rq, u⟩) = #[.int .i64 (n 0 - 1), .int .i64 (n 1 - 1), .int .u8 (n 3), .bool (n 4 == 1), .bool (decide (8 ≤ n 5)), .bool ((n 5).tmod 2 == 1), .int .i64 ra, .int .i64 rb, .int .i64 rc, .int .i64 rd', .int .i64 rl, .int .i64 rq, .int .i64 (docS (n 5)), .int .i64 y.f.pt, .int .i64 y.f.pl, .int .i64 y.f.pb, .int .i64 y.f.pr, .int .i64 y.f.mt, .int .i64 y.f.ml, .int .i64 y.f.mb, .int .i64 y.f.mr, .int .i64 y.m, .int .i64 y.lv, .bool y.eg, .bool y.st, .int .i64 y.su, .bool y.bl, .int .i64 (n 2 - 1), .int .i64 y.ps]) := Lib.hid (fun u => rfl)
          have HYs : Hid (Y = #[.int .i64 y.r, .int .i64 y.c, .int .u8 y.K.rd, .bool y.K.kp, .bool y.wp, .bool y.K.og, .int .i64 y.K.a, .int .i64 y.K.b, .int .i64 y.K.c, .int .i64 y.K.d, .int .i64 y.K.l, .int .i64 y.K.r, .int .i64 y.K.s, .int .i64 y.f.pt, .int .i64 y.f.pl, .int .i64 y.f.pb, .int .i64 y.f.pr, .int .i64 y.f.mt, .int .i64 y.f.ml, .int .i64 y.f.mb, .int .i64 y.f.mr, .int .i64 y.m, .int .i64 y.lv, .bool y.eg, .bool y.st, .int .i64 y.su, .bool y.bl, .int .i64 y.pg, .int .i64 y.ps]) := Lib.hid (hY.out.trans rfl)
          have HLs := Lib.hid (HLast.out ⟨ra, rb, rc, rd', rl, rq, rs⟩)
          have hzD := coS .i64 (docY y n ⟨ra, rb, rc, rd', rl, rq, rs⟩)
          have hzC := coS .i64 (clnY y (docY y n ⟨ra, rb, rc, rd', rl, rq, rs⟩))
          have hzO := co_one .i64 (clnY y (docY y n ⟨ra, rb, rc, rd', rl, rq, rs⟩))
          unfold coV at HLs ho
          have HDz := Lib.hid (HDY.out rs)
          generalize coC .i64 (docY y n ⟨ra, rb, rc, rd', rl, rq, rs⟩) = YD at *
          generalize coC .i64 (clnY y (docY y n ⟨ra, rb, rc, rd', rl, rq, rs⟩)) = YC at *
          rw [← hdse] at HDz hds
          clear hdse HLast HDY HZ
          have key : ∀ wx, Bs w [(ba, 25, #[.int .i64 ra, .int .i64 rb, .int .i64 rc, .int .i64 rd', .int .i64 rl, .int .i64 rq, .int .i64 ds]), (b9, 84, ar9 n), (w.heap.size, 33, Y), (w.heap.size + 1, 33, zO .i64)] wx → Hid True := fun _ _ => Lib.hid trivial
          clear key
          rcases Nat.eq_zero_or_pos sg with h0 | h0
          rotate_left
          · have g1 : ((0 : Int) < (sg : Int)) = True := eq_true (by omega)
            have g1n : (0 < sg) = True := eq_true h0
            have g1b : decide (0 < sg) = true := decide_eq_true h0
            rw [if_pos h0] at hds
            have e8 : Hid ((sg : Int) + 1 = ds) := Lib.hid hds.symm
            clear hds h0
            --#g
            go_upto_region 18 with fail
            --#g1
            refine world_gen (fun V => Bs w [(w.heap.size, 33, Y), (ba, 25, #[.int .i64 ra, .int .i64 rb, .int .i64 rc, .int .i64 rd', .int .i64 rl, .int .i64 rq, .int .i64 ds]), (b9, 84, ar9 n), (w.heap.size + 1, 33, zO .i64)] V) (by rw [← e8.out]; have HH := ((HK5.out.s0 6 (.int .i64 0)).s0 6 (.int .i64 ((sg : Int) + 1))).sw2; simp only [List.setIfInBounds_toArray, List.set_cons_zero, List.set_cons_succ] at HH; exact HH) ?_
            intro w6 HK6
            replace HK6 := Lib.hid HK6
            clear HK5 hcz hfz e8 k5
            have i0 : w6.cell? ⟨b9, 0, none⟩ = some (.int .i64 (n 0)) := Blk.cell HK6.out.b2 0
            have i1 : w6.cell? ⟨b9, 1, none⟩ = some (.int .i64 (n 1)) := Blk.cell HK6.out.b2 1
            have i2 : w6.cell? ⟨b9, 2, none⟩ = some (.int .i64 (n 2)) := Blk.cell HK6.out.b2 2
            have i3 : w6.cell? ⟨b9, 3, none⟩ = some (.int .i64 (n 3)) := Blk.cell HK6.out.b2 3
            have i4 : w6.cell? ⟨b9, 4, none⟩ = some (.int .i64 (n 4)) := Blk.cell HK6.out.b2 4
            have i5 : w6.cell? ⟨b9, 5, none⟩ = some (.int .i64 (n 5)) := Blk.cell HK6.out.b2 5
            have r0 : w6.cell? ⟨ba, 0, none⟩ = some (.int .i64 ra) := Blk.cell HK6.out.b1 0
            have r1 : w6.cell? ⟨ba, 1, none⟩ = some (.int .i64 rb) := Blk.cell HK6.out.b1 1
            have r2 : w6.cell? ⟨ba, 2, none⟩ = some (.int .i64 rc) := Blk.cell HK6.out.b1 2
            have r3 : w6.cell? ⟨ba, 3, none⟩ = some (.int .i64 rd') := Blk.cell HK6.out.b1 3
            have r4 : w6.cell? ⟨ba, 4, none⟩ = some (.int .i64 rl) := Blk.cell HK6.out.b1 4
            have r5 : w6.cell? ⟨ba, 5, none⟩ = some (.int .i64 rq) := Blk.cell HK6.out.b1 5
            have r6 : w6.cell? ⟨ba, 6, none⟩ = some (.int .i64 ds) := Blk.cell HK6.out.b1 6
            have HZ6 : Blk w6 w.heap.size 33 #[.int .i64 y.r, .int .i64 y.c, .int .u8 y.K.rd, .bool y.K.kp, .bool y.wp, .bool y.K.og, .int .i64 y.K.a, .int .i64 y.K.b, .int .i64 y.K.c, .int .i64 y.K.d, .int .i64 y.K.l, .int .i64 y.K.r, .int .i64 y.K.s, .int .i64 y.f.pt, .int .i64 y.f.pl, .int .i64 y.f.pb, .int .i64 y.f.pr, .int .i64 y.f.mt, .int .i64 y.f.ml, .int .i64 y.f.mb, .int .i64 y.f.mr, .int .i64 y.m, .int .i64 y.lv, .bool y.eg, .bool y.st, .int .i64 y.su, .bool y.bl, .int .i64 y.pg, .int .i64 y.ps] := by rw [← HYs.out]; exact HK6.out.b0
            obtain ⟨v0, v1, v2, v3, v4, v5, v6, v7, v8, v9, v10, v11, v12, v13, v14, v15, v16, v17, v18, v19, v20, v21, v22, v23, v24, v25, v26, v27, v28⟩ := co29 HZ6
            obtain ⟨y0, y1, y2, y3, y4, y5, y6, y7, y8, y9, y10, y11, y12⟩ := fro13 HZ6
            have y27 : w6.frozen? ⟨w.heap.size, 27, none⟩ = false := HZ6.frozen 27
            clear HZ6
            --#i
            iterate 73 go_step
            refine world_gen (fun V => Bs w [(w.heap.size, 33, #[.int .i64 (n 0 - 1), .int .i64 (n 1 - 1), .int .u8 (n 3), .bool (n 4 == 1), .bool (decide (8 ≤ n 5)), .bool ((n 5).tmod 2 == 1), .int .i64 ra, .int .i64 rb, .int .i64 rc, .int .i64 rd', .int .i64 rl, .int .i64 rq, .int .i64 ds, .int .i64 y.f.pt, .int .i64 y.f.pl, .int .i64 y.f.pb, .int .i64 y.f.pr, .int .i64 y.f.mt, .int .i64 y.f.ml, .int .i64 y.f.mb, .int .i64 y.f.mr, .int .i64 y.m, .int .i64 y.lv, .bool y.eg, .bool y.st, .int .i64 y.su, .bool y.bl, .int .i64 y.pg, .int .i64 y.ps]), (ba, 25, #[.int .i64 ra, .int .i64 rb, .int .i64 rc, .int .i64 rd', .int .i64 rl, .int .i64 rq, .int .i64 ds]), (b9, 84, ar9 n), (w.heap.size + 1, 33, zO .i64)] V) (by have HH := HK6.out; rw [HYs.out] at HH; replace HH := (((((((((((((HH.s0 0 (.int .i64 (n 0 - 1))).s0 1 (.int .i64 (n 1 - 1))).s0 2 (.int .u8 (n 3))).s0 3 (.bool (n 4 == 1))).s0 4 (.bool (decide (8 ≤ n 5)))).s0 5 (.bool ((n 5).tmod 2 == 1))).s0 6 (.int .i64 ra)).s0 7 (.int .i64 rb)).s0 8 (.int .i64 rc)).s0 9 (.int .i64 rd')).s0 10 (.int .i64 rl)).s0 11 (.int .i64 rq)).s0 12 (.int .i64 ds)); simp only [List.setIfInBounds_toArray, List.set_cons_zero, List.set_cons_succ] at HH; exact HH) ?_
            intro u7 HU7
            replace HU7 := Lib.hid HU7
            clear HK6 i0 i1 i2 i3 i4 i5 r0 r1 r2 r3 r4 r5 r6 v0 v1 v2 v3 v4 v5 v6 v7 v8 v9 v10 v11 v12 v13 v14 v15 v16 v17 v18 v19 v20 v21 v22 v23 v24 v25 v26 v27 v28 y0 y1 y2 y3 y4 y5 y6 y7 y8 y9 y10 y11 y12 y27
            have l2 : u7.cell? ⟨b9, 2, none⟩ = some (.int .i64 (n 2)) := Blk.cell HU7.out.b2 2
            have l27 : u7.cell? ⟨w.heap.size, 27, none⟩ = some (.int .i64 y.pg) := Blk.cell HU7.out.b0 27
            have f27 : u7.frozen? ⟨w.heap.size, 27, none⟩ = false := HU7.out.b0.frozen 27
            --#l
            go_upto_region 20 with fail
            refine world_gen (fun V => Bs w [(w.heap.size, 33, YD), (ba, 25, #[.int .i64 ra, .int .i64 rb, .int .i64 rc, .int .i64 rd', .int .i64 rl, .int .i64 rq, .int .i64 ds]), (b9, 84, ar9 n), (w.heap.size + 1, 33, zO .i64)] V) (by rw [HDz.out]; have HH := HU7.out.s0 27 (.int .i64 (n 2 - 1)); simp only [List.setIfInBounds_toArray, List.set_cons_zero, List.set_cons_succ] at HH; exact HH) ?_
            clear HU7 l2 l27 f27
            intro w7 HK7
            replace HK7 := Lib.hid HK7
            clear HDz HYs
            --#j
            go_wp2_with (first | (refine wpList_load_row rfl _ _ rfl w.heap.size rfl _ YD (0, 0) _ HK7.out.b0 under_cr rfl (by rw [hzD]; exact info_cr) ?_))
            refine (HLs.out _).mono ?_
            rintro e w8 ⟨rfl, hb⟩
            have HK8 := Lib.hid (HK7.out.next hb)
            have HKf := Lib.hid ((HK8.out.tl.tl.tl).row YC)
            clear hb HK7 HLs
            --#k
            dsimp only
            repeat (first | refine wpList_store_row rfl _ _ _ rfl (w.heap.size + 1) YC rfl rfl _ _ HK8.out.b3 (by rw [hzC]; exact info_cr) (by rw [hzC]; rfl) hzO ?_ | go_step)
            --#m
            refine bodyPost_ret (v := .tuple #[.agg YC, .bool true]) (results_row_tmp rfl _ _ (w.heap.size + 1) 33 YC (0, 0) _ (.bool true) rfl rfl HKf.out.b0 under_cr rfl (by rw [hzC]; exact info_cr)) rfl ⟨by rw [ho.out], HKf.out.bel⟩
          · have g1 : ((0 : Int) < (sg : Int)) = False := eq_false (by omega)
            have g1n : (0 < sg) = False := eq_false (by omega)
            have g1b : decide (0 < sg) = false := decide_eq_false (by omega)
            rw [if_neg (by omega)] at hds
            have e8 : Hid ((0 : Int) = ds) := Lib.hid hds.symm
            clear hds h0
            --#h
            go_upto_region 18 with fail
            refine world_gen (fun V => Bs w [(w.heap.size, 33, Y), (ba, 25, #[.int .i64 ra, .int .i64 rb, .int .i64 rc, .int .i64 rd', .int .i64 rl, .int .i64 rq, .int .i64 ds]), (b9, 84, ar9 n), (w.heap.size + 1, 33, zO .i64)] V) (by rw [← e8.out]; have HH := (HK5.out.s0 6 (.int .i64 0)).sw2; simp only [List.setIfInBounds_toArray, List.set_cons_zero, List.set_cons_succ] at HH; exact HH) ?_
            intro w6 HK6
            replace HK6 := Lib.hid HK6
            clear HK5 hcz hfz e8 k5
            have i0 : w6.cell? ⟨b9, 0, none⟩ = some (.int .i64 (n 0)) := Blk.cell HK6.out.b2 0
            have i1 : w6.cell? ⟨b9, 1, none⟩ = some (.int .i64 (n 1)) := Blk.cell HK6.out.b2 1
            have i2 : w6.cell? ⟨b9, 2, none⟩ = some (.int .i64 (n 2)) := Blk.cell HK6.out.b2 2
            have i3 : w6.cell? ⟨b9, 3, none⟩ = some (.int .i64 (n 3)) := Blk.cell HK6.out.b2 3
            have i4 : w6.cell? ⟨b9, 4, none⟩ = some (.int .i64 (n 4)) := Blk.cell HK6.out.b2 4
            have i5 : w6.cell? ⟨b9, 5, none⟩ = some (.int .i64 (n 5)) := Blk.cell HK6.out.b2 5
            have r0 : w6.cell? ⟨ba, 0, none⟩ = some (.int .i64 ra) := Blk.cell HK6.out.b1 0
            have r1 : w6.cell? ⟨ba, 1, none⟩ = some (.int .i64 rb) := Blk.cell HK6.out.b1 1
            have r2 : w6.cell? ⟨ba, 2, none⟩ = some (.int .i64 rc) := Blk.cell HK6.out.b1 2
            have r3 : w6.cell? ⟨ba, 3, none⟩ = some (.int .i64 rd') := Blk.cell HK6.out.b1 3
            have r4 : w6.cell? ⟨ba, 4, none⟩ = some (.int .i64 rl) := Blk.cell HK6.out.b1 4
            have r5 : w6.cell? ⟨ba, 5, none⟩ = some (.int .i64 rq) := Blk.cell HK6.out.b1 5
            have r6 : w6.cell? ⟨ba, 6, none⟩ = some (.int .i64 ds) := Blk.cell HK6.out.b1 6
            have HZ6 : Blk w6 w.heap.size 33 #[.int .i64 y.r, .int .i64 y.c, .int .u8 y.K.rd, .bool y.K.kp, .bool y.wp, .bool y.K.og, .int .i64 y.K.a, .int .i64 y.K.b, .int .i64 y.K.c, .int .i64 y.K.d, .int .i64 y.K.l, .int .i64 y.K.r, .int .i64 y.K.s, .int .i64 y.f.pt, .int .i64 y.f.pl, .int .i64 y.f.pb, .int .i64 y.f.pr, .int .i64 y.f.mt, .int .i64 y.f.ml, .int .i64 y.f.mb, .int .i64 y.f.mr, .int .i64 y.m, .int .i64 y.lv, .bool y.eg, .bool y.st, .int .i64 y.su, .bool y.bl, .int .i64 y.pg, .int .i64 y.ps] := by rw [← HYs.out]; exact HK6.out.b0
            obtain ⟨v0, v1, v2, v3, v4, v5, v6, v7, v8, v9, v10, v11, v12, v13, v14, v15, v16, v17, v18, v19, v20, v21, v22, v23, v24, v25, v26, v27, v28⟩ := co29 HZ6
            obtain ⟨y0, y1, y2, y3, y4, y5, y6, y7, y8, y9, y10, y11, y12⟩ := fro13 HZ6
            have y27 : w6.frozen? ⟨w.heap.size, 27, none⟩ = false := HZ6.frozen 27
            clear HZ6
            --#i2
            iterate 73 go_step
            refine world_gen (fun V => Bs w [(w.heap.size, 33, #[.int .i64 (n 0 - 1), .int .i64 (n 1 - 1), .int .u8 (n 3), .bool (n 4 == 1), .bool (decide (8 ≤ n 5)), .bool ((n 5).tmod 2 == 1), .int .i64 ra, .int .i64 rb, .int .i64 rc, .int .i64 rd', .int .i64 rl, .int .i64 rq, .int .i64 ds, .int .i64 y.f.pt, .int .i64 y.f.pl, .int .i64 y.f.pb, .int .i64 y.f.pr, .int .i64 y.f.mt, .int .i64 y.f.ml, .int .i64 y.f.mb, .int .i64 y.f.mr, .int .i64 y.m, .int .i64 y.lv, .bool y.eg, .bool y.st, .int .i64 y.su, .bool y.bl, .int .i64 y.pg, .int .i64 y.ps]), (ba, 25, #[.int .i64 ra, .int .i64 rb, .int .i64 rc, .int .i64 rd', .int .i64 rl, .int .i64 rq, .int .i64 ds]), (b9, 84, ar9 n), (w.heap.size + 1, 33, zO .i64)] V) (by have HH := HK6.out; rw [HYs.out] at HH; replace HH := (((((((((((((HH.s0 0 (.int .i64 (n 0 - 1))).s0 1 (.int .i64 (n 1 - 1))).s0 2 (.int .u8 (n 3))).s0 3 (.bool (n 4 == 1))).s0 4 (.bool (decide (8 ≤ n 5)))).s0 5 (.bool ((n 5).tmod 2 == 1))).s0 6 (.int .i64 ra)).s0 7 (.int .i64 rb)).s0 8 (.int .i64 rc)).s0 9 (.int .i64 rd')).s0 10 (.int .i64 rl)).s0 11 (.int .i64 rq)).s0 12 (.int .i64 ds)); simp only [List.setIfInBounds_toArray, List.set_cons_zero, List.set_cons_succ] at HH; exact HH) ?_
            intro u7 HU7
            replace HU7 := Lib.hid HU7
            clear HK6 i0 i1 i2 i3 i4 i5 r0 r1 r2 r3 r4 r5 r6 v0 v1 v2 v3 v4 v5 v6 v7 v8 v9 v10 v11 v12 v13 v14 v15 v16 v17 v18 v19 v20 v21 v22 v23 v24 v25 v26 v27 v28 y0 y1 y2 y3 y4 y5 y6 y7 y8 y9 y10 y11 y12 y27
            have l2 : u7.cell? ⟨b9, 2, none⟩ = some (.int .i64 (n 2)) := Blk.cell HU7.out.b2 2
            have l27 : u7.cell? ⟨w.heap.size, 27, none⟩ = some (.int .i64 y.pg) := Blk.cell HU7.out.b0 27
            have f27 : u7.frozen? ⟨w.heap.size, 27, none⟩ = false := HU7.out.b0.frozen 27
            --#l2
            go_upto_region 20 with fail
            refine world_gen (fun V => Bs w [(w.heap.size, 33, YD), (ba, 25, #[.int .i64 ra, .int .i64 rb, .int .i64 rc, .int .i64 rd', .int .i64 rl, .int .i64 rq, .int .i64 ds]), (b9, 84, ar9 n), (w.heap.size + 1, 33, zO .i64)] V) (by rw [HDz.out]; have HH := HU7.out.s0 27 (.int .i64 (n 2 - 1)); simp only [List.setIfInBounds_toArray, List.set_cons_zero, List.set_cons_succ] at HH; exact HH) ?_
            clear HU7 l2 l27 f27
            intro w7 HK7
            replace HK7 := Lib.hid HK7
            clear HDz HYs
            --#j2
            go_wp2_with (first | (refine wpList_load_row rfl _ _ rfl w.heap.size rfl _ YD (0, 0) _ HK7.out.b0 under_cr rfl (by rw [hzD]; exact info_cr) ?_))
            refine (HLs.out _).mono ?_
            rintro e w8 ⟨rfl, hb⟩
            have HK8 := Lib.hid (HK7.out.next hb)
            have HKf := Lib.hid ((HK8.out.tl.tl.tl).row YC)
            clear hb HK7 HLs
            --#k2
            dsimp only
            repeat (first | refine wpList_store_row rfl _ _ _ rfl (w.heap.size + 1) YC rfl rfl _ _ HK8.out.b3 (by rw [hzC]; exact info_cr) (by rw [hzC]; rfl) hzO ?_ | go_step)
            refine bodyPost_ret (v := .tuple #[.agg YC, .bool true]) (results_row_tmp rfl _ _ (w.heap.size + 1) 33 YC (0, 0) _ (.bool true) rfl rfl HKf.out.b0 under_cr rfl (by rw [hzC]; exact info_cr)) rfl ⟨by rw [ho.out], HKf.out.bel⟩
end Go.Proofs.YtfnamfkjbkhgeaaGreatDoor

namespace Go.Proofs.YtfnamfkjbkhgeaaGreatDoor
open Go Go.RowKit
set_option maxRecDepth 100000 in
set_option maxHeartbeats 8000000 in
theorem setCurNo_any {x : Co} {H W it il ib ir : Int} (h : FrOk x.f H W it il ib ir) (hr0 : 0 ≤ x.K.rd) (hr1 : x.K.rd ≤ 255) (hm : x.m < 2 ^ 32) (s : ByteArray) (hs : s.size ≤ 100000) (hno : (flsP s).length ≠ 10) (w : World) (ht : Tab w) (hfc : Faces w) :
    Calls Tryz.prog 11 #[coV .u32 x, .string s] w fun e w' => e = .returned (.tuple #[coV .u32 (clnP x H W it il ib ir), .int .i64 3]) ∧ Below w.heap.size w w' := by
  have HCl := Lib.hid (fun V t f => cleanC_any h hr0 hr1 hm V t f)
  have HT := Lib.hid ht; have HF := Lib.hid hfc
  have HSp := Lib.hid (fun V => splitN_any s hs V)
  have hn1 : (((flsP s).length : Int) != 10) = true := by simp; omega
  have hn2 : (((flsP s).length : Int) = 10) = False := eq_false (by omega)
  have hn3 : (((flsP s).length : Int) == 10) = false := beq_eq_false_iff_ne.2 (by omega)
  generalize min 11 (s.size + 1) = N at *
  obtain ⟨y, hy⟩ : ∃ y, y = clnP x H W it il ib ir := ⟨_, rfl⟩
  rw [← hy] at HCl ⊢
  clear h hr0 hr1 hm ht hfc hy hs hno
  generalize flsP s = FL at *
  have hS1 := coS .u32 x; have hS2 := coS .u32 y; have hO2 := co_one .u32 y
  unfold coV at *
  generalize coC .u32 x = X at *
  generalize coC .u32 y = Y at *
  have HS := Lib.hid (Bs.start2' w 45 45 X (zO .u32))
  go_enter Tryz.func11, Tryz.ntmps11
  go_wp2_with (first | (refine wpList_load_row rfl _ _ rfl w.heap.size rfl _ X (0, 0) _ HS.out.b0 under_co rfl (by rw [hS1]; exact info_co) ?_))
  refine (HCl.out _ (HT.out.next HS.out.bel) (HF.out.next HS.out.bel)).mono ?_
  rintro e w1 ⟨rfl, hb⟩
  have HK1 := Lib.hid (HS.out.next hb)
  clear hb
  go_upto_region 2 with (refine wpList_store_row rfl _ _ _ rfl w.heap.size Y rfl rfl _ _ HK1.out.b0 (by rw [hS2]; exact info_co) (by rw [hS1, hS2]) hO2 ?_)
  refine world_gen (fun V => Bs w [(w.heap.size, 45, Y), (w.heap.size + 1, 45, zO .u32)] V) (HK1.out.row Y) ?_
  intro w2 HV0
  replace HV0 := Lib.hid HV0
  clear HK1 HS HCl
  go_wp2_with fail
  refine (HSp.out _).mono ?_
  rintro e w3 ⟨rfl, rfl⟩
  --#1
  have HB4 := Lib.hid (HV0.out.next ((Below.refl _ _).alloc (Nat.le_refl _) (.cells (Lib.cellsOf FL N) 9)))
  have HKf := Lib.hid (HB4.out.sw1.row Y)
  generalize w2.heap.size = g6 at *
  generalize w2.alloc (.cells (Lib.cellsOf FL N) 9) = w4 at *
  clear HSp HT HF HV0
  --#2
  go_upto_region 4 with fail
  go_step
  refine wpList_load_row rfl _ _ rfl w.heap.size rfl _ Y (0, 0) _ HB4.out.b0 under_co rfl (by rw [hS2]; exact info_co) ?_
  refine wpList_store_row rfl _ _ _ rfl (w.heap.size + 1) Y rfl rfl _ _ HB4.out.b1 (by rw [hS2]; exact info_co) (by rw [hS2]; rfl) hO2 ?_
  repeat go_step
  refine bodyPost_ret (v := .tuple #[.agg Y, .int .i64 3]) (results_row_tmp rfl _ _ (w.heap.size + 1) 45 Y (0, 0) _ (.int .i64 3) rfl rfl HKf.out.b0 under_co rfl (by rw [hS2]; exact info_co)) rfl ⟨rfl, HKf.out.bel⟩
end Go.Proofs.YtfnamfkjbkhgeaaGreatDoor

namespace Go.Proofs.YtfnamfkjbkhgeaaGreatDoor
open Go Go.RowKit

theorem cln_m (x : Co) (H W it il ib ir : Int) : (clnP x H W it il ib ir).m < 2 ^ 32 := by
  show x.m % 131072 < 2 ^ 32
  omega
theorem doc_m (y : Co) (n : Nat → Int) (f9 : ByteArray) (h : y.m < 2 ^ 32) : (docP y n f9).1.m < 2 ^ 32 := by
  unfold docP
  split
  · show y.m % 131072 < 2 ^ 32
    omega
  · exact h
theorem scBoth_any {x : Co} {H W it il ib ir : Int} (h : FrOk x.f H W it il ib ir) (hr0 : 0 ≤ x.K.rd) (hr1 : x.K.rd ≤ 255) (hm : x.m < 2 ^ 32) (s : ByteArray) (hs : s.size ≤ 100000) :
    ∃ (Q : Co) (ok : Bool), Q.m < 2 ^ 32 ∧ (∀ f0 f1 f2 f3 f4 f5 f6 f7 f8 f9 : ByteArray, fldsR s = [f0, f1, f2, f3, f4, f5, f6, f7, f8, f9] → (Q, ok) = docP (clnP x H W it il ib ir) (dcN f0 f1 f2 f3 f4 f5 f6 f7 f8) f9) ∧
      (∀ w, Tab w → Faces w → Blanks w → Calls Tryz.prog 11 #[coV .u32 x, .string s] w fun e w' => e = .returned (.tuple #[coV .u32 Q, .int .i64 (if ok = true then 0 else 3)]) ∧ Below w.heap.size w w') ∧
      (∀ w, Calls Tryz.prog 12 #[coV .i64 x, .string s] w fun e w' => e = .returned (.tuple #[coV .i64 Q, .bool ok]) ∧ Below w.heap.size w w') := by
  obtain ⟨t1, t2⟩ := flds_ten s
  have t3 : flsP s = Lib.splitB ⟨#[59]⟩ 0 (min 11 (s.size + 1) - 1) s := rfl
  by_cases h10 : (fldsR s).length = 10
  · have hfl := t2 h10
    rw [← t3] at hfl
    obtain ⟨f0, f1, f2, f3, f4, f5, f6, f7, f8, f9, hf⟩ : ∃ f0 f1 f2 f3 f4 f5 f6 f7 f8 f9 : ByteArray, fldsR s = [f0, f1, f2, f3, f4, f5, f6, f7, f8, f9] := by
      match hh : fldsR s, h10 with
      | [f0, f1, f2, f3, f4, f5, f6, f7, f8, f9], _ => exact ⟨_, _, _, _, _, _, _, _, _, _, rfl⟩
    rw [hf] at hfl
    have hz : ∀ f ∈ fldsR s, f.size ≤ s.size := fldB_size s _ _ _
    rw [hf] at hz
    have mz : ∀ f ∈ [f0, f1, f2, f3, f4, f5, f6, f7, f8, f9], f.size ≤ maxLen := fun f hm => by have := hz f hm; unfold maxLen; omega
    refine ⟨(docP (clnP x H W it il ib ir) (dcN f0 f1 f2 f3 f4 f5 f6 f7 f8) f9).1, (docP (clnP x H W it il ib ir) (dcN f0 f1 f2 f3 f4 f5 f6 f7 f8) f9).2, doc_m _ _ _ (cln_m _ _ _ _ _ _ _), ?_, fun w ht hfc hb => ?_, fun w => ?_⟩
    · intro g0 g1 g2 g3 g4 g5 g6 g7 g8 g9 hg
      rw [hf] at hg
      injection hg with e0 hg; injection hg with e1 hg; injection hg with e2 hg; injection hg with e3 hg; injection hg with e4 hg; injection hg with e5 hg; injection hg with e6 hg; injection hg with e7 hg; injection hg with e8 hg; injection hg with e9 hg
      subst e0 e1 e2 e3 e4 e5 e6 e7 e8 e9
      rfl
    · have H0 := setCurTen_any h hr0 hr1 hm s hs f0 f1 f2 f3 f4 f5 f6 f7 f8 f9 (mz f0 (by simp)) (mz f1 (by simp)) (mz f2 (by simp)) (mz f3 (by simp)) (mz f4 (by simp)) (mz f5 (by simp)) (mz f6 (by simp)) (mz f7 (by simp)) (mz f8 (by simp)) hfl w ht hfc hb
      rw [sc_same _ (cl_ok h)] at H0
      exact H0
    · exact refSetTen_any h hr0 hr1 s hs f0 f1 f2 f3 f4 f5 f6 f7 f8 f9 hf w
  · refine ⟨clnP x H W it il ib ir, false, cln_m _ _ _ _ _ _ _, ?_, fun w ht hfc _ => ?_, fun w => ?_⟩
    · intro g0 g1 g2 g3 g4 g5 g6 g7 g8 g9 hg
      exact absurd (by rw [hg]; rfl) h10
    · exact setCurNo_any h hr0 hr1 hm s hs (fun hc => h10 (t1.1 (by rw [← t3]; exact hc))) w ht hfc
    · exact refSetNo_any h hr0 hr1 s hs h10 w
end Go.Proofs.YtfnamfkjbkhgeaaGreatDoor
