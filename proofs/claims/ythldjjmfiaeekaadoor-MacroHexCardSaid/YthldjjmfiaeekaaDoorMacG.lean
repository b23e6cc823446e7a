/-
  Bytes written as digits and read back as a macro, plainly.
-/
import Derived.Test.YthldjjmfiaeekaaDoorMacF
import Derived.Test.YthldjjmfiaeekaaDoorMixE
namespace Go.Proofs.YthldjjmfiaeekaaDoor
open Go Go.RowKit

theorem hd_big : ∀ n : Nat, n < 16 → 48 ≤ hdN n ∧ hdN n ≤ 70 ∧ hdN n ≠ 59 := by decide +kernel
theorem hex_cons (a : Nat) (l : List Nat) : hexL (a :: l) = hdN (a / 16) :: hdN (a % 16) :: hexL l := rfl
theorem hex_59 (l : List Nat) (h : ∀ x ∈ l, x < 256) : ∀ c ∈ hexL l, c ≠ 59 := by
  intro c hc
  unfold hexL at hc
  obtain ⟨a, ha, hc⟩ := List.mem_flatMap.1 hc
  have := h a ha
  simp at hc
  rcases hc with rfl | rfl
  · exact (hd_big _ (by omega)).2.2
  · exact (hd_big _ (by omega)).2.2
theorem fh_two (a : Nat) (h : a < 256) : fhL [hdN (a / 16), hdN (a % 16)] = some [a] := by
  have e := fh_hex [a] (by simpa using h)
  exact e
theorem dc_hex : ∀ (l : List Nat) (f M : Nat) (out : List Nat), (∀ x ∈ l, x < 256) → l.length < f → out.length ≤ M → dcF f M out (hexL l) = if out.length + l.length ≤ M then (0, out ++ l) else (5, [])
  | [], f, M, out, _, hf, ho => by
    obtain ⟨f', rfl⟩ : ∃ f', f = f' + 1 := ⟨f - 1, by simp at hf; omega⟩
    rw [show hexL [] = [] from rfl, dcF_nil, if_pos (by simpa using ho), List.append_nil]
  | a :: l, f, M, out, h8, hf, ho => by
    obtain ⟨f', rfl⟩ : ∃ f', f = f' + 1 := ⟨f - 1, by simp at hf; omega⟩
    have ha : a < 256 := h8 a (by simp)
    obtain ⟨b1, b2, _⟩ := hd_big (a / 16) (by omega)
    have hp : prt (hexL (a :: l)) = some ([a], 1, hexL l) := by
      rw [hex_cons, prt_plain _ (by simp; omega), prtB_two, fh_two a ha]
      rfl
    rw [dcF_cons f' M out (hexL (a :: l)) (by rw [hex_cons]; simp), hp]
    show (if [a] ≠ [] ∧ (((M - out.length) / [a].length : Nat) : Int) < 1 then ((5 : Int), ([] : List Nat)) else dcF f' M (out ++ rep 1 [a]) (hexL l)) = _
    have hr : rep 1 [a] = [a] := by unfold rep; simp
    rw [hr]
    by_cases hfull : out.length = M
    · rw [if_pos ⟨by simp, by simp; omega⟩, if_neg (by simp; omega)]
    · rw [if_neg (fun g => by have := g.2; simp at this; omega), dc_hex l f' M (out ++ [a]) (fun x hx => h8 x (by simp [hx])) (by simp at hf; omega) (by simp; omega)]
      simp only [List.length_append, List.length_cons, List.length_nil, List.append_assoc, List.cons_append, List.nil_append]
      by_cases hle : out.length + (0 + 1) + l.length ≤ M
      · rw [if_pos hle, if_pos (by omega)]
      · rw [if_neg hle, if_neg (by omega)]
theorem dc_rep (l : List Nat) (h8 : ∀ x ∈ l, x < 256) (n : Nat) (hn : 1 ≤ n ∧ n ≤ 9) (hl : l.length ≤ 200) (f : Nat) (hf : 3 ≤ f) : dcF f 2000 [] (33 :: (48 + n) :: 59 :: (hexL l ++ 59 :: hexL [122])) = (0, rep n l ++ [122]) := by
  obtain ⟨f', rfl⟩ : ∃ f', f = f' + 1 := ⟨f - 1, by omega⟩
  have hd : isD (48 + n) = true := by unfold isD; simp; omega
  have h59 : isD 59 = false := by decide
  have hdw : ((48 + n) :: 59 :: (hexL l ++ 59 :: hexL [122])).dropWhile isD = 59 :: (hexL l ++ 59 :: hexL [122]) := by
    rw [List.dropWhile_cons_of_pos hd, List.dropWhile_cons_of_neg (by simp [h59])]
  have htw : ((48 + n) :: 59 :: (hexL l ++ 59 :: hexL [122])).takeWhile isD = [48 + n] := by
    rw [List.takeWhile_cons_of_pos hd, List.takeWhile_cons_of_neg (by simp [h59])]
  have htm : tmN [48 + n] = n := by
    have e : [48 + n].foldl acN 0 = n := by
      show acN 0 (48 + n) = n
      unfold acN; omega
    unfold tmN
    rw [e, if_neg (by omega)]
  have hcut : cutL (hexL l ++ 59 :: hexL [122]) = (hexL l, hexL [122], true) := by
    have e : (hexL l ++ 59 :: hexL [122]).take (hexL l).length = hexL l := by simp
    have := cutL_yes (hexL l ++ 59 :: hexL [122]) (hexL l).length (hexL [122]) (by rw [e]) (by rw [e]; exact hex_59 l h8)
    rw [e] at this
    exact this
  have hp : prt (33 :: (48 + n) :: 59 :: (hexL l ++ 59 :: hexL [122])) = some (l, (n : Int), hexL [122]) := by
    rw [prt_bang, prtR_yes _ _ hdw, htw, htm, hcut]
    show (fhL (hexL l)).map _ = _
    rw [fh_hex l h8]
    rfl
  rw [dcF_cons f' 2000 [] _ (by simp), hp]
  show (if l ≠ [] ∧ (((2000 - 0) / l.length : Nat) : Int) < (n : Int) then ((5 : Int), ([] : List Nat)) else dcF f' 2000 ([] ++ rep n l) (hexL [122])) = _
  have hmul : n * l.length ≤ 1800 := by
    have := Nat.mul_le_mul hn.2 hl
    omega
  have hrl : (rep n l).length = n * l.length := by rw [rep_len]; rfl
  rw [if_neg (fun g => by
    obtain ⟨g1, g2⟩ := g
    have hbp : 0 < l.length := List.length_pos_iff.2 g1
    have : n ≤ (2000 - 0) / l.length := by rw [Nat.le_div_iff_mul_le hbp]; omega
    omega)]
  rw [List.nil_append, dc_hex [122] f' 2000 (rep n l) (by simp) (by simp; omega) (by omega), if_pos (by simp; omega)]
/-- A letter that is a byte in memory of its own. -/
def B1F (B : Nat) (v : Int) (u : Value) (W : World) : Prop := ∃ g, u = .slice (some ⟨g, 0, none⟩) 1 1 ∧ B ≤ g ∧ Blk W g 5 #[.int .u8 v]
def B1P (u : Value) : Prop := ∃ g, u = .slice (some ⟨g, 0, none⟩) 1 1
theorem b1F_stab (ks : Kinds) (wr : World) (l : Int) (ht : 5 ∉ boxes ks) : ∀ v w w', Kept ks wr w w' → B1F wr.heap.size l v w → B1F wr.heap.size l v w' := by
  rintro v w w' hk ⟨g, e, hb, hh⟩
  refine ⟨g, e, hb, ?_⟩
  refine (hk.block g hh.lt hb (fun cs T fr e => by
    have e2 : some (Obj.cells #[.int .u8 l] 5 (0, 0)) = some (.cells cs T fr) := hh.symm.trans e
    injection e2 with e2
    injection e2 with _ e3 _
    rw [← e3]; exact ht)).trans hh
theorem one_conv (W : World) (g : Nat) (n : Nat) (h : Blk W g 5 #[.int .u8 (n : Int)]) : (convert 40 9 (.slice (some ⟨g, 0, none⟩) 1 1)).run Tryd.prog W = .ok (.string (bstr [n])) W := by
  have hr : RByt W (some ⟨g, 0, none⟩) [n] := by
    refine ⟨by simp, fun hn => ⟨⟨g, 0, none⟩, rfl, h.lt, fun j u hu => ?_⟩⟩
    have hj : j = 0 := by
      rcases j with _ | j
      · rfl
      · simp at hu
    subst hj
    have hu2 : u = .int .u8 (n : Int) := by simpa using hu.symm
    rw [hu2]
    exact h.cell 0
  exact conv_by hr 1
end Go.Proofs.YthldjjmfiaeekaaDoor
