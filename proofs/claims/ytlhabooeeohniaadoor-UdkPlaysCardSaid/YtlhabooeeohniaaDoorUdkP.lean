/-
  Layer 21's law: acts that came in; a definition of one key; three bytes as a letter.
-/
import Derived.Test.YtlhabooeeohniaaDoorUdkO
import Derived.Test.YtlhabooeeohniaaDoorHexE
import Derived.Test.YtlhabooeeohniaaDoorMixE
namespace Go.Proofs.YtlhabooeeohniaaDoor
open Go Go.RowKit

/-- A slice of acts. -/
def RAk (w : World) (A : Option Addr) (l : List Ak) : Prop := Reads w w.heap.size 4 A l.length (l.flatMap Ak.cells)
theorem RAk.next {w w' : World} {A : Option Addr} {l : List Ak} (h : RAk w A l) (hb : Below w.heap.size w w') : RAk w' A l := (Reads.below h hb).more hb.size
theorem ak_at (l : List Ak) (k : Nat) (hk : k < l.length) :
    (l.flatMap Ak.cells)[k * 4]? = some (.int .i64 l[k].kind) ∧ (l.flatMap Ak.cells)[k * 4 + 1]? = some (.bool l[k].cl) ∧ (l.flatMap Ak.cells)[k * 4 + 2]? = some (.bool l[k].lo) ∧ (l.flatMap Ak.cells)[k * 4 + 3]? = some (.string l[k].data) := by
  induction l generalizing k with
  | nil => simp at hk
  | cons c l ih =>
    cases k with
    | zero => simp [Ak.cells]
    | succ k =>
      have h := ih k (by simpa using hk)
      have e : (k + 1) * 4 = k * 4 + 4 := by omega
      rw [List.flatMap_cons, e]
      simp only [Ak.cells, List.cons_append, List.nil_append, List.getElem?_cons_succ, List.getElem_cons_succ]
      exact h
theorem ak_len (l : List Ak) : (l.flatMap Ak.cells).length = l.length * 4 := by
  induction l with
  | nil => rfl
  | cons c l ih => rw [List.flatMap_cons, List.length_append, ih, List.length_cons]; simp [Ak.cells]; omega
theorem RAk.four {w : World} {ad : Addr} {l : List Ak} (h : RAk w (some ad) l) {k : Nat} (hk : k < l.length) :
    w.cell? (ad.add (k * 4)) = some (.int .i64 l[k].kind) ∧ w.cell? ⟨(ad.add (k * 4)).block, (ad.add (k * 4)).off + 1, none⟩ = some (.bool l[k].cl) ∧ w.cell? ⟨(ad.add (k * 4)).block, (ad.add (k * 4)).off + 2, none⟩ = some (.bool l[k].lo) ∧ w.cell? ⟨(ad.add (k * 4)).block, (ad.add (k * 4)).off + 3, none⟩ = some (.string l[k].data) := by
  obtain ⟨ad', e, hb, hc⟩ := h.2 (by omega)
  injection e with e
  subst e
  obtain ⟨h1, h2, h3, h4⟩ := ak_at l k hk
  have a1 : (⟨(ad.add (k * 4)).block, (ad.add (k * 4)).off + 1, none⟩ : Addr) = ad.add (k * 4 + 1) := (show _ = (ad.add (k * 4)).add 1 from rfl).trans (add_of_add ad _ _)
  have a2 : (⟨(ad.add (k * 4)).block, (ad.add (k * 4)).off + 2, none⟩ : Addr) = ad.add (k * 4 + 2) := (show _ = (ad.add (k * 4)).add 2 from rfl).trans (add_of_add ad _ _)
  have a3 : (⟨(ad.add (k * 4)).block, (ad.add (k * 4)).off + 3, none⟩ : Addr) = ad.add (k * 4 + 3) := (show _ = (ad.add (k * 4)).add 3 from rfl).trans (add_of_add ad _ _)
  exact ⟨hc _ _ h1, by rw [a1]; exact hc _ _ h2, by rw [a2]; exact hc _ _ h3, by rw [a3]; exact hc _ _ h4⟩

/-- A key is one of fifteen. -/
theorem isU_key (n : Int) (h : isU n = true) : ∃ k : Nat, k < 15 ∧ n = nthU k ∧ plc n = k := by
  have c : ∃ m : Nat, m < 40 ∧ n = m := ⟨n.toNat, by unfold isU at h; simp at h; omega, by unfold isU at h; simp at h; omega⟩
  obtain ⟨m, hm, rfl⟩ := c
  have H : ∀ m : Nat, m < 40 → isU (m : Int) = true → ∃ k : Nat, k < 15 ∧ (m : Int) = nthU k ∧ plc (m : Int) = k := by decide +kernel
  exact H m hm h
theorem nthU_digits : ∀ k : Nat, k < 15 → 17 ≤ (nthU k).toNat ∧ (nthU k).toNat ≤ 34 ∧ nthU k = ((nthU k).toNat : Int) ∧ puK (bstr [48 + (nthU k).toNat / 10, 48 + (nthU k).toNat % 10]) = some (nthU k).toNat := by decide +kernel
theorem plc_at : ∀ k : Nat, k < 15 → plc (nthU k) = k := by decide +kernel
theorem plc_small : ∀ n : Nat, n < 40 → 0 ≤ plc (n : Int) → nthU (plc (n : Int)).toNat = n := by decide +kernel
/-- A definition of one key by digits. -/
def dataU (n : Nat) (t : List Nat) : List Nat := (48 + n / 10) :: (48 + n % 10) :: 47 :: hexL t
theorem hexL_ok (t : List Nat) (h8 : ∀ c ∈ t, c < 256) : ∀ c ∈ hexL t, c ≠ 59 ∧ c < 256 := by
  have hd : ∀ z, z < 16 → hdN z ≠ 59 ∧ hdN z < 256 := by decide
  induction t with
  | nil => intro c hc; cases hc
  | cons a t ih =>
    intro c hc
    have ha := h8 a (by simp)
    have e : hexL (a :: t) = hdN (a / 16) :: hdN (a % 16) :: hexL t := rfl
    rw [e] at hc
    simp only [List.mem_cons] at hc
    rcases hc with rfl | rfl | hc
    · exact hd _ (by omega)
    · exact hd _ (by omega)
    · exact ih (fun x hx => h8 x (by simp [hx])) c hc
theorem data_take (T : List ByteArray) (k : Nat) (hk : k < 15) (s : ByteArray) : takeU T (pcs (dataU (nthU k).toNat (nb s))) = some (T.set k s) := by
  obtain ⟨h1, h2, h3, h4⟩ := nthU_digits k hk
  have hno : ∀ c ∈ dataU (nthU k).toNat (nb s), c ≠ 59 := by
    intro c hc
    unfold dataU at hc
    simp only [List.mem_cons] at hc
    rcases hc with rfl | rfl | rfl | hc
    · omega
    · omega
    · decide
    · exact (hexL_ok (nb s) (nb_lt s) c hc).1
  rw [pcs_no _ hno, takeU_cons]
  have e : stepU T (dataU (nthU k).toNat (nb s)) = some (T.set k s) := by
    unfold stepU dataU
    rw [if_neg (by simp), defS_two _ _ _ (by omega) (by omega) (nthU k).toNat k h4 (by rw [← h3]; exact plc_at k hk), fh_hex (nb s) (nb_lt s)]
    show some (T.set k (bstr (nb s))) = _
    rw [show bstr (nb s) = s from bstr_back s]
  rw [e]
  rfl
theorem data_lt (n : Nat) (hn : n ≤ 34) (s : ByteArray) : ∀ c ∈ dataU n (nb s), c < 256 := by
  intro c hc
  unfold dataU at hc
  simp only [List.mem_cons] at hc
  rcases hc with rfl | rfl | rfl | hc
  · omega
  · omega
  · decide
  · exact (hexL_ok (nb s) (nb_lt s) c hc).2
theorem used_set : ∀ (T : List ByteArray) (k : Nat) (s : ByteArray), usedT (T.set k s) ≤ usedT T + s.size
  | [], k, s => by simp [usedT]
  | t :: T, 0, s => by
    show s.size + usedT T ≤ t.size + usedT T + s.size
    omega
  | t :: T, k + 1, s => by
    have := used_set T k s
    show t.size + usedT (T.set k s) ≤ t.size + usedT T + s.size
    omega
theorem back_def (T : List ByteArray) (k : Nat) (hk : k < 15) (s : ByteArray) (hu : usedT T + s.size ≤ 804) : defU T false false false (dataU (nthU k).toNat (nb s)) = (0, T.set k s, false) := by
  unfold defU
  rw [show (if (false : Bool) = true then noT else T) = T from rfl, data_take T k hk s]
  show (if 804 < usedT (T.set k s) then ((5 : Int), T, false) else if false = true then (6, T, false) else (0, T.set k s, false)) = _
  have := used_set T k s
  rw [if_neg (by omega), if_neg (by simp)]
theorem getU_set (T : List ByteArray) (hT : T.length = 15) (k : Nat) (hk : k < 15) (s : ByteArray) (n : Nat) (hn : n < 40) : (getU (T.set k s) n).1 = if (n : Int) = nthU k then s else (getU T n).1 := by
  unfold getU
  by_cases hp : plc (n : Int) < 0
  · rw [if_pos hp, if_pos hp, if_neg (fun e => by rw [e, plc_at k hk] at hp; omega)]
  · have hs := plc_small n hn (by omega)
    rw [if_neg hp, if_neg hp]
    by_cases e : (n : Int) = nthU k
    · have hpk : plc (n : Int) = k := by rw [e]; exact plc_at k hk
      rw [if_pos e, hpk, Int.toNat_natCast]
      have hg : (T.set k s).getD k ⟨#[]⟩ = s := by rw [List.getD_eq_getElem?_getD, List.getElem?_set_self (by omega)]; rfl
      rw [hg]
      split
      · rename_i h; exact h.symm
      · rfl
    · have hne : k ≠ (plc (n : Int)).toNat := fun h => e (by rw [h, hs])
      have hg : (T.set k s).getD (plc (n : Int)).toNat ⟨#[]⟩ = T.getD (plc (n : Int)).toNat ⟨#[]⟩ := by rw [List.getD_eq_getElem?_getD, List.getD_eq_getElem?_getD, List.getElem?_set_ne hne]
      rw [hg, if_neg e]
/-- A letter that is three bytes in memory of its own. -/
def B3F (B : Nat) (x y z : Int) (u : Value) (W : World) : Prop := ∃ g, u = .slice (some ⟨g, 0, none⟩) 3 3 ∧ B ≤ g ∧ Blk W g 5 #[.int .u8 x, .int .u8 y, .int .u8 z]
def B3P (u : Value) : Prop := ∃ g, u = .slice (some ⟨g, 0, none⟩) 3 3
theorem b3F_stab (ks : Kinds) (wr : World) (x y z : Int) (ht : 5 ∉ boxes ks) : ∀ v w w', Kept ks wr w w' → B3F wr.heap.size x y z v w → B3F wr.heap.size x y z v w' := by
  rintro v w w' hk ⟨g, e, hb, hh⟩
  refine ⟨g, e, hb, ?_⟩
  refine (hk.block g hh.lt hb (fun cs T fr e => by
    have e2 : some (Obj.cells #[.int .u8 x, .int .u8 y, .int .u8 z] 5 (0, 0)) = some (.cells cs T fr) := hh.symm.trans e
    injection e2 with e2
    injection e2 with _ e3 _
    rw [← e3]; exact ht)).trans hh
theorem three_conv (W : World) (g : Nat) (a b c : Nat) (h : Blk W g 5 #[.int .u8 (a : Int), .int .u8 (b : Int), .int .u8 (c : Int)]) : (convert 43 9 (.slice (some ⟨g, 0, none⟩) 3 3)).run Tryd.prog W = .ok (.string (bstr [a, b, c])) W := by
  have hr : RByt W (some ⟨g, 0, none⟩) [a, b, c] := by
    refine ⟨by simp, fun hn => ⟨⟨g, 0, none⟩, rfl, h.lt, fun j u hu => ?_⟩⟩
    have hadd : (⟨g, 0, none⟩ : Addr).add j = ⟨g, j, none⟩ := by unfold Addr.add; split <;> simp_all
    rw [hadd, h.cell j, ← hu]
    simp
  exact conv_by hr 3
end Go.Proofs.YtlhabooeeohniaaDoor
