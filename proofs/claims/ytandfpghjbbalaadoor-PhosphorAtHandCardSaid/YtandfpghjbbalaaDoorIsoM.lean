/-
  States of sets: how what was told is brought back, plainly.
-/
import Derived.Test.YtandfpghjbbalaaDoorIsoL
namespace Go.Proofs.YtandfpghjbbalaaDoor
open Go Go.RowKit

def bitB (sz g : Nat) : Bool := (sz - 64) / 2 ^ g % 2 == 1
/-- One round: a set is designated by the id that lies ahead. -/
def stepR (sz g : Nat) (x : Iso) (s : ByteArray) : Option (Iso × ByteArray) :=
  if (desP x g (bitB sz g) (cutP s).1).2 = true then some ((desP x g (bitB sz g) (cutP s).1).1, (cutP s).2) else none
/-- So many rounds, from one on. -/
def runR (sz : Nat) : Nat → Nat → Iso → ByteArray → Option (Iso × ByteArray)
  | 0, _, x, s => some (x, s)
  | k + 1, g, x, s => (stepR sz g x s).bind fun p => runR sz k (g + 1) p.1 p.2
def Iso.lr (x : Iso) (l r : Int) : Iso := { x with l := l, r := r }
def restP (x : Iso) (gl gr : Int) (sz : Nat) (s : ByteArray) : Iso × Bool :=
  if inB 0 gl = true ∧ inB 1 gr = true ∧ 64 ≤ sz ∧ sz ≤ 79 then
    match runR sz 4 0 (x.lr gl gr) s with
    | some p => if p.2.size = 0 then (p.1, true) else (x, false)
    | none => (x, false)
  else (x, false)
theorem put_lr (x : Iso) (l r g n : Int) : (x.lr l r).put g n = (x.put g n).lr l r := by
  unfold Iso.put Iso.lr
  split
  · rfl
  · split
    · rfl
    · split <;> rfl
theorem des_lr (x : Iso) (l r g : Int) (wide : Bool) (id : ByteArray) : desP (x.lr l r) g wide id = ((desP x g wide id).1.lr l r, (desP x g wide id).2) := by
  unfold desP
  split
  · simp only [put_lr]
  · rfl
theorem step_lr (sz g : Nat) (x : Iso) (l r : Int) (s : ByteArray) : stepR sz g (x.lr l r) s = (stepR sz g x s).map fun p => (p.1.lr l r, p.2) := by
  unfold stepR
  rw [des_lr]
  simp only
  split <;> rfl
theorem run_lr (sz : Nat) (l r : Int) : ∀ k g (x : Iso) s, runR sz k g (x.lr l r) s = (runR sz k g x s).map fun p => (p.1.lr l r, p.2)
  | 0, _, _, _ => rfl
  | k + 1, g, x, s => by
    unfold runR
    rw [step_lr]
    cases h : stepR sz g x s with
    | none => rfl
    | some p =>
      show runR sz k (g + 1) (p.1.lr l r) p.2 = _
      rw [run_lr sz l r k]
      rfl
/-- No id finds no set. -/
theorem des_empty (x : Iso) (g : Int) (wide : Bool) : desP x g wide ⟨#[]⟩ = (x, false) := by
  unfold desP
  rw [if_neg]
  intro h
  apply h.1
  rw [met_eq]
  cases wide with
  | true => decide +kernel
  | false => decide +kernel
theorem left_in (x : Iso) : inB 0 (leftP x) = true := by
  unfold leftP
  split
  · assumption
  · rfl
theorem right_in (x : Iso) (h : 0 < rightP x) : inB 1 (rightP x) = true := by
  unfold rightP at *
  split
  · rename_i h1
    rw [if_pos h1] at h
    unfold inB at *
    simp at *
    omega
  · rfl
theorem id_form : ∀ k, k < 18 → 1 ≤ k → ((idP k).data.toList.length == 1 && (idP k).data.toList.headD 0 != 37 || (idP k).data.toList.length == 2 && (idP k).data.toList.headD 0 == 37) = true := by decide +kernel
theorem ext_list (s : ByteArray) (a b : Nat) : (s.extract a b).data.toList = (s.data.toList.take b).drop a := by
  rw [ByteArray.data_extract, Array.toList_extract, List.extract_eq_take_drop]
  rw [List.drop_take]
theorem ba_ext {s t : ByteArray} (h : s.data.toList = t.data.toList) : s = t := ByteArray.ext (Array.ext' h)
theorem app_list (s t : ByteArray) : (s ++ t).data.toList = s.data.toList ++ t.data.toList := by
  rw [ByteArray.data_append, Array.toList_append]
theorem size_list (s : ByteArray) : s.size = s.data.toList.length := rfl
theorem pfx_list (s : ByteArray) : pfxB s = (s.data.toList.head? == some 37) := by
  unfold pfxB
  rw [size_list, ByteArray.toList_eq, ext_list]
  generalize s.data.toList = l
  cases l with
  | nil => rfl
  | cons x l =>
    rw [if_pos (by simp)]
    simp only [List.take_succ_cons, List.take_zero, List.drop_zero, List.head?_cons]
    rw [Bool.eq_iff_iff, beq_iff_eq, beq_iff_eq]
    simp
theorem cutP_id (k : Nat) (h : k < 18) (h1 : 1 ≤ k) (t : ByteArray) : cutP (idP k ++ t) = (idP k, t) := by
  have hf := id_form k h h1
  have hn : cutN (idP k ++ t) = (idP k).size := by
    unfold cutN
    rw [pfx_list, size_list, app_list]
    generalize (idP k).data.toList = l at *
    match l with
    | [] => simp at hf
    | [x] =>
      simp at hf
      rw [if_neg (by simpa using hf)]
      rfl
    | [x, y] =>
      simp at hf
      rw [if_pos (by simpa using hf)]
      rfl
    | x :: y :: z :: l => simp at hf
  unfold cutP
  rw [hn, if_neg (by rw [ByteArray.size_append]; omega)]
  congr 1
  · apply ba_ext
    rw [ext_list, app_list, size_list]
    simp
  · apply ba_ext
    rw [ext_list, app_list, ByteArray.size_append, size_list, size_list]
    rw [List.take_of_length_le (by simp)]
    simp
theorem bit_siz (x : Iso) : ∀ g, g < 4 → bitB (sizP x 4) g = wideP (setN (x.at_ g)) := by
  intro g hg
  have e : sizP x 4 = 64 + (if wideP (setN (x.at_ 0)) = true then 1 else 0) + (if wideP (setN (x.at_ 1)) = true then 2 else 0) + (if wideP (setN (x.at_ 2)) = true then 4 else 0) + (if wideP (setN (x.at_ 3)) = true then 8 else 0) := rfl
  rw [e]
  have hs : g = 0 ∨ g = 1 ∨ g = 2 ∨ g = 3 := by omega
  rcases hs with rfl | rfl | rfl | rfl
  all_goals
    show bitB _ _ = wideP (setN (x.at_ _))
    cases wideP (setN (x.at_ 0)) <;> cases wideP (setN (x.at_ 1)) <;> cases wideP (setN (x.at_ 2)) <;> cases wideP (setN (x.at_ 3)) <;> rfl
/-- A state that can be told and brought back. -/
def goodI (x : Iso) : Prop := ∀ g : Nat, g < 4 → 1 ≤ x.at_ (g : Int) ∧ x.at_ (g : Int) ≤ 17 ∧ ((g : Int) = 0 → x.at_ 0 ≠ 5)
theorem des_good (x y : Iso) (h : goodI x) (g : Nat) (hg : g < 4) : desP y g (wideP (setN (x.at_ g))) (idP (setN (x.at_ g))) = (y.put g (x.at_ g), true) := by
  obtain ⟨h1, h2, h3⟩ := h g hg
  have hk := setN_in _ ⟨h1, h2⟩
  unfold desP
  rw [id_back _ (by omega), if_pos, hk.1]
  refine ⟨by omega, by unfold inB; simp; omega, ?_⟩
  rintro ⟨e, hw⟩
  apply h3 e
  rw [e] at hw hk
  unfold wideP at hw
  have : setN (x.at_ 0) = 5 := by simpa using hw
  rw [this] at hk
  exact hk.1.symm
theorem step_good (x y : Iso) (h : goodI x) (g : Nat) (hg : g < 4) (t : ByteArray) : stepR (sizP x 4) g y (idP (setN (x.at_ g)) ++ t) = some (y.put g (x.at_ g), t) := by
  have hk := setN_in _ ⟨(h g hg).1, (h g hg).2.1⟩
  unfold stepR
  rw [cutP_id _ (by omega) hk.2.1, bit_siz x g hg]
  simp only
  rw [des_good x y h g hg]
  rfl
theorem app_nil (s : ByteArray) : s ++ ⟨#[]⟩ = s := ba_ext (by rw [app_list]; simp)
theorem nil_app (s : ByteArray) : (⟨#[]⟩ : ByteArray) ++ s = s := ba_ext (by rw [app_list]; simp)
theorem run_good (x y : Iso) (h : goodI x) : runR (sizP x 4) 4 0 y (idtP x 4) = some (⟨x.a, x.b, x.c, x.d, y.l, y.r, y.s⟩, ⟨#[]⟩) := by
  have e : idtP x 4 = idP (setN (x.at_ (0 : Nat))) ++ (idP (setN (x.at_ (1 : Nat))) ++ (idP (setN (x.at_ (2 : Nat))) ++ (idP (setN (x.at_ (3 : Nat))) ++ ⟨#[]⟩))) := by
    apply ba_ext
    show ((((⟨#[]⟩ ++ idP _) ++ idP _) ++ idP _) ++ idP _ : ByteArray).data.toList = _
    simp only [app_list, List.append_assoc]
    simp
  rw [e]
  unfold runR
  rw [step_good x y h 0 (by omega)]
  show runR _ 3 1 _ _ = _
  unfold runR
  rw [step_good x _ h 1 (by omega)]
  show runR _ 2 2 _ _ = _
  unfold runR
  rw [step_good x _ h 2 (by omega)]
  show runR _ 1 3 _ _ = _
  unfold runR
  rw [step_good x _ h 3 (by omega)]
  rfl
theorem rest_good (x y : Iso) (h : goodI x) (hr : 0 < rightP x) : restP y (leftP x) (rightP x) (sizP x 4) (idtP x 4) = (⟨x.a, x.b, x.c, x.d, leftP x, rightP x, y.s⟩, true) := by
  unfold restP
  have hz := siz_le x 4
  rw [if_pos ⟨left_in x, right_in x hr, hz.2, by omega⟩, run_good x _ h]
  rfl
end Go.Proofs.YtandfpghjbbalaaDoor
