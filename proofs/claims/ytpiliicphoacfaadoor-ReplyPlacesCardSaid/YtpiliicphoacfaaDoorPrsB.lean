/-
  The numbers that a parser collects: a digit, a semicolon, any byte; their list.
-/
import Derived.Test.YtpiliicphoacfaaDoorPrsA
namespace Go.Proofs.YtpiliicphoacfaaDoor

open Go Go.RowKit

def Ps.cellsA (s : Ps) (L : List Int) : List Value := .int .i64 s.pl :: .int .i64 s.kd :: .int .u8 (s.cd : Int) :: .int .u8 (s.mr : Int) :: .slice none 0 0 :: .string s.it :: .slice none 0 0 :: (L.map (Value.int .i64) ++ (.int .i64 (s.ds.length : Int) :: .bool s.vo :: s.dat))
def accF (fs : List Int) : List Int := padF fs ++ [((min fs.length 31 : Nat) : Int)]
theorem accF_len (fs : List Int) : (accF fs).length = 31 := by unfold accF; simp [padF_len]
theorem cellsA_eq (s : Ps) : s.cells = s.cellsA (accF s.fs) := by unfold Ps.cells Ps.beg Ps.acc Ps.cellsA accF; simp
theorem cellsA_set (s : Ps) (L : List Int) (k : Nat) (n : Int) (hk : k < L.length) : (s.cellsA L).set (7 + k) (.int .i64 n) = s.cellsA (L.set k n) := by
  unfold Ps.cellsA
  rw [Nat.add_comm]
  simp only [List.set_cons_succ]
  rw [List.set_append_left _ _ (by simpa using hk), List.map_set]
theorem blkA_set {w : World} {g : Nat} {s : Ps} {L : List Int} (h : Blk w g 41 (s.cellsA L).toArray) (k : Nat) (n : Int) (hk : k < L.length) : Blk (w.setCell ⟨g, 7 + k, none⟩ (.int .i64 n)) g 41 (s.cellsA (L.set k n)).toArray := by
  have := Blk.set_ h (7 + k) (.int .i64 n)
  rw [List.setIfInBounds_toArray, cellsA_set s L k n hk] at this
  exact this
theorem PsB.toA {w : World} {g : Nat} {s : Ps} (h : PsB w g s) : Blk w g 41 (s.cellsA (accF s.fs)).toArray := by rw [← cellsA_eq]; exact h.blk
theorem PsB.ofA {w : World} {g : Nat} {s : Ps} {fs : List Int} (h : Blk w g 41 (s.cellsA (accF fs)).toArray) (ho : s.ok) (hf : InF fs) : PsB w g {s with fs := fs} := by
  refine ⟨?_, hf, ho.ds, ho.it⟩
  rw [cellsA_eq]
  exact h
theorem acc_digitF (gs : List Int) (x d : Int) (h : gs.length < 30) : ((accF (gs ++ [x])).set 30 ((gs.length + 1 : Nat) : Int)).set gs.length d = accF (gs ++ [d]) := acc_digit gs x d h
theorem digF_range {fs : List Int} {d : Int} (h : InF fs) (hd : 0 ≤ d) : InF (digF fs d) := by
  intro n hn
  unfold digF at hn
  split at hn
  · obtain rfl : n = _ := by simpa using hn
    exact sat1_range (Int.le_refl 0) hd
  · rename_i hne
    rcases List.mem_append.1 hn with hn | hn
    · exact h n (List.dropLast_subset _ hn)
    · obtain rfl : n = _ := by simpa using hn
      refine sat1_range ?_ hd
      rw [List.getLast?_eq_some_getLast hne]
      exact (h _ (List.getLast_mem hne)).1
theorem semF_range {fs : List Int} (h : InF fs) : InF (semF fs) := by
  intro n hn
  unfold semF at hn
  split at hn
  · simp at hn; omega
  · rcases List.mem_append.1 hn with hn | hn
    · exact h n hn
    · simp at hn; omega
set_option maxRecDepth 100000 in
set_option maxHeartbeats 4000000 in
theorem digitP_any (g : Nat) (s : Ps) (d : Int) (hd : 0 ≤ d ∧ d ≤ 9) (w : World) (h : PsB w g s) :
    Calls Tryd.prog 103 #[.pointer (some ⟨g, 7, none⟩), .int .i64 d] w fun e w' => e = .returned (.tuple #[]) ∧ PsB w' g {s with fs := digF s.fs d} ∧ w.grownBy w' (some g) := by
  have hrg := digF_range (d := d) h.ok.fs hd.1
  obtain ⟨d0, d1⟩ := hd
  have hb := h.at_ 37 _ (cell_begun s)
  have f37 := Blk.frozen h.blk 37
  have hok := h.ok
  rcases List.eq_nil_or_concat s.fs with hfs | ⟨gs, x, hfs⟩
  · have c0 : w.cell? ⟨g, 7, none⟩ = some (.int .i64 0) := h.at_ 7 _ (by rw [show 7 = 7 + 0 from rfl, cell_fs s 0 (by omega), hfs]; rfl)
    have f0 := Blk.frozen h.blk 7
    have H := Lib.hid h.toA
    have HO := Lib.hid hok
    have HG := Lib.hid hrg
    rw [hfs] at hb H HG
    have e2 : Hid (s.fs = []) := Lib.hid hfs
    change w.cell? ⟨g, 37, none⟩ = some (.int .i64 0) at hb
    clear h hfs hok hrg
    have m01 : max (0 : Int) 1 = 1 := rfl
    have mn1 : min d 65535 = d := by omega
    go_enter Tryd.func103, Tryd.ntmps103
    go_wp2
    go_region
    all_goals
      go_end0
      refine ⟨rfl, ?_, grown_drew (grown_trans grown_set grown_set)⟩
      have h1 := blkA_set (blkA_set H.out 30 1 (by decide)) 0 d (by decide)
      have e : sat1 0 d = d := by unfold sat1; omega
      rw [show ((accF []).set 30 1).set 0 d = accF [d] from acc_first_digit d] at h1
      rw [e2.out]
      have e3 : digF [] d = [d] := by simp [digF, e]
      rw [e3] at HG ⊢
      exact PsB.ofA h1 HO.out HG.out
  · rw [List.concat_eq_append] at hfs
    obtain ⟨x0, x1⟩ := hok.fs x (by rw [hfs]; simp)
    by_cases hk : gs.length < 30
    · have e31 : ((min s.fs.length 31 : Nat) : Int) = (gs.length : Int) + 1 := by rw [hfs]; simp; omega
      rw [e31] at hb
      have hx : (padF s.fs)[gs.length]? = some x := by
        rw [hfs]
        unfold padF
        rw [List.take_of_length_le (by simp; omega), List.getElem?_append_left (by simp), List.getElem?_append_right (by omega)]
        simp
      have c0 : w.cell? ⟨g, 7 + gs.length, none⟩ = some (.int .i64 x) := h.at_ _ _ (by rw [cell_fs s _ hk, hx]; rfl)
      have f0 := Blk.frozen h.blk (7 + gs.length)
      have H := Lib.hid h.toA
      have HO := Lib.hid hok
      have HE : Hid (((accF (gs ++ [x])).set 30 ((gs.length : Int) + 1)).set gs.length (sat1 x d) = accF (gs ++ [sat1 x d])) := Lib.hid (acc_digitF gs x (sat1 x d) hk)
      have HD : Hid (digF s.fs d = gs ++ [sat1 x d]) := Lib.hid (by rw [hfs]; simp [digF])
      have HG := Lib.hid hrg
      have HF := Lib.hid hfs
      have hne : 7 + gs.length ≠ 37 := by omega
      have hne2 : gs.length ≠ 30 := by omega
      have mx1 : max ((gs.length : Int) + 1) 1 = (gs.length : Int) + 1 := by omega
      clear h hx e31 hok hrg hfs
      go_enter Tryd.func103, Tryd.ntmps103
      go_wp2
      go_region
      all_goals
        go_end0
        refine ⟨rfl, ?_, grown_drew (grown_trans grown_set grown_set)⟩
        have h0 := H.out
        rw [HF.out] at h0
        have h1 := blkA_set (blkA_set h0 30 ((gs.length : Int) + 1) (by rw [accF_len]; omega)) gs.length (sat1 x d) (by rw [List.length_set, accF_len]; omega)
        rw [HE.out] at h1
        rw [HD.out] at HG ⊢
        exact PsB.ofA h1 HO.out HG.out
    · have e31 : ((min s.fs.length 31 : Nat) : Int) = 31 := by rw [hfs]; simp; omega
      have H := Lib.hid h.toA
      have HO := Lib.hid hok
      have HE := Lib.hid (acc_late gs x (sat1 x d) (by omega))
      have HD : Hid (digF s.fs d = gs ++ [sat1 x d]) := Lib.hid (by rw [hfs]; simp [digF])
      have HG := Lib.hid hrg
      have HF := Lib.hid hfs
      rw [e31] at hb
      have H31 := Lib.hid e31
      clear h e31 hok hrg hfs
      go_enter Tryd.func103, Tryd.ntmps103
      go_wp2
      go_end0
      refine ⟨rfl, ?_, grown_set⟩
      have h1 := blkA_set H.out 30 31 (by rw [accF_len]; omega)
      have h2 : (accF s.fs).set 30 31 = accF s.fs := by
        unfold accF
        rw [H31.out, List.set_append_right _ _ (by rw [padF_len]; omega), padF_len]
        rfl
      rw [h2] at h1
      rw [HD.out] at HG ⊢
      rw [HF.out, show accF (gs ++ [x]) = accF (gs ++ [sat1 x d]) from HE.out] at h1
      exact PsB.ofA h1 HO.out HG.out
set_option maxRecDepth 100000 in
set_option maxHeartbeats 4000000 in
theorem semicolonP_any (g : Nat) (s : Ps) (w : World) (h : PsB w g s) :
    Calls Tryd.prog 104 #[.pointer (some ⟨g, 7, none⟩)] w fun e w' => e = .returned (.tuple #[]) ∧ PsB w' g {s with fs := semF s.fs} ∧ w.grownBy w' (some g) := by
  have HG := Lib.hid (semF_range h.ok.fs)
  have hb := h.at_ 37 _ (cell_begun s)
  have f37 := Blk.frozen h.blk 37
  have H := Lib.hid h.toA
  have HO := Lib.hid h.ok
  clear h
  by_cases hf : s.fs = []
  · rw [hf] at hb H HG
    have e2 : Hid (s.fs = []) := Lib.hid hf
    clear hf
    change w.cell? ⟨g, 37, none⟩ = some (.int .i64 0) at hb
    go_enter Tryd.func104, Tryd.ntmps104
    go_wp2
    go_end0
    refine ⟨rfl, ?_, grown_set⟩
    have h1 := blkA_set H.out 30 2 (by decide)
    rw [show (accF []).set 30 2 = accF [0, 0] from acc_semi_nil] at h1
    rw [e2.out]
    exact PsB.ofA h1 HO.out HG.out
  · have hl : 0 < s.fs.length := List.length_pos_iff.2 hf
    have HS : Hid (semF s.fs = s.fs ++ [0]) := Lib.hid (by simp [semF, hf])
    have HE := Lib.hid (acc_semi s.fs)
    clear hf
    obtain ⟨m, hm, hm1, hm2⟩ : ∃ m : Nat, m = min s.fs.length 31 ∧ 1 ≤ m ∧ m ≤ 31 := ⟨_, rfl, by omega, by omega⟩
    rw [← hm] at hb
    have HM := Lib.hid hm
    clear hm hl
    have mx1 : max (m : Int) 1 = (m : Int) := by omega
    by_cases h31 : m = 31
    · subst h31
      go_enter Tryd.func104, Tryd.ntmps104
      go_wp2
      go_end0
      refine ⟨rfl, ?_, grown_set⟩
      have h1 := blkA_set H.out 30 ((min (s.fs.length + 1) 31 : Nat) : Int) (by rw [accF_len]; omega)
      rw [show (accF s.fs).set 30 ((min (s.fs.length + 1) 31 : Nat) : Int) = accF (s.fs ++ [0]) from HE.out, show ((min (s.fs.length + 1) 31 : Nat) : Int) = 31 from by have := HM.out; omega] at h1
      rw [HS.out] at HG ⊢
      exact PsB.ofA h1 HO.out HG.out
    · have hlt : m < 31 := by omega
      have mn1 : min ((m : Int) + 1) 31 = (m : Int) + 1 := by omega
      clear h31
      go_enter Tryd.func104, Tryd.ntmps104
      go_wp2
      go_end0
      refine ⟨rfl, ?_, grown_set⟩
      have h1 := blkA_set H.out 30 ((min (s.fs.length + 1) 31 : Nat) : Int) (by rw [accF_len]; omega)
      rw [show (accF s.fs).set 30 ((min (s.fs.length + 1) 31 : Nat) : Int) = accF (s.fs ++ [0]) from HE.out, show ((min (s.fs.length + 1) 31 : Nat) : Int) = (m : Int) + 1 from by have := HM.out; omega] at h1
      rw [HS.out] at HG ⊢
      exact PsB.ofA h1 HO.out HG.out
set_option maxRecDepth 100000 in
set_option maxHeartbeats 4000000 in
theorem byteP_yes (g : Nat) (s : Ps) (b : UInt8) (hb : okb b = true) (w : World) (h : PsB w g s) :
    Calls Tryd.prog 92 #[.pointer (some ⟨g, 7, none⟩), .int .u8 b.toNat] w fun e w' => e = .returned (.bool true) ∧ PsB w' g {s with fs := stepF s.fs b} ∧ w.grownBy w' (some g) := by
  by_cases h59 : b = 59
  · subst h59
    have HC := Lib.hid (semicolonP_any g s w h)
    clear h
    go_enter Tryd.func92, Tryd.ntmps92
    go_wp2_with (go_at_call 104; refine HC.out.mono ?_; rintro e w1 ⟨rfl, h1, h2⟩)
    go_ret
    exact ⟨rfl, h1, h2⟩
  · obtain ⟨b0, b1⟩ := okb_digit hb h59
    have HS := Lib.hid (stepF_eq s.fs b)
    rw [if_neg h59] at HS
    have HC := Lib.hid (digitP_any g s (dgt b) (by unfold dgt; omega) w h)
    have HD : Hid (dgt b = (b.toNat : Int) - 48) := Lib.hid rfl
    have e1 : IntKind.u8.wrap ((b.toNat : Int) - 48) = (b.toNat : Int) - 48 := by rw [IntKind.wrap_u8]; omega
    generalize dgt b = d at *
    generalize stepF s.fs b = fs2 at *
    clear h h59 hb
    generalize b.toNat = n at *
    go_enter Tryd.func92, Tryd.ntmps92
    go_wp2_with fail
    rw [← HD.out]
    refine HC.out.mono ?_
    rintro e w1 ⟨rfl, h1, h2⟩
    go_wp2
    go_ret
    exact ⟨rfl, by rw [HS.out]; exact h1, h2⟩
set_option maxHeartbeats 1000000 in
theorem byteP_no (g : Nat) (b : UInt8) (hb : okb b = false) (w : World) :
    Calls Tryd.prog 92 #[.pointer (some ⟨g, 7, none⟩), .int .u8 b.toNat] w fun e w' => e = .returned (.bool false) ∧ w = w' := by
  have h : b.toNat ≠ 59 ∧ (b.toNat < 48 ∨ 57 < b.toNat) := by
    have hlt := b.toNat_lt
    simp [okb, UInt8.le_iff_toNat_le] at hb
    refine ⟨fun e => hb.1 (UInt8.toNat_inj.1 e), ?_⟩
    have := hb.2
    omega
  generalize b.toNat = n at *
  obtain ⟨h1, h2⟩ := h
  have h59 : ((n : Int) == 59) = false := by simp; omega
  clear h1 hb
  rcases h2 with h2 | h2
  · have hd : decide ((n : Int) ≥ 48) = false := by simp; omega
    go_enter Tryd.func92, Tryd.ntmps92
    go_wp2_with fail
    go_ret
    exact ⟨rfl, rfl⟩
  · have hd : decide ((n : Int) ≤ 57) = false := by simp; omega
    go_enter Tryd.func92, Tryd.ntmps92
    go_wp2_with fail
    go_ret
    exact ⟨rfl, rfl⟩
end Go.Proofs.YtpiliicphoacfaaDoor
