/-
  A parser's small calls: what holds a byte, an Inter more.
-/
import Derived.Test.YtpiliicphoacfaaDoorPrsE
import Derived.Laws.Concat
namespace Go.Proofs.YtpiliicphoacfaaDoor

open Go Go.RowKit

def holdP (s : Ps) (c : Nat) : Ps := if s.ds.length = 4096 then {s with vo := true} else {s with ds := s.ds ++ [c]}
theorem cells_hold (s : Ps) (c : Nat) (h : s.ds.length < 4096) : (s.cells.set (40 + s.ds.length) (.int .u8 (c : Int))).set 38 (.int .i64 ((s.ds.length : Int) + 1)) = ({s with ds := s.ds ++ [c]} : Ps).cells := by
  have e1 : s.cells.set (40 + s.ds.length) (.int .u8 (c : Int)) = s.beg ++ ({s with ds := s.ds ++ [c]} : Ps).dat := by
    unfold Ps.cells Ps.dat
    rw [List.set_append_right _ _ (by rw [beg_len]; omega), beg_len, Nat.add_sub_cancel_left, List.set_append_right _ _ (by simp)]
    rw [show 4096 - s.ds.length = (4096 - (s.ds.length + 1)) + 1 from by omega, List.replicate_succ]
    simp
  have e2 : s.beg.set 38 (.int .i64 ((s.ds.length : Int) + 1)) = ({s with ds := s.ds ++ [c]} : Ps).beg := by
    unfold Ps.beg Ps.acc
    simp only [List.set_cons_succ]
    rw [List.set_append_right _ _ (by simp [padF_len])]
    simp [padF_len]
  rw [e1, List.set_append_left _ _ (by rw [beg_len]; omega), e2]
  rfl
set_option maxRecDepth 100000 in
set_option maxHeartbeats 4000000 in
theorem hold_any (g : Nat) (s : Ps) (c : Nat) (w : World) (h : PsB w g s) :
    Calls Tryd.prog 96 #[.pointer (some ⟨g, 0, none⟩), .int .u8 (c : Int)] w fun e w' => e = .returned (.tuple #[]) ∧ PsB w' g (holdP s c) ∧ w.grownBy w' (some g) := by
  have q38 := h.at_ 38 _ (cell_held s)
  have f38 := h.blk.frozen 38
  have H := Lib.hid h
  have hn := h.ok.ds
  unfold holdP
  by_cases hz : s.ds.length = 4096
  · rw [if_pos hz]
    rw [hz] at q38
    have q39 := h.at_ 39 _ (cell_void s)
    have f39 := h.blk.frozen 39
    clear h hn hz
    change w.cell? ⟨g, 38, none⟩ = some (.int .i64 4096) at q38
    go_enter Tryd.func96, Tryd.ntmps96
    go_wp2_with fail
    exact bodyPost_ret (results_none rfl _ _ _) rfl ⟨rfl, H.out.put 39 (.bool true) (set_vo s true) ⟨H.out.ok.fs, H.out.ok.ds, H.out.ok.it⟩, grown_set⟩
  · rw [if_neg hz]
    have hlt : s.ds.length < 4096 := by omega
    have HC := Lib.hid (cells_hold s c hlt)
    have q40 : w.cell? ⟨g, 40 + s.ds.length, none⟩ = some (.int .u8 0) := h.at_ _ _ (by
      unfold Ps.cells Ps.dat
      rw [List.getElem?_append_right (by rw [beg_len]; omega), beg_len, Nat.add_sub_cancel_left, List.getElem?_append_right (by simp)]
      rw [List.length_map, Nat.sub_self, List.getElem?_replicate, if_pos (by omega)])
    have f40 := h.blk.frozen (40 + s.ds.length)
    generalize hd : s.ds = l at *
    have HL := Lib.hid hd
    have hne : ((l.length : Int) == 4096) = false := by simp; omega
    have hi1 : (l.length : Int) < 4096 := by omega
    have hw : IntKind.i64.wrap ((l.length : Int) + 1) = (l.length : Int) + 1 := IntWalk.i64_in _ (by omega)
    have hnn : 40 + l.length ≠ 38 := by omega
    clear h hn hz hd
    go_enter Tryd.func96, Tryd.ntmps96
    go_wp2_with fail
    go_region
    all_goals
      go_wp2_with fail
      go_end0
      refine ⟨rfl, ⟨?_, H.out.ok.fs, ?_, H.out.ok.it⟩, grown_trans (grown_drew grown_set) grown_set⟩
      · have h1 := Blk.set_ (Blk.set_ H.out.blk (40 + l.length) (.int .u8 (c : Int))) 38 (.int .i64 ((l.length : Int) + 1))
        rw [List.setIfInBounds_toArray, List.setIfInBounds_toArray, HC.out] at h1
        exact h1
      · show (l ++ [c]).length ≤ 4096
        simp; omega
def chB (c : Nat) : ByteArray := ⟨#[UInt8.ofNat c]⟩
theorem enc_ch (c : Nat) (h : c < 128) : Utf8.encode (c : Int) = chB c := by
  have : ∀ k : Fin 128, Utf8.encode ((k.val : Nat) : Int) = chB k.val := by decide +kernel
  exact this ⟨c, h⟩
def takeInterP (s : Ps) (c : Nat) : Ps := if s.it.size = 3 then {s with vo := true} else {s with it := s.it ++ chB c}
set_option maxRecDepth 100000 in
set_option maxHeartbeats 4000000 in
theorem takeInter_any (g : Nat) (s : Ps) (c : Nat) (hc : 32 ≤ c ∧ c ≤ 47) (w : World) (h : PsB w g s) :
    Calls Tryd.prog 90 #[.pointer (some ⟨g, 0, none⟩), .int .u8 (c : Int)] w fun e w' => e = .returned (.tuple #[]) ∧ PsB w' g (takeInterP s c) ∧ w.grownBy w' (some g) := by
  have q5 := h.at_ 5 _ rfl
  have f5 := h.blk.frozen 5
  have q39 := h.at_ 39 _ (cell_void s)
  have f39 := h.blk.frozen 39
  have H := Lib.hid h
  have h3 := h.ok.it
  unfold takeInterP
  by_cases hz : s.it.size = 3
  · rw [if_pos hz]
    clear h h3
    go_enter Tryd.func90, Tryd.ntmps90
    go_wp2_with fail
    exact bodyPost_ret (results_none rfl _ _ _) rfl ⟨rfl, H.out.put 39 (.bool true) (set_vo s true) ⟨H.out.ok.fs, H.out.ok.ds, H.out.ok.it⟩, grown_set⟩
  · rw [if_neg hz]
    have hne : ((s.it.size : Int) == 3) = false := by simp; omega
    have hsz : Hid (s.it.size ≤ 2) := Lib.hid (by omega)
    have hci : IntKind.i32.wrap (c : Int) = (c : Int) := by rw [IntKind.wrap_i32]; omega
    have hen : Utf8.encode (c : Int) = chB c := enc_ch c (by omega)
    have hu1 : Hid ((chB c).size = 1) := Lib.hid rfl
    generalize chB c = u at *
    generalize s.it = it at *
    have hadd : ∀ W : World, (Op.stringOp .add it u).run Tryd.prog W = .ok (.string (it ++ u)) W := fun W => run_string_add_sum W it u (by rw [hu1.out]; have := hsz.out; omega)
    clear h h3 hz
    go_enter Tryd.func90, Tryd.ntmps90
    go_wp2_with fail
    go_end0
    refine ⟨rfl, H.out.put 5 (.string (it ++ u)) (set_it s _) ⟨H.out.ok.fs, H.out.ok.ds, ?_⟩, grown_set⟩
    show (it ++ u).size ≤ 3
    rw [ByteArray.size_append, hu1.out]
    have := hsz.out
    omega
end Go.Proofs.YtpiliicphoacfaaDoor
