/-
  A parser's small calls: what forgets, what begins, what holds a byte.
-/
import Derived.Test.YtpiliicphoacfaaDoorPrsC
namespace Go.Proofs.YtpiliicphoacfaaDoor

open Go Go.RowKit

theorem u8Zero : ∀ W : World, (zeroValue 5).run Tryd.prog W = .ok (.int .u8 0) W := by
  obtain ⟨i, hi, hz, _⟩ := info_u8
  intro W
  simp [zeroValue, typeInfo, hi, hz]
theorem beg0 : ps0.beg = [.int .i64 0, .int .i64 0, .int .u8 0, .int .u8 0, .slice none 0 0, .string ⟨#[]⟩, .slice none 0 0, .int .i64 0, .int .i64 0, .int .i64 0, .int .i64 0, .int .i64 0, .int .i64 0, .int .i64 0, .int .i64 0, .int .i64 0, .int .i64 0, .int .i64 0, .int .i64 0, .int .i64 0, .int .i64 0, .int .i64 0, .int .i64 0, .int .i64 0, .int .i64 0, .int .i64 0, .int .i64 0, .int .i64 0, .int .i64 0, .int .i64 0, .int .i64 0, .int .i64 0, .int .i64 0, .int .i64 0, .int .i64 0, .int .i64 0, .int .i64 0, .int .i64 0, .int .i64 0, .bool false] := rfl
def bg0 : Array Value := #[.int .i64 0, .int .i64 0, .int .u8 0, .int .u8 0, .slice none 0 0, .string ⟨#[]⟩, .slice none 0 0, .int .i64 0, .int .i64 0, .int .i64 0, .int .i64 0, .int .i64 0, .int .i64 0, .int .i64 0, .int .i64 0, .int .i64 0, .int .i64 0, .int .i64 0, .int .i64 0, .int .i64 0, .int .i64 0, .int .i64 0, .int .i64 0, .int .i64 0, .int .i64 0, .int .i64 0, .int .i64 0, .int .i64 0, .int .i64 0, .int .i64 0, .int .i64 0, .int .i64 0, .int .i64 0, .int .i64 0, .int .i64 0, .int .i64 0, .int .i64 0, .int .i64 0, .int .i64 0, .bool false]
theorem bg0_eq : ps0.beg.toArray = bg0 := rfl
theorem bg0_one : bg0.all (·.oneCell') = true := by simp [bg0, Value.oneCell']
theorem dat0 : ps0.dat = List.replicate 4096 (Value.int .u8 0) := by unfold Ps.dat ps0; rfl
theorem cells_clear (s : Ps) (h : s.ds.length ≤ 4096) : setL s.cells 40 (List.replicate s.ds.length (.int .u8 0)) = s.beg ++ ps0.dat := by
  have := setL_mid (List.replicate s.ds.length (.int .u8 0)) s.beg (s.ds.map (fun n : Nat => Value.int .u8 (n : Int))) (List.replicate (4096 - s.ds.length) (.int .u8 0)) (by simp)
  rw [beg_len] at this
  unfold Ps.cells
  rw [show s.dat = s.ds.map (fun n : Nat => Value.int .u8 (n : Int)) ++ List.replicate (4096 - s.ds.length) (.int .u8 0) from rfl, this, dat0, List.replicate_append_replicate]
  rw [show s.ds.length + (4096 - s.ds.length) = 4096 from by omega]
theorem cells_zero (s : Ps) : setL (s.beg ++ ps0.dat) 0 ps0.beg = ps0.cells := by
  have := setL_mid ps0.beg [] s.beg ps0.dat (by rw [beg_len, beg_len])
  simpa [Ps.cells] using this
theorem bgSize : (Tryd.prog.info? 38).map (·.size) = some bg0.size := by kernel_rfl
set_option maxRecDepth 100000 in
set_option maxHeartbeats 4000000 in
theorem reset_any (g : Nat) (s : Ps) (w : World) (h : PsB w g s) :
    Calls Tryd.prog 44 #[.pointer (some ⟨g, 0, none⟩)] w fun e w' => e = .returned (.tuple #[]) ∧ PsB w' g ps0 ∧ w.grownBy w' (some g) := by
  have q38 := h.at_ 38 _ (cell_held s)
  have hn := h.ok.ds
  have HB := Lib.hid h.blk
  have HC := Lib.hid (cells_clear s hn)
  have HL := Lib.hid (cells_len s hn)
  generalize hn' : s.ds.length = n at *
  have hn0 : (0 : Int) ≤ (n : Int) := by omega
  have hn1 : ((n : Int) ≤ 4096) = True := eq_true (by omega)
  clear h hn'
  have f0 : ∀ j, w.frozen? ⟨g, j, none⟩ = false := fun j => HB.out.frozen j
  have hcl : (Builtin.clear_ #[24] 0 #[.slice (some ⟨g, 40, none⟩) n 4096]).run Tryd.prog w.drew = .ok (.tuple #[]) (w.drew.setCells g 40 (List.replicate n (.int .u8 0))) := by
    rcases Nat.eq_zero_or_pos n with rfl | hp
    · simp [Builtin.clear_, run_underlying Tryd.underlying24, World.setCells]
    · exact Lib.run_clear_slice (P := Tryd.prog) w.drew 24 5 0 (.int .u8 0) Tryd.underlying24 u8Zero rfl rfl g 40 n 4096 hp (fun j hj => by
        show (w.cell? _).isSome = true
        rw [HB.out.cell, List.getElem?_toArray]; simp; rw [HL.out]; omega) (fun j _ => f0 _)
  clear f0
  go_enter Tryd.func44, Tryd.ntmps44
  go_wp2
  go_region
  all_goals
    have H1 := Lib.hid (blk_setCells (List.replicate n (.int .u8 0)) 40 w.drew s.cells HB.out)
    have HG := Lib.hid (show w.grownBy (w.drew.setCells g 40 (List.replicate n (.int .u8 0))) (some g) from grown_trans (grown_drew (grown_refl w _)) (grown_setCells (List.replicate n (.int .u8 0)) 40 w.drew))
    generalize w.drew.setCells g 40 (List.replicate n (.int .u8 0)) = w1 at *
    clear hcl q38
    rw [HC.out] at H1
    have HT := Lib.hid (there_blk H1.out 0 40 (by rw [List.size_toArray, List.length_append, beg_len]; omega))
    go_wp2_with (refine wpList_store_mid rfl 38 _ _ rfl g 0 bg0 rfl rfl HT.out bgSize bg0_one ?_)
    go_end0
    have H2 := blk_setCells ps0.beg 0 w1 _ H1.out
    have e0 : bg0.toList = ps0.beg := rfl
    rw [cells_zero] at H2
    exact ⟨rfl, ⟨H2, ps0_ok⟩, grown_trans HG.out (grown_setCells _ _ _)⟩
end Go.Proofs.YtpiliicphoacfaaDoor
