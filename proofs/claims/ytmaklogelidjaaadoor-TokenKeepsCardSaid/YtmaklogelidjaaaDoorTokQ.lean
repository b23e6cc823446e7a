/-
  Tokens: the fixed fact; one told as the document's.
-/
import Derived.Test.YtmaklogelidjaaaDoorTokP
namespace Go.Proofs.YtmaklogelidjaaaDoor

open Go Go.RowKit

theorem fmt_six : fmtL [6] = [54] := by
  unfold fmtL digs
  show Lib.join [Lib.decDigits 6] [59] = [54]
  rw [Lib.decDigits, dif_pos (by omega)]
  rfl
theorem fmt_none : fmtL [] = [] := rfl
def dollar : ByteArray := ⟨#[36]⟩
theorem fix_check : checkP 4 112 63 [6] ⟨#[36]⟩ [] = 0 := by decide +kernel
theorem fix_bytes : bytesL 4 112 63 [6] ⟨#[36]⟩ [] true = [155, 63, 54, 36, 112] := by
  show leadL 91 true ++ signsL 112 63 [6] ⟨#[36]⟩ ++ [] = _
  unfold signsL
  rw [fmt_six]
  rfl
theorem fix_id : idP 4 112 63 ⟨#[36]⟩ = ⟨#[63, 36, 112]⟩ := by
  unfold idP signsL
  rw [fmt_none]
  rfl
theorem fix_str : bstr [155, 63, 54, 36, 112] = ⟨#[155, 63, 54, 36, 112]⟩ := rfl
set_option maxRecDepth 100000 in
set_option maxHeartbeats 8000000 in
theorem told_any (k : Int) (c m : Int) (P : Option Addr) (ps : List Int) (pc : Nat) (s : ByteArray) (D : Option Addr) (dt : List Nat) (dc : Nat) (w : World) :
    Calls Tryd.prog 11 #[.agg (tkC k c m P ps pc s D dt dc)] w fun e w' => e = .returned (.agg (tkC k c m P ps pc s D dt dc)) ∧ Below w.heap.size w w' := by
  unfold tkC
  go_enter Tryd.func11, Tryd.ntmps11
  go_wp2_with fail
  exact bodyPost_ret (v := .agg #[.int .i64 k, .int .u8 c, .int .u8 m, .slice P ps.length pc, .string s, .slice D dt.length dc]) (by simp [results, Tryd.results11, go_sem]) rfl ⟨rfl, by go_grown⟩
set_option maxRecDepth 100000 in
set_option maxHeartbeats 8000000 in
theorem tokAwake_any (w : World) (ht : Ten w) : Calls Tryd.prog 4 #[] w fun e w' => e = .returned (.bool true) ∧ Below w.heap.size w w' := by
  have HT := Lib.hid ht
  clear ht
  have HBy : Hid (∀ W, Ten W → RInts W (some ⟨w.heap.size, 0, none⟩) [6] → Calls Tryd.prog 7 #[.agg #[.int .i64 4, .int .u8 112, .int .u8 63, .slice (some ⟨w.heap.size, 0, none⟩) 1 1, .string ⟨#[36]⟩, .slice none 0 0], .bool true] W fun e w' => (∃ v, e = .returned (.tuple #[v, .int .i64 0]) ∧ OByt w' (W.heap.size + 1) v [155, 63, 54, 36, 112]) ∧ Below W.heap.size W w') := Lib.hid (fun W t h => by
    refine (bytes_any 4 112 63 (some ⟨w.heap.size, 0, none⟩) [6] 1 ⟨#[36]⟩ none [] 0 (by decide) (by decide) (by decide) (by decide) (by decide) true W t h (rbyt_nil W)).mono ?_
    rintro e w' ⟨hR, hb⟩
    refine ⟨?_, hb⟩
    rcases hR with ⟨h0, _⟩ | ⟨_, v, he, ho⟩
    · exact absurd fix_check h0
    · rw [fix_bytes] at ho
      exact ⟨v, he, ho⟩)
  have HIq : Hid (∀ W, Ten W → Calls Tryd.prog 13 #[.agg #[.int .i64 4, .int .u8 112, .int .u8 63, .slice (some ⟨w.heap.size, 0, none⟩) 1 1, .string ⟨#[36]⟩, .slice none 0 0]] W fun e w' => e = .returned (.string ⟨#[63, 36, 112]⟩) ∧ Below W.heap.size W w') := Lib.hid (fun W t => by
    have := id_any 4 112 63 (some ⟨w.heap.size, 0, none⟩) [6] 1 ⟨#[36]⟩ none [] 0 (by decide) W t
    rw [fix_id] at this
    exact this)
  have HK : Hid (Below w.heap.size w (w.alloc (.cells #[.int .i64 6] 3)) ∧ RInts (w.alloc (.cells #[.int .i64 6] 3)) (some ⟨w.heap.size, 0, none⟩) [6]) := Lib.hid ⟨(Below.refl _ _).alloc (Nat.le_refl _) _, rints_new w 3 [6] _ rfl _ rfl⟩
  go_enter Tryd.func4, Tryd.ntmps4
  go_upto_region 2 with fail
  have HB2 := Lib.hid (HK.out.1.alloc HK.out.1.size (.cells #[.int .i64 4, .int .u8 112, .int .u8 63, .slice (some ⟨w.heap.size, 0, none⟩) 1 1, .string ⟨#[36]⟩, .slice none 0 0] 27))
  have HR2 := Lib.hid (HK.out.2.next ((Below.refl _ _).alloc (Nat.le_refl _) (.cells #[.int .i64 4, .int .u8 112, .int .u8 63, .slice (some ⟨w.heap.size, 0, none⟩) 1 1, .string ⟨#[36]⟩, .slice none 0 0] 27)))
  have HX2 := Lib.hid (Blk.new (w.alloc (.cells #[.int .i64 6] 3)) 27 #[.int .i64 4, .int .u8 112, .int .u8 63, .slice (some ⟨w.heap.size, 0, none⟩) 1 1, .string ⟨#[36]⟩, .slice none 0 0])
  have hz : (w.alloc (.cells #[.int .i64 6] 3)).heap.size = w.heap.size + 1 := by simp
  rw [hz] at HX2
  generalize (w.alloc (.cells #[.int .i64 6] 3)).alloc (.cells #[.int .i64 4, .int .u8 112, .int .u8 63, .slice (some ⟨w.heap.size, 0, none⟩) 1 1, .string ⟨#[36]⟩, .slice none 0 0] 27) = w1 at *
  clear HK hz
  obtain ⟨a0, a1, a2, a3, a4, a5⟩ := six HX2.out
  go_wp2_with fail
  refine (HBy.out _ (HT.out.next HB2.out) HR2.out).mono ?_
  rintro e w3 ⟨⟨v, rfl, ho⟩, hb3⟩
  have HB3 := Lib.hid (HB2.out.trans (hb3.mono HB2.out.size))
  have HX3 := Lib.hid (HX2.out.next hb3)
  obtain ⟨A3, c3, rfl⟩ := ho.form
  have hcv : (convert 23 9 (.slice A3 5 c3)).run Tryd.prog w3 = .ok (.string ⟨#[155, 63, 54, 36, 112]⟩) w3 := conv_by ho.reads c3
  clear hb3 a0 a1 a2 a3 a4 a5 ho HX2 HR2 HB2
  obtain ⟨a0, a1, a2, a3, a4, a5⟩ := six HX3.out
  go_wp2_with fail
  refine (HIq.out _ (HT.out.next HB3.out)).mono ?_
  rintro e w4 ⟨rfl, hb4⟩
  have HB4 := Lib.hid (HB3.out.trans (hb4.mono HB3.out.size))
  clear hb4 hcv a0 a1 a2 a3 a4 a5
  go_wp2_with fail
  go_ret
  exact ⟨rfl, HB4.out⟩
end Go.Proofs.YtmaklogelidjaaaDoor
