/-
  Which function a control sequence is.
-/
import Derived.Test.YtegcebdnofnigaaDoorGatD
import Derived.Test.YtegcebdnofnigaaDoorTokJ
namespace Go.Proofs.YtegcebdnofnigaaDoor
open Go Go.RowKit

theorem results_c2 {fn : Func} {p u v : Tmp} {ty : TypeId} (h : fn.results = #[.cell p ty, .tmp u, .tmp v]) (tmps : Array Value) (w : World) (g : Nat) (t : TypeId) (cs : Array Value) (fr : Nat × Nat)
    (hp : tmps.getD p undef = .pointer (some ⟨g, 0, none⟩)) (hg : w.heap[g]? = some (.cells cs t fr))
    (hu : Tryd.prog.underlying ty = some (.struct (Tryd.prog.fieldsOf ty))) (hi : (Tryd.prog.info? ty).map (·.size) = some cs.size) :
    (results fn tmps).run Tryd.prog w = .ok (.tuple #[.agg cs, tmps.getD u undef, tmps.getD v undef]) w := by
  have hp' : tmps[p]?.getD undef = .pointer (some ⟨g, 0, none⟩) := by simpa using hp
  simp [results, h, hp', asAddr, run_loadVar_row w g t ty cs fr _ hg hu rfl hi]
theorem tkUnder : Tryd.prog.underlying 32 = some (.struct (Tryd.prog.fieldsOf 32)) := by kernel_rfl
theorem tkSize : (Tryd.prog.info? 32).map (·.size) = some 6 := by kernel_rfl
theorem dgUnder : Tryd.prog.underlying 37 = some (.struct (Tryd.prog.fieldsOf 37)) := by kernel_rfl
theorem dgSize : (Tryd.prog.info? 37).map (·.size) = some 3 := by kernel_rfl
def dg0 : Array Value := #[.int .i64 0, .bool false, .int .i64 0]
theorem dg0_one : dg0.all (·.oneCell') = true := by simp [dg0, Value.oneCell']
def tkS (c m : Nat) (s : ByteArray) : Array Value := #[.int .i64 4, .int .u8 (c : Int), .int .u8 (m : Int), .slice none 0 0, .string s, .slice none 0 0]
theorem idC_any (c m : Nat) (s : ByteArray) (hs : s.size ≤ 1000) (w : World) (ht : Ten w) : Calls Tryd.prog 13 #[.agg (tkS c m s)] w fun e w' => e = .returned (.string (idP 4 c m s)) ∧ Below w.heap.size w w' :=
  id_any 4 c m none [] 0 s none [] 0 (by omega) w ht
set_option maxRecDepth 100000 in
set_option maxHeartbeats 4000000 in
theorem desC_any (c m : Nat) (s : ByteArray) (hs : s.size ≤ 1000) (w : World) (ht : Ten w) : Calls Tryd.prog 10 #[.agg (tkS c m s)] w fun e w' => e = .returned (.tuple #[.agg dg0, .string ⟨#[]⟩, .bool false]) ∧ Below w.heap.size w w' := by
  have b1 := (Blk.new w 32 (tkS c m s)).alloc (.cells dg0 37)
  have b2 := Blk.new (w.alloc (.cells (tkS c m s) 32)) 37 dg0
  rw [World.size_alloc] at b2
  have hb : Below w.heap.size w ((w.alloc (.cells (tkS c m s) 32)).alloc (.cells dg0 37)) := ((Below.refl _ w).alloc (Nat.le_refl _) _).alloc (by simp) _
  have H1 := Lib.hid b1; have H2 := Lib.hid b2; have HB := Lib.hid hb
  have HI := Lib.hid (fun W g => idC_any c m s hs W g)
  have HT := Lib.hid (ht.next hb)
  generalize hid : idP 4 c m s = id at *
  clear b1 b2 hb ht hid
  unfold tkS at H1 H2 HB HT HI ⊢
  unfold dg0 at H1 H2 HB HT ⊢
  go_enter Tryd.func10, Tryd.ntmps10
  go_upto_region 1 with fail
  generalize ((w.alloc (.cells #[.int .i64 4, .int .u8 (c : Int), .int .u8 (m : Int), .slice none 0 0, .string s, .slice none 0 0] 32)).alloc (.cells #[.int .i64 0, .bool false, .int .i64 0] 37)) = W0 at *
  go_wp2_with (refine wpList_load_row rfl _ _ rfl w.heap.size rfl _ _ (0, 0) _ H1.out tkUnder rfl tkSize ?_)
  refine (HI.out _ HT.out).mono ?_
  rintro e w1 ⟨rfl, hb1⟩
  have q0 := (H1.out.next hb1).cell 0
  have H2n := Lib.hid (H2.out.next hb1)
  have HBn := Lib.hid (HB.out.trans (hb1.mono HB.out.size))
  have hlt : w.heap.size + 1 < w1.heap.size := Nat.lt_of_lt_of_le H2.out.lt hb1.size
  clear hb1 H1 H2 HB HT HI
  go_wp2_with (refine wpList_store_row rfl _ _ _ rfl (w.heap.size + 1) dg0 rfl rfl _ _ H2n.out dgSize rfl dg0_one ?_)
  (try simp only [Exit.inBlock, Exit.then])
  have hbs : Blk (w1.setRow (w.heap.size + 1) dg0) (w.heap.size + 1) 37 dg0 := setRow_heap w1 (w.heap.size + 1) _ _ _ _ H2n.out
  have hbl : Below w.heap.size w (w1.setRow (w.heap.size + 1) dg0) := ⟨HBn.out.os, HBn.out.tape, HBn.out.output, by simpa [World.setRow] using HBn.out.size, fun k hk => by
    rw [← HBn.out.block k hk]
    show (w1.heap.modify (w.heap.size + 1) _)[k]? = _
    rw [Array.getElem?_modify, if_neg (by omega)]⟩
  exact bodyPost_ret (results_c2 rfl _ _ (w.heap.size + 1) 37 dg0 (0, 0) rfl hbs dgUnder dgSize) rfl ⟨rfl, hbl⟩
set_option maxRecDepth 100000 in
set_option maxHeartbeats 4000000 in
theorem idOfC_any (c m : Nat) (s : ByteArray) (hs : s.size ≤ 1000) (w : World) (ht : Ten w) : Calls Tryd.prog 11 #[.agg (tkS c m s)] w fun e w' => e = .returned (.string (idP 4 c m s)) ∧ Below w.heap.size w w' := by
  have b1 := Blk.new w 32 (tkS c m s)
  have hb : Below w.heap.size w (w.alloc (.cells (tkS c m s) 32)) := (Below.refl _ w).alloc (Nat.le_refl _) _
  have H1 := Lib.hid b1; have HB := Lib.hid hb
  have HI := Lib.hid (fun W g => idC_any c m s hs W g)
  have HT := Lib.hid (ht.next hb)
  have q0 := b1.cell 0
  generalize hid : idP 4 c m s = id at *
  clear b1 hb ht hid
  unfold tkS at H1 HB HT HI q0 ⊢
  go_enter Tryd.func11, Tryd.ntmps11
  go_upto_region 1 with fail
  generalize (w.alloc (.cells #[.int .i64 4, .int .u8 (c : Int), .int .u8 (m : Int), .slice none 0 0, .string s, .slice none 0 0] 32)) = W0 at *
  go_upto_region 3 with fail
  go_wp2_with (refine wpList_load_row rfl _ _ rfl w.heap.size rfl _ _ (0, 0) _ H1.out tkUnder rfl tkSize ?_)
  refine (HI.out _ HT.out).mono ?_
  rintro e w1 ⟨rfl, hb1⟩
  have HBn := Lib.hid (HB.out.trans (hb1.mono HB.out.size))
  clear hb1 H1 HB HT HI q0
  go_wp2_with fail
  go_ret
  exact ⟨rfl, HBn.out⟩
/-- The first of a list that has an id, from a level on. -/
def findF (lvl : Int) (id : ByteArray) : List Fct → Int × Bool
  | [] => (0, false)
  | x :: l => if x.idb = id ∧ x.lv ≤ lvl then (x.n, true) else findF lvl id l
theorem findF_drop (lvl : Int) (id : ByteArray) (l : List Fct) (k : Nat) (h : k < l.length) : findF lvl id (l.drop k) = if l[k].idb = id ∧ l[k].lv ≤ lvl then (l[k].n, true) else findF lvl id (l.drop (k + 1)) := by
  rw [List.drop_eq_getElem_cons h]; rfl
end Go.Proofs.YtegcebdnofnigaaDoor
