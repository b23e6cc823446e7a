/-
  The walks of slices.Clone and of a token's Copy.
-/
import Derived.Test.YtmaklogelidjaaaDoorTokL
import Derived.Lib.SliceRun
namespace Go.Proofs.YtmaklogelidjaaaDoor
open Go Go.RowKit

theorem cloneInts_any (A : Option Addr) (c : Nat) (ns : List Int) (hl : ns.length ≤ 17592186044416) (w : World) (hr : RInts w A ns) :
    Calls Tryd.prog 14 #[.slice A ns.length c] w fun e w' => ∃ v, e = .returned v ∧ OInts w' w.heap.size v ns ∧ Below w.heap.size w w' := by
  rcases A with _ | ad
  · obtain rfl : ns = [] := by
      rcases ns with _ | ⟨x, l⟩
      · rfl
      · obtain ⟨ad, h, _⟩ := hr.2 (by simp); cases h
    have hq : (binOp .eql 22 (.slice none 0 c) (.slice none 0 0)).run Tryd.prog w = .ok (.bool true) w := Lib.run_eql_slice_nil w _ _ none _ c 0 0 Tryd.underlying22
    clear hr hl
    go_enter Tryd.func14, Tryd.ntmps14
    go_wp2_with fail
    go_ret
    exact ⟨_, rfl, World.ownsRow_nil _ _ _ _, Below.refl _ _⟩
  · obtain ⟨i0, hi0, hz0, hz1, hz2⟩ := info_parts info_int
    have HI := Lib.hid hi0; have HZ0 := Lib.hid hz0; have HZ1 := Lib.hid hz1; have HZ2 := Lib.hid hz2
    have hB : Below w.heap.size w (w.alloc (.cells #[] 3)) := (Below.refl _ _).alloc (Nat.le_refl _) _
    have HO : Hid ((w.alloc (.cells #[] 3)).ownsRow w.heap.size 3 1 (.slice (some ⟨w.heap.size, 0, none⟩) 0 0) 0 []) := Lib.hid ⟨rfl, .inr ⟨w.heap.size, 0, #[], rfl, Nat.le_refl _, Blk.new w 3 #[], Nat.le_refl _, by omega, rfl, rfl⟩⟩
    have HRd : Hid (Reads (w.alloc (.cells #[] 3)) (w.alloc (.cells #[] 3)).heap.size 1 (some ad) ns.length (ns.map (Value.int .i64))) := Lib.hid (hr.next hB)
    have HB := Lib.hid hB; have HL := Lib.hid hl
    have hq : (binOp .eql 22 (.slice (some ad) ns.length c) (.slice none 0 0)).run Tryd.prog w = .ok (.bool false) w := Lib.run_eql_slice_nil w _ _ (some ad) _ c 0 0 Tryd.underlying22
    clear hi0 hz0 hz1 hz2 hB hr hl
    go_enter Tryd.func14, Tryd.ntmps14
    go_wp2_with (at_builtin; refine wpList_append_any _ rfl _ _ 22 rfl w.heap.size 3 i0 _ 1 8 Tryd.underlying22 HI.out HZ0.out HZ1.out HZ2.out rfl (by decide) _ _ _ rfl HO.out _ (some ad) ns.length c _ rfl HRd.out (int_one ns) (by have := HL.out; unfold maxLen; omega) (by have := HL.out; omega) HB.out.size ?_; intro v w2 hown hg hat; have HOwn : Hid (OInts w2 w.heap.size v ns) := Lib.hid (by simpa [OInts] using hown); have HB2 := Lib.hid (HB.out.trans ((Below.refl w.heap.size _).grown hg HB.out.size (fun k hk => Nat.le_of_eq (Option.some.inj hk)))); clear hown hg hat)
    go_ret
    exact ⟨v, rfl, HOwn.out, HB2.out⟩
theorem cloneBytes_any (A : Option Addr) (c : Nat) (ns : List Nat) (hl : ns.length ≤ 140737488355328) (w : World) (hr : RByt w A ns) :
    Calls Tryd.prog 15 #[.slice A ns.length c] w fun e w' => ∃ v, e = .returned v ∧ OByt w' w.heap.size v ns ∧ Below w.heap.size w w' := by
  rcases A with _ | ad
  · obtain rfl : ns = [] := by
      rcases ns with _ | ⟨x, l⟩
      · rfl
      · obtain ⟨ad, h, _⟩ := hr.2 (by simp); cases h
    have hq : (binOp .eql 23 (.slice none 0 c) (.slice none 0 0)).run Tryd.prog w = .ok (.bool true) w := Lib.run_eql_slice_nil w _ _ none _ c 0 0 Tryd.underlying23
    clear hr hl
    go_enter Tryd.func15, Tryd.ntmps15
    go_wp2_with fail
    go_ret
    exact ⟨_, rfl, World.ownsRow_nil _ _ _ _, Below.refl _ _⟩
  · obtain ⟨i0, hi0, hz0, hz1, hz2⟩ := info_parts info_byte
    have HI := Lib.hid hi0; have HZ0 := Lib.hid hz0; have HZ1 := Lib.hid hz1; have HZ2 := Lib.hid hz2
    have hB : Below w.heap.size w (w.alloc (.cells #[] 5)) := (Below.refl _ _).alloc (Nat.le_refl _) _
    have HO : Hid ((w.alloc (.cells #[] 5)).ownsRow w.heap.size 5 1 (.slice (some ⟨w.heap.size, 0, none⟩) 0 0) 0 []) := Lib.hid ⟨rfl, .inr ⟨w.heap.size, 0, #[], rfl, Nat.le_refl _, Blk.new w 5 #[], Nat.le_refl _, by omega, rfl, rfl⟩⟩
    have HRd : Hid (Reads (w.alloc (.cells #[] 5)) (w.alloc (.cells #[] 5)).heap.size 1 (some ad) ns.length (ns.map fun (n : Nat) => Value.int .u8 (n : Int))) := Lib.hid (hr.next hB)
    have HB := Lib.hid hB; have HL := Lib.hid hl
    have hq : (binOp .eql 23 (.slice (some ad) ns.length c) (.slice none 0 0)).run Tryd.prog w = .ok (.bool false) w := Lib.run_eql_slice_nil w _ _ (some ad) _ c 0 0 Tryd.underlying23
    clear hi0 hz0 hz1 hz2 hB hr hl
    go_enter Tryd.func15, Tryd.ntmps15
    go_wp2_with (at_builtin; refine wpList_append_any _ rfl _ _ 23 rfl w.heap.size 5 i0 _ 1 1 Tryd.underlying23 HI.out HZ0.out HZ1.out HZ2.out rfl (by decide) _ _ _ rfl HO.out _ (some ad) ns.length c _ rfl HRd.out (by intro u hu; obtain ⟨n, _, rfl⟩ := List.mem_map.1 hu; rfl) (by have := HL.out; unfold maxLen; omega) (by have := HL.out; omega) HB.out.size ?_; intro v w2 hown hg hat; have HOwn : Hid (OByt w2 w.heap.size v ns) := Lib.hid (by simpa [OByt] using hown); have HB2 := Lib.hid (HB.out.trans ((Below.refl w.heap.size _).grown hg HB.out.size (fun k hk => Nat.le_of_eq (Option.some.inj hk)))); clear hown hg hat)
    go_ret
    exact ⟨v, rfl, HOwn.out, HB2.out⟩
theorem own_nextZ {w w' : World} {base size n : Nat} {e : TypeId} {v : Value} {xs : List Value} (h : w.ownsRow base e size v n xs) (hb : Below w.heap.size w w') : w'.ownsRow base e size v n xs :=
  World.ownsRow.kept (row := none) h ⟨hb.os, hb.tape, hb.output, hb.size, fun k hk _ => hb.block k hk⟩ (by cases v.ownBlock <;> simp)
theorem KW.set1 {w W : World} {T : TypeId} {x y : Array Value} (h : KW w T x y W) (i : Nat) (v : Value) : KW w T (x.setIfInBounds i v) y (W.setCell ⟨w.heap.size, i, none⟩ v) :=
  ⟨h.1.set_ i v, h.2.1.far (p := ⟨w.heap.size, i, none⟩) (by simp) v, h.2.2.setCell (p := ⟨w.heap.size, i, none⟩) (by simp) v⟩
theorem own_far {w : World} {base size n : Nat} {e : TypeId} {v : Value} {xs : List Value} (h : w.ownsRow base e size v n xs) (g : Nat) (hne : g < base) (o : Nat) (u : Value) : (w.setCell ⟨g, o, none⟩ u).ownsRow base e size v n xs :=
  World.ownsRow.kept (row := some g) h ⟨rfl, rfl, rfl, by simp [World.setCell], fun k _ hk => Below.heap_setCell w _ u k (by simpa using hk)⟩ (.inr (fun e => by have := (World.ownsRow.lt h g e).1; omega))
theorem own_put6 {w : World} {base size n : Nat} {e : TypeId} {v : Value} {xs : List Value} (h : w.ownsRow base e size v n xs) (g : Nat) (hne : g < base) (v0 v1 v2 v3 v4 v5 : Value) : (put6 w g v0 v1 v2 v3 v4 v5).ownsRow base e size v n xs :=
  own_far (own_far (own_far (own_far (own_far (own_far h g hne 0 v0) g hne 1 v1) g hne 2 v2) g hne 3 v3) g hne 4 v4) g hne 5 v5
set_option maxRecDepth 100000 in
set_option maxHeartbeats 8000000 in
theorem copy_any (k : Int) (c m : Nat) (P : Option Addr) (ps : List Int) (pc : Nat) (s : ByteArray) (D : Option Addr) (dt : List Nat) (dc : Nat) (hp : ps.length ≤ 17592186044416) (hd : dt.length ≤ 140737488355328) (w : World) (hr : RInts w P ps) (hb : RByt w D dt) :
    Calls Tryd.prog 6 #[.agg (tkC k (c : Int) (m : Int) P ps pc s D dt dc)] w fun e w' => OwnR w w' e k c m ps s dt ∧ Below w.heap.size w w' := by
  have HC1 := Lib.hid (fun W h => cloneInts_any P pc ps hp W h)
  have HC2 := Lib.hid (fun W h => cloneBytes_any D dc dt hd W h)
  have hB : Below w.heap.size w ((w.alloc (.cells (tkC k (c : Int) (m : Int) P ps pc s D dt dc) 27)).alloc (.cells zTok 27)) := ((Below.refl _ _).alloc (Nat.le_refl _) _).alloc (by simp) _
  have HK : Hid (KW w 27 (tkC k (c : Int) (m : Int) P ps pc s D dt dc) zTok ((w.alloc (.cells (tkC k (c : Int) (m : Int) P ps pc s D dt dc) 27)).alloc (.cells zTok 27))) := Lib.hid ⟨(Blk.new w _ _).alloc _, by have := Blk.new (w.alloc (.cells (tkC k (c : Int) (m : Int) P ps pc s D dt dc) 27)) 27 zTok; simpa using this, hB⟩
  have HR := Lib.hid (hr.next hB); have HD := Lib.hid (fun W (h : Below w.heap.size w W) => hb.next h)
  clear hr hb hB hp hd
  unfold OwnR
  unfold tkC zTok at *
  go_enter Tryd.func6, Tryd.ntmps6
  go_upto_region 1 with fail
  generalize (w.alloc (.cells #[.int .i64 k, .int .u8 (c : Int), .int .u8 (m : Int), .slice P ps.length pc, .string s, .slice D dt.length dc] 27)).alloc (.cells #[.int .i64 0, .int .u8 0, .int .u8 0, .slice none 0 0, .string ⟨#[]⟩, .slice none 0 0] 27) = w1 at *
  obtain ⟨a0, a1, a2, a3, a4, a5⟩ := six HK.out.1
  go_wp2_with fail
  refine (HC1.out _ HR.out).mono ?_
  rintro e w2 ⟨v, rfl, hv, hb2⟩
  obtain ⟨P', p', rfl, hp'⟩ := own_form (oints_own hv)
  have HP' := Lib.hid hp'
  have HK2 := Lib.hid (HK.out.next hb2)
  have hlt := HK.out.2.1.lt
  have HV := Lib.hid (own_far (oints_own hv) w.heap.size (by omega) 3 (.slice P' ps.length p'))
  have HK3 := Lib.hid (HK2.out.set1 3 (.slice P' ps.length p'))
  have HLt : Hid (w.heap.size + 1 < w1.heap.size) := Lib.hid hlt
  clear a0 a1 a2 a3 a4 a5 hv hb2 hlt hp'
  obtain ⟨a0, a1, a2, a3, a4, a5⟩ := six HK2.out.1
  obtain ⟨f0, f1, f2, f3, f4, f5⟩ := six_fr HK2.out.1
  go_wp2_with fail
  refine (HC2.out _ (HD.out _ HK3.out.2.2)).mono ?_
  rintro e w4 ⟨u, rfl, hu, hb4⟩
  obtain ⟨D', d', rfl, hd'⟩ := own_form (obyt_own hu)
  have HD' := Lib.hid hd'
  simp only [List.setIfInBounds_toArray, List.set_cons_zero, List.set_cons_succ] at HK3
  have HK4 := Lib.hid (HK3.out.next hb4)
  have hsz : (w2.setCell ⟨w.heap.size, 3, none⟩ (.slice P' ps.length p')).heap.size = w2.heap.size := by simp [World.setCell]
  have hlt2 := HK2.out.2.1.lt
  have HV4 := Lib.hid (own_far (own_nextZ HV.out hb4) w.heap.size (by have := HLt.out; omega) 5 (.slice D' dt.length d'))
  have HU4 := Lib.hid (own_far (obyt_own hu) w.heap.size (by rw [hsz]; omega) 5 (.slice D' dt.length d'))
  rw [hsz] at HU4
  have HK5 := Lib.hid (HK4.out.set1 5 (.slice D' dt.length d'))
  simp only [List.setIfInBounds_toArray, List.set_cons_zero, List.set_cons_succ] at HK5
  clear a0 a1 a2 a3 a4 a5 f0 f1 f2 f3 f4 f5 hu hb4 hsz hlt2 hd'
  obtain ⟨a0, a1, a2, a3, a4, a5⟩ := six HK4.out.1
  obtain ⟨f0, f1, f2, f3, f4, f5⟩ := six_fr HK4.out.1
  go_upto_region 3 with fail
  clear a0 a1 a2 a3 a4 a5 f0 f1 f2 f3 f4 f5 HK4
  generalize w4.setCell ⟨w.heap.size, 5, none⟩ (.slice D' dt.length d') = w5 at *
  obtain ⟨a0, a1, a2, a3, a4, a5⟩ := six HK5.out.1
  obtain ⟨b0, b1, b2, b3, b4, b5⟩ := six HK5.out.2.1
  obtain ⟨f0, f1, f2, f3, f4, f5⟩ := six_fr HK5.out.2.1
  have hX := HK5.out.put (.int .i64 k) (.int .u8 (c : Int)) (.int .u8 (m : Int)) (.slice P' ps.length p') (.string s) (.slice D' dt.length d')
  have HX := Lib.hid hX
  clear hX
  have HV5 := Lib.hid (own_put6 HV4.out (w.heap.size + 1) (by have := HLt.out; omega) (.int .i64 k) (.int .u8 (c : Int)) (.int .u8 (m : Int)) (.slice P' ps.length p') (.string s) (.slice D' dt.length d'))
  have HU5 := Lib.hid (own_put6 HU4.out (w.heap.size + 1) (by have := HK2.out.2.1.lt; omega) (.int .i64 k) (.int .u8 (c : Int)) (.int .u8 (m : Int)) (.slice P' ps.length p') (.string s) (.slice D' dt.length d'))
  obtain ⟨z0, z1, z2, z3, z4, z5⟩ := six HX.out.2.1
  go_wp2_with fail
  unfold put6 at z0 z1 z2 z3 z4 z5
  exact bodyPost_ret (v := .agg #[.int .i64 k, .int .u8 (c : Int), .int .u8 (m : Int), .slice P' ps.length p', .string s, .slice D' dt.length d']) (by simp [results, Tryd.results6, go_sem, z0, z1, z2, z3, z4, z5]) rfl ⟨⟨P', p', D', d', rfl, HP'.out, HD'.out, own_base HV5.out (Nat.le_of_lt (Nat.lt_of_succ_lt HLt.out)), own_base HU5.out HK2.out.2.2.size⟩, HX.out.2.2⟩
end Go.Proofs.YtmaklogelidjaaaDoor
