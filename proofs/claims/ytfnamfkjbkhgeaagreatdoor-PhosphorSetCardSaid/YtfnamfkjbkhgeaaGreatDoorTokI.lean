/-
  Tokens: can it be?
  Tokens: bytes of the call's own; what leads a sequence; its signs.
  Tokens: the signs of a sequence, as they stand behind one another.
-/
import Derived.Test.YtfnamfkjbkhgeaaGreatDoorTokF
import Derived.Lib.AppendStr
import Derived.Test.YtfnamfkjbkhgeaaGreatDoorParP
namespace Go.Proofs.YtfnamfkjbkhgeaaGreatDoor

open Go Go.RowKit

def checkP (k : Int) (c m : Nat) (ps : List Int) (s : ByteArray) (dt : List Nat) : Int :=
  if k < 1 ∨ 9 < k then 1
  else if smallB ps s dt = false then 2
  else if (pureB k c m ps s dt && (codedB k c s && writtenB m s dt)) = false then 3
  else 0
set_option maxRecDepth 100000 in
set_option maxHeartbeats 8000000 in
theorem check_any (k : Int) (c m : Nat) (P : Option Addr) (ps : List Int) (pc : Nat) (s : ByteArray) (D : Option Addr) (dt : List Nat) (dc : Nat) (hc : c < 256) (hsz : s.size ≤ maxLen) (hp : ps.length ≤ maxLen) (hd : dt.length ≤ maxLen) (w : World) (hr : RInts w P ps) (hb : RByt w D dt) :
    Calls Tryz.prog 125 #[.agg (tkC k (c : Int) (m : Int) P ps pc s D dt dc)] w fun e w' => e = .returned (.int .i64 (checkP k c m ps s dt)) ∧ Below w.heap.size w w' := by
  have HS := Lib.hid (fun W h => small_any k c m P ps pc s D dt dc hp W h)
  have HPu := Lib.hid (fun W h1 h2 => pure_any k c m P ps pc s D dt dc hp W h1 h2)
  have HCo := Lib.hid (fun W => coded_any k c m P ps pc s D dt dc hc W)
  have HWr := Lib.hid (fun W h => written_any k c m P ps pc s D dt dc hsz hd W h)
  have HR := Lib.hid hr; have HD := Lib.hid hb
  have HK := Lib.hid (K1.start w 66 (tkC k (c : Int) (m : Int) P ps pc s D dt dc))
  clear hr hb hc hsz hp hd
  unfold checkP
  unfold tkC at *
  generalize smallB ps s dt = q1 at *
  generalize pureB k c m ps s dt = q2 at *
  generalize codedB k c s = q3 at *
  generalize writtenB m s dt = q4 at *
  by_cases k1 : k < 1
  · rw [if_pos (.inl k1)]
    have t1 : decide (k < 1) = true := by simpa using k1
    clear k1
    go_enter Tryz.func125, Tryz.ntmps125
    go_upto_region 1 with fail
    generalize w.alloc (.cells #[.int .i64 k, .int .u8 (c : Int), .int .u8 (m : Int), .slice P ps.length pc, .string s, .slice D dt.length dc] 66) = w1 at *
    obtain ⟨a0, a1, a2, a3, a4, a5⟩ := six HK.out.1
    go_wp2_with fail
    go_ret
    exact ⟨rfl, HK.out.2⟩
  · by_cases k2 : 9 < k
    · rw [if_pos (.inr k2)]
      have t1 : decide (k < 1) = false := by simpa using k1
      have t2 : decide (9 < k) = true := by simpa using k2
      clear k1 k2
      go_enter Tryz.func125, Tryz.ntmps125
      go_upto_region 1 with fail
      generalize w.alloc (.cells #[.int .i64 k, .int .u8 (c : Int), .int .u8 (m : Int), .slice P ps.length pc, .string s, .slice D dt.length dc] 66) = w1 at *
      obtain ⟨a0, a1, a2, a3, a4, a5⟩ := six HK.out.1
      go_wp2_with fail
      go_ret
      exact ⟨rfl, HK.out.2⟩
    · rw [if_neg (by omega)]
      have t1 : decide (k < 1) = false := by simpa using k1
      have t2 : decide (9 < k) = false := by simpa using k2
      clear k1 k2
      go_enter Tryz.func125, Tryz.ntmps125
      go_upto_region 1 with fail
      generalize w.alloc (.cells #[.int .i64 k, .int .u8 (c : Int), .int .u8 (m : Int), .slice P ps.length pc, .string s, .slice D dt.length dc] 66) = w1 at *
      obtain ⟨a0, a1, a2, a3, a4, a5⟩ := six HK.out.1
      go_wp2_with fail
      refine (HS.out _ (HR.out.next HK.out.2)).mono ?_
      rintro e w2 ⟨rfl, hb2⟩
      have HK2 := Lib.hid (HK.out.next hb2)
      clear hb2 a0 a1 a2 a3 a4 a5 HK t1 t2
      obtain ⟨a0, a1, a2, a3, a4, a5⟩ := six HK2.out.1
      rcases q1 with _ | _
      · go_wp2_with fail
        go_ret
        exact ⟨rfl, HK2.out.2⟩
      · go_wp2_with fail
        refine (HPu.out _ (HR.out.next HK2.out.2) (HD.out.next HK2.out.2)).mono ?_
        rintro e w3 ⟨rfl, hb3⟩
        have HK3 := Lib.hid (HK2.out.next hb3)
        clear hb3 a0 a1 a2 a3 a4 a5 HK2
        obtain ⟨a0, a1, a2, a3, a4, a5⟩ := six HK3.out.1
        rcases q2 with _ | _
        · go_wp2_with fail
          go_ret
          exact ⟨rfl, HK3.out.2⟩
        · go_wp2_with fail
          refine (HCo.out _).mono ?_
          rintro e w4 ⟨rfl, hb4⟩
          have HK4 := Lib.hid (HK3.out.next hb4)
          clear hb4 a0 a1 a2 a3 a4 a5 HK3
          obtain ⟨a0, a1, a2, a3, a4, a5⟩ := six HK4.out.1
          rcases q3 with _ | _
          · go_wp2_with fail
            go_ret
            exact ⟨rfl, HK4.out.2⟩
          · go_wp2_with fail
            refine (HWr.out _ (HD.out.next HK4.out.2)).mono ?_
            rintro e w5 ⟨rfl, hb5⟩
            have HK5 := Lib.hid (HK4.out.next hb5)
            clear hb5 a0 a1 a2 a3 a4 a5 HK4
            rcases q4 with _ | _
            · go_wp2_with fail
              go_ret
              exact ⟨rfl, HK5.out.2⟩
            · go_wp2_with fail
              go_ret
              exact ⟨rfl, HK5.out.2⟩
end Go.Proofs.YtfnamfkjbkhgeaaGreatDoor

namespace Go.Proofs.YtfnamfkjbkhgeaaGreatDoor

open Go Go.RowKit

/-- A slice of the call's own that holds just these bytes. -/
def OByt (w : World) (base : Nat) (v : Value) (ns : List Nat) : Prop := w.ownsRow base 5 1 v ns.length (ns.map fun (n : Nat) => Value.int .u8 (n : Int))
theorem obyt_own {w : World} {base : Nat} {v : Value} {ns : List Nat} (h : OByt w base v ns) : w.ownsRow base 5 1 v ns.length (ns.map fun (n : Nat) => Value.int .u8 (n : Int)) := h
theorem OByt.next {w w' : World} {base : Nat} {v : Value} {l : List Nat} (h : OByt w base v l) (hb : Below w.heap.size w w') : OByt w' base v l :=
  World.ownsRow.kept (row := none) h ⟨hb.os, hb.tape, hb.output, hb.size, fun k hk _ => hb.block k hk⟩ (by cases v.ownBlock <;> simp)
theorem OByt.reads {w : World} {base : Nat} {A : Option Addr} {c : Nat} {ns : List Nat} (h : OByt w base (.slice A ns.length c) ns) : RByt w A ns := Reads.of_own h
theorem OByt.form {w : World} {base : Nat} {v : Value} {ns : List Nat} (h : OByt w base v ns) : ∃ A c, v = .slice A ns.length c := by
  rcases h.2 with ⟨rfl, hn⟩ | ⟨g, cap, _, rfl, _⟩
  · exact ⟨none, 0, by rw [hn]⟩
  · exact ⟨_, _, rfl⟩
theorem oby_one (ns : List Nat) : ∀ u ∈ ns.map (fun (n : Nat) => Value.int .u8 (n : Int)), u.oneCell' = true := by
  intro u hu
  obtain ⟨n, _, rfl⟩ := List.mem_map.1 hu
  rfl
theorem strCells_nat (s : ByteArray) : Lib.strCells s = (s.data.toList.map UInt8.toNat).map fun (n : Nat) => Value.int .u8 (n : Int) := by
  unfold Lib.strCells
  simp
def leadL (c : Nat) (eight : Bool) : List Nat := if eight = true ∧ 64 ≤ c ∧ c ≤ 95 then [c + 64] else [27, c]
set_option maxRecDepth 100000 in
set_option maxHeartbeats 4000000 in
theorem lead_any (c : Nat) (hc : c < 256) (eight : Bool) (w : World) : Calls Tryz.prog 127 #[.int .u8 (c : Int), .bool eight] w fun e w' => ∃ v, e = .returned v ∧ OByt w' w.heap.size v (leadL c eight) ∧ Below w.heap.size w w' := by
  have HA : Hid (∀ W, Calls Tryz.prog 159 #[.int .u8 (c : Int), .int .u8 64, .int .u8 95] W fun e w' => e = .returned (.bool (amongB c 64 95)) ∧ W = w') := Lib.hid (fun W => among_any c 64 95 W)
  have HB := Lib.hid (fun o => (Below.refl w.heap.size w).alloc (Nat.le_refl _) o)
  have HO2 : Hid (OByt (w.alloc (.cells #[.int .u8 27, .int .u8 (c : Int)] 5)) w.heap.size (.slice (some ⟨w.heap.size, 0, none⟩) 2 2) [27, c]) := Lib.hid (World.ownsRow_lit (e := 5) (size := 1) w #[.int .u8 27, .int .u8 (c : Int)] 2 (Nat.le_refl _) (by unfold maxLen; omega) rfl)
  cases eight with
  | false =>
    rw [show leadL c false = [27, c] from rfl]
    go_enter Tryz.func127, Tryz.ntmps127
    go_wp2_with fail
    go_ret
    exact ⟨_, rfl, HO2.out, HB.out _⟩
  | true =>
    by_cases h : 64 ≤ c ∧ c ≤ 95
    · have ha : amongB c 64 95 = true := by unfold amongB; simp; omega
      rw [ha] at HA
      have hl : leadL c true = [c + 64] := if_pos ⟨rfl, h⟩
      rw [hl]
      have hw : IntKind.u8.wrap ((c : Int) + 64) = ((c + 64 : Nat) : Int) := by rw [IntKind.wrap_u8]; omega
      have HO1 : Hid (OByt (w.alloc (.cells #[.int .u8 ((c + 64 : Nat) : Int)] 5)) w.heap.size (.slice (some ⟨w.heap.size, 0, none⟩) 1 1) [c + 64]) := Lib.hid (World.ownsRow_lit (e := 5) (size := 1) w #[.int .u8 ((c + 64 : Nat) : Int)] 1 (Nat.le_refl _) (by unfold maxLen; omega) rfl)
      generalize c + 64 = d at *
      clear h ha hl
      go_enter Tryz.func127, Tryz.ntmps127
      go_wp2_with fail
      refine (HA.out _).mono ?_
      rintro e w1 ⟨rfl, rfl⟩
      go_wp2_with fail
      go_ret
      exact ⟨_, rfl, HO1.out, HB.out _⟩
    · have ha : amongB c 64 95 = false := by unfold amongB; simp; omega
      rw [ha] at HA
      have hl : leadL c true = [27, c] := if_neg (fun x => h x.2)
      rw [hl]
      clear h ha hl
      go_enter Tryz.func127, Tryz.ntmps127
      go_wp2_with fail
      refine (HA.out _).mono ?_
      rintro e w1 ⟨rfl, rfl⟩
      go_wp2_with fail
      go_ret
      exact ⟨_, rfl, HO2.out, HB.out _⟩
end Go.Proofs.YtfnamfkjbkhgeaaGreatDoor

namespace Go.Proofs.YtfnamfkjbkhgeaaGreatDoor

open Go Go.RowKit

def natL (l : List UInt8) : List Nat := l.map UInt8.toNat
def signsL (c m : Nat) (ps : List Int) (s : ByteArray) : List Nat := (if m = 0 then [] else [m]) ++ natL (fmtL ps) ++ natL s.data.toList ++ [c]
theorem obyt_string {w : World} {base : Nat} {v : Value} {ns : List Nat} (s : ByteArray) (h : w.ownsRow base 5 1 v (ns.length + s.size) (ns.map (fun (n : Nat) => Value.int .u8 (n : Int)) ++ Lib.strCells s)) : OByt w base v (ns ++ natL s.data.toList) := by
  unfold OByt natL
  rw [strCells_nat, ← List.map_append] at h
  rw [List.length_append, List.length_map, dlen]
  exact h
theorem obyt_push {w : World} {base : Nat} {v : Value} {ns : List Nat} (n : Nat) (h : w.ownsRow base 5 1 v (ns.length + 1) (ns.map (fun (n : Nat) => Value.int .u8 (n : Int)) ++ [.int .u8 (n : Int)])) : OByt w base v (ns ++ [n]) := by
  unfold OByt
  rw [List.length_append, List.map_append]
  exact h
theorem below_str {W w' : World} {base : Nat} {v : Value} {ns : List Nat} (h : OByt W base v ns) (hb : base ≤ W.heap.size) (hg : W.grownBy w' v.ownBlock) : Below base W w' :=
  ((Below.refl _ _).mono hb).grown hg hb (fun k hk => (World.ownsRow.lt (obyt_own h) k hk).1)
/-- What is known in its midst: the box of the token, what has been written so far. -/
def KO (w : World) (x : Array Value) (v : Value) (l : List Nat) (W : World) : Prop := Blk W w.heap.size 66 x ∧ Below w.heap.size w W ∧ OByt W (w.heap.size + 1) v l ∧ w.heap.size + 1 ≤ W.heap.size
theorem KO.next {w W W' : World} {x : Array Value} {v : Value} {l : List Nat} (h : KO w x v l W) (hb : Below W.heap.size W W') : KO w x v l W' := ⟨h.1.next hb, h.2.1.trans (hb.mono h.2.1.size), h.2.2.1.next hb, Nat.le_trans h.2.2.2 hb.size⟩
theorem KO.more {w W W' : World} {x : Array Value} {v v' : Value} {l l' : List Nat} (h : KO w x v l W) (hb : Below (w.heap.size + 1) W W') (ho : OByt W' (w.heap.size + 1) v' l') : KO w x v' l' W' := ⟨h.1.below hb (by omega), h.2.1.trans (hb.mono (by omega)), ho, Nat.le_trans h.2.2.2 hb.size⟩
theorem info_u8 : ∃ i, Tryz.prog.info? 5 = some i ∧ i.zero = some (.int .u8 0) ∧ i.size = 1 ∧ i.bytes = 1 := info_parts info_byte
theorem natL_len (l : List UInt8) : (natL l).length = l.length := by unfold natL; simp
theorem obyt_nil (w : World) (base : Nat) : OByt w base (.slice none 0 0) [] := World.ownsRow_nil _ _ _ _
theorem bytesOf_list (l : List UInt8) : (bytesOf l).data.toList = l := rfl
theorem bytesOf_size (l : List UInt8) : (bytesOf l).size = l.length := by rw [← dlen]; rfl
set_option maxRecDepth 100000 in
set_option maxHeartbeats 8000000 in
theorem signs_any (k : Int) (c m : Nat) (P : Option Addr) (ps : List Int) (pc : Nat) (s : ByteArray) (D : Option Addr) (dt : List Nat) (dc : Nat) (hp : ps.length ≤ maxLen) (hpc : ps.length ≤ pc) (hsz : s.size ≤ 140737488351232) (w : World) (ht : Ten w) (hr : RInts w P ps) :
    Calls Tryz.prog 56 #[.agg (tkC k (c : Int) (m : Int) P ps pc s D dt dc)] w fun e w' => ∃ v, e = .returned v ∧ OByt w' (w.heap.size + 1) v (signsL c m ps s) ∧ Below w.heap.size w w' := by
  have HF := Lib.hid (fun W t h => format_any P pc ps hp hpc W t h)
  have HT := Lib.hid ht; have HR := Lib.hid hr
  have HFz : Hid ((bytesOf (fmtL ps)).size ≤ 180) := Lib.hid (by rw [bytesOf_size]; exact fmt_len ps)
  have HFl := Lib.hid (bytesOf_list (fmtL ps))
  obtain ⟨i0, hi0, hz0, hz1, hz2⟩ := info_u8
  have HI := Lib.hid hi0; have HZ0 := Lib.hid hz0; have HZ1 := Lib.hid hz1; have HZ2 := Lib.hid hz2
  have HSz := Lib.hid hsz
  clear ht hr hp hpc hi0 hz0 hz1 hz2 hsz
  unfold signsL
  have HKz : Hid (KO w (tkC k (c : Int) (m : Int) P ps pc s D dt dc) (.slice none 0 0) [] (w.alloc (.cells (tkC k (c : Int) (m : Int) P ps pc s D dt dc) 66))) := Lib.hid ⟨Blk.new w _ _, (Below.refl _ _).alloc (Nat.le_refl _) _, obyt_nil _ _, by simp⟩
  unfold tkC at *
  generalize bytesOf (fmtL ps) = fb at *
  generalize fmtL ps = fl at *
  have HFz2 : Hid ((natL fl).length ≤ 180) := Lib.hid (by rw [natL_len]; have := HFz.out; rw [← dlen, HFl.out] at this; exact this)
  by_cases hm : m = 0
  · rw [if_pos hm]
    have h0 : ((m : Int) != 0) = false := by simpa using hm
    clear hm
    go_enter Tryz.func56, Tryz.ntmps56
    go_upto_region 1 with fail
    generalize w.alloc (.cells #[.int .i64 k, .int .u8 (c : Int), .int .u8 (m : Int), .slice P ps.length pc, .string s, .slice D dt.length dc] 66) = w1 at *
    obtain ⟨a0, a1, a2, a3, a4, a5⟩ := six HKz.out.1
    go_wp2_with fail
    refine (HF.out _ (HT.out.next HKz.out.2.1) (HR.out.next HKz.out.2.1)).mono ?_
    rintro e w3 ⟨rfl, hb3⟩
    have HK3 := Lib.hid (HKz.out.next hb3)
    clear hb3 a0 a1 a2 a3 a4 a5
    obtain ⟨a0, a1, a2, a3, a4, a5⟩ := six HK3.out.1
    go_wp2_with (at_builtin; first | (refine wpList_push rfl _ _ _ rfl (w.heap.size + 1) 5 (.int .u8 0) 1 Tryz.underlying63 info_byte rfl _ _ _ rfl (obyt_own HK5.out.2.2.1) (.int .u8 (c : Int)) rfl _ _ _ rfl rfl (by have := HFz2.out; have := HSz.out; have := natL_len s.data.toList; have := dlen s; unfold maxLen; simp; omega) (by have := HFz2.out; have := HSz.out; have := natL_len s.data.toList; have := dlen s; simp; omega) HK5.out.2.2.2 ?_; intro v6 w6 hown6 hg6 hb6; have HK6 := Lib.hid (HK5.out.more hb6 (obyt_push c hown6)); clear hown6 hg6 hb6 a0 a1 a2 a3 a4 a5 HK5) | (refine Lib.wpList_append_own_string _ rfl _ _ 63 9 rfl (w.heap.size + 1) 5 i0 Tryz.underlying63 Tryz.underlying9 HI.out HZ0.out HZ1.out HZ2.out _ _ _ rfl (obyt_own HK4.out.2.2.1) s rfl (by have := HFz2.out; have := HSz.out; unfold maxLen; simp; omega) (by have := HFz2.out; have := HSz.out; simp; omega) HK4.out.2.2.2 ?_; intro v5 w5 hown5 hg5 hat5; have HK5 := Lib.hid (HK4.out.more (below_str HK4.out.2.2.1 HK4.out.2.2.2 hg5) (obyt_string s hown5)); clear hown5 hg5 hat5 a0 a1 a2 a3 a4 a5 HK4; obtain ⟨a0, a1, a2, a3, a4, a5⟩ := six HK5.out.1) | (refine Lib.wpList_append_own_string _ rfl _ _ 63 9 rfl (w.heap.size + 1) 5 i0 Tryz.underlying63 Tryz.underlying9 HI.out HZ0.out HZ1.out HZ2.out _ _ _ rfl (obyt_own HK3.out.2.2.1) fb rfl (by have := HFz.out; unfold maxLen; simp; omega) (by have := HFz.out; simp; omega) HK3.out.2.2.2 ?_; intro v4 w4 hown4 hg4 hat4; have HK4 := Lib.hid (HK3.out.more (below_str HK3.out.2.2.1 HK3.out.2.2.2 hg4) (obyt_string fb hown4)); rw [HFl.out] at HK4; clear hown4 hg4 hat4 a0 a1 a2 a3 a4 a5 HK3; obtain ⟨a0, a1, a2, a3, a4, a5⟩ := six HK4.out.1))
    go_ret
    exact ⟨v6, rfl, by have := HK6.out.2.2.1; simpa using this, HK6.out.2.1⟩
  · rw [if_neg hm]
    have h0 : ((m : Int) != 0) = true := by simpa using hm
    clear hm
    go_enter Tryz.func56, Tryz.ntmps56
    go_upto_region 1 with fail
    generalize w.alloc (.cells #[.int .i64 k, .int .u8 (c : Int), .int .u8 (m : Int), .slice P ps.length pc, .string s, .slice D dt.length dc] 66) = w1 at *
    obtain ⟨a0, a1, a2, a3, a4, a5⟩ := six HKz.out.1
    go_wp2_with (at_builtin; refine wpList_push rfl _ _ _ rfl (w.heap.size + 1) 5 (.int .u8 0) 1 Tryz.underlying63 info_byte rfl _ _ _ rfl (obyt_own HKz.out.2.2.1) (.int .u8 (m : Int)) rfl _ _ _ rfl rfl (by unfold maxLen; simp) (by simp) HKz.out.2.2.2 ?_; intro v2 w2 hown2 hg2 hb2; have HK2 := Lib.hid (HKz.out.more hb2 (obyt_push m hown2)); clear hown2 hg2 hb2 a0 a1 a2 a3 a4 a5 HKz; obtain ⟨a0, a1, a2, a3, a4, a5⟩ := six HK2.out.1)
    refine (HF.out _ (HT.out.next HK2.out.2.1) (HR.out.next HK2.out.2.1)).mono ?_
    rintro e w3 ⟨rfl, hb3⟩
    have HK3 := Lib.hid (HK2.out.next hb3)
    clear hb3 a0 a1 a2 a3 a4 a5
    obtain ⟨a0, a1, a2, a3, a4, a5⟩ := six HK3.out.1
    go_wp2_with (at_builtin; first | (refine wpList_push rfl _ _ _ rfl (w.heap.size + 1) 5 (.int .u8 0) 1 Tryz.underlying63 info_byte rfl _ _ _ rfl (obyt_own HK5.out.2.2.1) (.int .u8 (c : Int)) rfl _ _ _ rfl rfl (by have := HFz2.out; have := HSz.out; have := natL_len s.data.toList; have := dlen s; unfold maxLen; simp; omega) (by have := HFz2.out; have := HSz.out; have := natL_len s.data.toList; have := dlen s; simp; omega) HK5.out.2.2.2 ?_; intro v6 w6 hown6 hg6 hb6; have HK6 := Lib.hid (HK5.out.more hb6 (obyt_push c hown6)); clear hown6 hg6 hb6 a0 a1 a2 a3 a4 a5 HK5) | (refine Lib.wpList_append_own_string _ rfl _ _ 63 9 rfl (w.heap.size + 1) 5 i0 Tryz.underlying63 Tryz.underlying9 HI.out HZ0.out HZ1.out HZ2.out _ _ _ rfl (obyt_own HK4.out.2.2.1) s rfl (by have := HFz2.out; have := HSz.out; unfold maxLen; simp; omega) (by have := HFz2.out; have := HSz.out; simp; omega) HK4.out.2.2.2 ?_; intro v5 w5 hown5 hg5 hat5; have HK5 := Lib.hid (HK4.out.more (below_str HK4.out.2.2.1 HK4.out.2.2.2 hg5) (obyt_string s hown5)); clear hown5 hg5 hat5 a0 a1 a2 a3 a4 a5 HK4; obtain ⟨a0, a1, a2, a3, a4, a5⟩ := six HK5.out.1) | (refine Lib.wpList_append_own_string _ rfl _ _ 63 9 rfl (w.heap.size + 1) 5 i0 Tryz.underlying63 Tryz.underlying9 HI.out HZ0.out HZ1.out HZ2.out _ _ _ rfl (obyt_own HK3.out.2.2.1) fb rfl (by have := HFz.out; unfold maxLen; simp; omega) (by have := HFz.out; simp; omega) HK3.out.2.2.2 ?_; intro v4 w4 hown4 hg4 hat4; have HK4 := Lib.hid (HK3.out.more (below_str HK3.out.2.2.1 HK3.out.2.2.2 hg4) (obyt_string fb hown4)); rw [HFl.out] at HK4; clear hown4 hg4 hat4 a0 a1 a2 a3 a4 a5 HK3; obtain ⟨a0, a1, a2, a3, a4, a5⟩ := six HK4.out.1))
    go_ret
    exact ⟨v6, rfl, by have := HK6.out.2.2.1; simpa using this, HK6.out.2.1⟩
end Go.Proofs.YtfnamfkjbkhgeaaGreatDoor
