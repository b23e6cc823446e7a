/-
  A stream is fed.
-/
import Derived.Test.YtdmiihmaijbkfaaPrsP
namespace Go.Proofs.Ytdmiihmaijbkfaa
open Go Go.RowKit

/-- What is known in the midst of a feeding. -/
structure FdW (w W : World) (g : Nat) (r : Ps × List Tok) (v : Value) : Prop where
  tok : OTks W w.heap.size v r.2
  prs : PsB W g r.1
  gro : w.grownBy W (some g)
  pl : r.1.R
  gl : g < w.heap.size
def FdQ (w : World) (g : Nat) (r : Ps × List Tok) (e : Ending) (w' : World) : Prop := ∃ v, e = .returned v ∧ FdW w w' g r v
theorem FdW.call {w W W' : World} {g : Nat} {r : Ps × List Tok} {v : Value} (h : FdW w W g r v) {s' : Ps} (hp : PsB W' g s') (hg : W.grownBy W' (some g)) (hR : s'.R) : FdW w W' g (s', r.2) v :=
  ⟨h.tok.keep hg (fun k hk => by cases hk; exact h.gl), hp, grown_trans h.gro hg, hR, h.gl⟩
theorem FdW.more {w W W' : World} {g : Nat} {r : Ps × List Tok} {v : Value} (h : FdW w W g r v) (hb : Below W.heap.size W W') : FdW w W' g r v :=
  ⟨h.tok.keep (row := none) (grown_below hb) (fun k hk => by cases hk), h.prs.next hb, grown_trans h.gro (grown_below hb), h.pl, h.gl⟩
theorem rbyt_grown {w W : World} {A : Option Addr} {ns : List Nat} {g : Nat} (h : RByt w A ns) (hg : w.grownBy W (some g)) (hA : ∀ ad, A = some ad → ad.block ≠ g) : RByt W A ns := by
  refine ⟨h.1, fun hn => ?_⟩
  obtain ⟨ad, rfl, hb, hc⟩ := h.2 hn
  refine ⟨ad, rfl, Nat.lt_of_lt_of_le hb hg.size, fun j u hu => ?_⟩
  have hbl : ∀ k, (ad.add k).block = ad.block := fun k => by unfold Addr.add; split <;> rfl
  have hk := hg.block ad.block hb (by intro e; exact hA ad rfl (by simpa using e))
  have := hc j u hu
  unfold World.cell? at this ⊢
  rw [hbl] at this ⊢
  rw [hk]
  exact this
theorem own_apart {w : World} {b1 b2 n1 n2 s1 s2 : Nat} {e1 e2 : TypeId} {v1 v2 : Value} {xs1 xs2 : List Value} (h1 : w.ownsRow b1 e1 s1 v1 n1 xs1) (h2 : w.ownsRow b2 e2 s2 v2 n2 xs2) (he : e1 ≠ e2) : v1.ownBlock = none ∨ v1.ownBlock ≠ v2.ownBlock := by
  rcases h1.2 with ⟨rfl, _⟩ | ⟨g1, cap1, cur1, rfl, _, hg1, _⟩
  · exact .inl rfl
  · right
    rcases h2.2 with ⟨rfl, _⟩ | ⟨g2, cap2, cur2, rfl, _, hg2, _⟩
    · simp [Value.ownBlock]
    · intro e
      obtain rfl : g1 = g2 := by simpa [Value.ownBlock] using e
      rw [hg1] at hg2
      injection hg2 with hg2
      injection hg2 with _ hg2 _
      exact he hg2
theorem OTk.keepR {w w' : World} {base b n : Nat} {v u : Value} {t : Tok} {xs : List Value} (h : OTk w base v t) (ho : w.ownsRow b 30 6 u n xs) (hg : w.grownBy w' u.ownBlock) : OTk w' base v t := by
  obtain ⟨A, c, B, d, e, h1, h2⟩ := h
  exact ⟨A, c, B, d, e, World.ownsRow.kept h1 hg (own_apart h1 ho (by decide)), World.ownsRow.kept h2 hg (own_apart h2 ho (by decide))⟩
theorem OTl.keepR {w w' : World} {base b n : Nat} {u : Value} {ys : List Value} (ho : w.ownsRow b 30 6 u n ys) (hg : w.grownBy w' u.ownBlock) : ∀ {xs : List (Array Value)} {ts : List Tok}, OTl w base xs ts → OTl w' base xs ts
  | [], [], _ => trivial
  | _ :: _, _ :: _, h => ⟨h.1.keepR ho hg, OTl.keepR ho hg h.2⟩
/-- One token more. -/
theorem FdW.push {w W W' : World} {g : Nat} {r : Ps × List Tok} {u v : Value} {t : Tok} {X : Array Value} {xs : List (Array Value)} (h : FdW w W g r u) (ho : W.ownsRow w.heap.size 30 6 u r.2.length (xs.flatMap Array.toList)) (hl : OTl W w.heap.size xs r.2) (hX : OTk W w.heap.size (.agg X) t)
    (hown : W'.ownsRow w.heap.size 30 6 v (r.2.length + 1) (xs.flatMap Array.toList ++ X.toList)) (hg : W.grownBy W' u.ownBlock) : FdW w W' g (r.1, r.2 ++ [t]) v := by
  have hk : ∀ k, u.ownBlock = some k → w.heap.size ≤ k := fun k hk => (World.ownsRow.lt ho k hk).1
  have hpr : u.ownBlock ≠ some g := fun e => by have := hk g e; have := h.gl; omega
  refine ⟨⟨xs ++ [X], ?_, OTl.snoc (hX.keepR ho hg) (hl.keepR ho hg)⟩, ⟨(hg.block g h.prs.lt (fun e => hpr e.symm)).trans h.prs.blk, h.prs.ok⟩, ⟨hg.os.trans h.gro.os, hg.tape.trans h.gro.tape, hg.output.trans h.gro.output, Nat.le_trans h.gro.size hg.size, fun k hkl hn => (hg.block k (Nat.lt_of_lt_of_le hkl h.gro.size) (fun e => by have := hk k e.symm; omega)).trans (h.gro.block k hkl hn)⟩, h.pl, h.gl⟩
  rw [List.length_append, List.flatMap_append, List.flatMap_singleton]
  exact hown
theorem info_tk : ∃ i, Try.prog.info? 30 = some i ∧ i.zero = some (.agg zTok) ∧ i.size = 6 ∧ i.bytes ≤ 100 := by
  have h : (Try.prog.info? 30).map (fun i => (i.zero, i.size, decide (i.bytes ≤ 100))) = some (some (.agg zTok), 6, true) := by kernel_rfl
  cases hi : Try.prog.info? 30 with
  | none => rw [hi] at h; cases h
  | some i =>
    rw [hi] at h
    simp only [Option.map_some, Option.some.injEq, Prod.mk.injEq, decide_eq_true_eq] at h
    exact ⟨i, rfl, h.1, h.2.1, h.2.2⟩
set_option maxRecDepth 100000 in
set_option maxHeartbeats 16000000 in
theorem feed_any (g : Nat) (s : Ps) (hR : s.R) (A : Option Addr) (cap : Nat) (ns : List Nat) (hn : ∀ n ∈ ns, n < 256) (hl : ns.length ≤ 1000000) (hA : ∀ ad, 0 < ns.length → A = some ad → ad.block ≠ g) (w : World) (h : PsB w g s) (hr : RByt w A ns) :
    Calls Try.prog 14 #[.pointer (some ⟨g, 0, none⟩), .slice A ns.length cap] w (FdQ w g (feedL s ns)) := by
  have HW0 := Lib.hid (show FdW w w g (feedL s (ns.take 0)) (.slice none 0 0) from ⟨OTks.nil _ _, h, grown_refl _ _, hR, h.lt⟩)
  have HR := Lib.hid hr
  have HA := Lib.hid hA
  have HN := Lib.hid hn
  have HS := Lib.hid hR
  obtain ⟨i0, hi0, hi1, hi2, hi3⟩ := info_tk
  have HI := Lib.hid (And.intro hi0 (And.intro hi1 (And.intro hi2 hi3)))
  clear h hr hA hn hR hi0 hi1 hi2 hi3
  go_enter Try.func14, Try.ntmps14
  go_wp2_with fail
  go_loopw [5, 11] (fun v j wr => ∃ i : Nat, i ≤ ns.length ∧ j = .int .i64 i ∧ FdW w wr g (feedL s (ns.take i)) v) (fun _ j _ => ns.length - (intOf j).toNat)
  case atStart => exact ⟨0, by omega, rfl, HW0.out⟩
  case round =>
    obtain ⟨i, hi, rfl, hw⟩ := hrel
    have HW := Lib.hid hw
    clear hw HW0
    by_cases hlt : i < ns.length
    · have hrr := rbyt_grown HR.out HW.out.gro (fun ad e => HA.out ad (by omega) e)
      obtain ⟨ad, rfl, _, hc⟩ := RByt.at_ hrr hlt
      have hwi1 : IntKind.i64.wrap ((i : Int) + 1) = (i : Int) + 1 := IntWalk.i64_in _ (by omega)
      have m0 : (0 : Int) ≤ (i : Int) := by omega
      have m1 : ((i : Int) < (ns.length : Int)) = True := eq_true (by omega)
      have hfl : Hid ((feedL s (ns.take i)).2.length ≤ 1000000) := Lib.hid (by have := (feedL_facts s HS.out (ns.take i)).2; simp at this; omega)
      have HSn : Hid (feedL s (ns.take (i + 1)) = ((feedB (feedL s (ns.take i)).1 ns[i]).1, (feedL s (ns.take i)).2 ++ (feedB (feedL s (ns.take i)).1 ns[i]).2)) := Lib.hid (by rw [List.take_succ_eq_append_getElem hlt, feedL_snoc])
      have hc256 := HN.out ns[i] (List.getElem_mem hlt)
      generalize feedL s (ns.take i) = r at *
      obtain ⟨r2, hr2⟩ : ∃ r2, feedL s (ns.take (i + 1)) = r2 := ⟨_, rfl⟩
      rw [hr2] at HSn
      have HSx := Lib.hid hr2
      clear hr2
      generalize ns[i] = c at *
      clear hrr
      by_cases hhi : 128 ≤ c ∧ c ≤ 159
      · obtain ⟨h1, h2⟩ := hhi
        have HTk := Lib.hid (fun W h => take_any g r.1 27 (by omega) HW.out.pl W h)
        have HTR := Lib.hid (R_take HW.out.pl 27)
        obtain ⟨c1, hcc⟩ : ∃ c1, c = c1 + 64 := ⟨c - 64, by omega⟩
        have HSB : Hid (r2 = ((feedC (takeP r.1 27).1 c1).1, r.2 ++ (feedC (takeP r.1 27).1 c1).2)) := Lib.hid (by rw [HSn.out]; unfold feedB hiP; rw [if_pos ⟨h1, h2⟩, show c - 64 = c1 from by omega])
        have hsub : IntKind.u8.wrap ((c : Int) - 64) = (c1 : Int) := by rw [IntKind.wrap_u8]; omega
        have l1 : ((128 : Int) ≤ (c : Int)) = True := eq_true (by omega)
        have l2 : ((c : Int) ≤ 159) = True := eq_true (by omega)
        have hc1 : c1 < 256 := by omega
        clear HSn h1 h2 hcc
        generalize takeP r.1 27 = q0 at *
        go_wp2_with fail
        refine (HTk.out _ HW.out.prs).mono ?_
        rintro e w2 ⟨v, rfl, _, hp, hg⟩
        have HW1 : Hid (FdW w w2 g (q0.1, r.2) u5) := Lib.hid (HW.out.call hp hg HTR.out)
        clear hp hg HTR HTk HW hc hc256
        obtain ⟨p, q0t⟩ := q0
        dsimp only at HSB HW1
        by_cases hz : c1 = 0 ∨ c1 = 127
        · have hfc : feedC p c1 = (p, []) := by unfold feedC; rw [if_pos hz]
          have HF : Hid (r2 = (p, r.2)) := Lib.hid (by rw [HSB.out, hfc]; simp)
          clear hfc HSB
          rcases hz with h0 | h0
          · have z0 : ((c1 : Int) == 0) = true := by simp; omega
            clear h0
            go_wp2_with fail
            go_roundw
            case rel => exact ⟨i + 1, by omega, by go_num, by rw [HSx.out, HF.out]; exact HW1.out⟩
            case measure => simp [intOf]; omega
          · have z0 : ((c1 : Int) == 0) = false := by simp; omega
            have z127 : ((c1 : Int) == 127) = true := by simp; omega
            clear h0
            go_wp2_with fail
            go_roundw
            case rel => exact ⟨i + 1, by omega, by go_num, by rw [HSx.out, HF.out]; exact HW1.out⟩
            case measure => simp [intOf]; omega
        · have hfc : feedC p c1 = ((takeP p c1).1, if (takeP p c1).2.kd = 0 then [] else [(takeP p c1).2]) := by unfold feedC; rw [if_neg hz]
          have z0 : ((c1 : Int) == 0) = false := by simp; omega
          have z127 : ((c1 : Int) == 127) = false := by simp; omega
          have HTk := Lib.hid (fun W h => take_any g p c1 hc1 HW1.out.pl W h)
          have HTR := Lib.hid (R_take HW1.out.pl c1)
          have HF : Hid (r2 = ((takeP p c1).1, r.2 ++ if (takeP p c1).2.kd = 0 then [] else [(takeP p c1).2])) := Lib.hid (by rw [HSB.out, hfc])
          clear hfc HSB hz
          dsimp only at HTR HF
          generalize takeP p c1 = q at *
          go_wp2_with fail
          refine (HTk.out _ HW1.out.prs).mono ?_
          rintro e w3 ⟨v, rfl, ho, hp, hg⟩
          obtain ⟨A3, cc, B3, dd, rfl, o1, o2⟩ := ho
          have hsz : w.heap.size ≤ w2.heap.size := HW1.out.gro.size
          have HO : Hid (OTk w3 w.heap.size (.agg (q.2.cs A3 cc B3 dd)) q.2) := Lib.hid (OTk.more ⟨A3, cc, B3, dd, rfl, o1, o2⟩ hsz)
          have HW3 := Lib.hid (HW1.out.call hp hg HTR.out)
          clear o1 o2 hp hg hsz HW1 HTk HTR
          obtain ⟨q1, t⟩ := q
          dsimp only at HO HF HW3
          have hal : Below w3.heap.size w3 (w3.alloc (.cells (t.cs A3 cc B3 dd) 30)) := (Below.refl _ _).alloc (Nat.le_refl _) _
          have HW4 := Lib.hid (HW3.out.more hal)
          have HO4 := Lib.hid (HO.out.keep (row := none) (grown_below hal) (fun k hk => by cases hk))
          have HX := Lib.hid (Blk.new w3 30 (t.cs A3 cc B3 dd))
          have HX1 : Hid (∀ u ∈ (t.cs A3 cc B3 dd).toList, u.oneCell' = true) := Lib.hid (fun u hu => by have := Array.all_eq_true_iff_forall_mem.1 (tk_cs_one t A3 cc B3 dd) u (by simpa using hu); exact this)
          clear hal HW3 HO
          unfold Tok.cs at HW4 HO4 HX HX1
          dsimp only
          unfold Tok.cs
          by_cases hk : t.kd = 0
          · have kb : (t.kd != 0) = false := by simpa using hk
            have HF2 : Hid (r2 = (q1, r.2)) := Lib.hid (by rw [HF.out, if_pos hk]; simp)
            clear HF hk HX HX1 HO4
            go_wp2_with fail
            go_roundw
            case rel => exact ⟨i + 1, by omega, by go_num, by rw [HSx.out, HF2.out]; exact HW4.out⟩
            case measure => simp [intOf]; omega
          · have kb : (t.kd != 0) = true := by simpa using hk
            have HF2 : Hid (r2 = (q1, r.2 ++ [t])) := Lib.hid (by rw [HF.out, if_neg hk])
            clear HF hk
            go_upto_region 11 with fail
            generalize w3.alloc (.cells #[.int .i64 t.kd, .int .u8 (t.cd : Int), .int .u8 (t.mr : Int), .slice A3 t.ps.length cc, .string t.it, .slice B3 t.dt.length dd] 30) = w4 at *
            have hal5 : Below w4.heap.size w4 (w4.alloc (.cells #[.int .i64 t.kd, .int .u8 (t.cd : Int), .int .u8 (t.mr : Int), .slice A3 t.ps.length cc, .string t.it, .slice B3 t.dt.length dd] 30)) := (Below.refl _ _).alloc (Nat.le_refl _) _
            have HW5 := Lib.hid (HW4.out.more hal5)
            have HO5 := Lib.hid (HO4.out.keep (row := none) (grown_below hal5) (fun k hk => by cases hk))
            have HX5 := Lib.hid (Blk.new w4 30 #[.int .i64 t.kd, .int .u8 (t.cd : Int), .int .u8 (t.mr : Int), .slice A3 t.ps.length cc, .string t.it, .slice B3 t.dt.length dd])
            obtain ⟨xs, ho5, hot5⟩ := HW5.out.tok
            have HOw := Lib.hid ho5; have HOt := Lib.hid hot5
            have HRd : Hid (Reads (w4.alloc (.cells #[.int .i64 t.kd, .int .u8 (t.cd : Int), .int .u8 (t.mr : Int), .slice A3 t.ps.length cc, .string t.it, .slice B3 t.dt.length dd] 30)) (w4.alloc (.cells #[.int .i64 t.kd, .int .u8 (t.cd : Int), .int .u8 (t.mr : Int), .slice A3 t.ps.length cc, .string t.it, .slice B3 t.dt.length dd] 30)).heap.size 6 (some ⟨w4.heap.size, 0, none⟩) 1 [.int .i64 t.kd, .int .u8 (t.cd : Int), .int .u8 (t.mr : Int), .slice A3 t.ps.length cc, .string t.it, .slice B3 t.dt.length dd]) := Lib.hid ⟨rfl, fun _ => ⟨_, rfl, by simp, fun j u hu => by rw [add_here, HX5.out.cell j, List.getElem?_toArray]; exact hu⟩⟩
            have HBy : Hid ((r.2.length + 1) * i0.bytes ≤ 140737488355328) := Lib.hid (Nat.le_trans (Nat.mul_le_mul (Nat.succ_le_succ hfl.out) HI.out.2.2.2) (by decide))
            have HMx : Hid (r.2.length + 1 ≤ maxLen) := Lib.hid (by have := hfl.out; unfold maxLen; omega)
            have HBs : Hid (w.heap.size ≤ (w4.alloc (.cells #[.int .i64 t.kd, .int .u8 (t.cd : Int), .int .u8 (t.mr : Int), .slice A3 t.ps.length cc, .string t.it, .slice B3 t.dt.length dd] 30)).heap.size) := Lib.hid HW5.out.gro.size
            clear hal5 ho5 hot5 HW4 HO4 HX5
            go_wp2_with (first
              | (refine wpList_load_row rfl _ _ rfl w3.heap.size rfl _ _ (0, 0) _ HX.out tkU rfl tkS6 ?_)
              | (at_builtin; refine wpList_append_any _ rfl _ _ 39 rfl w.heap.size 30 i0 _ 6 i0.bytes Try.underlying39 HI.out.1 HI.out.2.1 HI.out.2.2.1 rfl rfl (by decide) _ r.2.length _ rfl HOw.out _ (some ⟨w4.heap.size, 0, none⟩) 1 1 _ rfl HRd.out HX1.out HMx.out HBy.out HBs.out ?_; intro v6 w6 hown6 hg6 _))
            go_roundw
            case rel => exact ⟨i + 1, by omega, by go_num, by rw [HSx.out, HF2.out]; exact HW5.out.push HOw.out HOt.out HO5.out hown6 hg6⟩
            case measure => simp [intOf]; omega

      · obtain ⟨p, hp⟩ : ∃ p, r.1 = p := ⟨_, rfl⟩
        have HSB : Hid (r2 = ((feedC p c).1, r.2 ++ (feedC p c).2)) := Lib.hid (by rw [HSn.out]; unfold feedB hiP; rw [if_neg hhi, hp])
        have HW1 : Hid (FdW w wr g (p, r.2) u5) := Lib.hid (by have := HW.out; rw [← hp]; exact this)
        have hh : ((128 : Int) ≤ (c : Int)) = False ∨ ((128 : Int) ≤ (c : Int)) = True ∧ ((c : Int) ≤ 159) = False := by
          by_cases h1 : 128 ≤ c
          · right; exact ⟨eq_true (by omega), eq_false (by omega)⟩
          · left; exact eq_false (by omega)
        clear HW hp hhi HSn
        obtain ⟨c1, hcc⟩ : ∃ c1, c1 = c := ⟨_, rfl⟩
        have hc1 : c1 < 256 := by omega
        rw [← hcc] at HSB hc hh
        clear hcc hc256 c
        rcases hh with hh | ⟨hh, hh2⟩
        · by_cases hz : c1 = 0 ∨ c1 = 127
          · have hfc : feedC p c1 = (p, []) := by unfold feedC; rw [if_pos hz]
            have HF : Hid (r2 = (p, r.2)) := Lib.hid (by rw [HSB.out, hfc]; simp)
            clear hfc HSB
            rcases hz with h0 | h0
            · have z0 : ((c1 : Int) == 0) = true := by simp; omega
              clear h0
              go_wp2_with fail
              go_roundw
              case rel => exact ⟨i + 1, by omega, by go_num, by rw [HSx.out, HF.out]; exact HW1.out⟩
              case measure => simp [intOf]; omega
            · have z0 : ((c1 : Int) == 0) = false := by simp; omega
              have z127 : ((c1 : Int) == 127) = true := by simp; omega
              clear h0
              go_wp2_with fail
              go_roundw
              case rel => exact ⟨i + 1, by omega, by go_num, by rw [HSx.out, HF.out]; exact HW1.out⟩
              case measure => simp [intOf]; omega
          · have hfc : feedC p c1 = ((takeP p c1).1, if (takeP p c1).2.kd = 0 then [] else [(takeP p c1).2]) := by unfold feedC; rw [if_neg hz]
            have z0 : ((c1 : Int) == 0) = false := by simp; omega
            have z127 : ((c1 : Int) == 127) = false := by simp; omega
            have HTk := Lib.hid (fun W h => take_any g p c1 hc1 HW1.out.pl W h)
            have HTR := Lib.hid (R_take HW1.out.pl c1)
            have HF : Hid (r2 = ((takeP p c1).1, r.2 ++ if (takeP p c1).2.kd = 0 then [] else [(takeP p c1).2])) := Lib.hid (by rw [HSB.out, hfc])
            clear hfc HSB hz
            dsimp only at HTR HF
            generalize takeP p c1 = q at *
            go_wp2_with fail
            refine (HTk.out _ HW1.out.prs).mono ?_
            rintro e w3 ⟨v, rfl, ho, hp, hg⟩
            obtain ⟨A3, cc, B3, dd, rfl, o1, o2⟩ := ho
            have hsz : w.heap.size ≤ wr.heap.size := HW1.out.gro.size
            have HO : Hid (OTk w3 w.heap.size (.agg (q.2.cs A3 cc B3 dd)) q.2) := Lib.hid (OTk.more ⟨A3, cc, B3, dd, rfl, o1, o2⟩ hsz)
            have HW3 := Lib.hid (HW1.out.call hp hg HTR.out)
            clear o1 o2 hp hg hsz HW1 HTk HTR
            obtain ⟨q1, t⟩ := q
            dsimp only at HO HF HW3
            have hal : Below w3.heap.size w3 (w3.alloc (.cells (t.cs A3 cc B3 dd) 30)) := (Below.refl _ _).alloc (Nat.le_refl _) _
            have HW4 := Lib.hid (HW3.out.more hal)
            have HO4 := Lib.hid (HO.out.keep (row := none) (grown_below hal) (fun k hk => by cases hk))
            have HX := Lib.hid (Blk.new w3 30 (t.cs A3 cc B3 dd))
            have HX1 : Hid (∀ u ∈ (t.cs A3 cc B3 dd).toList, u.oneCell' = true) := Lib.hid (fun u hu => by have := Array.all_eq_true_iff_forall_mem.1 (tk_cs_one t A3 cc B3 dd) u (by simpa using hu); exact this)
            clear hal HW3 HO
            unfold Tok.cs at HW4 HO4 HX HX1
            dsimp only
            unfold Tok.cs
            by_cases hk : t.kd = 0
            · have kb : (t.kd != 0) = false := by simpa using hk
              have HF2 : Hid (r2 = (q1, r.2)) := Lib.hid (by rw [HF.out, if_pos hk]; simp)
              clear HF hk HX HX1 HO4
              go_wp2_with fail
              go_roundw
              case rel => exact ⟨i + 1, by omega, by go_num, by rw [HSx.out, HF2.out]; exact HW4.out⟩
              case measure => simp [intOf]; omega
            · have kb : (t.kd != 0) = true := by simpa using hk
              have HF2 : Hid (r2 = (q1, r.2 ++ [t])) := Lib.hid (by rw [HF.out, if_neg hk])
              clear HF hk
              go_upto_region 11 with fail
              generalize w3.alloc (.cells #[.int .i64 t.kd, .int .u8 (t.cd : Int), .int .u8 (t.mr : Int), .slice A3 t.ps.length cc, .string t.it, .slice B3 t.dt.length dd] 30) = w4 at *
              have hal5 : Below w4.heap.size w4 (w4.alloc (.cells #[.int .i64 t.kd, .int .u8 (t.cd : Int), .int .u8 (t.mr : Int), .slice A3 t.ps.length cc, .string t.it, .slice B3 t.dt.length dd] 30)) := (Below.refl _ _).alloc (Nat.le_refl _) _
              have HW5 := Lib.hid (HW4.out.more hal5)
              have HO5 := Lib.hid (HO4.out.keep (row := none) (grown_below hal5) (fun k hk => by cases hk))
              have HX5 := Lib.hid (Blk.new w4 30 #[.int .i64 t.kd, .int .u8 (t.cd : Int), .int .u8 (t.mr : Int), .slice A3 t.ps.length cc, .string t.it, .slice B3 t.dt.length dd])
              obtain ⟨xs, ho5, hot5⟩ := HW5.out.tok
              have HOw := Lib.hid ho5; have HOt := Lib.hid hot5
              have HRd : Hid (Reads (w4.alloc (.cells #[.int .i64 t.kd, .int .u8 (t.cd : Int), .int .u8 (t.mr : Int), .slice A3 t.ps.length cc, .string t.it, .slice B3 t.dt.length dd] 30)) (w4.alloc (.cells #[.int .i64 t.kd, .int .u8 (t.cd : Int), .int .u8 (t.mr : Int), .slice A3 t.ps.length cc, .string t.it, .slice B3 t.dt.length dd] 30)).heap.size 6 (some ⟨w4.heap.size, 0, none⟩) 1 [.int .i64 t.kd, .int .u8 (t.cd : Int), .int .u8 (t.mr : Int), .slice A3 t.ps.length cc, .string t.it, .slice B3 t.dt.length dd]) := Lib.hid ⟨rfl, fun _ => ⟨_, rfl, by simp, fun j u hu => by rw [add_here, HX5.out.cell j, List.getElem?_toArray]; exact hu⟩⟩
              have HBy : Hid ((r.2.length + 1) * i0.bytes ≤ 140737488355328) := Lib.hid (Nat.le_trans (Nat.mul_le_mul (Nat.succ_le_succ hfl.out) HI.out.2.2.2) (by decide))
              have HMx : Hid (r.2.length + 1 ≤ maxLen) := Lib.hid (by have := hfl.out; unfold maxLen; omega)
              have HBs : Hid (w.heap.size ≤ (w4.alloc (.cells #[.int .i64 t.kd, .int .u8 (t.cd : Int), .int .u8 (t.mr : Int), .slice A3 t.ps.length cc, .string t.it, .slice B3 t.dt.length dd] 30)).heap.size) := Lib.hid HW5.out.gro.size
              clear hal5 ho5 hot5 HW4 HO4 HX5
              go_wp2_with (first
                | (refine wpList_load_row rfl _ _ rfl w3.heap.size rfl _ _ (0, 0) _ HX.out tkU rfl tkS6 ?_)
                | (at_builtin; refine wpList_append_any _ rfl _ _ 39 rfl w.heap.size 30 i0 _ 6 i0.bytes Try.underlying39 HI.out.1 HI.out.2.1 HI.out.2.2.1 rfl rfl (by decide) _ r.2.length _ rfl HOw.out _ (some ⟨w4.heap.size, 0, none⟩) 1 1 _ rfl HRd.out HX1.out HMx.out HBy.out HBs.out ?_; intro v6 w6 hown6 hg6 _))
              go_roundw
              case rel => exact ⟨i + 1, by omega, by go_num, by rw [HSx.out, HF2.out]; exact HW5.out.push HOw.out HOt.out HO5.out hown6 hg6⟩
              case measure => simp [intOf]; omega

        · by_cases hz : c1 = 0 ∨ c1 = 127
          · have hfc : feedC p c1 = (p, []) := by unfold feedC; rw [if_pos hz]
            have HF : Hid (r2 = (p, r.2)) := Lib.hid (by rw [HSB.out, hfc]; simp)
            clear hfc HSB
            rcases hz with h0 | h0
            · have z0 : ((c1 : Int) == 0) = true := by simp; omega
              clear h0
              go_wp2_with fail
              go_roundw
              case rel => exact ⟨i + 1, by omega, by go_num, by rw [HSx.out, HF.out]; exact HW1.out⟩
              case measure => simp [intOf]; omega
            · have z0 : ((c1 : Int) == 0) = false := by simp; omega
              have z127 : ((c1 : Int) == 127) = true := by simp; omega
              clear h0
              go_wp2_with fail
              go_roundw
              case rel => exact ⟨i + 1, by omega, by go_num, by rw [HSx.out, HF.out]; exact HW1.out⟩
              case measure => simp [intOf]; omega
          · have hfc : feedC p c1 = ((takeP p c1).1, if (takeP p c1).2.kd = 0 then [] else [(takeP p c1).2]) := by unfold feedC; rw [if_neg hz]
            have z0 : ((c1 : Int) == 0) = false := by simp; omega
            have z127 : ((c1 : Int) == 127) = false := by simp; omega
            have HTk := Lib.hid (fun W h => take_any g p c1 hc1 HW1.out.pl W h)
            have HTR := Lib.hid (R_take HW1.out.pl c1)
            have HF : Hid (r2 = ((takeP p c1).1, r.2 ++ if (takeP p c1).2.kd = 0 then [] else [(takeP p c1).2])) := Lib.hid (by rw [HSB.out, hfc])
            clear hfc HSB hz
            dsimp only at HTR HF
            generalize takeP p c1 = q at *
            go_wp2_with fail
            refine (HTk.out _ HW1.out.prs).mono ?_
            rintro e w3 ⟨v, rfl, ho, hp, hg⟩
            obtain ⟨A3, cc, B3, dd, rfl, o1, o2⟩ := ho
            have hsz : w.heap.size ≤ wr.heap.size := HW1.out.gro.size
            have HO : Hid (OTk w3 w.heap.size (.agg (q.2.cs A3 cc B3 dd)) q.2) := Lib.hid (OTk.more ⟨A3, cc, B3, dd, rfl, o1, o2⟩ hsz)
            have HW3 := Lib.hid (HW1.out.call hp hg HTR.out)
            clear o1 o2 hp hg hsz HW1 HTk HTR
            obtain ⟨q1, t⟩ := q
            dsimp only at HO HF HW3
            have hal : Below w3.heap.size w3 (w3.alloc (.cells (t.cs A3 cc B3 dd) 30)) := (Below.refl _ _).alloc (Nat.le_refl _) _
            have HW4 := Lib.hid (HW3.out.more hal)
            have HO4 := Lib.hid (HO.out.keep (row := none) (grown_below hal) (fun k hk => by cases hk))
            have HX := Lib.hid (Blk.new w3 30 (t.cs A3 cc B3 dd))
            have HX1 : Hid (∀ u ∈ (t.cs A3 cc B3 dd).toList, u.oneCell' = true) := Lib.hid (fun u hu => by have := Array.all_eq_true_iff_forall_mem.1 (tk_cs_one t A3 cc B3 dd) u (by simpa using hu); exact this)
            clear hal HW3 HO
            unfold Tok.cs at HW4 HO4 HX HX1
            dsimp only
            unfold Tok.cs
            by_cases hk : t.kd = 0
            · have kb : (t.kd != 0) = false := by simpa using hk
              have HF2 : Hid (r2 = (q1, r.2)) := Lib.hid (by rw [HF.out, if_pos hk]; simp)
              clear HF hk HX HX1 HO4
              go_wp2_with fail
              go_roundw
              case rel => exact ⟨i + 1, by omega, by go_num, by rw [HSx.out, HF2.out]; exact HW4.out⟩
              case measure => simp [intOf]; omega
            · have kb : (t.kd != 0) = true := by simpa using hk
              have HF2 : Hid (r2 = (q1, r.2 ++ [t])) := Lib.hid (by rw [HF.out, if_neg hk])
              clear HF hk
              go_upto_region 11 with fail
              generalize w3.alloc (.cells #[.int .i64 t.kd, .int .u8 (t.cd : Int), .int .u8 (t.mr : Int), .slice A3 t.ps.length cc, .string t.it, .slice B3 t.dt.length dd] 30) = w4 at *
              have hal5 : Below w4.heap.size w4 (w4.alloc (.cells #[.int .i64 t.kd, .int .u8 (t.cd : Int), .int .u8 (t.mr : Int), .slice A3 t.ps.length cc, .string t.it, .slice B3 t.dt.length dd] 30)) := (Below.refl _ _).alloc (Nat.le_refl _) _
              have HW5 := Lib.hid (HW4.out.more hal5)
              have HO5 := Lib.hid (HO4.out.keep (row := none) (grown_below hal5) (fun k hk => by cases hk))
              have HX5 := Lib.hid (Blk.new w4 30 #[.int .i64 t.kd, .int .u8 (t.cd : Int), .int .u8 (t.mr : Int), .slice A3 t.ps.length cc, .string t.it, .slice B3 t.dt.length dd])
              obtain ⟨xs, ho5, hot5⟩ := HW5.out.tok
              have HOw := Lib.hid ho5; have HOt := Lib.hid hot5
              have HRd : Hid (Reads (w4.alloc (.cells #[.int .i64 t.kd, .int .u8 (t.cd : Int), .int .u8 (t.mr : Int), .slice A3 t.ps.length cc, .string t.it, .slice B3 t.dt.length dd] 30)) (w4.alloc (.cells #[.int .i64 t.kd, .int .u8 (t.cd : Int), .int .u8 (t.mr : Int), .slice A3 t.ps.length cc, .string t.it, .slice B3 t.dt.length dd] 30)).heap.size 6 (some ⟨w4.heap.size, 0, none⟩) 1 [.int .i64 t.kd, .int .u8 (t.cd : Int), .int .u8 (t.mr : Int), .slice A3 t.ps.length cc, .string t.it, .slice B3 t.dt.length dd]) := Lib.hid ⟨rfl, fun _ => ⟨_, rfl, by simp, fun j u hu => by rw [add_here, HX5.out.cell j, List.getElem?_toArray]; exact hu⟩⟩
              have HBy : Hid ((r.2.length + 1) * i0.bytes ≤ 140737488355328) := Lib.hid (Nat.le_trans (Nat.mul_le_mul (Nat.succ_le_succ hfl.out) HI.out.2.2.2) (by decide))
              have HMx : Hid (r.2.length + 1 ≤ maxLen) := Lib.hid (by have := hfl.out; unfold maxLen; omega)
              have HBs : Hid (w.heap.size ≤ (w4.alloc (.cells #[.int .i64 t.kd, .int .u8 (t.cd : Int), .int .u8 (t.mr : Int), .slice A3 t.ps.length cc, .string t.it, .slice B3 t.dt.length dd] 30)).heap.size) := Lib.hid HW5.out.gro.size
              clear hal5 ho5 hot5 HW4 HO4 HX5
              go_wp2_with (first
                | (refine wpList_load_row rfl _ _ rfl w3.heap.size rfl _ _ (0, 0) _ HX.out tkU rfl tkS6 ?_)
                | (at_builtin; refine wpList_append_any _ rfl _ _ 39 rfl w.heap.size 30 i0 _ 6 i0.bytes Try.underlying39 HI.out.1 HI.out.2.1 HI.out.2.2.1 rfl rfl (by decide) _ r.2.length _ rfl HOw.out _ (some ⟨w4.heap.size, 0, none⟩) 1 1 _ rfl HRd.out HX1.out HMx.out HBy.out HBs.out ?_; intro v6 w6 hown6 hg6 _))
              go_roundw
              case rel => exact ⟨i + 1, by omega, by go_num, by rw [HSx.out, HF2.out]; exact HW5.out.push HOw.out HOt.out HO5.out hown6 hg6⟩
              case measure => simp [intOf]; omega

    · obtain rfl : i = ns.length := by omega
      have m1 : ((ns.length : Int) < (ns.length : Int)) = False := eq_false (by omega)
      have HE := Lib.hid (show FdW w wr g (feedL s ns) u5 from by have := HW.out; rw [List.take_length] at this; exact this)
      clear HW
      go_wp2_with fail
      go_ret
      exact ⟨_, rfl, HE.out⟩
end Go.Proofs.Ytdmiihmaijbkfaa
