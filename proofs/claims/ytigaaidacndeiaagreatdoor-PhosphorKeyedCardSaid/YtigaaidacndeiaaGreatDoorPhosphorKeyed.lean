/-
  PhosphorKeyed holds, whatever the input: the card of the statement, with the library's three tables and the keys' two tables of numbers tied to the program's text.
-/
import Derived.Test.YtigaaidacndeiaaGreatDoorCards
import Derived.Test.YtigaaidacndeiaaGreatDoorTie
import Derived.Test.YtigaaidacndeiaaGreatDoorFrameKe
import Derived.Test.YtigaaidacndeiaaGreatDoorKeyQ
import Derived.Test.YtigaaidacndeiaaGreatDoorFrameEv
import Derived.Test.YtigaaidacndeiaaGreatDoorFrameKb2
namespace Go.Proofs.YtigaaidacndeiaaGreatDoor.phosphorKeyed
open Go.ChangeShapes Go.WideShapes Go.ChangeAt Go.RowKit
open Go.ChangeMaps (open_string)

/-- What is kept from stroke to stroke. -/
structure KdW (w : World) (gb K gp : Nat) (XB : Array Value) (W : World) : Prop where
  bel : Below w.heap.size w W
  bd : Blk W gb 53 XB
  key : KeyB W K noT false
  prs : PsB W gp ps0
theorem KdW.next {w W W' : World} {gb K gp : Nat} {XB : Array Value} (h : KdW w gb K gp XB W) (hb : Below W.heap.size W W') : KdW w gb K gp XB W' :=
  ⟨h.bel.trans (hb.mono h.bel.size), h.bd.next hb, h.key.next hb, h.prs.next hb⟩
theorem KdW.fed {w W W' : World} {gb K gp : Nat} {XB : Array Value} (h : KdW w gb K gp XB W) (hp : PsB W' gp ps0) (hg : W.grownBy W' (some gp)) (hgp : w.heap.size ≤ gp ∧ gb < gp ∧ K < gp) : KdW w gb K gp XB W' :=
  ⟨below_gb h.bel hg hgp.1 h.bel.size, (hg.block gb h.bd.lt (fun e => by injection e with e; omega)).trans h.bd, ⟨(hg.block K h.key.1.lt (fun e => by injection e with e; omega)).trans h.key.1, h.key.2⟩, hp⟩
/-- One token of a list of one's own. -/
theorem one_tok {W : World} {base n : Nat} {A : Option Addr} {t : Tok} (h : OTks W base (.slice A 1 n) [t]) : ∃ g P p D d, A = some ⟨g, 0, none⟩ ∧
    (W.cell? ⟨g, 0, none⟩ = some (.int .i64 t.kd) ∧ W.cell? ⟨g, 1, none⟩ = some (.int .u8 (t.cd : Int)) ∧ W.cell? ⟨g, 2, none⟩ = some (.int .u8 (t.mr : Int)) ∧ W.cell? ⟨g, 3, none⟩ = some (.slice P t.ps.length p) ∧ W.cell? ⟨g, 4, none⟩ = some (.string t.it) ∧ W.cell? ⟨g, 5, none⟩ = some (.slice D t.dt.length d)) := by
  obtain ⟨xs, h1, h2⟩ := h
  obtain ⟨g, cap, e, _⟩ := h1.form (by simp)
  cases e
  match xs, h2 with
  | [x], ⟨⟨P, p, D, d, e1, q1, q2⟩, _⟩ =>
    cases e1
    have c := fun j hj => h1.cellAt j hj
    exact ⟨g, P, p, D, d, rfl, ⟨c 0 (by decide), c 1 (by decide), c 2 (by decide), c 3 (by decide), c 4 (by decide), c 5 (by decide)⟩⟩
theorem u8_in (z : Int) (h0 : 0 ≤ z) (h1 : z ≤ 255) : IntKind.u8.wrap z = z := by
  obtain ⟨n, rfl⟩ : ∃ n : Nat, z = (n : Int) := ⟨z.toNat, by omega⟩
  exact IntWalk.u8_in _ (by omega)
set_option maxRecDepth 100000 in
set_option maxHeartbeats 32000000 in
theorem walk (A : Option Addr) (cap : Nat) (l : List Ev4) (_hl : l.length ≤ maxLen) (hT : ∀ e ∈ l, e.c < 256) (m : Nat) (hm : m < 4294967296) (lv : Int) (eg : Bool) (s : ByteArray) (w : World) (he : KEnv w) (hri : REvs w A l) :
    Calls Tryz.prog 5 #[.slice A l.length cap, .agg #[.int .u32 (m : Int), .int .i64 lv, .bool eg, .string s]] w fun e w' => e = .returned (.bool true) ∧ Below w.heap.size w w' := by
  have HE0 := Lib.hid he; have HR := Lib.hid hri; have HTi := Lib.hid hT; have HM := Lib.hid hm
  have HHas := Lib.hid (fun (j : Int) W => has_any m hm j W)
  have b0 := Blk.new w 53 #[.int .u32 (m : Int), .int .i64 lv, .bool eg, .string s]
  have HB0 := Lib.hid ((Below.refl w.heap.size w).alloc (Nat.le_refl _) (.cells #[.int .u32 (m : Int), .int .i64 lv, .bool eg, .string s] 53))
  have HBd := Lib.hid b0
  have hsz := World.size_alloc w (.cells #[.int .u32 (m : Int), .int .i64 lv, .bool eg, .string s] 53)
  clear he hri hT hm b0
  go_enter Tryz.func5, Tryz.ntmps5
  --#1
  go_upto_region 1 with fail
  generalize w.alloc (.cells #[.int .u32 (m : Int), .int .i64 lv, .bool eg, .string s] 53) = W0 at *
  have HS0 := Lib.hid hsz
  clear hsz
  --#2
  go_upto_region 2 with fail
  rw [zero_keys]
  have q1 : Below W0.heap.size W0 (W0.alloc (.cells (keyC noT false) 41)) := (Below.refl _ _).alloc (Nat.le_refl _) _
  have k1 := KeyB.new W0 noT false rfl
  have hs1 := World.size_alloc W0 (.cells (keyC noT false) 41)
  generalize W0.alloc (.cells (keyC noT false) 41) = W1 at *
  have HQ1 := Lib.hid q1; have HK1 := Lib.hid k1; have HS1 := Lib.hid hs1
  clear q1 k1 hs1
  --#3
  go_upto_region 3 with (refine wpList_alloc_ps rfl rfl ?_)
  have q2 : Below W1.heap.size W1 (W1.alloc (.cells ps0.cells.toArray 61)) := (Below.refl _ _).alloc (Nat.le_refl _) _
  have HW2 : Hid (KdW w w.heap.size W0.heap.size W1.heap.size #[.int .u32 (m : Int), .int .i64 lv, .bool eg, .string s] (W1.alloc (.cells ps0.cells.toArray 61))) := Lib.hid ⟨HB0.out.trans ((HQ1.out.trans (q2.mono HQ1.out.size)).mono HB0.out.size), (HBd.out.next HQ1.out).next q2, HK1.out.next q2, ps_new W1⟩
  have HGp : Hid (w.heap.size ≤ W1.heap.size ∧ w.heap.size < W1.heap.size ∧ W0.heap.size < W1.heap.size) := Lib.hid (by have := HS0.out; have := HS1.out; omega)
  clear q2 HQ1 HK1 HS0 HS1 HB0 HBd
  generalize W1.alloc (.cells ps0.cells.toArray 61) = W2 at *
  generalize W1.heap.size = gp at *
  generalize W0.heap.size = K at *
  --#4
  go_wp2_with fail
  go_loopw [7] (fun i wr => ∃ j : Nat, j ≤ l.length ∧ j ≤ 40 ∧ i = .int .i64 j ∧ KdW w w.heap.size K gp #[.int .u32 (m : Int), .int .i64 lv, .bool eg, .string s] wr) (fun i _ => l.length - (intOf i).toNat)
  case atStart => exact ⟨0, by omega, by omega, rfl, HW2.out⟩
  case round =>
    obtain ⟨j, hj, hj40, rfl, hw⟩ := hrel
    have HW := Lib.hid hw
    clear hw HW2
    by_cases hlj : j < l.length
    · have k1 : ((j : Int) < (l.length : Int)) = True := eq_true (by omega)
      by_cases h40 : j < 40
      · --#5
        have k2 : ((j : Int) < 40) = True := eq_true (by omega)
        have hwj : IntKind.i64.wrap ((j : Int) + 1) = (j : Int) + 1 := IntWalk.i64_in _ (by omega)
        have k0 : (0 : Int) ≤ (j : Int) := by omega
        obtain ⟨ad, hA1, _, x0, x1, x2, x3⟩ := (HR.out.next HW.out.bel).at_ hlj
        subst hA1
        have HCe := Lib.hid (HTi.out l[j] (List.getElem_mem hlj))
        generalize l[j] = ev at *
        obtain ⟨k, c, sh, ct⟩ := ev
        dsimp only at x0 x1 x2 x3
        change Hid (c < 256) at HCe
        have hal : Below wr.heap.size wr (wr.alloc (.cells #[.int .i64 k, .int .u8 (c : Int), .bool sh, .bool ct] 38)) := (Below.refl _ _).alloc (Nat.le_refl _) _
        have HWa := Lib.hid (HW.out.next hal)
        have HXa := Lib.hid (Blk.new wr 38 #[.int .i64 k, .int .u8 (c : Int), .bool sh, .bool ct])
        have HGt : Hid (gp < wr.heap.size) := Lib.hid HW.out.prs.lt
        have HLa : Hid (wr.heap.size < (wr.alloc (.cells #[.int .i64 k, .int .u8 (c : Int), .bool sh, .bool ct] 38)).heap.size) := Lib.hid (by simp)
        clear hal
        --#6
        go_upto_region 7 with fail
        generalize wr.alloc (.cells #[.int .i64 k, .int .u8 (c : Int), .bool sh, .bool ct] 38) = wa at *
        generalize wr.heap.size = gt at *
        clear x0 x1 x2 x3 HW
        have HKy : Hid (∀ {R : List Nat} {u : Value} {W : World}, KyF wa.heap.size R u W → ∀ ad cc, u = .slice (some ad) R.length cc → gp < ad.block) := Lib.hid (fun h ad cc e => by
          obtain ⟨A', c', e', _, hf⟩ := h
          rw [e'] at e
          cases e
          have := hf ad rfl
          have := HGt.out; have := HLa.out
          omega)
        have x0 := HXa.out.cell 0; have x3 := HXa.out.cell 3
        have b1 := HWa.out.bd.cell 1
        by_cases e4 : k = 4
        · have g4 : (k == 4) = true := beq_iff_eq.2 e4
          --#As
          go_wp2_with fail
          go_roundw
          case rel => exact ⟨j + 1, by omega, by omega, by go_num, HWa.out⟩
          case measure => simp [intOf]; omega
        have g4 : (k == 4) = false := beq_eq_false_iff_ne.2 e4
        by_cases e16 : k = 16
        · have g16 : (k == 16) = true := beq_iff_eq.2 e16
          have g0 : (k == 0) = false := beq_eq_false_iff_ne.2 (by omega)
          by_cases hl2 : lv < 2
          · have gl : (lv < 2) = True := eq_true hl2
            --#Bs
            go_wp2_with fail
            go_roundw
            case rel => exact ⟨j + 1, by omega, by omega, by go_num, HWa.out⟩
            case measure => simp [intOf]; omega
          have gl : (lv < 2) = False := eq_false hl2
          have hns : ¬ skipK k lv ct := fun h => by rcases h with h | ⟨_, h⟩ | ⟨h, _⟩ <;> omega
          have HK := Lib.hid (keyed k c HCe.out sh ct m lv eg hns)
          have HU := Lib.hid (fun h h0 => keyed_cur (k := k) h c sh ct m h0 lv eg)
          obtain ⟨ts, HSt, HCu⟩ : ∃ ts, Hid (Sent (encP k c sh ct m lv eg noT) ts) ∧ Hid ((5 ≤ k ∧ k ≤ 8) → hasN m 0 = false → ts = if hasN m 4 then [ss3U, prtU (60 + k).toNat] else [csiU (60 + k).toNat []]) := by
            by_cases hcur : (5 ≤ k ∧ k ≤ 8) ∧ hasN m 0 = false
            · exact ⟨_, Lib.hid (HU.out hcur.1 hcur.2), Lib.hid (fun _ _ => rfl)⟩
            · obtain ⟨ts, hs⟩ := HK.out
              exact ⟨ts, Lib.hid hs, Lib.hid (fun h1 h2 => absurd ⟨h1, h2⟩ hcur)⟩
          have HEn := Lib.hid (fun W h => enc_any k c sh ct m lv eg K noT false HCe.out (show m < 2 ^ 32 from HM.out) W h)
          clear HK HU hns
          (try clear e4)
          (try clear e16)
          (try clear e0)
          (try clear hl2)
          generalize encP k c sh ct m lv eg noT = R at *
          --#Ba
          go_upto_region 8 with fail
          refine wp_region_mix_lit (by kernel_rfl) [(1, .call (.agg #[.int .i64 k, .int .u8 (c : Int), .bool sh, .bool ct])), (8, .letter (KyP R.length) (KyF wa.heap.size R))] (by kernel_rfl) (by kernel_rfl) (by kernel_rfl) (by rfl) (by simp [apartK] <;> omega) (by simp [startK]) (by simp only [List.forall_mem_cons]; exact ⟨trivial, kyF_stab _ _ _ (by simp [boxes, Kind.boxed]), by simp⟩) (⟨fun i => .slice none R.length 0, by simp only [List.forall_mem_cons]; exact ⟨trivial, ⟨none, 0, rfl⟩, by simp⟩⟩) (fun β hβ => ?_)
          obtain ⟨A1, c1, e1⟩ := (hβ 8 : KyP R.length (β 8))
          --#Bb
          refine lex_val (v := ?_) rfl rfl (fun w' hf => ?_) ?_
          rotate_left
          · have hb := HXa.out.next hf.only.below0; have q0 := hb.cell 0; have q1 := hb.cell 1; have q2 := hb.cell 2; have q3 := hb.cell 3; go_simp
            try rfl
          try simp only [Act.put, List.setIfInBounds_toArray, List.set_cons_zero, List.set_cons_succ]
          refine lex_call (f := 18) (args := ?_) rfl rfl (fun w' hf => ?_) (fun w' hf => ?_) ?_
          rotate_left
          · go_simp
            try rfl
          · exact (ownK_any k c sh ct w').mono fun e w2 ⟨he, hw⟩ => ⟨he, hw⟩
          try simp only [Act.put, List.setIfInBounds_toArray, List.set_cons_zero, List.set_cons_succ]
          --#Bc
          iterate 6 (
            refine lex_val (v := ?_) rfl rfl (fun w' hf => ?_) ?_
            rotate_left
            · have hb := HWa.out.bd.next hf.only.below0; have q0 := hb.cell 0; have q1 := hb.cell 1; have q2 := hb.cell 2; have q3 := hb.cell 3; go_simp
              try rfl
            try simp only [Act.put, List.setIfInBounds_toArray, List.set_cons_zero, List.set_cons_succ])
          --#Bd
          refine lex_letter (f := 17) (args := ?_) rfl rfl (fun w' hf => ?_) (fun w' hf => ?_) ?_
          rotate_left
          · go_simp
            try rfl
          · exact ky_own rfl hf.only.size (HEn.out w' ((HE0.out.next (HWa.out.bel.trans (hf.only.below0.mono HWa.out.bel.size))).key (HWa.out.key.next hf.only.below0)))
          try simp only [Act.put, List.setIfInBounds_toArray, List.set_cons_zero, List.set_cons_succ]
          rw [e1]
          repeat (
            refine lex_val (v := ?_) rfl rfl (fun w' hf => ?_) ?_
            rotate_left
            · go_simp
              try rfl
            try simp only [Act.put, List.setIfInBounds_toArray, List.set_cons_zero, List.set_cons_succ])
          refine lex_nil fun w' he => ?_
          --#Be
          rename World => w5
          obtain ⟨_, hg⟩ : KyP R.length (β 8) ∧ KyF wa.heap.size R (β 8) w5 := he.facts 8
          have hgk := hg
          rw [e1] at hg
          obtain ⟨A2, c2, e2, hr2, _⟩ := hg
          cases e2
          have HW5 := Lib.hid (HWa.out.next he.only.below0)
          have HX5 := Lib.hid (HXa.out.next he.only.below0)
          have HF5 := Lib.hid (feed_any gp ps0 R0 A1 c1 R HSt.out.lt (by have := HSt.out.six; omega) (fun ad h0 e => by have := HKy.out hgk ad c1 (by rw [e1, e]); have := HGp.out; omega) w5 HW5.out.prs hr2)
          rw [HSt.out.feed] at HF5
          clear he e1 hgk hr2 hβ HEn HWa HXa
          (try simp only [Act.put, List.setIfInBounds_toArray, List.set_cons_zero, List.set_cons_succ])
          --#Bf
          go_wp2_with fail
          refine HF5.out.mono ?_
          rintro e w6 ⟨v6, rfl, hw6⟩
          have HW6 := Lib.hid (HW5.out.fed hw6.prs hw6.gro HGp.out)
          have HX6 := Lib.hid (show Blk w6 gt 38 #[.int .i64 k, .int .u8 (c : Int), .bool sh, .bool ct] from (hw6.gro.block gt HX5.out.lt (fun e => by have := HGt.out; injection e with e; omega)).trans HX5.out)
          have HO6 := Lib.hid hw6.tok
          obtain ⟨A6, c6, rfl, _⟩ := hw6.tok.reads
          have HI6 := Lib.hid (idle_any gp ps0 w6 HW6.out.prs)
          rw [show (ps0.pl == 0) = true from rfl] at HI6
          have hn2 : ((2 : Int) < (ts.length : Int)) = False := eq_false (by have := HSt.out.two; omega)
          have hn6 : ((6 : Int) < (R.length : Int)) = False := eq_false (by have := HSt.out.six; omega)
          clear hw6 HF5 HW5 HX5 HSt
          --#Bg
          go_wp2_with fail
          refine HI6.out.mono ?_
          rintro e w6 ⟨rfl, rfl⟩
          have xk := HX6.out.cell 0
          --#Bh
          go_upto_region 12 with fail
          clear HI6
          go_wp2_with fail
          refine (curQ_any k _).mono ?_
          rintro e w7 ⟨rfl, rfl⟩
          rename World => w7
          by_cases hcu : 5 ≤ k ∧ k ≤ 8
          · have d1 : (decide (5 ≤ k) && decide (k ≤ 8)) = true := by simp [hcu.1, hcu.2]
            rw [d1]
            clear d1
            have b0 := HW6.out.bd.cell 0
            --#Bi
            go_wp2_with fail
            refine (HHas.out 0 _).mono ?_
            rintro e w7 ⟨rfl, rfl⟩
            rename World => w7
            rcases h0 : hasN m 0 with _ | _
            · --#Bj
              go_upto_region 14 with fail
              go_wp2_with fail
              refine (HHas.out 4 _).mono ?_
              rintro e w7 ⟨rfl, rfl⟩
              rename World => w7
              have hts := HCu.out hcu h0
              have HW7 := HW6; have HXf := HX6
              obtain ⟨cc, hcc⟩ : ∃ cc : Nat, (60 + k).toNat = cc := ⟨_, rfl⟩
              have hcI : (cc : Int) = 60 + k := by omega
              have hwr1 : IntKind.i64.wrap (65 + k) = 65 + k := IntWalk.i64_in _ (by omega)
              have hwr2 : IntKind.i64.wrap (65 + k - 5) = (cc : Int) := by rw [show (65 : Int) + k - 5 = (cc : Int) by omega]; exact IntWalk.i64_in _ (by omega)
              have hwr3 : IntKind.u8.wrap (cc : Int) = (cc : Int) := by
                have : (0 : Int) ≤ (cc : Int) ∧ (cc : Int) ≤ 255 := by omega
                exact u8_in _ this.1 this.2
              rw [hcc] at hts
              have hwz0 : IntKind.i64.wrap 0 = 0 := by rfl
              have hwz1 : IntKind.i64.wrap 1 = 1 := by rfl
              clear HCu hcI hcc hcu h0 b0 xk
              rcases h4 : hasN m 4 with _ | _
              · rw [h4] at hts
                simp only [Bool.false_eq_true, if_false] at hts
                subst hts
                have HO7 := HO6
                clear h4 HO6 HW6 HX6
                obtain ⟨g, P, p, D, d, hA, hx⟩ := one_tok HO7.out
                subst hA
                have hg7 : g < w7.heap.size := by
                  obtain ⟨zs, h1, _⟩ := HO7.out
                  exact (World.ownsRow.lt h1 g rfl).2
                have HX := Lib.hid hx
                have HFar : Hid (∀ W, Below w7.heap.size w7 W → ∀ j v, w7.cell? ⟨g, j, none⟩ = some v → W.cell? ⟨g, j, none⟩ = some v) := Lib.hid (fun W hb j v h => by rw [← h]; exact World.cell?_of_block (hb.block g hg7))
                clear hx  HO7
                --#Bk1
                go_upto_region 16 with fail
                refine wp_region_mix_lit (by kernel_rfl) [] (by kernel_rfl) (by kernel_rfl) (by kernel_rfl) (by rfl) (by simp [apartK] <;> omega) (by simp [startK]) (by simp [stabK]) (⟨fun _ => undef, by simp [okK]⟩) (fun β hβ => ?_)
                --#Bk2
                repeat (
                  refine lex_val (v := ?_) rfl rfl (fun w' hf => ?_) ?_
                  rotate_left
                  · have z0 := HFar.out w' hf.only.below0 0 _ HX.out.1; have z1 := HFar.out w' hf.only.below0 1 _ HX.out.2.1; have xk := (HXf.out.next hf.only.below0).cell 0; (try dsimp only [ss3U, prtU, csiU] at z0 z1); go_simp
                    try rfl
                  try simp only [Act.put, List.setIfInBounds_toArray, List.set_cons_zero, List.set_cons_succ])
                refine lex_nil fun w' he => ?_
                --#Bk3
                have HW8 := Lib.hid (HW7.out.next he.only.below0)
                clear he
                go_wp2_with fail
                go_roundw
                case rel => exact ⟨j + 1, by omega, by omega, by go_num, HW8.out⟩
                case measure => simp [intOf]; omega
              · rw [h4] at hts
                simp only [if_true] at hts
                subst hts
                have HO7 := HO6
                clear h4 HO6 HW6 HX6
                go_upto_region 15 with fail
                obtain ⟨g, P, p, D, d, Q, q, E, f, hA, _, hx, hy⟩ := two_toks HO7.out
                subst hA
                have hg7 : g < w7.heap.size := by
                  obtain ⟨zs, h1, _⟩ := HO7.out
                  exact (World.ownsRow.lt h1 g rfl).2
                have HX := Lib.hid hx; have HY := Lib.hid hy
                have HFar : Hid (∀ W, Below w7.heap.size w7 W → ∀ j v, w7.cell? ⟨g, j, none⟩ = some v → W.cell? ⟨g, j, none⟩ = some v) := Lib.hid (fun W hb j v h => by rw [← h]; exact World.cell?_of_block (hb.block g hg7))
                clear hx hy HO7
                --#Bl1
                go_upto_region 16 with fail
                refine wp_region_mix_lit (by kernel_rfl) [] (by kernel_rfl) (by kernel_rfl) (by kernel_rfl) (by rfl) (by simp [apartK] <;> omega) (by simp [startK]) (by simp [stabK]) (⟨fun _ => undef, by simp [okK]⟩) (fun β hβ => ?_)
                --#Bl2
                repeat (
                  refine lex_val (v := ?_) rfl rfl (fun w' hf => ?_) ?_
                  rotate_left
                  · have z0 := HFar.out w' hf.only.below0 0 _ HX.out.1; have z1 := HFar.out w' hf.only.below0 1 _ HX.out.2.1; have z2 := HFar.out w' hf.only.below0 7 _ HY.out.2.1; have xk := (HXf.out.next hf.only.below0).cell 0; (try dsimp only [ss3U, prtU, csiU] at z0 z1 z2); go_simp
                    try rfl
                  try simp only [Act.put, List.setIfInBounds_toArray, List.set_cons_zero, List.set_cons_succ])
                refine lex_nil fun w' he => ?_
                --#Bl3
                have HW8 := Lib.hid (HW7.out.next he.only.below0)
                clear he
                go_wp2_with fail
                go_roundw
                case rel => exact ⟨j + 1, by omega, by omega, by go_num, HW8.out⟩
                case measure => simp [intOf]; omega
            · --#Bm
              go_wp2_with fail
              go_roundw
              case rel => exact ⟨j + 1, by omega, by omega, by go_num, HW6.out⟩
              case measure => simp [intOf]; omega
          · have d1 : (decide (5 ≤ k) && decide (k ≤ 8)) = false := by
              rw [Bool.and_eq_false_iff, decide_eq_false_iff_not, decide_eq_false_iff_not]; omega
            rw [d1]
            clear d1
            --#Bn
            go_wp2_with fail
            go_roundw
            case rel => exact ⟨j + 1, by omega, by omega, by go_num, HW6.out⟩
            case measure => simp [intOf]; omega
        have g16 : (k == 16) = false := beq_eq_false_iff_ne.2 e16
        by_cases e0 : k = 0
        · have g0 : (k == 0) = true := beq_iff_eq.2 e0
          cases ct
          case true =>
            --#Cs
            go_wp2_with fail
            go_roundw
            case rel => exact ⟨j + 1, by omega, by omega, by go_num, HWa.out⟩
            case measure => simp [intOf]; omega
          case false =>
            have hns : ¬ skipK k lv false := fun h => by
              rcases h with h | ⟨h, _⟩ | ⟨_, h⟩
              · omega
              · omega
              · cases h
            have HK := Lib.hid (keyed k c HCe.out sh false m lv eg hns)
            have HU := Lib.hid (fun h h0 => keyed_cur (k := k) h c sh false m h0 lv eg)
            obtain ⟨ts, HSt, HCu⟩ : ∃ ts, Hid (Sent (encP k c sh false m lv eg noT) ts) ∧ Hid ((5 ≤ k ∧ k ≤ 8) → hasN m 0 = false → ts = if hasN m 4 then [ss3U, prtU (60 + k).toNat] else [csiU (60 + k).toNat []]) := by
              by_cases hcur : (5 ≤ k ∧ k ≤ 8) ∧ hasN m 0 = false
              · exact ⟨_, Lib.hid (HU.out hcur.1 hcur.2), Lib.hid (fun _ _ => rfl)⟩
              · obtain ⟨ts, hs⟩ := HK.out
                exact ⟨ts, Lib.hid hs, Lib.hid (fun h1 h2 => absurd ⟨h1, h2⟩ hcur)⟩
            have HEn := Lib.hid (fun W h => enc_any k c sh false m lv eg K noT false HCe.out (show m < 2 ^ 32 from HM.out) W h)
            clear HK HU hns
            (try clear e4)
            (try clear e16)
            (try clear e0)
            (try clear hl2)
            generalize encP k c sh false m lv eg noT = R at *
            --#Ca
            go_upto_region 8 with fail
            refine wp_region_mix_lit (by kernel_rfl) [(1, .call (.agg #[.int .i64 k, .int .u8 (c : Int), .bool sh, .bool false])), (8, .letter (KyP R.length) (KyF wa.heap.size R))] (by kernel_rfl) (by kernel_rfl) (by kernel_rfl) (by rfl) (by simp [apartK] <;> omega) (by simp [startK]) (by simp only [List.forall_mem_cons]; exact ⟨trivial, kyF_stab _ _ _ (by simp [boxes, Kind.boxed]), by simp⟩) (⟨fun i => .slice none R.length 0, by simp only [List.forall_mem_cons]; exact ⟨trivial, ⟨none, 0, rfl⟩, by simp⟩⟩) (fun β hβ => ?_)
            obtain ⟨A1, c1, e1⟩ := (hβ 8 : KyP R.length (β 8))
            --#Cb
            refine lex_val (v := ?_) rfl rfl (fun w' hf => ?_) ?_
            rotate_left
            · have hb := HXa.out.next hf.only.below0; have q0 := hb.cell 0; have q1 := hb.cell 1; have q2 := hb.cell 2; have q3 := hb.cell 3; go_simp
              try rfl
            try simp only [Act.put, List.setIfInBounds_toArray, List.set_cons_zero, List.set_cons_succ]
            refine lex_call (f := 18) (args := ?_) rfl rfl (fun w' hf => ?_) (fun w' hf => ?_) ?_
            rotate_left
            · go_simp
              try rfl
            · exact (ownK_any k c sh false w').mono fun e w2 ⟨he, hw⟩ => ⟨he, hw⟩
            try simp only [Act.put, List.setIfInBounds_toArray, List.set_cons_zero, List.set_cons_succ]
            --#Cc
            iterate 6 (
              refine lex_val (v := ?_) rfl rfl (fun w' hf => ?_) ?_
              rotate_left
              · have hb := HWa.out.bd.next hf.only.below0; have q0 := hb.cell 0; have q1 := hb.cell 1; have q2 := hb.cell 2; have q3 := hb.cell 3; go_simp
                try rfl
              try simp only [Act.put, List.setIfInBounds_toArray, List.set_cons_zero, List.set_cons_succ])
            --#Cd
            refine lex_letter (f := 17) (args := ?_) rfl rfl (fun w' hf => ?_) (fun w' hf => ?_) ?_
            rotate_left
            · go_simp
              try rfl
            · exact ky_own rfl hf.only.size (HEn.out w' ((HE0.out.next (HWa.out.bel.trans (hf.only.below0.mono HWa.out.bel.size))).key (HWa.out.key.next hf.only.below0)))
            try simp only [Act.put, List.setIfInBounds_toArray, List.set_cons_zero, List.set_cons_succ]
            rw [e1]
            repeat (
              refine lex_val (v := ?_) rfl rfl (fun w' hf => ?_) ?_
              rotate_left
              · go_simp
                try rfl
              try simp only [Act.put, List.setIfInBounds_toArray, List.set_cons_zero, List.set_cons_succ])
            refine lex_nil fun w' he => ?_
            --#Ce
            rename World => w5
            obtain ⟨_, hg⟩ : KyP R.length (β 8) ∧ KyF wa.heap.size R (β 8) w5 := he.facts 8
            have hgk := hg
            rw [e1] at hg
            obtain ⟨A2, c2, e2, hr2, _⟩ := hg
            cases e2
            have HW5 := Lib.hid (HWa.out.next he.only.below0)
            have HX5 := Lib.hid (HXa.out.next he.only.below0)
            have HF5 := Lib.hid (feed_any gp ps0 R0 A1 c1 R HSt.out.lt (by have := HSt.out.six; omega) (fun ad h0 e => by have := HKy.out hgk ad c1 (by rw [e1, e]); have := HGp.out; omega) w5 HW5.out.prs hr2)
            rw [HSt.out.feed] at HF5
            clear he e1 hgk hr2 hβ HEn HWa HXa
            (try simp only [Act.put, List.setIfInBounds_toArray, List.set_cons_zero, List.set_cons_succ])
            --#Cf
            go_wp2_with fail
            refine HF5.out.mono ?_
            rintro e w6 ⟨v6, rfl, hw6⟩
            have HW6 := Lib.hid (HW5.out.fed hw6.prs hw6.gro HGp.out)
            have HX6 := Lib.hid (show Blk w6 gt 38 #[.int .i64 k, .int .u8 (c : Int), .bool sh, .bool false] from (hw6.gro.block gt HX5.out.lt (fun e => by have := HGt.out; injection e with e; omega)).trans HX5.out)
            have HO6 := Lib.hid hw6.tok
            obtain ⟨A6, c6, rfl, _⟩ := hw6.tok.reads
            have HI6 := Lib.hid (idle_any gp ps0 w6 HW6.out.prs)
            rw [show (ps0.pl == 0) = true from rfl] at HI6
            have hn2 : ((2 : Int) < (ts.length : Int)) = False := eq_false (by have := HSt.out.two; omega)
            have hn6 : ((6 : Int) < (R.length : Int)) = False := eq_false (by have := HSt.out.six; omega)
            clear hw6 HF5 HW5 HX5 HSt
            --#Cg
            go_wp2_with fail
            refine HI6.out.mono ?_
            rintro e w6 ⟨rfl, rfl⟩
            have xk := HX6.out.cell 0
            --#Ch
            go_upto_region 12 with fail
            clear HI6
            go_wp2_with fail
            refine (curQ_any k _).mono ?_
            rintro e w7 ⟨rfl, rfl⟩
            rename World => w7
            by_cases hcu : 5 ≤ k ∧ k ≤ 8
            · have d1 : (decide (5 ≤ k) && decide (k ≤ 8)) = true := by simp [hcu.1, hcu.2]
              rw [d1]
              clear d1
              have b0 := HW6.out.bd.cell 0
              --#Ci
              go_wp2_with fail
              refine (HHas.out 0 _).mono ?_
              rintro e w7 ⟨rfl, rfl⟩
              rename World => w7
              rcases h0 : hasN m 0 with _ | _
              · --#Cj
                go_upto_region 14 with fail
                go_wp2_with fail
                refine (HHas.out 4 _).mono ?_
                rintro e w7 ⟨rfl, rfl⟩
                rename World => w7
                have hts := HCu.out hcu h0
                have HW7 := HW6; have HXf := HX6
                obtain ⟨cc, hcc⟩ : ∃ cc : Nat, (60 + k).toNat = cc := ⟨_, rfl⟩
                have hcI : (cc : Int) = 60 + k := by omega
                have hwr1 : IntKind.i64.wrap (65 + k) = 65 + k := IntWalk.i64_in _ (by omega)
                have hwr2 : IntKind.i64.wrap (65 + k - 5) = (cc : Int) := by rw [show (65 : Int) + k - 5 = (cc : Int) by omega]; exact IntWalk.i64_in _ (by omega)
                have hwr3 : IntKind.u8.wrap (cc : Int) = (cc : Int) := by
                  have : (0 : Int) ≤ (cc : Int) ∧ (cc : Int) ≤ 255 := by omega
                  exact u8_in _ this.1 this.2
                rw [hcc] at hts
                have hwz0 : IntKind.i64.wrap 0 = 0 := by rfl
                have hwz1 : IntKind.i64.wrap 1 = 1 := by rfl
                clear HCu hcI hcc hcu h0 b0 xk
                rcases h4 : hasN m 4 with _ | _
                · rw [h4] at hts
                  simp only [Bool.false_eq_true, if_false] at hts
                  subst hts
                  have HO7 := HO6
                  clear h4 HO6 HW6 HX6
                  obtain ⟨g, P, p, D, d, hA, hx⟩ := one_tok HO7.out
                  subst hA
                  have hg7 : g < w7.heap.size := by
                    obtain ⟨zs, h1, _⟩ := HO7.out
                    exact (World.ownsRow.lt h1 g rfl).2
                  have HX := Lib.hid hx
                  have HFar : Hid (∀ W, Below w7.heap.size w7 W → ∀ j v, w7.cell? ⟨g, j, none⟩ = some v → W.cell? ⟨g, j, none⟩ = some v) := Lib.hid (fun W hb j v h => by rw [← h]; exact World.cell?_of_block (hb.block g hg7))
                  clear hx  HO7
                  --#Ck1
                  go_upto_region 16 with fail
                  refine wp_region_mix_lit (by kernel_rfl) [] (by kernel_rfl) (by kernel_rfl) (by kernel_rfl) (by rfl) (by simp [apartK] <;> omega) (by simp [startK]) (by simp [stabK]) (⟨fun _ => undef, by simp [okK]⟩) (fun β hβ => ?_)
                  --#Ck2
                  repeat (
                    refine lex_val (v := ?_) rfl rfl (fun w' hf => ?_) ?_
                    rotate_left
                    · have z0 := HFar.out w' hf.only.below0 0 _ HX.out.1; have z1 := HFar.out w' hf.only.below0 1 _ HX.out.2.1; have xk := (HXf.out.next hf.only.below0).cell 0; (try dsimp only [ss3U, prtU, csiU] at z0 z1); go_simp
                      try rfl
                    try simp only [Act.put, List.setIfInBounds_toArray, List.set_cons_zero, List.set_cons_succ])
                  refine lex_nil fun w' he => ?_
                  --#Ck3
                  have HW8 := Lib.hid (HW7.out.next he.only.below0)
                  clear he
                  go_wp2_with fail
                  go_roundw
                  case rel => exact ⟨j + 1, by omega, by omega, by go_num, HW8.out⟩
                  case measure => simp [intOf]; omega
                · rw [h4] at hts
                  simp only [if_true] at hts
                  subst hts
                  have HO7 := HO6
                  clear h4 HO6 HW6 HX6
                  go_upto_region 15 with fail
                  obtain ⟨g, P, p, D, d, Q, q, E, f, hA, _, hx, hy⟩ := two_toks HO7.out
                  subst hA
                  have hg7 : g < w7.heap.size := by
                    obtain ⟨zs, h1, _⟩ := HO7.out
                    exact (World.ownsRow.lt h1 g rfl).2
                  have HX := Lib.hid hx; have HY := Lib.hid hy
                  have HFar : Hid (∀ W, Below w7.heap.size w7 W → ∀ j v, w7.cell? ⟨g, j, none⟩ = some v → W.cell? ⟨g, j, none⟩ = some v) := Lib.hid (fun W hb j v h => by rw [← h]; exact World.cell?_of_block (hb.block g hg7))
                  clear hx hy HO7
                  --#Cl1
                  go_upto_region 16 with fail
                  refine wp_region_mix_lit (by kernel_rfl) [] (by kernel_rfl) (by kernel_rfl) (by kernel_rfl) (by rfl) (by simp [apartK] <;> omega) (by simp [startK]) (by simp [stabK]) (⟨fun _ => undef, by simp [okK]⟩) (fun β hβ => ?_)
                  --#Cl2
                  repeat (
                    refine lex_val (v := ?_) rfl rfl (fun w' hf => ?_) ?_
                    rotate_left
                    · have z0 := HFar.out w' hf.only.below0 0 _ HX.out.1; have z1 := HFar.out w' hf.only.below0 1 _ HX.out.2.1; have z2 := HFar.out w' hf.only.below0 7 _ HY.out.2.1; have xk := (HXf.out.next hf.only.below0).cell 0; (try dsimp only [ss3U, prtU, csiU] at z0 z1 z2); go_simp
                      try rfl
                    try simp only [Act.put, List.setIfInBounds_toArray, List.set_cons_zero, List.set_cons_succ])
                  refine lex_nil fun w' he => ?_
                  --#Cl3
                  have HW8 := Lib.hid (HW7.out.next he.only.below0)
                  clear he
                  go_wp2_with fail
                  go_roundw
                  case rel => exact ⟨j + 1, by omega, by omega, by go_num, HW8.out⟩
                  case measure => simp [intOf]; omega
              · --#Cm
                go_wp2_with fail
                go_roundw
                case rel => exact ⟨j + 1, by omega, by omega, by go_num, HW6.out⟩
                case measure => simp [intOf]; omega
            · have d1 : (decide (5 ≤ k) && decide (k ≤ 8)) = false := by
                rw [Bool.and_eq_false_iff, decide_eq_false_iff_not, decide_eq_false_iff_not]; omega
              rw [d1]
              clear d1
              --#Cn
              go_wp2_with fail
              go_roundw
              case rel => exact ⟨j + 1, by omega, by omega, by go_num, HW6.out⟩
              case measure => simp [intOf]; omega
        · have g0 : (k == 0) = false := beq_eq_false_iff_ne.2 e0
          have hns : ¬ skipK k lv ct := fun h => by rcases h with h | ⟨h, _⟩ | ⟨h, _⟩ <;> omega
          have HK := Lib.hid (keyed k c HCe.out sh ct m lv eg hns)
          have HU := Lib.hid (fun h h0 => keyed_cur (k := k) h c sh ct m h0 lv eg)
          obtain ⟨ts, HSt, HCu⟩ : ∃ ts, Hid (Sent (encP k c sh ct m lv eg noT) ts) ∧ Hid ((5 ≤ k ∧ k ≤ 8) → hasN m 0 = false → ts = if hasN m 4 then [ss3U, prtU (60 + k).toNat] else [csiU (60 + k).toNat []]) := by
            by_cases hcur : (5 ≤ k ∧ k ≤ 8) ∧ hasN m 0 = false
            · exact ⟨_, Lib.hid (HU.out hcur.1 hcur.2), Lib.hid (fun _ _ => rfl)⟩
            · obtain ⟨ts, hs⟩ := HK.out
              exact ⟨ts, Lib.hid hs, Lib.hid (fun h1 h2 => absurd ⟨h1, h2⟩ hcur)⟩
          have HEn := Lib.hid (fun W h => enc_any k c sh ct m lv eg K noT false HCe.out (show m < 2 ^ 32 from HM.out) W h)
          clear HK HU hns
          (try clear e4)
          (try clear e16)
          (try clear e0)
          (try clear hl2)
          generalize encP k c sh ct m lv eg noT = R at *
          --#Da
          go_upto_region 8 with fail
          refine wp_region_mix_lit (by kernel_rfl) [(1, .call (.agg #[.int .i64 k, .int .u8 (c : Int), .bool sh, .bool ct])), (8, .letter (KyP R.length) (KyF wa.heap.size R))] (by kernel_rfl) (by kernel_rfl) (by kernel_rfl) (by rfl) (by simp [apartK] <;> omega) (by simp [startK]) (by simp only [List.forall_mem_cons]; exact ⟨trivial, kyF_stab _ _ _ (by simp [boxes, Kind.boxed]), by simp⟩) (⟨fun i => .slice none R.length 0, by simp only [List.forall_mem_cons]; exact ⟨trivial, ⟨none, 0, rfl⟩, by simp⟩⟩) (fun β hβ => ?_)
          obtain ⟨A1, c1, e1⟩ := (hβ 8 : KyP R.length (β 8))
          --#Db
          refine lex_val (v := ?_) rfl rfl (fun w' hf => ?_) ?_
          rotate_left
          · have hb := HXa.out.next hf.only.below0; have q0 := hb.cell 0; have q1 := hb.cell 1; have q2 := hb.cell 2; have q3 := hb.cell 3; go_simp
            try rfl
          try simp only [Act.put, List.setIfInBounds_toArray, List.set_cons_zero, List.set_cons_succ]
          refine lex_call (f := 18) (args := ?_) rfl rfl (fun w' hf => ?_) (fun w' hf => ?_) ?_
          rotate_left
          · go_simp
            try rfl
          · exact (ownK_any k c sh ct w').mono fun e w2 ⟨he, hw⟩ => ⟨he, hw⟩
          try simp only [Act.put, List.setIfInBounds_toArray, List.set_cons_zero, List.set_cons_succ]
          --#Dc
          iterate 6 (
            refine lex_val (v := ?_) rfl rfl (fun w' hf => ?_) ?_
            rotate_left
            · have hb := HWa.out.bd.next hf.only.below0; have q0 := hb.cell 0; have q1 := hb.cell 1; have q2 := hb.cell 2; have q3 := hb.cell 3; go_simp
              try rfl
            try simp only [Act.put, List.setIfInBounds_toArray, List.set_cons_zero, List.set_cons_succ])
          --#Dd
          refine lex_letter (f := 17) (args := ?_) rfl rfl (fun w' hf => ?_) (fun w' hf => ?_) ?_
          rotate_left
          · go_simp
            try rfl
          · exact ky_own rfl hf.only.size (HEn.out w' ((HE0.out.next (HWa.out.bel.trans (hf.only.below0.mono HWa.out.bel.size))).key (HWa.out.key.next hf.only.below0)))
          try simp only [Act.put, List.setIfInBounds_toArray, List.set_cons_zero, List.set_cons_succ]
          rw [e1]
          repeat (
            refine lex_val (v := ?_) rfl rfl (fun w' hf => ?_) ?_
            rotate_left
            · go_simp
              try rfl
            try simp only [Act.put, List.setIfInBounds_toArray, List.set_cons_zero, List.set_cons_succ])
          refine lex_nil fun w' he => ?_
          --#De
          rename World => w5
          obtain ⟨_, hg⟩ : KyP R.length (β 8) ∧ KyF wa.heap.size R (β 8) w5 := he.facts 8
          have hgk := hg
          rw [e1] at hg
          obtain ⟨A2, c2, e2, hr2, _⟩ := hg
          cases e2
          have HW5 := Lib.hid (HWa.out.next he.only.below0)
          have HX5 := Lib.hid (HXa.out.next he.only.below0)
          have HF5 := Lib.hid (feed_any gp ps0 R0 A1 c1 R HSt.out.lt (by have := HSt.out.six; omega) (fun ad h0 e => by have := HKy.out hgk ad c1 (by rw [e1, e]); have := HGp.out; omega) w5 HW5.out.prs hr2)
          rw [HSt.out.feed] at HF5
          clear he e1 hgk hr2 hβ HEn HWa HXa
          (try simp only [Act.put, List.setIfInBounds_toArray, List.set_cons_zero, List.set_cons_succ])
          --#Df
          go_wp2_with fail
          refine HF5.out.mono ?_
          rintro e w6 ⟨v6, rfl, hw6⟩
          have HW6 := Lib.hid (HW5.out.fed hw6.prs hw6.gro HGp.out)
          have HX6 := Lib.hid (show Blk w6 gt 38 #[.int .i64 k, .int .u8 (c : Int), .bool sh, .bool ct] from (hw6.gro.block gt HX5.out.lt (fun e => by have := HGt.out; injection e with e; omega)).trans HX5.out)
          have HO6 := Lib.hid hw6.tok
          obtain ⟨A6, c6, rfl, _⟩ := hw6.tok.reads
          have HI6 := Lib.hid (idle_any gp ps0 w6 HW6.out.prs)
          rw [show (ps0.pl == 0) = true from rfl] at HI6
          have hn2 : ((2 : Int) < (ts.length : Int)) = False := eq_false (by have := HSt.out.two; omega)
          have hn6 : ((6 : Int) < (R.length : Int)) = False := eq_false (by have := HSt.out.six; omega)
          clear hw6 HF5 HW5 HX5 HSt
          --#Dg
          go_wp2_with fail
          refine HI6.out.mono ?_
          rintro e w6 ⟨rfl, rfl⟩
          have xk := HX6.out.cell 0
          --#Dh
          go_upto_region 12 with fail
          clear HI6
          go_wp2_with fail
          refine (curQ_any k _).mono ?_
          rintro e w7 ⟨rfl, rfl⟩
          rename World => w7
          by_cases hcu : 5 ≤ k ∧ k ≤ 8
          · have d1 : (decide (5 ≤ k) && decide (k ≤ 8)) = true := by simp [hcu.1, hcu.2]
            rw [d1]
            clear d1
            have b0 := HW6.out.bd.cell 0
            --#Di
            go_wp2_with fail
            refine (HHas.out 0 _).mono ?_
            rintro e w7 ⟨rfl, rfl⟩
            rename World => w7
            rcases h0 : hasN m 0 with _ | _
            · --#Dj
              go_upto_region 14 with fail
              go_wp2_with fail
              refine (HHas.out 4 _).mono ?_
              rintro e w7 ⟨rfl, rfl⟩
              rename World => w7
              have hts := HCu.out hcu h0
              have HW7 := HW6; have HXf := HX6
              obtain ⟨cc, hcc⟩ : ∃ cc : Nat, (60 + k).toNat = cc := ⟨_, rfl⟩
              have hcI : (cc : Int) = 60 + k := by omega
              have hwr1 : IntKind.i64.wrap (65 + k) = 65 + k := IntWalk.i64_in _ (by omega)
              have hwr2 : IntKind.i64.wrap (65 + k - 5) = (cc : Int) := by rw [show (65 : Int) + k - 5 = (cc : Int) by omega]; exact IntWalk.i64_in _ (by omega)
              have hwr3 : IntKind.u8.wrap (cc : Int) = (cc : Int) := by
                have : (0 : Int) ≤ (cc : Int) ∧ (cc : Int) ≤ 255 := by omega
                exact u8_in _ this.1 this.2
              rw [hcc] at hts
              have hwz0 : IntKind.i64.wrap 0 = 0 := by rfl
              have hwz1 : IntKind.i64.wrap 1 = 1 := by rfl
              clear HCu hcI hcc hcu h0 b0 xk
              rcases h4 : hasN m 4 with _ | _
              · rw [h4] at hts
                simp only [Bool.false_eq_true, if_false] at hts
                subst hts
                have HO7 := HO6
                clear h4 HO6 HW6 HX6
                obtain ⟨g, P, p, D, d, hA, hx⟩ := one_tok HO7.out
                subst hA
                have hg7 : g < w7.heap.size := by
                  obtain ⟨zs, h1, _⟩ := HO7.out
                  exact (World.ownsRow.lt h1 g rfl).2
                have HX := Lib.hid hx
                have HFar : Hid (∀ W, Below w7.heap.size w7 W → ∀ j v, w7.cell? ⟨g, j, none⟩ = some v → W.cell? ⟨g, j, none⟩ = some v) := Lib.hid (fun W hb j v h => by rw [← h]; exact World.cell?_of_block (hb.block g hg7))
                clear hx  HO7
                --#Dk1
                go_upto_region 16 with fail
                refine wp_region_mix_lit (by kernel_rfl) [] (by kernel_rfl) (by kernel_rfl) (by kernel_rfl) (by rfl) (by simp [apartK] <;> omega) (by simp [startK]) (by simp [stabK]) (⟨fun _ => undef, by simp [okK]⟩) (fun β hβ => ?_)
                --#Dk2
                repeat (
                  refine lex_val (v := ?_) rfl rfl (fun w' hf => ?_) ?_
                  rotate_left
                  · have z0 := HFar.out w' hf.only.below0 0 _ HX.out.1; have z1 := HFar.out w' hf.only.below0 1 _ HX.out.2.1; have xk := (HXf.out.next hf.only.below0).cell 0; (try dsimp only [ss3U, prtU, csiU] at z0 z1); go_simp
                    try rfl
                  try simp only [Act.put, List.setIfInBounds_toArray, List.set_cons_zero, List.set_cons_succ])
                refine lex_nil fun w' he => ?_
                --#Dk3
                have HW8 := Lib.hid (HW7.out.next he.only.below0)
                clear he
                go_wp2_with fail
                go_roundw
                case rel => exact ⟨j + 1, by omega, by omega, by go_num, HW8.out⟩
                case measure => simp [intOf]; omega
              · rw [h4] at hts
                simp only [if_true] at hts
                subst hts
                have HO7 := HO6
                clear h4 HO6 HW6 HX6
                go_upto_region 15 with fail
                obtain ⟨g, P, p, D, d, Q, q, E, f, hA, _, hx, hy⟩ := two_toks HO7.out
                subst hA
                have hg7 : g < w7.heap.size := by
                  obtain ⟨zs, h1, _⟩ := HO7.out
                  exact (World.ownsRow.lt h1 g rfl).2
                have HX := Lib.hid hx; have HY := Lib.hid hy
                have HFar : Hid (∀ W, Below w7.heap.size w7 W → ∀ j v, w7.cell? ⟨g, j, none⟩ = some v → W.cell? ⟨g, j, none⟩ = some v) := Lib.hid (fun W hb j v h => by rw [← h]; exact World.cell?_of_block (hb.block g hg7))
                clear hx hy HO7
                --#Dl1
                go_upto_region 16 with fail
                refine wp_region_mix_lit (by kernel_rfl) [] (by kernel_rfl) (by kernel_rfl) (by kernel_rfl) (by rfl) (by simp [apartK] <;> omega) (by simp [startK]) (by simp [stabK]) (⟨fun _ => undef, by simp [okK]⟩) (fun β hβ => ?_)
                --#Dl2
                repeat (
                  refine lex_val (v := ?_) rfl rfl (fun w' hf => ?_) ?_
                  rotate_left
                  · have z0 := HFar.out w' hf.only.below0 0 _ HX.out.1; have z1 := HFar.out w' hf.only.below0 1 _ HX.out.2.1; have z2 := HFar.out w' hf.only.below0 7 _ HY.out.2.1; have xk := (HXf.out.next hf.only.below0).cell 0; (try dsimp only [ss3U, prtU, csiU] at z0 z1 z2); go_simp
                    try rfl
                  try simp only [Act.put, List.setIfInBounds_toArray, List.set_cons_zero, List.set_cons_succ])
                refine lex_nil fun w' he => ?_
                --#Dl3
                have HW8 := Lib.hid (HW7.out.next he.only.below0)
                clear he
                go_wp2_with fail
                go_roundw
                case rel => exact ⟨j + 1, by omega, by omega, by go_num, HW8.out⟩
                case measure => simp [intOf]; omega
            · --#Dm
              go_wp2_with fail
              go_roundw
              case rel => exact ⟨j + 1, by omega, by omega, by go_num, HW6.out⟩
              case measure => simp [intOf]; omega
          · have d1 : (decide (5 ≤ k) && decide (k ≤ 8)) = false := by
              rw [Bool.and_eq_false_iff, decide_eq_false_iff_not, decide_eq_false_iff_not]; omega
            rw [d1]
            clear d1
            --#Dn
            go_wp2_with fail
            go_roundw
            case rel => exact ⟨j + 1, by omega, by omega, by go_num, HW6.out⟩
            case measure => simp [intOf]; omega
      · --#7
        have k2 : ((j : Int) < 40) = False := eq_false (by omega)
        go_wp2_with fail
        go_ret
        exact ⟨rfl, HW.out.bel⟩
    · --#8
      have k1 : ((j : Int) < (l.length : Int)) = False := eq_false (by omega)
      go_wp2_with fail
      go_ret
      exact ⟨rfl, HW.out.bel⟩

set_option maxRecDepth 100000 in
/-- What the walk gives, for every argument and every world that holds the table. -/
theorem contract (H : Type) (enc : TypeId × Value → H) (W : World) (base : Nat) (args : Array Value) (ds gs : List (DataW H)) (before : List MemPlace)
    (hval : ∀ (j : Nat) t v, Tryz.f5.params[j]? = some t → args[j]? = some v → Value.okWide Tryz.prog W .any base t v)
    (hW : DataW.Whole enc Tryz.prog Tryz.f5.params.toList Rows.phosphorKeyedSpec.vars false W args.toList ds gs before) (hL : laidMetH Tryz.prog Rows.phosphorKeyedRow.laid W)
    (hreach : (DataW.weightsEach Tryz.prog (Tryz.f5.params.toList ++ []) (ds ++ gs)).all (· ≤ reachBytes) = true) :
    Calls Tryz.prog 5 args W fun e W' => ∃ v, e = .returned v ∧ Rows.phosphorKeyedSpec.post enc Tryz.prog Tryz.f5 false true false false W args v W' := by
  have hW' := hW
  have ht := envE hL
  have hlts : ∀ x ∈ before, x.block < W.heap.size := fun x hx => hW'.lt x hx
  obtain ⟨p, q, hA0, hV, rfl, hfz, hnd⟩ := hW
  have hA : DataW.TrodAll enc Tryz.prog W 0 (fun _ => true) true Tryz.f5.params.toList args.toList ds p := hA0
  rw [Tryz.params5] at hA hval hreach
  obtain ⟨v0, vs0, d0, ds0, pp0, qq0, hargs, rfl, rfl, h0, rr0⟩ := trodAll_cons hA
  obtain ⟨v1, vs1, d1, ds1, pp1, qq1, rfl, rfl, rfl, h1, rr1⟩ := trodAll_cons rr0
  obtain ⟨rfl, rfl, rfl⟩ := trodAll_nil rr1
  obtain rfl : args = #[v0, v1] := by cases args; simp_all
  obtain ⟨rfl, rfl⟩ := trodVars_none hV
  obtain ⟨b0, len0, cap0, rfl⟩ := okWide_slice Tryz.underlying43 (hval 0 43 v0 rfl rfl)
  obtain ⟨l0, hlen0, hm0, hok0, hri0⟩ := evs_in h0
  subst hlen0
  obtain ⟨m1, lv1, eg1, s1, hm1, rfl⟩ := board_in (hval 1 53 v1 rfl rfl) h1
  clear hA0
  refine (walk b0 cap0 l0 hm0 hok0 m1 hm1 lv1 eg1 s1 W ht hri0).mono fun e W' ⟨he, hb⟩ => ?_
  subst he
  exact ⟨_, rfl, post_law laidOut (by kernel_rfl) (by kernel_rfl) rfl hW' rfl hb⟩

set_option maxRecDepth 100000 in
theorem laid_met (os : Os) : laidMet Tryz.prog Rows.phosphorKeyedRow.laid ((laidWorldE os).forCall (fun _ _ => 0) ⟨#[], #[Value.slice none 0 0, Value.agg #[.int .u32 0, .int .i64 0, .bool false, .string ⟨#[]⟩]], []⟩).memory :=
  laidMet_of_run' 8 (by kernel_rfl) (by kernel_rfl)
set_option maxRecDepth 100000 in
theorem reads (os : Os) {H : Type} (enc : TypeId × Value → H) : ∃ places, DataW.whole enc Tryz.prog ((laidWorldE os).forCall (fun _ _ => 0) ⟨#[], #[Value.slice none 0 0, Value.agg #[.int .u32 0, .int .i64 0, .bool false, .string ⟨#[]⟩]], []⟩).memory Tryz.f5.params.toList Rows.phosphorKeyedSpec.vars false (#[Value.slice none 0 0, Value.agg #[.int .u32 0, .int .i64 0, .bool false, .string ⟨#[]⟩]] : Array Value).toList 8 = some ([.nil, .agg [.lit (.int .u32 0), .lit (.int .i64 0), .lit (.bool false), .lit (.string [])]], [], places) :=
  ⟨[], by kernel_rfl⟩

set_option maxRecDepth 100000 in
theorem lifted (os : Os) (started : os.Started) (H : Type) (enc : TypeId × Value → H) (F : Stop.Interp) :
    ReturnsInHanded {} Tryz.checked os 5 .any ((OpenSpec.ofChange Rows.phosphorKeyedSpec).preRow enc Tryz.prog Tryz.f5 Rows.phosphorKeyedRow.domain false Rows.phosphorKeyedRow.laid) (((OpenSpec.ofChange Rows.phosphorKeyedSpec).at F).post enc Tryz.prog Tryz.f5 false true false false) := by
  obtain ⟨places, hx⟩ := reads os enc
  refine returnsInHanded_of_row (C := Tryz.checked) (s := OpenSpec.ofChange Rows.phosphorKeyedSpec) own started (by kernel_rfl) Tryz.func5
    (witness_row_at (enc := enc) (C := Tryz.checked) false (laidWorldE os) #[Value.slice none 0 0, Value.agg #[.int .u32 0, .int .i64 0, .bool false, .string ⟨#[]⟩]] rfl (by kernel_rfl) (by kernel_rfl) (by kernel_rfl)
      (OpenSpec.preRow_of_cond 8 hx (by kernel_rfl) (fun k hk => by cases hk) (by kernel_rfl) (laid_met os))) ?_
  intro W base args ds gs before hval hW _ _ hreach hL _ _
  exact contract H enc W base args ds gs before hval hW hL hreach

theorem said : Rows.PhosphorKeyedSaid :=
  OpenClaim.holds_of_cond 5 Tryz.f5 rfl rfl rfl rfl rfl rfl rfl ⟨rfl, rfl, rfl, rfl, rfl⟩ rfl rfl rfl rfl rfl (by kernel_rfl) Tryz.func5 (by kernel_rfl)
    (of_decide_eq_true (by kernel_rfl)) (by unfold Func.isWrapper; first | (rw [if_pos (by decide +kernel)]; kernel_rfl) | (rw [if_neg (by decide +kernel)]; exact ⟨rfl, rfl⟩))
    (fun os started H enc _ F => by rw [OpenClaim.pre_eq_preRow]; exact lifted os started H enc F)

theorem plain (f : FuncId) (fn : Func) (hf : Tryz.pinned.checked.prog.funcNamed "phosphor/phosphortop.PhosphorKeyed" = some f) (hfn : Tryz.pinned.checked.prog.funcs[f]? = some fn) :
    false = Tryz.pinned.checked.prog.looks [] ∧ ∀ (j : Nat) t, fn.params[j]? = some t → Tryz.pinned.checked.prog.wantsStandIn t = false := by
  obtain rfl : f = 5 := Option.some.inj ((show Tryz.prog.funcNamed "phosphor/phosphortop.PhosphorKeyed" = some 5 by kernel_rfl).symm.trans hf) |>.symm
  obtain rfl : fn = Tryz.f5 := (Option.some.inj (Tryz.func5.symm.trans hfn)).symm
  refine ⟨by kernel_rfl, fun j t ht => ?_⟩
  rw [Tryz.params5] at ht
  have hm : t ∈ [43, 53] := by simpa using Array.mem_of_getElem? ht
  have hall : ([43, 53].all fun u => !Tryz.prog.wantsStandIn u) = true := by kernel_rfl
  exact (show Tryz.prog.wantsStandIn t = false by simpa using List.all_eq_true.1 hall t hm)

/-- The card. -/
theorem card : Rows.PhosphorKeyedCardSaid :=
  Claim7.holds_tied_plain_at .later [] _ _ _ _ said (fun _ h => by cases h) (by kernel_rfl) (fun _ h => by cases h) phosphorKeyed_row_tie rfl ⟨rfl, rfl⟩ (by kernel_rfl) rfl plain (by kernel_rfl)
#print axioms card
end Go.Proofs.YtigaaidacndeiaaGreatDoor.phosphorKeyed
