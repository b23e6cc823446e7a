/-
  The reference's sequence: plain facts.
  The reference's sequence: the walk.
-/
import Derived.Test.YtpiliicphoacfaaDoorPrfF
import Derived.Test.YtpiliicphoacfaaDoorPrfH
namespace Go.Proofs.YtpiliicphoacfaaDoor

open Go Go.RowKit
set_option maxRecDepth 100000

theorem hdr_facts (last N : Nat) : ∀ (l : List Nat) (i : Nat) (C B : List Nat), i + l.length = N → (∀ x ∈ B, x < 128) →
    ((hdrL last l i C B).en = 0 ∨ ((hdrL last l i C B).en = 2 ∧ (hdrL last l i C B).nx < N) ∨ ((hdrL last l i C B).en = 1 ∧ (hdrL last l i C B).nx ≤ N ∧ 0 < (hdrL last l i C B).B.length)) ∧ (hdrL last l i C B).C.length ≤ C.length + l.length ∧ (hdrL last l i C B).B.length ≤ B.length + l.length ∧ (∀ x ∈ (hdrL last l i C B).B, x < 128) := by
  intro l
  induction l with
  | nil => intro i C B _ hB; exact ⟨.inl rfl, Nat.le_refl _, Nat.le_refl _, hB⟩
  | cons c l ih =>
    intro i C B hN hB
    have hN' : i + 1 + l.length = N := by simp at hN; omega
    have hBc : ∀ x ∈ B ++ [c % 128], x < 128 := fun x hx => by
      rcases List.mem_append.1 hx with h | h
      · exact hB x h
      · obtain rfl : x = c % 128 := by simpa using h
        exact Nat.mod_lt _ (by decide)
    unfold hdrL
    by_cases h1 : brkB c = true
    · rw [if_pos h1]
      exact ⟨.inr (.inl ⟨rfl, by show i < N; omega⟩), by show C.length ≤ _; omega, by show B.length ≤ _; omega, hB⟩
    rw [if_neg h1]
    by_cases h2 : c < 32
    · rw [if_pos h2]
      obtain ⟨q1, q2, q3, q4⟩ := ih (i + 1) (C ++ [c]) B hN' hB
      exact ⟨q1, by simp at q2 ⊢; omega, by simp at q3 ⊢; omega, q4⟩
    rw [if_neg h2]
    by_cases h3 : c % 128 = 127
    · rw [if_pos h3]
      obtain ⟨q1, q2, q3, q4⟩ := ih (i + 1) C B hN' hB
      exact ⟨q1, by simp at q2 ⊢; omega, by simp at q3 ⊢; omega, q4⟩
    rw [if_neg h3]
    by_cases h4 : last ≤ c % 128
    · rw [if_pos h4]
      exact ⟨.inr (.inr ⟨rfl, by show i + 1 ≤ N; omega, by show 0 < (B ++ [c % 128]).length; simp⟩), by show C.length ≤ _; omega, by show (B ++ [c % 128]).length ≤ _; simp, hBc⟩
    · rw [if_neg h4]
      obtain ⟨q1, q2, q3, q4⟩ := ih (i + 1) C (B ++ [c % 128]) hN' hBc
      exact ⟨q1, by simp at q2 ⊢; omega, by simp at q3 ⊢; omega, q4⟩
structure HdF (N : Nat) (h : Hd) : Prop where
  en : h.en = 0 ∨ (h.en = 2 ∧ h.nx < N) ∨ (h.en = 1 ∧ h.nx ≤ N ∧ 0 < h.B.length)
  C : h.C.length ≤ N
  B : h.B.length ≤ N
  b : ∀ x ∈ h.B, x < 128
theorem hdrF (last : Nat) (s : List Nat) (k : Nat) (hk : k ≤ s.length) : HdF s.length (hdrL last (s.drop k) k [] []) := by
  obtain ⟨q1, q2, q3, q4⟩ := hdr_facts last s.length (s.drop k) k [] [] (by simp; omega) (by simp)
  exact ⟨q1, by simp at q2; omega, by simp at q3; omega, q4⟩
/-- What is behind the first header. -/
def seqB (s : List Nat) (kd : Nat) (C : List Nat) (nx : Nat) : List Tok × Int :=
  let g := hdrL 64 (s.drop nx) nx [] []
  if g.en = 0 then ((C ++ g.C).map ctlT, -1)
  else if g.en = 2 then ((brkC (s.getD g.nx 0) (C ++ g.C)).map ctlT, (brkNx (s.getD g.nx 0) g.nx : Nat))
  else
    let p := parsP (kd : Int) g.B
    if kd = 5 then (strT p.1 p.2 (strL ((kd : Int) == 6) (s.drop g.nx) g.nx []) (C ++ g.C), (strL ((kd : Int) == 6) (s.drop g.nx) g.nx []).nx)
    else ((C ++ g.C).map ctlT ++ (if p.2 = true then [p.1] else []), (g.nx : Int))
/-- What begins with the escape ahead of a place: what it says, and the place behind it. -/
def seqP (s : List Nat) (k : Nat) : List Tok × Int :=
  let h := hdrL 48 (s.drop k) k [] []
  if h.en = 0 then (h.C.map ctlT, -1)
  else if h.en = 2 then ((brkC (s.getD h.nx 0) h.C).map ctlT, (brkNx (s.getD h.nx 0) h.nx : Nat))
  else
    let n := h.B.length - 1
    let c := h.B.getD n 0
    let kd := begunP c
    if 0 < n ∨ kd = 0 then (h.C.map ctlT ++ (if n ≤ 3 ∧ (0 < n ∨ c ≠ 92) then [⟨3, c, 0, [], bstr (h.B.take n), []⟩] else []), (h.nx : Int))
    else if 5 < kd then (strT ⟨(kd : Int), 0, 0, [], ⟨#[]⟩, []⟩ true (strL ((kd : Int) == 6) (s.drop h.nx) h.nx []) h.C, (strL ((kd : Int) == 6) (s.drop h.nx) h.nx []).nx)
    else seqB s kd h.C h.nx
/-- What a sequence answers. -/
def SeqQ (w w' : World) (r : List Tok × Int) (e : Ending) : Prop := ∃ v', e = .returned (.agg #[v', .int .i64 r.2]) ∧ OTr w' w.heap.size v' r.1 ∧ Below w.heap.size w w'
theorem OTr.more {w : World} {b b' : Nat} {v : Value} {ts : List Tok} (h : OTr w b v ts) (hb : b' ≤ b) : OTr w b' v ts := by
  obtain ⟨xs, h1, h2⟩ := h
  exact ⟨xs, own_base h1 hb, OTl.more hb h2⟩
theorem OTr.row {w : World} {b g : Nat} {v : Value} {ts : List Tok} {X : Array Value} (h : OTr w b v ts) (hg : g < b) : OTr (w.setRow g X) b v ts := by
  obtain ⟨xs, h1, h2⟩ := h
  exact ⟨xs, own_row h1 (fun e => by have := own_ge h1 _ e; omega), h2.keep (grown_row w g X) (fun k hk => by cases hk; exact hg)⟩
theorem OTr.next {w w' : World} {b : Nat} {v : Value} {ts : List Tok} (h : OTr w b v ts) (hb : Below w.heap.size w w') : OTr w' b v ts := by
  obtain ⟨xs, h1, h2⟩ := h
  exact ⟨xs, own_more h1 hb, h2.keep (row := none) (grown_below hb) (fun k hk => by cases hk)⟩
theorem SeqQ.of {w W : World} {base : Nat} {v : Value} {r : List Tok × Int} {e : Ending} (hO : OTr W base v r.1) (hb : w.heap.size < base) (hbel : Below w.heap.size w W) (X : Array Value) (he : e = .returned (.agg #[v, .int .i64 r.2])) : SeqQ w (W.setRow w.heap.size X) r e :=
  ⟨v, he, (hO.row hb).more (by omega), below_gb hbel (grown_row W w.heap.size X) (Nat.le_refl _) hbel.size⟩
/-- What is known behind the first header. -/
structure SqW (w W : World) (hb base : Nat) (h : Hd) (v0 v1 v2 : Value) : Prop where
  res : Blk W w.heap.size 69 ptZ
  box : Blk W hb 87 #[v0, v2, .int .i64 h.nx, .int .i64 h.en]
  o1 : W.ownsRow base 31 6 v1 h.C.length (ctlR h.C)
  o2 : W.ownsRow base 5 1 v2 h.B.length (u8s h.B)
  bel : Below w.heap.size w W
  bs : w.heap.size < base
  hbs : w.heap.size < hb
theorem SqW.next {w W W' : World} {hb base : Nat} {h : Hd} {v0 v1 v2 : Value} (q : SqW w W hb base h v0 v1 v2) (hbl : Below W.heap.size W W') : SqW w W' hb base h v0 v1 v2 :=
  ⟨q.res.next hbl, q.box.next hbl, own_more q.o1 hbl, own_more q.o2 hbl, q.bel.trans (hbl.mono q.bel.size), q.bs, q.hbs⟩
/-- Behind what grows the list. -/
theorem SqW.resG {w W W' : World} {hb base : Nat} {h : Hd} {v0 v1 v2 : Value} (q : SqW w W hb base h v0 v1 v2) (hg : W.grownBy W' v1.ownBlock) : Blk W' w.heap.size 69 ptZ ∧ Below w.heap.size w W' :=
  ⟨(hg.block _ q.res.lt (fun e => by have := own_ge q.o1 _ e.symm; have := q.bs; omega)).trans q.res, below_row q.bel hg (fun k e => by have := own_ge q.o1 k e; have := q.bs; omega) q.bel.size⟩
end Go.Proofs.YtpiliicphoacfaaDoor

namespace Go.Proofs.YtpiliicphoacfaaDoor

open Go Go.RowKit
set_option maxRecDepth 100000

def seqA (s : List Nat) (h : Hd) : List Tok × Int :=
  if h.en = 0 then (h.C.map ctlT, -1)
  else if h.en = 2 then ((brkC (s.getD h.nx 0) h.C).map ctlT, (brkNx (s.getD h.nx 0) h.nx : Nat))
  else if 0 < h.B.length - 1 ∨ begunP (h.B.getD (h.B.length - 1) 0) = 0 then (h.C.map ctlT ++ (if h.B.length - 1 ≤ 3 ∧ (0 < h.B.length - 1 ∨ h.B.getD (h.B.length - 1) 0 ≠ 92) then [⟨3, h.B.getD (h.B.length - 1) 0, 0, [], bstr (h.B.take (h.B.length - 1)), []⟩] else []), (h.nx : Int))
  else if 5 < begunP (h.B.getD (h.B.length - 1) 0) then (strT ⟨(begunP (h.B.getD (h.B.length - 1) 0) : Int), 0, 0, [], ⟨#[]⟩, []⟩ true (strL ((begunP (h.B.getD (h.B.length - 1) 0) : Int) == 6) (s.drop h.nx) h.nx []) h.C, (strL ((begunP (h.B.getD (h.B.length - 1) 0) : Int) == 6) (s.drop h.nx) h.nx []).nx)
  else seqB s (begunP (h.B.getD (h.B.length - 1) 0)) h.C h.nx
theorem seqP_eq (s : List Nat) (k : Nat) : seqP s k = seqA s (hdrL 48 (s.drop k) k [] []) := rfl
theorem getD_at (s : List Nat) (k : Nat) (h : k < s.length) : s.getD k 0 = s[k] := by simp [List.getD, h]
/-- Behind what grew the list in its box. -/
theorem SqW.esc {w W W' : World} {hb base : Nat} {h : Hd} {v0 v1 v2 u : Value} {X : Array Value} {b : Nat} (q : SqW w W hb base h v0 v1 v2) (hbv : b = (v1.ownBlock).getD w.heap.size) (ho : Only [b, hb] W W')
    (hg : GrF 31 base 6 (h.C.length + 1) (ctlR h.C ++ X.toList) W b (v1.ownBlock = none) u W') : Blk W' w.heap.size 69 ptZ ∧ Below w.heap.size w W' := by
  have hbs := q.bs; have hhb := q.hbs
  refine ⟨?_, ho.os.trans q.bel.os, ho.tape.trans q.bel.tape, ho.output.trans q.bel.output, Nat.le_trans q.bel.size ho.size, fun k hk => (ho.block k (Nat.lt_of_lt_of_le hk q.bel.size) ?_).trans (q.bel.block k hk)⟩
  · rcases hv : v1.ownBlock with _ | k
    · rw [hv] at hbv
      obtain rfl : b = w.heap.size := hbv
      exact (hg.2.2 hv).trans q.res
    · rw [hv] at hbv
      obtain rfl : b = k := hbv
      have := own_ge q.o1 _ hv
      exact (ho.block _ q.res.lt (by simp; omega)).trans q.res
  · simp only [List.mem_cons, List.not_mem_nil, or_false, not_or]
    refine ⟨?_, by omega⟩
    rcases hv : v1.ownBlock with _ | j
    · rw [hv] at hbv
      have hbv : b = w.heap.size := hbv
      omega
    · rw [hv] at hbv
      have hbv : b = j := hbv
      have := own_ge q.o1 _ hv
      omega
theorem OTr.esc {w : World} {base : Nat} {v : Value} {C : List Nat} {c : Nat} {it : ByteArray} (h : w.ownsRow base 31 6 v (C.length + 1) (ctlR C ++ [.int .i64 3, .int .u8 (c : Int), .int .u8 0, .slice none 0 0, .string it, .slice none 0 0])) : OTr w base v (C.map ctlT ++ [⟨3, c, 0, [], it, []⟩]) := by
  refine ⟨C.map ctlX ++ [#[.int .i64 3, .int .u8 (c : Int), .int .u8 0, .slice none 0 0, .string it, .slice none 0 0]], ?_, OTl.app (ctl_own _ _ C) ⟨⟨none, 0, none, 0, rfl, World.ownsRow_nil _ _ _ _, World.ownsRow_nil _ _ _ _⟩, trivial⟩⟩
  rw [List.length_append, List.length_map, List.flatMap_append, List.flatMap_singleton]
  exact h
set_option maxRecDepth 100000 in
set_option maxHeartbeats 32000000 in
theorem seq_any (A : Option Addr) (cap : Nat) (s : List Nat) (hl : s.length ≤ 400000) (hn : ∀ x ∈ s, x < 256) (k : Nat) (hk : k ≤ s.length) (w : World) (hr : RByt w A s) :
    Calls Tryd.prog 33 #[.slice A s.length cap, .int .i64 k] w (fun e w' => SeqQ w w' (seqP s k) e) := by
  rw [seqP_eq]
  have HF := Lib.hid (hdrF 48 s k hk)
  have hal : Below w.heap.size w (w.alloc (.cells ptZ 69)) := (Below.refl _ w).alloc (Nat.le_refl _) _
  have HB1 := Lib.hid hal
  have HR1 := Lib.hid (Blk.new w 69 ptZ)
  have HZ1 : Hid ((w.alloc (.cells ptZ 69)).heap.size = w.heap.size + 1) := Lib.hid (by simp)
  have HHd := Lib.hid (fun last k hk => header_any A cap s (by omega) hn k hk last)
  have HH1 := Lib.hid (HHd.out 48 k hk _ (hr.next hal))
  have HR := Lib.hid hr; have HN := Lib.hid hn
  obtain ⟨i0, hi0, hi1, hi2, hi3⟩ := info_rtk
  have HI := Lib.hid (And.intro hi0 (And.intro hi1 (And.intro hi2 hi3)))
  have HBg := Lib.hid (fun c W => begun_any c W)
  clear hal hr hn hi0 hi1 hi2 hi3
  generalize hdrL 48 (s.drop k) k [] [] = h at *
  obtain ⟨C, B, nx, en⟩ := h
  obtain ⟨T0, hT0⟩ : ∃ T0, T0 = seqA s ⟨C, B, nx, en⟩ := ⟨_, rfl⟩
  rw [← hT0]
  unfold seqA at hT0
  dsimp only at hT0
  have HT := Lib.hid hT0
  clear hT0
  unfold ptZ at HB1 HR1 HH1 HZ1
  go_enter Tryd.func33, Tryd.ntmps33
  go_upto_region 1 with fail
  --#0
  generalize w.alloc (.cells #[.slice none 0 0, .int .i64 0] 69) = w1 at *
  go_wp2_with fail
  refine HH1.out.mono ?_
  rintro e w2 ⟨v1, v2, rfl, ho1, ho2, hb2⟩
  obtain ⟨A1, c1, rfl⟩ := own_formS ho1
  obtain ⟨A2, c2, e2, hc2⟩ := own_form ho2
  subst e2
  dsimp only at ho1 ho2 hc2
  have hal3 : Below w2.heap.size w2 (w2.alloc (.cells #[.slice A1 C.length c1, .slice A2 B.length c2, .int .i64 nx, .int .i64 en] 87)) := (Below.refl _ _).alloc (Nat.le_refl _) _
  have HQ : Hid (SqW w (w2.alloc (.cells #[.slice A1 C.length c1, .slice A2 B.length c2, .int .i64 nx, .int .i64 en] 87)) w2.heap.size w1.heap.size ⟨C, B, nx, en⟩ (.slice A1 C.length c1) (.slice A1 C.length c1) (.slice A2 B.length c2)) := Lib.hid ⟨(HR1.out.next hb2).next hal3, Blk.new _ _ _, own_more ho1 hal3, own_more ho2 hal3, HB1.out.trans (((hb2.trans (hal3.mono hb2.size))).mono HB1.out.size), by rw [HZ1.out]; omega, by have := hb2.size; rw [HZ1.out] at this; omega⟩
  have hb2s := hb2.size
  clear ho1 ho2 hb2 hal3 HH1 HR1 HB1 HZ1
  have HBase : Hid (w1.heap.size ≤ w2.heap.size) := Lib.hid hb2s
  clear hb2s
  have hCl : C.length ≤ 400000 := Nat.le_trans HF.out.C hl
  have hBl : B.length ≤ 400000 := Nat.le_trans HF.out.B hl
  go_upto_region 2 with fail
  --#1
  generalize w2.alloc (.cells #[.slice A1 C.length c1, .slice A2 B.length c2, .int .i64 nx, .int .i64 en] 87) = w3 at *
  generalize w2.heap.size = hb at *
  generalize w1.heap.size = base at *
  obtain ⟨q0, q1, q2, q3, _⟩ := hd4 HQ.out.box
  have HR3 := Lib.hid (HR.out.next HQ.out.bel)
  have HBs3 := Lib.hid (Nat.le_trans HBase.out (Nat.le_of_lt HQ.out.box.lt))
  rcases HF.out.en with h0 | ⟨h2, hnx⟩ | ⟨h1, hnx, hBp⟩
  · have hen : en = 0 := h0
    subst hen
    have HT2 : Hid (T0 = (C.map ctlT, -1)) := Lib.hid (by rw [HT.out, if_pos rfl])
    --#2
    go_wp2_with (refine wpList_store_row rfl _ _ _ rfl w.heap.size #[.slice A1 C.length c1, .int .i64 (-1)] rfl rfl _ _ HQ.out.res ptS2 rfl (by simp [Value.oneCell']) ?_)
    (try simp only [Exit.inBlock, Exit.then])
    refine bodyPost_ret (results_cell_row rfl _ _ w.heap.size 69 _ (0, 0) _ rfl (setRow_heap w3 _ _ #[.slice A1 C.length c1, .int .i64 (-1)] _ _ HQ.out.res) ptU rfl ptS2) rfl ?_
    rw [HT2.out]
    exact SeqQ.of (OTr.ctl HQ.out.o1) HQ.out.bs HQ.out.bel _ rfl
  · have hen : en = 2 := h2
    have hnx : nx < s.length := hnx
    subst hen
    have HT2 : Hid (T0 = ((brkC s[nx] C).map ctlT, ((brkNx s[nx] nx : Nat) : Int))) := Lib.hid (by rw [HT.out, if_neg (by decide), if_pos rfl, getD_at s nx hnx])
    have HBr := Lib.hid (broken_any A cap s nx hnx (by omega) base (.slice A1 C.length c1) C (by omega) w3 HR3.out HQ.out.o1 HBs3.out)
    generalize s[nx] = x at *
    --#3
    go_wp2_with fail
    refine HBr.out.mono ?_
    rintro e w4 ⟨⟨v4, rfl, ho4⟩, hg4⟩
    obtain ⟨A4, c4, rfl⟩ := own_formS ho4
    have HO4 := Lib.hid ho4; have HG4 := Lib.hid (HQ.out.resG hg4)
    clear ho4 hg4 q0 q1 q2 q3
    go_wp2_with (refine wpList_store_row rfl _ _ _ rfl w.heap.size #[.slice A4 (brkC x C).length c4, .int .i64 (brkNx x nx : Nat)] rfl rfl _ _ HG4.out.1 ptS2 rfl (by simp [Value.oneCell']) ?_)
    (try simp only [Exit.inBlock, Exit.then])
    refine bodyPost_ret (results_cell_row rfl _ _ w.heap.size 69 _ (0, 0) _ rfl (setRow_heap w4 _ _ #[.slice A4 (brkC x C).length c4, .int .i64 (brkNx x nx : Nat)] _ _ HG4.out.1) ptU rfl ptS2) rfl ?_
    rw [HT2.out]
    exact SeqQ.of (OTr.ctl HO4.out) HQ.out.bs HG4.out.2 _ rfl
  · have hen : en = 1 := h1
    have hnx : nx ≤ s.length := hnx
    have hBp : 0 < B.length := hBp
    subst hen
    obtain ⟨n, hnB⟩ : ∃ n, B.length = n + 1 := ⟨B.length - 1, by omega⟩
    have hnlt : n < B.length := by omega
    have hn1 : B.length - 1 = n := by omega
    rw [if_neg (by decide), if_neg (by decide), hn1, getD_at B n hnlt] at HT
    have hwn : IntKind.i64.wrap ((B.length : Int) - 1) = (n : Int) := by rw [IntWalk.i64_in _ (by omega)]; omega
    have n0 : (0 : Int) ≤ (n : Int) := by omega
    have n1 : ((n : Int) < (B.length : Int)) = True := eq_true (by omega)
    have hrb : RByt w3 A2 B := Reads.of_own HQ.out.o2
    obtain ⟨ad2, ea2, hlt2, hcb⟩ := RByt.at_ hrb hnlt
    have HRB := Lib.hid hrb
    have hc128 := HF.out.b B[n] (List.getElem_mem hnlt)
    obtain ⟨c, hcv⟩ : ∃ c, c = B[n] := ⟨_, rfl⟩
    rw [← hcv] at HT hcb hc128
    clear hrb hcv hn1
    have HBc := Lib.hid (HBg.out c)
    obtain ⟨kd, hkd⟩ : ∃ kd, kd = begunP c := ⟨_, rfl⟩
    rw [← hkd] at HT HBc
    have HKd := Lib.hid hkd
    clear hkd
    subst ea2
    --#4
    go_upto_region 8 with fail
    go_wp2_with fail
    refine (HBc.out _).mono ?_
    rintro e wx ⟨rfl, rfl⟩
    by_cases hX : 0 < n ∨ kd = 0
    · have HT2 : Hid (T0 = (C.map ctlT ++ (if n ≤ 3 ∧ (0 < n ∨ c ≠ 92) then [⟨3, c, 0, [], bstr (B.take n), []⟩] else []), (nx : Int))) := Lib.hid (by rw [HT.out, if_pos hX])
      have hx9 : (((0 : Int) < (n : Int)) = True ∧ (0 < n) = True) ∨ (((0 : Int) < (n : Int)) = False ∧ (0 < n) = False ∧ ((kd : Int) == 0) = true) := by
        by_cases h : 0 < n
        · exact .inl ⟨eq_true (by omega), eq_true h⟩
        · exact .inr ⟨eq_false (by omega), eq_false h, by rcases hX with h2 | h2; exact absurd h2 h; simp; omega⟩
      by_cases hY : n ≤ 3 ∧ (0 < n ∨ c ≠ 92)
      · have HT3 : Hid (T0 = (C.map ctlT ++ [⟨3, c, 0, [], bstr (B.take n), []⟩], (nx : Int))) := Lib.hid (by rw [HT2.out, if_pos hY])
        have n3 : ((n : Int) ≤ 3) = True := eq_true (by omega)
        have n3' : (n ≤ 3) = True := eq_true hY.1
        have hx10 : (((0 : Int) < (n : Int)) = True ∧ (0 < n) = True) ∨ (((0 : Int) < (n : Int)) = False ∧ (0 < n) = False ∧ ((kd : Int) == 0) = true ∧ ((c : Int) != 92) = true) := by
          rcases hx9 with ⟨h, h'⟩ | ⟨h, h', hk'⟩
          · exact .inl ⟨h, h'⟩
          · refine .inr ⟨h, h', hk', ?_⟩
            rcases hY.2 with h3 | h3
            · exact absurd h3 (by rw [h']; exact id)
            · simp; omega
        clear HT HT2 hx9
        rcases hx10 with ⟨g1, g2⟩ | ⟨g1, g2, g3, g4⟩
        all_goals
          --#5
          go_upto_region 11 with fail
          --#6
          clear q0 q1 q2 q3 hcb hwn n1 g1 g2 n3 n3'
          (try clear g3 g4)
          obtain ⟨b, hbv⟩ : ∃ b, b = ((Value.slice A1 C.length c1).ownBlock).getD w.heap.size := ⟨_, rfl⟩
          have hhb := HQ.out.hbs
          have hbl : b < w3.heap.size := by
            rcases hv : (Value.slice A1 C.length c1).ownBlock with _ | j
            · rw [hv] at hbv
              have hbv : b = w.heap.size := hbv
              have := HQ.out.res.lt
              omega
            · rw [hv] at hbv
              have hbv : b = j := hbv
              have := (World.ownsRow.lt HQ.out.o1 _ hv).2
              omega
          have hbn : b ≠ hb := by
            rcases hv : (Value.slice A1 C.length c1).ownBlock with _ | j
            · rw [hv] at hbv
              have hbv : b = w.heap.size := hbv
              omega
            · rw [hv] at hbv
              have hbv : b = j := hbv
              intro e
              exact own_ty HQ.out.o1 HQ.out.box (by decide) (by rw [hv, ← hbv, e])
          have hbw : (Value.slice A1 C.length c1).ownBlock = none ∨ (Value.slice A1 C.length c1).ownBlock = some b := by
            rcases hv : (Value.slice A1 C.length c1).ownBlock with _ | j
            · exact .inl rfl
            · rw [hv] at hbv
              right; rw [hbv]; rfl
          have HBv := Lib.hid hbv; have HBw := Lib.hid hbw
          obtain ⟨it, hit⟩ : ∃ it, it = bstr (B.take n) := ⟨_, rfl⟩
          have HIt := Lib.hid hit
          have n2 : ((n : Int) ≤ (c2 : Int)) = True := eq_true (by omega)
          have HCv : Hid (∀ w', Only [b, hb] w3 w' → (convert 24 9 (.slice (some ad2) n c2)).run Tryd.prog w' = .ok (.string it) w') := Lib.hid (fun w' ho => by
            have h2 : w'.ownsRow base 5 1 (.slice (some ad2) B.length c2) B.length (u8s B) := own_same HQ.out.o2 (fun j hj => ho.block j (World.ownsRow.lt HQ.out.o2 j hj).2 (by
              simp only [List.mem_cons, List.not_mem_nil, or_false, not_or]
              refine ⟨fun e => ?_, fun e => own_ty HQ.out.o2 HQ.out.box (by decide) (by rw [hj, e])⟩
              rcases hbw with h3 | h3
              · rw [h3] at hbv
                have hbv : b = w.heap.size := hbv
                have := own_ge HQ.out.o2 _ hj
                have := HQ.out.bs
                omega
              · rcases own_apart HQ.out.o2 HQ.out.o1 (by decide) with h4 | h4
                · rw [h4] at hj; cases hj
                · exact h4 (by rw [hj, h3, e])))
            have h3 : RByt w' (some ad2) B := Reads.of_own h2
            have h4 := conv_by (h3.pre n) c2
            rw [show (B.take n).length = n by simp; omega] at h4
            rw [hit]
            exact h4)
          clear hbv hbw hit
          refine wp_region_mix_lit (by kernel_rfl) [(9, .letter RowP (RowF 31 w3.heap.size #[.int .i64 3, .int .u8 (c : Int), .int .u8 0, .slice none 0 0, .string it, .slice none 0 0])), (10, .grow b (LstP (C.length + 1)) (GrF 31 base 6 (C.length + 1) (ctlR C ++ (#[.int .i64 3, .int .u8 (c : Int), .int .u8 0, .slice none 0 0, .string it, .slice none 0 0] : Array Value).toList) w3 b ((Value.slice A1 C.length c1).ownBlock = none))), (12, .store hb 87 #[.slice A1 C.length c1, .slice (some ad2) B.length c2, .int .i64 nx, .int .i64 (1 : Nat)] (fun β => #[β 10, .slice (some ad2) B.length c2, .int .i64 nx, .int .i64 (1 : Nat)]))] (by kernel_rfl) (by kernel_rfl) (by kernel_rfl) (by rfl) (by simp [apartK] <;> omega) (by simp only [List.forall_mem_cons, startK]; exact ⟨trivial, hbl, HQ.out.box, by simp⟩) (by simp only [List.forall_mem_cons, stabK]; exact ⟨rowF_stab _ _ _ _ rfl, grF_stab _ _ _ _ _ _ _ _ _ rfl, trivial, by simp⟩) (⟨fun i => if i = 9 then .slice (some ⟨0, 0, none⟩) 1 1 else .slice none (C.length + 1) 0, by simp only [List.forall_mem_cons, okK]; exact ⟨⟨0, rfl⟩, ⟨none, 0, rfl⟩, trivial, by simp⟩⟩) (fun β hβ => ?_)
          obtain ⟨g9, e9⟩ := (hβ 9 : RowP (β 9))
          obtain ⟨A10, c10, e10⟩ := (hβ 10 : LstP (C.length + 1) (β 10))
          --#21
          iterate 9 (
            refine lex_val (v := ?_) rfl rfl (fun w' hf => ?_) ?_
            rotate_left
            · obtain ⟨a0, a1, a2, a3, _⟩ := hd4 (hf.old 12 _ _ _ _ rfl (by kernel_rfl)); have hcv := HCv.out w' hf.only; go_simp
              try rfl
            try simp only [Act.put, List.setIfInBounds_toArray, List.set_cons_zero, List.set_cons_succ])
          --#22
          refine lex_made rfl rfl (fun w' hf => ⟨.slice (some ⟨w'.heap.size, 0, none⟩) 1 1, w'.alloc (.cells #[.int .i64 3, .int .u8 (c : Int), .int .u8 0, .slice none 0 0, .string it, .slice none 0 0] 31), ?_, ⟨_, rfl⟩, ⟨_, rfl, hf.only.size, Blk.new _ _ _⟩, (Below.refl _ _).alloc (Nat.le_refl _) _⟩) ?_
          · go_simp
          try simp only [Act.put, List.setIfInBounds_toArray, List.set_cons_zero, List.set_cons_succ]
          --#23
          refine lex_grow (b := b) rfl rfl (fun w' hf => ?_) ?_
          · obtain ⟨g9', e9', _, hb9⟩ := (hf.got 9 _ _ rfl (by kernel_rfl) : RowF 31 w3.heap.size #[.int .i64 3, .int .u8 (c : Int), .int .u8 0, .slice none 0 0, .string it, .slice none 0 0] (β 9) w')
            rw [e9] at e9'
            simp only [Value.slice.injEq, Option.some.injEq, Addr.mk.injEq, and_true] at e9'
            subst e9'
            have hgr := hf.grew 10 b _ _ rfl (.inl rfl)
            have hown : w'.ownsRow base 31 6 (.slice A1 C.length c1) C.length (ctlR C) := own_same HQ.out.o1 (fun j hj => by
              rcases HBw.out with h | h
              · rw [h] at hj; cases hj
              · rw [h] at hj; injection hj with hj; subst hj; exact hgr)
            obtain ⟨v', w4, hrun, hown3, hgr3, hwh⟩ := run_append_any (P := Tryd.prog) w' base 22 22 31 i0 _ 6 i0.bytes Tryd.underlying22 HI.out.1 HI.out.2.1 HI.out.2.2.1 rfl rfl (by decide) (.slice A1 C.length c1) C.length (ctlR C) hown w'.heap.size (some ⟨g9, 0, none⟩) 1 1 (#[.int .i64 3, .int .u8 (c : Int), .int .u8 0, .slice none 0 0, .string it, .slice none 0 0] : Array Value).toList ⟨rfl, fun _ => ⟨_, rfl, hb9.lt, fun j u hu => by rw [add_here, hb9.cell j, ← Array.getElem?_toList]; exact hu⟩⟩ (by simp [Value.oneCell']) (by unfold maxLen; omega) (Nat.le_trans (Nat.mul_le_mul (show C.length + 1 ≤ 1000001 by omega) HI.out.2.2.2) (by decide)) (Nat.le_trans HBs3.out hf.only.size)
            refine ⟨v', w4, exec_append (.tmp 59) (.tmp 67) 22 rfl rfl e9 hrun, own_formS hown3, ⟨hown3, fun j hj => ?_, fun hz => ?_⟩, gb_weak b hgr3 HBw.out⟩
            · rcases hwh with h | h
              · rw [h] at hj
                rcases HBw.out with h2 | h2
                · rw [h2] at hj; cases hj
                · rw [h2] at hj; injection hj with hj; exact .inl hj.symm
              · rw [h] at hj; injection hj with hj; have := hf.only.size; exact .inr (by omega)
            · rw [hz] at hgr3
              exact (hgr3.block b (Nat.lt_of_lt_of_le hbl hf.only.size) (by simp)).trans hgr
          try simp only [Act.put, List.setIfInBounds_toArray, List.set_cons_zero, List.set_cons_succ]
          --#24
          repeat (
            refine lex_val (v := ?_) rfl rfl (fun w' hf => ?_) ?_
            rotate_left
            · go_simp
              try rfl
            try simp only [Act.put, List.setIfInBounds_toArray, List.set_cons_zero, List.set_cons_succ])
          refine lex_store rfl rfl (fun w' hf hB => ⟨_, ?_, (Repl.set hB 0 (.slice A10 (C.length + 1) c10)).as (by simp [e10])⟩) ?_
          · obtain ⟨z0, z1, z2, z3, f0, f1, f2, f3⟩ := hd4 hB
            rw [e10]
            go_simp
          try simp only [Act.put]
          --#25
          refine lex_nil fun w4 he => ?_
          have ho : Only [b, hb] w3 w4 := he.only
          have h12 : Blk w4 hb 87 #[β 10, .slice (some ad2) B.length c2, .int .i64 nx, .int .i64 (1 : Nat)] := he.facts 12
          have h10 := (he.facts 10).2
          rw [e10] at h12 h10
          have HG4 := Lib.hid (HQ.out.esc (h := ⟨C, B, nx, 1⟩) HBv.out ho h10)
          have HO4 := Lib.hid (OTr.esc h10.1)
          obtain ⟨q0, q1, q2, q3, _⟩ := hd4 h12
          clear he ho hβ e9 e10 HBv HBw hbl hbn h12 h10
          (try simp only [Exit.then])
          --#26
          go_wp2_with (refine wpList_store_row rfl _ _ _ rfl w.heap.size #[.slice A10 (C.length + 1) c10, .int .i64 (nx : Int)] rfl rfl _ _ HG4.out.1 ptS2 rfl (by simp [Value.oneCell']) ?_)
          (try simp only [Exit.inBlock, Exit.then])
          refine bodyPost_ret (results_cell_row rfl _ _ w.heap.size 69 _ (0, 0) _ rfl (setRow_heap w4 _ _ #[.slice A10 (C.length + 1) c10, .int .i64 (nx : Int)] _ _ HG4.out.1) ptU rfl ptS2) rfl ?_
          rw [HT3.out, ← HIt.out]
          exact SeqQ.of HO4.out HQ.out.bs HG4.out.2 _ rfl
      · have HT3 : Hid (T0 = (C.map ctlT, (nx : Int))) := Lib.hid (by rw [HT2.out, if_neg hY, List.append_nil])
        have hx10 : (((0 : Int) < (n : Int)) = True ∧ (0 < n) = True ∧ ((n : Int) ≤ 3) = False ∧ (n ≤ 3) = False) ∨ (((0 : Int) < (n : Int)) = False ∧ (0 < n) = False ∧ ((kd : Int) == 0) = true ∧ ((c : Int) != 92) = false ∧ ((n : Int) ≤ 3) = True ∧ (n ≤ 3) = True) := by
          rcases hx9 with ⟨h, h'⟩ | ⟨h, h', hk'⟩
          · refine .inl ⟨h, h', ?_⟩
            have : 0 < n := by rw [h']; trivial
            have : ¬ n ≤ 3 := fun h3 => hY ⟨h3, .inl this⟩
            exact ⟨eq_false (by omega), eq_false this⟩
          · have hn0 : ¬ 0 < n := by rw [h']; exact id
            refine .inr ⟨h, h', hk', ?_, eq_true (by omega), eq_true (by omega)⟩
            have : ¬ c ≠ 92 := fun h3 => hY ⟨by omega, .inr h3⟩
            simp; omega
        clear HT HT2 hx9
        rcases hx10 with ⟨g1, g2, g3, g4⟩ | ⟨g1, g2, g3, g4, g5, g6⟩
        all_goals
          --#7
          go_wp2_with (refine wpList_store_row rfl _ _ _ rfl w.heap.size #[.slice A1 C.length c1, .int .i64 (nx : Int)] rfl rfl _ _ HQ.out.res ptS2 rfl (by simp [Value.oneCell']) ?_)
          (try simp only [Exit.inBlock, Exit.then])
          refine bodyPost_ret (results_cell_row rfl _ _ w.heap.size 69 _ (0, 0) _ rfl (setRow_heap w3 _ _ #[.slice A1 C.length c1, .int .i64 (nx : Int)] _ _ HQ.out.res) ptU rfl ptS2) rfl ?_
          rw [HT3.out]
          exact SeqQ.of (OTr.ctl HQ.out.o1) HQ.out.bs HQ.out.bel _ rfl
    · have hn0 : n = 0 := by omega
      have hk0 : ¬ kd = 0 := fun h => hX (.inr h)
      have g1 : ((0 : Int) < (n : Int)) = False := eq_false (by omega)
      have g2 : (0 < n) = False := eq_false (by omega)
      have g3 : ((kd : Int) == 0) = false := by simp; omega
      have HT2 : Hid (T0 = if 5 < kd then (strT ⟨(kd : Int), 0, 0, [], ⟨#[]⟩, []⟩ true (strL ((kd : Int) == 6) (s.drop nx) nx []) C, (strL ((kd : Int) == 6) (s.drop nx) nx []).nx) else seqB s kd C nx) := Lib.hid (by rw [HT.out, if_neg hX])
      clear HT hX
      by_cases h5 : 5 < kd
      · have g5 : ((5 : Int) < (kd : Int)) = True := eq_true (by omega)
        have g6 : (5 < kd) = True := eq_true h5
        have HT3 := Lib.hid (HT2.out.trans (if_pos h5))
        have HSt := Lib.hid (str_any A cap s (by omega) HN.out nx hnx (kd : Int) 0 0 none [] 0 ⟨#[]⟩ true base (.slice A1 C.length c1) C (by omega) w3 HR3.out HQ.out.o1 (World.ownsRow_nil _ _ _ _) HBs3.out)
        generalize strL ((kd : Int) == 6) (s.drop nx) nx [] = r at *
        clear HT2
        --#8
        go_wp2_with fail
        refine HSt.out.mono ?_
        rintro e w4 ⟨⟨v4, rfl, ho4⟩, hg4⟩
        have hfo : ∃ A4 c4 n4, v4 = .slice A4 n4 c4 := by
          obtain ⟨xs, h, _⟩ := ho4
          obtain ⟨A4, c4, e⟩ := own_formS h
          exact ⟨A4, c4, _, e⟩
        obtain ⟨A4, c4, n4, rfl⟩ := hfo
        have HO4 := Lib.hid ho4; have HG4 := Lib.hid (HQ.out.resG hg4)
        obtain ⟨rn, hrn⟩ : ∃ rn, rn = r.nx := ⟨_, rfl⟩
        have HRn := Lib.hid hrn
        rw [← hrn]
        clear ho4 hg4 q0 q1 q2 q3 hrn
        go_wp2_with (refine wpList_store_row rfl _ _ _ rfl w.heap.size #[.slice A4 n4 c4, .int .i64 rn] rfl rfl _ _ HG4.out.1 ptS2 rfl (by simp [Value.oneCell']) ?_)
        (try simp only [Exit.inBlock, Exit.then])
        refine bodyPost_ret (results_cell_row rfl _ _ w.heap.size 69 _ (0, 0) _ rfl (setRow_heap w4 _ _ #[.slice A4 n4 c4, .int .i64 rn] _ _ HG4.out.1) ptU rfl ptS2) rfl ?_
        rw [HT3.out]
        exact SeqQ.of HO4.out HQ.out.bs HG4.out.2 _ (by rw [HRn.out])
      · have g5 : ((5 : Int) < (kd : Int)) = False := eq_false (by omega)
        have g6 : (5 < kd) = False := eq_false h5
        have HT3 := Lib.hid (HT2.out.trans (if_neg h5))
        clear HT2
        --#9
        have HH2 := Lib.hid (HHd.out 64 nx hnx w3 HR3.out)
        have HF2 := Lib.hid (hdrF 64 s nx hnx)
        have hT3 := HT3.out
        unfold seqB at hT3
        generalize hdrL 64 (s.drop nx) nx [] [] = gh at *
        obtain ⟨gC, gB, gx, ge⟩ := gh
        dsimp only at hT3
        obtain ⟨D, hD⟩ : ∃ D, D = C ++ gC := ⟨_, rfl⟩
        rw [← hD] at hT3
        have HT4 := Lib.hid hT3
        have HDD := Lib.hid hD
        have hgC : gC.length ≤ 400000 := Nat.le_trans HF2.out.C hl
        have hgB : gB.length ≤ 400000 := Nat.le_trans HF2.out.B hl
        have hDl : D.length ≤ 800000 := by rw [hD, List.length_append]; omega
        clear hT3 HT3 hD HHd hcb hwn n0 n1 HBc
        --#10
        go_wp2_with fail
        refine HH2.out.mono ?_
        rintro e w4 ⟨u1, u2, rfl, ho1, ho2, hb4⟩
        dsimp only at ho1 ho2
        obtain ⟨E1, d1, rfl⟩ := own_formS ho1
        obtain ⟨E2, d2, e2, hd2⟩ := own_form ho2
        subst e2
        have hal5 : Below w4.heap.size w4 (w4.alloc (.cells #[.slice E1 gC.length d1, .slice E2 gB.length d2, .int .i64 gx, .int .i64 ge] 87)) := (Below.refl _ _).alloc (Nat.le_refl _) _
        have HQ5 := Lib.hid ((HQ.out.next hb4).next hal5)
        have HG5 := Lib.hid (Blk.new w4 87 #[.slice E1 gC.length d1, .slice E2 gB.length d2, .int .i64 gx, .int .i64 ge])
        have HO5 := Lib.hid (own_more ho1 hal5)
        have HU5 := Lib.hid (own_more ho2 hal5)
        have HZ4 := Lib.hid (show w3.heap.size ≤ w4.heap.size from hb4.size)
        clear ho1 ho2 hb4 hal5 HH2 q0 q1 q2 q3
        --#11
        go_upto_region 16 with fail
        --#12
        generalize w4.alloc (.cells #[.slice E1 gC.length d1, .slice E2 gB.length d2, .int .i64 gx, .int .i64 ge] 87) = w5 at *
        generalize w4.heap.size = gb at *
        obtain ⟨q0, q1, q2, q3, _⟩ := hd4 HQ5.out.box
        obtain ⟨p0, p1, p2, p3, _⟩ := hd4 HG5.out
        have HRd := Lib.hid (Reads.of_own HO5.out)
        have HBy : Hid ((C.length + gC.length) * i0.bytes ≤ 140737488355328) := Lib.hid (Nat.le_trans (Nat.mul_le_mul (show C.length + gC.length ≤ 1000001 by omega) HI.out.2.2.2) (by decide))
        have HMx : Hid (C.length + gC.length ≤ maxLen) := Lib.hid (by unfold maxLen; omega)
        have HBz : Hid (base ≤ w5.heap.size) := Lib.hid (by have := HBs3.out; have := HZ4.out; have := HG5.out.lt; omega)
        go_upto_region 17 with (at_builtin; refine wpList_append_any _ rfl _ _ 22 rfl base 31 i0 _ 6 i0.bytes Tryd.underlying22 HI.out.1 HI.out.2.1 HI.out.2.2.1 rfl rfl (by decide) _ C.length _ rfl HQ5.out.o1 _ E1 gC.length d1 _ rfl HRd.out (ctlR_one gC) HMx.out HBy.out HBz.out ?_; intro v6 w6 hown6 hg6 _; rw [← List.length_append, ← ctlR_app, ← HDD.out] at hown6; obtain ⟨A6, c6, rfl⟩ := own_formS hown6; have HO6 := Lib.hid hown6; have HG6 := Lib.hid hg6; clear hown6 hg6)
        --#13
        have HQ6 : Hid (SqW w w6 gb base ⟨D, gB, gx, ge⟩ (.slice E1 gC.length d1) (.slice A6 D.length c6) (.slice E2 gB.length d2)) := Lib.hid (by
          have h1 := HQ5.out.resG HG6.out
          have hgl := HG5.out.lt
          exact ⟨h1.1, (HG6.out.block _ hgl (fun e => own_ty HQ5.out.o1 HG5.out (by decide) e.symm)).trans HG5.out, HO6.out, own_base (World.ownsRow.kept HU5.out HG6.out (own_apart HU5.out HQ5.out.o1 (by decide))) HBs3.out, h1.2, HQ.out.bs, by have := HQ.out.hbs; have := HQ.out.box.lt; have := HZ4.out; omega⟩)
        have HR6 := Lib.hid (HR.out.next HQ6.out.bel)
        have HBz6 : Hid (base ≤ w6.heap.size) := Lib.hid (Nat.le_trans HBz.out HG6.out.size)
        clear q0 q1 q2 q3 p0 p1 p2 p3 HQ5 HG5 HU5 HO5 HO6 HG6 HRd HBy HMx HBz HZ4 HQ HR3 HRB
        obtain ⟨q0, q1, q2, q3, _⟩ := hd4 HQ6.out.box
        rcases HF2.out.en with h0 | ⟨h2, hgx⟩ | ⟨h1, hgx, hgp⟩
        · have hge : ge = 0 := h0
          subst hge
          have HT5 : Hid (T0 = (D.map ctlT, -1)) := Lib.hid (by rw [HT4.out, if_pos rfl])
          --#14
          go_wp2_with (refine wpList_store_row rfl _ _ _ rfl w.heap.size #[.slice A6 D.length c6, .int .i64 (-1)] rfl rfl _ _ HQ6.out.res ptS2 rfl (by simp [Value.oneCell']) ?_)
          (try simp only [Exit.inBlock, Exit.then])
          refine bodyPost_ret (results_cell_row rfl _ _ w.heap.size 69 _ (0, 0) _ rfl (setRow_heap w6 _ _ #[.slice A6 D.length c6, .int .i64 (-1)] _ _ HQ6.out.res) ptU rfl ptS2) rfl ?_
          rw [HT5.out]
          exact SeqQ.of (OTr.ctl HQ6.out.o1) HQ6.out.bs HQ6.out.bel _ rfl
        · have hge : ge = 2 := h2
          have hgx : gx < s.length := hgx
          subst hge
          have HT5 : Hid (T0 = ((brkC s[gx] D).map ctlT, ((brkNx s[gx] gx : Nat) : Int))) := Lib.hid (by rw [HT4.out, if_neg (by decide), if_pos rfl, getD_at s gx hgx])
          have HBr := Lib.hid (broken_any A cap s gx hgx (by omega) base (.slice A6 D.length c6) D (by omega) w6 HR6.out HQ6.out.o1 HBz6.out)
          generalize s[gx] = x at *
          --#15
          go_wp2_with fail
          refine HBr.out.mono ?_
          rintro e w7 ⟨⟨v7, rfl, ho7⟩, hg7⟩
          obtain ⟨A7, c7, rfl⟩ := own_formS ho7
          have HO7 := Lib.hid ho7; have HG7 := Lib.hid (HQ6.out.resG hg7)
          clear ho7 hg7 q0 q1 q2 q3
          go_wp2_with (refine wpList_store_row rfl _ _ _ rfl w.heap.size #[.slice A7 (brkC x D).length c7, .int .i64 (brkNx x gx : Nat)] rfl rfl _ _ HG7.out.1 ptS2 rfl (by simp [Value.oneCell']) ?_)
          (try simp only [Exit.inBlock, Exit.then])
          refine bodyPost_ret (results_cell_row rfl _ _ w.heap.size 69 _ (0, 0) _ rfl (setRow_heap w7 _ _ #[.slice A7 (brkC x D).length c7, .int .i64 (brkNx x gx : Nat)] _ _ HG7.out.1) ptU rfl ptS2) rfl ?_
          rw [HT5.out]
          exact SeqQ.of (OTr.ctl HO7.out) HQ6.out.bs HG7.out.2 _ rfl
        · have hge : ge = 1 := h1
          have hgx : gx ≤ s.length := hgx
          have hgp : 0 < gB.length := hgp
          subst hge
          obtain ⟨m, hm⟩ : ∃ m, gB.length = m + 1 := ⟨gB.length - 1, by omega⟩
          have hrg : RByt w6 E2 gB := Reads.of_own HQ6.out.o2
          have HPa := Lib.hid (parse_any (kd : Int) E2 d2 gB m hm (by omega) hd2 w6 hrg)
          have hT5 := HT4.out
          rw [if_neg (by decide), if_neg (by decide)] at hT5
          obtain ⟨cx, mx, px, ix, gd, hp⟩ : ∃ cx mx px ix gd, parsP (kd : Int) gB = (⟨(kd : Int), cx, mx, px, ix, []⟩, gd) := ⟨_, _, _, _, _, rfl⟩
          rw [hp] at HPa hT5
          have HT5 := Lib.hid hT5
          clear hrg hT5 hp HT4 hm
          --#16
          go_wp2_with fail
          refine HPa.out.mono ?_
          rintro e w7 ⟨P, pc, rfl, hoP, hb7⟩
          dsimp only at hoP ⊢
          have hal8 : Below w7.heap.size w7 (w7.alloc (.cells #[.int .i64 (kd : Int), .int .u8 (cx : Int), .int .u8 (mx : Int), .slice P px.length pc, .string ix, .slice none 0 0] 31)) := (Below.refl _ _).alloc (Nat.le_refl _) _
          have HQ8 := Lib.hid ((HQ6.out.next hb7).next hal8)
          have HT8 := Lib.hid (Blk.new w7 31 #[.int .i64 (kd : Int), .int .u8 (cx : Int), .int .u8 (mx : Int), .slice P px.length pc, .string ix, .slice none 0 0])
          have HP8 : Hid (OInts (w7.alloc (.cells #[.int .i64 (kd : Int), .int .u8 (cx : Int), .int .u8 (mx : Int), .slice P px.length pc, .string ix, .slice none 0 0] 31)) base (.slice P px.length pc) px) := Lib.hid (own_base (own_more (oints_own hoP) hal8) HBz6.out)
          have HBz8 : Hid (base ≤ (w7.alloc (.cells #[.int .i64 (kd : Int), .int .u8 (cx : Int), .int .u8 (mx : Int), .slice P px.length pc, .string ix, .slice none 0 0] 31)).heap.size) := Lib.hid (Nat.le_trans HBz6.out (Nat.le_trans hb7.size hal8.size))
          clear hoP hb7 hal8 HPa q0 q1 q2 q3 HQ6
          --#17
          go_upto_region 22 with fail
          --#18
          generalize w7.alloc (.cells #[.int .i64 (kd : Int), .int .u8 (cx : Int), .int .u8 (mx : Int), .slice P px.length pc, .string ix, .slice none 0 0] 31) = w8 at *
          generalize w7.heap.size = tb at *
          obtain ⟨q0, q1, q2, q3, _⟩ := hd4 HQ8.out.box
          have HR8 := Lib.hid (HR.out.next HQ8.out.bel)
          obtain ⟨z0, z1, z2, z3, z4, z5⟩ := six HT8.out
          by_cases hk5 : kd = 5
          · have k5 : ((kd : Int) == 5) = true := by simp; omega
            have HT6 := Lib.hid (HT5.out.trans (if_pos hk5))
            have HSt := Lib.hid (str_any A cap s (by omega) HN.out gx hgx (kd : Int) cx mx P px pc ix gd base (.slice A6 D.length c6) D (by omega) w8 HR8.out HQ8.out.o1 HP8.out HBz8.out)
            generalize strL ((kd : Int) == 6) (s.drop gx) gx [] = r at *
            clear HT5 hk5
            --#19
            go_wp2_with fail
            refine HSt.out.mono ?_
            rintro e w9 ⟨⟨v9, rfl, ho9⟩, hg9⟩
            have hfo : ∃ A9 c9 n9, v9 = .slice A9 n9 c9 := by
              obtain ⟨xs, h, _⟩ := ho9
              obtain ⟨A9, c9, e⟩ := own_formS h
              exact ⟨A9, c9, _, e⟩
            obtain ⟨A9, c9, n9, rfl⟩ := hfo
            have HO9 := Lib.hid ho9; have HG9 := Lib.hid (HQ8.out.resG hg9)
            obtain ⟨rn, hrn⟩ : ∃ rn, rn = r.nx := ⟨_, rfl⟩
            have HRn := Lib.hid hrn
            rw [← hrn]
            clear ho9 hg9 q0 q1 q2 q3 hrn z0 z1 z2 z3 z4 z5
            go_wp2_with (refine wpList_store_row rfl _ _ _ rfl w.heap.size #[.slice A9 n9 c9, .int .i64 rn] rfl rfl _ _ HG9.out.1 ptS2 rfl (by simp [Value.oneCell']) ?_)
            (try simp only [Exit.inBlock, Exit.then])
            refine bodyPost_ret (results_cell_row rfl _ _ w.heap.size 69 _ (0, 0) _ rfl (setRow_heap w9 _ _ #[.slice A9 n9 c9, .int .i64 rn] _ _ HG9.out.1) ptU rfl ptS2) rfl ?_
            rw [HT6.out]
            exact SeqQ.of HO9.out HQ8.out.bs HG9.out.2 _ (by rw [HRn.out])
          · have k5 : ((kd : Int) == 5) = false := by simp; omega
            have HT6 := Lib.hid (HT5.out.trans (if_neg hk5))
            clear HT5
            rcases gd with _ | _
            · have HT7 : Hid (T0 = (D.map ctlT, (gx : Int))) := Lib.hid (by rw [HT6.out]; simp)
              --#20
              go_wp2_with (refine wpList_store_row rfl _ _ _ rfl w.heap.size #[.slice A6 D.length c6, .int .i64 (gx : Int)] rfl rfl _ _ HQ8.out.res ptS2 rfl (by simp [Value.oneCell']) ?_)
              (try simp only [Exit.inBlock, Exit.then])
              refine bodyPost_ret (results_cell_row rfl _ _ w.heap.size 69 _ (0, 0) _ rfl (setRow_heap w8 _ _ #[.slice A6 D.length c6, .int .i64 (gx : Int)] _ _ HQ8.out.res) ptU rfl ptS2) rfl ?_
              rw [HT7.out]
              exact SeqQ.of (OTr.ctl HQ8.out.o1) HQ8.out.bs HQ8.out.bel _ rfl
            · have HT7 : Hid (T0 = (D.map ctlT ++ [⟨(kd : Int), cx, mx, px, ix, []⟩], (gx : Int))) := Lib.hid (by rw [HT6.out]; simp)
              have hal : Below w8.heap.size w8 (w8.alloc (.cells #[.int .i64 (kd : Int), .int .u8 (cx : Int), .int .u8 (mx : Int), .slice P px.length pc, .string ix, .slice none 0 0] 31)) := (Below.refl _ _).alloc (Nat.le_refl _) _
              have HQ9 := Lib.hid (HQ8.out.next hal)
              have HP9 : Hid (OInts (w8.alloc (.cells #[.int .i64 (kd : Int), .int .u8 (cx : Int), .int .u8 (mx : Int), .slice P px.length pc, .string ix, .slice none 0 0] 31)) base (.slice P px.length pc) px) := Lib.hid (own_more (oints_own HP8.out) hal)
              have HRd := Lib.hid (row_reads w8 31 [.int .i64 (kd : Int), .int .u8 (cx : Int), .int .u8 (mx : Int), .slice P px.length pc, .string ix, .slice none 0 0] 1 6 rfl)
              have HX1 : Hid (∀ u ∈ ([.int .i64 (kd : Int), .int .u8 (cx : Int), .int .u8 (mx : Int), .slice P px.length pc, .string ix, .slice none 0 0] : List Value), u.oneCell' = true) := Lib.hid (by simp [Value.oneCell'])
              have HBy : Hid ((D.length + 1) * i0.bytes ≤ 140737488355328) := Lib.hid (Nat.le_trans (Nat.mul_le_mul (show D.length + 1 ≤ 1000001 by omega) HI.out.2.2.2) (by decide))
              have HMx : Hid (D.length + 1 ≤ maxLen) := Lib.hid (by unfold maxLen; omega)
              have HBz : Hid (base ≤ (w8.alloc (.cells #[.int .i64 (kd : Int), .int .u8 (cx : Int), .int .u8 (mx : Int), .slice P px.length pc, .string ix, .slice none 0 0] 31)).heap.size) := Lib.hid (Nat.le_trans HBz8.out hal.size)
              clear hal
              --#27
              go_upto_region 26 with (at_builtin; refine wpList_append_any _ rfl _ _ 22 rfl base 31 i0 _ 6 i0.bytes Tryd.underlying22 HI.out.1 HI.out.2.1 HI.out.2.2.1 rfl rfl (by decide) _ D.length _ rfl HQ9.out.o1 _ (some ⟨w8.heap.size, 0, none⟩) 1 1 _ rfl HRd.out HX1.out HMx.out HBy.out HBz.out ?_; intro v6 w6 hown6 hg6 _; obtain ⟨A6', c6', rfl⟩ := own_formS hown6; have HO6 := Lib.hid hown6; have HG6 := Lib.hid hg6; clear hown6 hg6)
              --#28
              have HB9 := Lib.hid ((HG6.out.block _ HQ9.out.box.lt (fun e => own_ty HQ9.out.o1 HQ9.out.box (by decide) e.symm)).trans HQ9.out.box)
              have HG9 := Lib.hid (HQ9.out.resG HG6.out)
              have HO9 : Hid (OTr w6 base (.slice A6' (D.length + 1) c6') (D.map ctlT ++ [⟨(kd : Int), cx, mx, px, ix, []⟩])) := Lib.hid ⟨D.map ctlX ++ [#[.int .i64 (kd : Int), .int .u8 (cx : Int), .int .u8 (mx : Int), .slice P px.length pc, .string ix, .slice none 0 0]], by rw [List.length_append, List.length_map, List.flatMap_append, List.flatMap_singleton]; exact HO6.out, OTl.app (ctl_own _ _ D) ⟨⟨P, pc, none, 0, rfl, World.ownsRow.kept (oints_own HP9.out) HG6.out (own_apart (oints_own HP9.out) HQ9.out.o1 (by decide)), World.ownsRow_nil _ _ _ _⟩, trivial⟩⟩
              clear q0 q1 q2 q3 z0 z1 z2 z3 z4 z5
              obtain ⟨q0, q1, q2, q3, _⟩ := hd4 (show Blk w6 gb 87 #[.slice E1 gC.length d1, .slice E2 gB.length d2, .int .i64 gx, .int .i64 (1 : Nat)] from HB9.out)
              go_wp2_with (refine wpList_store_row rfl _ _ _ rfl w.heap.size #[.slice A6' (D.length + 1) c6', .int .i64 (gx : Int)] rfl rfl _ _ HG9.out.1 ptS2 rfl (by simp [Value.oneCell']) ?_)
              (try simp only [Exit.inBlock, Exit.then])
              refine bodyPost_ret (results_cell_row rfl _ _ w.heap.size 69 _ (0, 0) _ rfl (setRow_heap w6 _ _ #[.slice A6' (D.length + 1) c6', .int .i64 (gx : Int)] _ _ HG9.out.1) ptU rfl ptS2) rfl ?_
              rw [HT7.out]
              exact SeqQ.of HO9.out HQ9.out.bs HG9.out.2 _ rfl
end Go.Proofs.YtpiliicphoacfaaDoor
