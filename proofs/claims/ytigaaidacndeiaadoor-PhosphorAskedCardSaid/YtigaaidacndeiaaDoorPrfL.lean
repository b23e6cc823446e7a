/-
  The reference's small calls: a control's token, bytes that break, what they leave.
  The reference's Plain.
  The reference's header of a sequence.
  The reference's header of a sequence: the walk.
  The reference's reading of a Csi's or Dcs's header: plain facts, pieces of what came in.
  The reference's reading of a Csi's or Dcs's header: the walk.
  The reference's string: plain facts.
  The reference's string: the walk.
  The reference's sequence: plain facts.
  The reference's sequence: the walk.
  The reference's Split: plain facts.
  The reference's Split: the walk.
-/
import Derived.Test.YtigaaidacndeiaaDoorPrsY
import Derived.Test.YtigaaidacndeiaaDoorParV
import Derived.Test.YtigaaidacndeiaaDoorTokY
namespace Go.Proofs.YtigaaidacndeiaaDoor

open Go Go.RowKit

def ctlX (c : Nat) : Array Value := #[.int .i64 2, .int .u8 (c : Int), .int .u8 0, .slice none 0 0, .string ⟨#[]⟩, .slice none 0 0]
def ctlR (C : List Nat) : List Value := (C.map ctlX).flatMap Array.toList
theorem ctlR_snoc (C : List Nat) (c : Nat) : ctlR (C ++ [c]) = ctlR C ++ (ctlX c).toList := by simp [ctlR]
theorem ctlR_app (C D : List Nat) : ctlR (C ++ D) = ctlR C ++ ctlR D := by simp [ctlR]
theorem ctl_own (w : World) (base : Nat) : ∀ C : List Nat, OTl w base (C.map ctlX) (C.map ctlT)
  | [] => trivial
  | c :: C => ⟨otkC w base c, ctl_own w base C⟩
theorem ctlX_one (c : Nat) : ∀ u ∈ (ctlX c).toList, u.oneCell' = true := by
  intro u hu
  simp only [ctlX, List.mem_cons, List.not_mem_nil, or_false] at hu
  rcases hu with rfl | rfl | rfl | rfl | rfl | rfl <;> rfl
theorem ctlR_one (C : List Nat) : ∀ u ∈ ctlR C, u.oneCell' = true := fun u hu => by
  unfold ctlR at hu
  obtain ⟨x, hx, hu⟩ := List.mem_flatMap.1 hu
  obtain ⟨c, _, rfl⟩ := List.mem_map.1 hx
  exact ctlX_one c u hu




theorem gb_of {w W W' : World} {row : Option Nat} (hb : Below w.heap.size w W) (hg : W.grownBy W' row) : w.grownBy W' row :=
  ⟨hg.os.trans hb.os, hg.tape.trans hb.tape, hg.output.trans hb.output, Nat.le_trans hb.size hg.size, fun k hk hn => (hg.block k (Nat.lt_of_lt_of_le hk hb.size) hn).trans (hb.block k hk)⟩
theorem gb_trans {w W W' : World} {row row' : Option Nat} (hg : w.grownBy W row) (hg' : W.grownBy W' row') (hr : row' = none ∨ row' = row ∨ ∀ k, row' = some k → w.heap.size ≤ k) : w.grownBy W' row :=
  ⟨hg'.os.trans hg.os, hg'.tape.trans hg.tape, hg'.output.trans hg.output, Nat.le_trans hg.size hg'.size, fun k hk hn => (hg'.block k (Nat.lt_of_lt_of_le hk hg.size) (by
    rcases hr with rfl | rfl | hr
    · simp
    · exact hn
    · intro e
      have := hr k e.symm
      omega)).trans (hg.block k hk hn)⟩
theorem gb_row {w W : World} {row : Option Nat} (h : w.grownBy W row) (g : Nat) (X : Array Value) (hg : w.heap.size ≤ g) : w.grownBy (W.setRow g X) row :=
  gb_trans h (grown_row W g X) (.inr (.inr (fun k hk => by cases hk; exact hg)))
theorem own_row {W : World} {b n s g : Nat} {T : TypeId} {v : Value} {xs : List Value} {X : Array Value} (h : W.ownsRow b T s v n xs) (hne : v.ownBlock ≠ some g) : (W.setRow g X).ownsRow b T s v n xs :=
  World.ownsRow.kept h (grown_row W g X) (.inr hne)

def brkB (c : Nat) : Bool := c == 24 || (c == 26 || c == 27)

def brkC (c : Nat) (C : List Nat) : List Nat := if c = 26 then C ++ [26] else C
def brkNx (c k : Nat) : Nat := if c = 24 ∨ c = 26 then k + 1 else k


end Go.Proofs.YtigaaidacndeiaaDoor

namespace Go.Proofs.YtigaaidacndeiaaDoor

open Go Go.RowKit

def plainC (c : Nat) : List Nat := if c = 0 ∨ c = 127 then [] else if 128 ≤ c ∧ c < 160 then [27, c - 64] else [c]
def plainL (l : List Nat) : List Nat := l.flatMap plainC
theorem plainL_snoc (l : List Nat) (c : Nat) : plainL (l ++ [c]) = plainL l ++ plainC c := by simp [plainL]
theorem plainC_len (c : Nat) : (plainC c).length ≤ 2 := by
  unfold plainC
  split
  · simp
  · split <;> simp
theorem plainL_len (l : List Nat) : (plainL l).length ≤ 2 * l.length := by
  induction l with
  | nil => exact Nat.le_refl _
  | cons c l ih =>
    have := plainC_len c
    unfold plainL at *
    rw [List.flatMap_cons, List.length_append, List.length_cons]
    omega
def u8s (l : List Nat) : List Value := l.map fun (n : Nat) => Value.int .u8 (n : Int)
theorem u8s_snoc (l m : List Nat) : u8s (l ++ m) = u8s l ++ u8s m := by simp [u8s]
theorem u8s_one (l : List Nat) : ∀ u ∈ u8s l, u.oneCell' = true := fun u hu => by
  obtain ⟨c, _, rfl⟩ := List.mem_map.1 hu
  rfl
/-- What is known in the midst of Plain. -/
def PlW (w W : World) (l : List Nat) (v : Value) : Prop := W.ownsRow w.heap.size 5 1 v l.length (u8s l) ∧ Below w.heap.size w W
theorem row_reads (W : World) (T : TypeId) (xs : List Value) (n sz : Nat) (hn : xs.length = n * sz) : Reads (W.alloc (.cells xs.toArray T)) (W.alloc (.cells xs.toArray T)).heap.size sz (some ⟨W.heap.size, 0, none⟩) n xs :=
  ⟨hn, fun _ => ⟨_, rfl, by simp, fun j u hu => by rw [add_here, (Blk.new W T xs.toArray).cell j, List.getElem?_toArray]; exact hu⟩⟩

end Go.Proofs.YtigaaidacndeiaaDoor

namespace Go.Proofs.YtigaaidacndeiaaDoor

open Go Go.RowKit

structure Hd where
  C : List Nat
  B : List Nat
  nx : Nat
  en : Nat
/-- A header, from a place on. -/
def hdrL (last : Nat) : List Nat → Nat → List Nat → List Nat → Hd
  | [], _, C, B => ⟨C, B, 0, 0⟩
  | c :: l, i, C, B =>
    if brkB c = true then ⟨C, B, i, 2⟩
    else if c < 32 then hdrL last l (i + 1) (C ++ [c]) B
    else if c % 128 = 127 then hdrL last l (i + 1) C B
    else if last ≤ c % 128 then ⟨C, B ++ [c % 128], i + 1, 1⟩
    else hdrL last l (i + 1) C (B ++ [c % 128])
theorem own_same {w w' : World} {base size n : Nat} {e : TypeId} {v : Value} {xs : List Value} (h : w.ownsRow base e size v n xs) (hk : ∀ k, v.ownBlock = some k → w'.heap[k]? = w.heap[k]?) : w'.ownsRow base e size v n xs := by
  refine ⟨h.1, ?_⟩
  rcases h.2 with hn | ⟨g, cap, cur, rfl, hb, hg, r⟩
  · exact .inl hn
  · exact .inr ⟨g, cap, cur, rfl, hb, (hk g rfl).trans hg, r⟩
theorem gb_weak {w W : World} {row : Option Nat} (b : Nat) (h : w.grownBy W row) (hr : row = none ∨ row = some b) : w.grownBy W (some b) := by
  rcases hr with rfl | rfl
  · exact ⟨h.os, h.tape, h.output, h.size, fun k hk _ => h.block k hk (by simp)⟩
  · exact h
theorem gb_set {w : World} (b i : Nat) (v : Value) : w.grownBy (w.setCell ⟨b, i, none⟩ v) (some b) :=
  ⟨rfl, rfl, rfl, by simp [World.setCell], fun k _ hn => Below.heap_setCell w ⟨b, i, none⟩ v k (fun e => hn (by rw [e]))⟩
theorem below_gb {B : Nat} {w w1 w2 : World} {g : Nat} (h : Below B w w1) (hg : w1.grownBy w2 (some g)) (hB : B ≤ g) (hs : B ≤ w1.heap.size) : Below B w w2 :=
  below_row h hg (fun k e => by cases e; exact hB) hs
def RowP (u : Value) : Prop := ∃ g, u = .slice (some ⟨g, 0, none⟩) 1 1
/-- A row that was just made. -/
def RowF (T : TypeId) (B : Nat) (xs : Array Value) (u : Value) (W : World) : Prop := ∃ g, u = .slice (some ⟨g, 0, none⟩) 1 1 ∧ B ≤ g ∧ Blk W g T xs
theorem rowF_stab (ks : Kinds) (wr : World) (T : TypeId) (xs : Array Value) (h : boxes ks = []) : ∀ v w w', Kept ks wr w w' → RowF T wr.heap.size xs v w → RowF T wr.heap.size xs v w' := by
  rintro v w w' hk ⟨g, e, hg, hb⟩
  exact ⟨g, e, hg, (hk.block g hb.lt hg (fun _ _ _ _ => by rw [h]; simp)).trans hb⟩
def LstP (n : Nat) (u : Value) : Prop := ∃ A c, u = .slice A n c
/-- A row of the call's own that was grown, out of what lay in block b. -/
def GrF (T : TypeId) (base sz n : Nat) (xs : List Value) (wr : World) (b : Nat) (z : Prop) (u : Value) (W : World) : Prop :=
  W.ownsRow base T sz u n xs ∧ (∀ k, u.ownBlock = some k → k = b ∨ wr.heap.size ≤ k) ∧ (z → W.heap[b]? = wr.heap[b]?)
theorem grF_stab (ks : Kinds) (wr : World) (T : TypeId) (base sz n : Nat) (xs : List Value) (b : Nat) (z : Prop) (h : boxes ks = []) : ∀ v w w', Kept ks wr w w' → w'.heap[b]? = w.heap[b]? → GrF T base sz n xs wr b z v w → GrF T base sz n xs wr b z v w' := by
  rintro v w w' hk hb ⟨h1, h2, h3⟩
  refine ⟨own_same h1 (fun k e => ?_), h2, fun hz => hb.trans (h3 hz)⟩
  rcases h2 k e with rfl | h4
  · exact hb
  · exact hk.block k (World.ownsRow.lt h1 k e).2 h4 (fun _ _ _ _ => by rw [h]; simp)


theorem hd4 {W : World} {b : Nat} {T : TypeId} {x y u v : Value} (h : Blk W b T #[x, y, u, v]) : W.cell? ⟨b, 0, none⟩ = some x ∧ W.cell? ⟨b, 1, none⟩ = some y ∧ W.cell? ⟨b, 2, none⟩ = some u ∧ W.cell? ⟨b, 3, none⟩ = some v ∧ W.frozen? ⟨b, 0, none⟩ = false ∧ W.frozen? ⟨b, 1, none⟩ = false ∧ W.frozen? ⟨b, 2, none⟩ = false ∧ W.frozen? ⟨b, 3, none⟩ = false :=
  ⟨h.cell 0, h.cell 1, h.cell 2, h.cell 3, h.frozen 0, h.frozen 1, h.frozen 2, h.frozen 3⟩
def hdZ : Array Value := #[.slice none 0 0, .slice none 0 0, .int .i64 0, .int .i64 0]







end Go.Proofs.YtigaaidacndeiaaDoor

namespace Go.Proofs.YtigaaidacndeiaaDoor

open Go Go.RowKit

theorem hdrL_cons (last : Nat) (s : List Nat) (k : Nat) (h : k < s.length) (C B : List Nat) : hdrL last (s.drop k) k C B =
    if brkB s[k] = true then ⟨C, B, k, 2⟩
    else if s[k] < 32 then hdrL last (s.drop (k + 1)) (k + 1) (C ++ [s[k]]) B
    else if s[k] % 128 = 127 then hdrL last (s.drop (k + 1)) (k + 1) C B
    else if last ≤ s[k] % 128 then ⟨C, B ++ [s[k] % 128], k + 1, 1⟩
    else hdrL last (s.drop (k + 1)) (k + 1) C (B ++ [s[k] % 128]) := by
  rw [List.drop_eq_getElem_cons h]
  rfl

end Go.Proofs.YtigaaidacndeiaaDoor

namespace Go.Proofs.YtigaaidacndeiaaDoor

open Go Go.RowKit
set_option maxRecDepth 100000

/-- How many there are ahead of the first byte below 48. -/
def cntP : List Nat → Nat
  | [] => 0
  | c :: l => if 48 ≤ c then cntP l + 1 else 0
theorem cnt_yes {c : Nat} (l : List Nat) (h : 48 ≤ c) : cntP (c :: l) = cntP l + 1 := if_pos h
theorem cnt_no {c : Nat} (l : List Nat) (h : ¬ 48 ≤ c) : cntP (c :: l) = 0 := if_neg h
theorem cnt_le : ∀ l : List Nat, cntP l ≤ l.length
  | [] => Nat.le_refl _
  | c :: l => by
    have := cnt_le l
    unfold cntP
    split
    · simpa using this
    · exact Nat.zero_le _
theorem cnt_lt : ∀ (l : List Nat) (k : Nat) (h : k < l.length), k < cntP l → 48 ≤ l[k]
  | [], _, h, _ => by simp at h
  | c :: l, 0, _, hk => by
    unfold cntP at hk
    split at hk
    · assumption
    · omega
  | c :: l, k + 1, h, hk => by
    unfold cntP at hk
    split at hk
    · exact cnt_lt l k (by simpa using h) (by omega)
    · omega
theorem cnt_at : ∀ (l : List Nat) (h : cntP l < l.length), l[cntP l] < 48
  | [], h => by simp at h
  | c :: l, h => by
    by_cases hc : 48 ≤ c
    · have e : cntP (c :: l) = cntP l + 1 := cnt_yes l hc
      have := cnt_at l (by rw [e] at h; simpa using h)
      simp only [e]
      simpa using this
    · have e : cntP (c :: l) = 0 := cnt_no l hc
      simp only [e]
      simp; omega
theorem cnt_step {l : List Nat} {k : Nat} (h : k < l.length) (hk : k ≤ cntP l) (hc : 48 ≤ l[k]) : k + 1 ≤ cntP l := by
  rcases Nat.lt_or_ge k (cntP l) with h1 | h1
  · exact h1
  · obtain rfl : k = cntP l := by omega
    have := cnt_at l h
    omega
theorem cnt_end {l : List Nat} {k : Nat} (h : k < l.length) (hk : k ≤ cntP l) (hc : ¬ 48 ≤ l[k]) : k = cntP l := by
  rcases Nat.lt_or_ge k (cntP l) with h1 | h1
  · exact absurd (cnt_lt l k h h1) hc
  · omega
/-- The mark, and what stands behind it. -/
def markP (b : List Nat) : Nat × List Nat := match b with
  | [] => (0, [])
  | m :: r => if 60 ≤ m ∧ m ≤ 63 then (m, r) else (0, m :: r)
theorem mark_nil {b : List Nat} (h : ¬ 0 < b.length) : markP b = (0, b) := by
  cases b with
  | nil => rfl
  | cons m r => simp at h
theorem mark_cons (m : Nat) (r : List Nat) : markP (m :: r) = if 60 ≤ m ∧ m ≤ 63 then (m, r) else (0, m :: r) := rfl
theorem mark_yes {b : List Nat} (h : 0 < b.length) (h1 : 60 ≤ b[0] ∧ b[0] ≤ 63) : markP b = (b[0], b.drop 1) := by
  cases b with
  | nil => simp at h
  | cons m r => rw [mark_cons, if_pos (show 60 ≤ m ∧ m ≤ 63 from h1)]; rfl
theorem mark_no {b : List Nat} (h : 0 < b.length) (h1 : ¬ (60 ≤ b[0] ∧ b[0] ≤ 63)) : markP b = (0, b) := by
  cases b with
  | nil => simp at h
  | cons m r => rw [mark_cons, if_neg (show ¬ (60 ≤ m ∧ m ≤ 63) from h1)]
def low48 (l : List Nat) : Bool := l.all fun c => decide (c < 48)
/-- A header's bytes, read: the token, and is it good? -/
def parsP (kd : Int) (b : List Nat) : Tok × Bool :=
  let m := markP b.dropLast
  let n := cntP m.2
  let p := parseV (bstr (m.2.take n)).data.toList
  (⟨kd, b.getLastD 0, m.1, p.1, bstr (m.2.drop n), []⟩, decide (p.2 = 0) && (decide ((m.2.drop n).length ≤ 3) && low48 (m.2.drop n)))
theorem size_is {W : World} (A : Option Addr) (cap a b : Nat) : (((sizeOf (Tryd.prog.elem 30)).run Tryd.prog W).andThen fun s w => (.ok (sliced A a b cap s) w : Result Value)) = .ok (sliced A a b cap 1) W := by
  have hs : (sizeOf (Tryd.prog.elem 30)).run Tryd.prog W = .ok 1 W := by kernel_rfl
  rw [hs]
  rfl
/-- The first ones. -/
theorem RByt.firsts {w : World} {A : Option Addr} {l : List Nat} (h : RByt w A l) {n cap : Nat} (hn : n ≤ l.length) (hc : l.length ≤ cap) : ∃ A' c', (∀ W, (Instr.slice 30 (.slice A l.length cap) none (some (.int .i64 (n : Int))) none).run Tryd.prog W = .ok (.slice A' (l.take n).length c') W) ∧ RByt w A' (l.take n) ∧ (l.take n).length ≤ c' := by
  obtain ⟨A', c', h1, h2, _, h4⟩ := h.sub (a := 0) (b := n) (cap := cap) (by omega) hn hc
  rw [List.drop_zero] at h1 h2 h4
  refine ⟨A', c', fun W => ?_, h2, h4⟩
  rw [run_slice_h W _ A l.length cap Tryd.underlying30 .i64 (n : Int) (by omega) (by omega), ← h1]
  exact size_is A cap 0 n
/-- Those behind the first ones. -/
theorem RByt.rest {w : World} {A : Option Addr} {l : List Nat} (h : RByt w A l) {n cap : Nat} (hn : n ≤ l.length) (hc : l.length ≤ cap) : ∃ A' c', (∀ W, (Instr.slice 30 (.slice A l.length cap) (some (.int .i64 (n : Int))) none none).run Tryd.prog W = .ok (.slice A' (l.drop n).length c') W) ∧ RByt w A' (l.drop n) ∧ (l.drop n).length ≤ c' := by
  obtain ⟨A', c', h1, h2, _, h4⟩ := h.sub (a := n) (b := l.length) (cap := cap) hn (Nat.le_refl _) hc
  rw [List.take_length] at h1 h2 h4
  refine ⟨A', c', fun W => ?_, h2, h4⟩
  rw [run_slice_l W _ A l.length cap Tryd.underlying30 .i64 (n : Int) (by omega) (by omega), ← h1]
  exact size_is A cap n l.length
theorem RByt.low {w W : World} {A : Option Addr} {l : List Nat} (h : RByt w A l) (hb : Below w.heap.size w W) : RByt W A l := h.next hb
theorem results_row_tmpP {P : Program} {fn : Func} {p q : Tmp} {ty : TypeId} (h : fn.results = #[.cell p ty, .tmp q]) (tmps : Array Value) (w : World) (g : Nat) (t : TypeId) (cs : Array Value) (fr : Nat × Nat) (d : TypeDesc)
    (hp : tmps.getD p undef = .pointer (some ⟨g, 0, none⟩)) (hg : w.heap[g]? = some (.cells cs t fr))
    (hu : P.underlying ty = some d) (hd : (match d with | .struct _ | .array _ _ => true | _ => false) = true) (hi : (P.info? ty).map (·.size) = some cs.size) :
    (results fn tmps).run P w = .ok (.tuple #[.agg cs, tmps.getD q undef]) w := by
  have hp' : tmps[p]?.getD undef = .pointer (some ⟨g, 0, none⟩) := by simpa using hp
  simp [results, h, hp', asAddr, run_loadVar_row w g t ty cs fr d hg hu hd hi]



/-- What it answers. -/
def PaQ (w w' : World) (r : Tok × Bool) (e : Ending) : Prop := ∃ A c, e = .returned (.tuple #[.agg #[.int .i64 r.1.kd, .int .u8 (r.1.cd : Int), .int .u8 (r.1.mr : Int), .slice A r.1.ps.length c, .string r.1.it, .slice none 0 0], .bool r.2]) ∧ OInts w' w.heap.size (.slice A r.1.ps.length c) r.1.ps ∧ Below w.heap.size w w'
theorem low_snoc (l : List Nat) (c : Nat) : low48 (l ++ [c]) = (low48 l && decide (c < 48)) := by simp [low48]
theorem take_drop_snoc (l : List Nat) (n i : Nat) (hn : n ≤ i) (hi : i < l.length) : (l.take (i + 1)).drop n = (l.take i).drop n ++ [l[i]] := by
  rw [List.take_succ_eq_append_getElem hi, List.drop_append_of_le_length (by simp; omega)]
end Go.Proofs.YtigaaidacndeiaaDoor

namespace Go.Proofs.YtigaaidacndeiaaDoor

open Go Go.RowKit
set_option maxRecDepth 100000

theorem RByt.pre {w : World} {A : Option Addr} {l : List Nat} (h : RByt w A l) (n : Nat) : RByt w A (l.take n) := by
  refine ⟨by simp, fun h0 => ?_⟩
  obtain ⟨ad, rfl, hb, hc⟩ := h.2 (by simp at h0; omega)
  refine ⟨ad, rfl, hb, fun j u hu => hc j u ?_⟩
  rw [List.map_take, List.getElem?_take] at hu
  split at hu
  · exact hu
  · cases hu
theorem ad_zero (ad : Addr) : ad.add 0 = ad := by
  unfold Addr.add
  split <;> simp_all
theorem PaQ.of {w W : World} {kd : Int} {b : List Nat} {A : Option Addr} {c : Nat} {r : Tok × Bool} (X : Array Value) (e : Ending) (hb : Below w.heap.size w W) (hl : OInts W (w.heap.size + 2) (.slice A r.1.ps.length c) r.1.ps) (hr : parsP kd b = r)
    (he : e = .returned (.tuple #[.agg #[.int .i64 r.1.kd, .int .u8 (r.1.cd : Int), .int .u8 (r.1.mr : Int), .slice A r.1.ps.length c, .string r.1.it, .slice none 0 0], .bool r.2])) : PaQ w (W.setRow w.heap.size X) (parsP kd b) e := by
  rw [hr]
  exact ⟨A, c, he, own_base (own_row (oints_own hl) (fun e => by have := own_ge (oints_own hl) _ e; omega)) (by omega), below_gb hb (grown_row W w.heap.size X) (Nat.le_refl _) hb.size⟩

end Go.Proofs.YtigaaidacndeiaaDoor

namespace Go.Proofs.YtigaaidacndeiaaDoor

open Go Go.RowKit
set_option maxRecDepth 100000

/-- How a string ends: its bytes, the place behind it (-1: it hasn't ended), what ended it: 0 nothing, 1 its end, 2 a byte that breaks. -/
structure St where
  D : List Nat
  nx : Int
  how : Nat
  br : Nat
def strL (osc : Bool) : List Nat → Nat → List Nat → St
  | [], _, D => ⟨D, -1, 0, 0⟩
  | c :: l, i, D =>
    if c = 27 then (match l with
      | [] => ⟨D, -1, 0, 0⟩
      | x :: _ => if x % 128 = 92 then ⟨D, ((i + 2 : Nat) : Int), 1, 0⟩ else ⟨D, (i : Int), 2, 27⟩)
    else if c = 7 ∧ osc = true then ⟨D, ((i + 1 : Nat) : Int), 1, 0⟩
    else if brkB c = true then ⟨D, (brkNx c i : Nat), 2, c⟩
    else strL osc l (i + 1) (if dataB c = true then D ++ [c] else D)
theorem strL_end (osc : Bool) (s : List Nat) (k : Nat) (h : k + 1 = s.length) (h27 : s[k] = 27) (D : List Nat) : strL osc (s.drop k) k D = ⟨D, -1, 0, 0⟩ := by
  have hd : s.drop (k + 1) = [] := List.drop_of_length_le (by omega)
  rw [List.drop_eq_getElem_cons (by omega), hd, h27]
  rfl
theorem strL_esc (osc : Bool) (s : List Nat) (k : Nat) (h : k + 1 < s.length) (h27 : s[k] = 27) (D : List Nat) : strL osc (s.drop k) k D = if s[k + 1] % 128 = 92 then ⟨D, ((k + 2 : Nat) : Int), 1, 0⟩ else ⟨D, (k : Int), 2, 27⟩ := by
  rw [List.drop_eq_getElem_cons (by omega), List.drop_eq_getElem_cons h, h27]
  rfl
theorem strL_cons (osc : Bool) (s : List Nat) (k : Nat) (h : k < s.length) (h27 : s[k] ≠ 27) (D : List Nat) : strL osc (s.drop k) k D =
    if s[k] = 7 ∧ osc = true then ⟨D, ((k + 1 : Nat) : Int), 1, 0⟩
    else if brkB s[k] = true then ⟨D, (brkNx s[k] k : Nat), 2, s[k]⟩
    else strL osc (s.drop (k + 1)) (k + 1) (if dataB s[k] = true then D ++ [s[k]] else D) := by
  rw [List.drop_eq_getElem_cons h]
  show (if s[k] = 27 then _ else _) = _
  rw [if_neg h27]
/-- What it is, with what was said ahead of it. -/
def strT (t : Tok) (good : Bool) (r : St) (C : List Nat) : List Tok :=
  if r.how = 1 then C.map ctlT ++ (if (good && decide (r.D.length ≤ 4096)) = true then [{t with dt := r.D}] else []) else (if r.how = 2 then brkC r.br C else C).map ctlT


theorem own_ty {w : World} {b n sz g : Nat} {T U : TypeId} {v : Value} {xs : List Value} {cs : Array Value} (h : w.ownsRow b T sz v n xs) (hb : Blk w g U cs) (hT : T ≠ U) : v.ownBlock ≠ some g := fun e => by
  rcases h.2 with ⟨rfl, _⟩ | ⟨g1, cap, cur, rfl, _, hg, _⟩
  · simp [Value.ownBlock] at e
  · obtain rfl : g1 = g := by simpa [Value.ownBlock] using e
    rw [show w.heap[g1]? = some (.cells cs U (0, 0)) from hb] at hg
    injection hg with hg
    injection hg with _ hg _
    exact hT hg.symm

def ptZ : Array Value := #[.slice none 0 0, .int .i64 0]

section

variable {w W W' : World} {kd : Int} {cd mr : Nat} {p : Value} {it : ByteArray} {D : List Nat} {v5 : Value}








end

end Go.Proofs.YtigaaidacndeiaaDoor

namespace Go.Proofs.YtigaaidacndeiaaDoor

open Go Go.RowKit
set_option maxRecDepth 100000


end Go.Proofs.YtigaaidacndeiaaDoor

namespace Go.Proofs.YtigaaidacndeiaaDoor

open Go Go.RowKit
set_option maxRecDepth 100000

theorem hdr_facts (last N : Nat) : ∀ (l : List Nat) (i : Nat) (C B : List Nat), i + l.length = N → (∀ x ∈ B, x < 128) →
    ((hdrL last l i C B).en = 0 ∨ ((hdrL last l i C B).en = 2 ∧ (hdrL last l i C B).nx < N) ∨ ((hdrL last l i C B).en = 1 ∧ (hdrL last l i C B).nx ≤ N ∧ 0 < (hdrL last l i C B).B.length)) ∧ (hdrL last l i C B).C.length ≤ C.length + l.length ∧ (hdrL last l i C B).B.length ≤ B.length + l.length ∧ (∀ x ∈ (hdrL last l i C B).B, x < 128) := by
  intro l
  induction l with
  | nil => intro i C B _ hB; exact ⟨.inl rfl, Nat.le_refl _, Nat.le_refl _, hB⟩
  | cons c l ih =>
    intro i C B hN hB
    have hN' : i + 1 + l.length = N := by simp at hN; omega
    have hBc : ∀ x ∈ B ++ [c % 128], x < 128 := fun x hx => by
      rcases List.mem_append.1 hx with h | h
      · exact hB x h
      · obtain rfl : x = c % 128 := by simpa using h
        exact Nat.mod_lt _ (by decide)
    unfold hdrL
    by_cases h1 : brkB c = true
    · rw [if_pos h1]
      exact ⟨.inr (.inl ⟨rfl, by show i < N; omega⟩), by show C.length ≤ _; omega, by show B.length ≤ _; omega, hB⟩
    rw [if_neg h1]
    by_cases h2 : c < 32
    · rw [if_pos h2]
      obtain ⟨q1, q2, q3, q4⟩ := ih (i + 1) (C ++ [c]) B hN' hB
      exact ⟨q1, by simp at q2 ⊢; omega, by simp at q3 ⊢; omega, q4⟩
    rw [if_neg h2]
    by_cases h3 : c % 128 = 127
    · rw [if_pos h3]
      obtain ⟨q1, q2, q3, q4⟩ := ih (i + 1) C B hN' hB
      exact ⟨q1, by simp at q2 ⊢; omega, by simp at q3 ⊢; omega, q4⟩
    rw [if_neg h3]
    by_cases h4 : last ≤ c % 128
    · rw [if_pos h4]
      exact ⟨.inr (.inr ⟨rfl, by show i + 1 ≤ N; omega, by show 0 < (B ++ [c % 128]).length; simp⟩), by show C.length ≤ _; omega, by show (B ++ [c % 128]).length ≤ _; simp, hBc⟩
    · rw [if_neg h4]
      obtain ⟨q1, q2, q3, q4⟩ := ih (i + 1) C (B ++ [c % 128]) hN' hBc
      exact ⟨q1, by simp at q2 ⊢; omega, by simp at q3 ⊢; omega, q4⟩
structure HdF (N : Nat) (h : Hd) : Prop where
  en : h.en = 0 ∨ (h.en = 2 ∧ h.nx < N) ∨ (h.en = 1 ∧ h.nx ≤ N ∧ 0 < h.B.length)
  C : h.C.length ≤ N
  B : h.B.length ≤ N
  b : ∀ x ∈ h.B, x < 128
theorem hdrF (last : Nat) (s : List Nat) (k : Nat) (hk : k ≤ s.length) : HdF s.length (hdrL last (s.drop k) k [] []) := by
  obtain ⟨q1, q2, q3, q4⟩ := hdr_facts last s.length (s.drop k) k [] [] (by simp; omega) (by simp)
  exact ⟨q1, by simp at q2; omega, by simp at q3; omega, q4⟩
/-- What is behind the first header. -/
def seqB (s : List Nat) (kd : Nat) (C : List Nat) (nx : Nat) : List Tok × Int :=
  let g := hdrL 64 (s.drop nx) nx [] []
  if g.en = 0 then ((C ++ g.C).map ctlT, -1)
  else if g.en = 2 then ((brkC (s.getD g.nx 0) (C ++ g.C)).map ctlT, (brkNx (s.getD g.nx 0) g.nx : Nat))
  else
    let p := parsP (kd : Int) g.B
    if kd = 5 then (strT p.1 p.2 (strL ((kd : Int) == 6) (s.drop g.nx) g.nx []) (C ++ g.C), (strL ((kd : Int) == 6) (s.drop g.nx) g.nx []).nx)
    else ((C ++ g.C).map ctlT ++ (if p.2 = true then [p.1] else []), (g.nx : Int))
/-- What begins with the escape ahead of a place: what it says, and the place behind it. -/
def seqP (s : List Nat) (k : Nat) : List Tok × Int :=
  let h := hdrL 48 (s.drop k) k [] []
  if h.en = 0 then (h.C.map ctlT, -1)
  else if h.en = 2 then ((brkC (s.getD h.nx 0) h.C).map ctlT, (brkNx (s.getD h.nx 0) h.nx : Nat))
  else
    let n := h.B.length - 1
    let c := h.B.getD n 0
    let kd := begunP c
    if 0 < n ∨ kd = 0 then (h.C.map ctlT ++ (if n ≤ 3 ∧ (0 < n ∨ c ≠ 92) then [⟨3, c, 0, [], bstr (h.B.take n), []⟩] else []), (h.nx : Int))
    else if 5 < kd then (strT ⟨(kd : Int), 0, 0, [], ⟨#[]⟩, []⟩ true (strL ((kd : Int) == 6) (s.drop h.nx) h.nx []) h.C, (strL ((kd : Int) == 6) (s.drop h.nx) h.nx []).nx)
    else seqB s kd h.C h.nx








end Go.Proofs.YtigaaidacndeiaaDoor

namespace Go.Proofs.YtigaaidacndeiaaDoor

open Go Go.RowKit
set_option maxRecDepth 100000

def seqA (s : List Nat) (h : Hd) : List Tok × Int :=
  if h.en = 0 then (h.C.map ctlT, -1)
  else if h.en = 2 then ((brkC (s.getD h.nx 0) h.C).map ctlT, (brkNx (s.getD h.nx 0) h.nx : Nat))
  else if 0 < h.B.length - 1 ∨ begunP (h.B.getD (h.B.length - 1) 0) = 0 then (h.C.map ctlT ++ (if h.B.length - 1 ≤ 3 ∧ (0 < h.B.length - 1 ∨ h.B.getD (h.B.length - 1) 0 ≠ 92) then [⟨3, h.B.getD (h.B.length - 1) 0, 0, [], bstr (h.B.take (h.B.length - 1)), []⟩] else []), (h.nx : Int))
  else if 5 < begunP (h.B.getD (h.B.length - 1) 0) then (strT ⟨(begunP (h.B.getD (h.B.length - 1) 0) : Int), 0, 0, [], ⟨#[]⟩, []⟩ true (strL ((begunP (h.B.getD (h.B.length - 1) 0) : Int) == 6) (s.drop h.nx) h.nx []) h.C, (strL ((begunP (h.B.getD (h.B.length - 1) 0) : Int) == 6) (s.drop h.nx) h.nx []).nx)
  else seqB s (begunP (h.B.getD (h.B.length - 1) 0)) h.C h.nx
theorem seqP_eq (s : List Nat) (k : Nat) : seqP s k = seqA s (hdrL 48 (s.drop k) k [] []) := rfl
theorem getD_at (s : List Nat) (k : Nat) (h : k < s.length) : s.getD k 0 = s[k] := by simp [List.getD, h]



end Go.Proofs.YtigaaidacndeiaaDoor

namespace Go.Proofs.YtigaaidacndeiaaDoor

open Go Go.RowKit
set_option maxRecDepth 100000

theorem hdr_lo (last : Nat) : ∀ (l : List Nat) (i : Nat) (C B : List Nat), (hdrL last l i C B).en = 0 ∨ ((hdrL last l i C B).en = 2 ∧ i ≤ (hdrL last l i C B).nx) ∨ ((hdrL last l i C B).en = 1 ∧ i < (hdrL last l i C B).nx) := by
  intro l
  induction l with
  | nil => intro i C B; exact .inl rfl
  | cons c l ih =>
    intro i C B
    have step : ∀ C' B', (hdrL last l (i + 1) C' B').en = 0 ∨ ((hdrL last l (i + 1) C' B').en = 2 ∧ i ≤ (hdrL last l (i + 1) C' B').nx) ∨ ((hdrL last l (i + 1) C' B').en = 1 ∧ i < (hdrL last l (i + 1) C' B').nx) := fun C' B' => by
      rcases ih (i + 1) C' B' with h | ⟨h, h2⟩ | ⟨h, h2⟩
      · exact .inl h
      · exact .inr (.inl ⟨h, by omega⟩)
      · exact .inr (.inr ⟨h, by omega⟩)
    unfold hdrL
    by_cases h1 : brkB c = true
    · rw [if_pos h1]; exact .inr (.inl ⟨rfl, Nat.le_refl _⟩)
    rw [if_neg h1]
    by_cases h2 : c < 32
    · rw [if_pos h2]; exact step _ _
    rw [if_neg h2]
    by_cases h3 : c % 128 = 127
    · rw [if_pos h3]; exact step _ _
    rw [if_neg h3]
    by_cases h4 : last ≤ c % 128
    · rw [if_pos h4]; exact .inr (.inr ⟨rfl, Nat.lt_succ_self i⟩)
    · rw [if_neg h4]; exact step _ _
theorem brkNx_lo (c k : Nat) : k ≤ brkNx c k ∧ brkNx c k ≤ k + 1 := by unfold brkNx; split <;> omega
theorem str_next (osc : Bool) (N : Nat) : ∀ (l : List Nat) (i : Nat) (D : List Nat), i + l.length = N → (strL osc l i D).nx < 0 ∨ ((i : Int) ≤ (strL osc l i D).nx ∧ (strL osc l i D).nx ≤ (N : Int)) := by
  intro l
  induction l with
  | nil => intro i D _; exact .inl (by show (-1 : Int) < 0; decide)
  | cons c l ih =>
    intro i D hN
    have hN' : i + 1 + l.length = N := by simp at hN; omega
    unfold strL
    by_cases h1 : c = 27
    · rw [if_pos h1]
      cases l with
      | nil => exact .inl (by show (-1 : Int) < 0; decide)
      | cons x l =>
        simp at hN'
        by_cases h2 : x % 128 = 92
        · simp only [if_pos h2]; exact .inr ⟨by omega, by omega⟩
        · simp only [if_neg h2]; exact .inr ⟨by omega, by omega⟩
    rw [if_neg h1]
    by_cases h2 : c = 7 ∧ osc = true
    · rw [if_pos h2]; exact .inr ⟨by show (i : Int) ≤ ((i + 1 : Nat) : Int); omega, by show ((i + 1 : Nat) : Int) ≤ _; omega⟩
    rw [if_neg h2]
    by_cases h3 : brkB c = true
    · rw [if_pos h3]
      have := brkNx_lo c i
      exact .inr ⟨by show (i : Int) ≤ ((brkNx c i : Nat) : Int); omega, by show ((brkNx c i : Nat) : Int) ≤ _; omega⟩
    rw [if_neg h3]
    rcases ih (i + 1) (if dataB c = true then D ++ [c] else D) hN' with h | ⟨h, h'⟩
    · exact .inl h
    · exact .inr ⟨by omega, h'⟩
theorem hdr_at {last : Nat} {s : List Nat} {k : Nat} (hk : k ≤ s.length) {h : Hd} (e : h = hdrL last (s.drop k) k [] []) : h.en = 0 ∨ (h.en = 2 ∧ k ≤ h.nx ∧ h.nx < s.length) ∨ (h.en = 1 ∧ k < h.nx ∧ h.nx ≤ s.length ∧ 0 < h.B.length) := by
  have h1 := hdr_lo last (s.drop k) k [] []
  have h2 := (hdrF last s k hk).en
  rw [← e] at h1 h2
  omega
theorem seqB_next (s : List Nat) (kd : Nat) (C : List Nat) (nx : Nat) (hn : nx ≤ s.length) : (seqB s kd C nx).2 < 0 ∨ ((nx : Int) ≤ (seqB s kd C nx).2 ∧ (seqB s kd C nx).2 ≤ (s.length : Int)) := by
  have h := hdr_at hn (last := 64) rfl
  unfold seqB
  generalize hdrL 64 (s.drop nx) nx [] [] = g at *
  dsimp only
  rcases h with h | ⟨h, h1, h2⟩ | ⟨h, h1, h2, _⟩
  · rw [if_pos h]; exact .inl (by show (-1 : Int) < 0; decide)
  · rw [if_neg (by omega), if_pos h]
    have := brkNx_lo (s.getD g.nx 0) g.nx
    exact .inr ⟨by show (nx : Int) ≤ ((brkNx (s.getD g.nx 0) g.nx : Nat) : Int); omega, by show ((brkNx (s.getD g.nx 0) g.nx : Nat) : Int) ≤ _; omega⟩
  · rw [if_neg (by omega), if_neg (by omega)]
    split
    · rcases str_next ((kd : Int) == 6) s.length (s.drop g.nx) g.nx [] (by simp; omega) with q | ⟨q, q'⟩
      · exact .inl q
      · exact .inr ⟨by show (nx : Int) ≤ (strL _ _ _ _).nx; omega, q'⟩
    · exact .inr ⟨by show (nx : Int) ≤ (g.nx : Int); omega, by show (g.nx : Int) ≤ _; omega⟩
theorem seq_next (s : List Nat) (k : Nat) (hk : k ≤ s.length) : (seqP s k).2 < 0 ∨ ((k : Int) ≤ (seqP s k).2 ∧ (seqP s k).2 ≤ (s.length : Int)) := by
  have h := hdr_at hk (last := 48) rfl
  rw [seqP_eq]
  unfold seqA
  generalize hdrL 48 (s.drop k) k [] [] = g at *
  rcases h with h | ⟨h, h1, h2⟩ | ⟨h, h1, h2, _⟩
  · rw [if_pos h]; exact .inl (by show (-1 : Int) < 0; decide)
  · rw [if_neg (by omega), if_pos h]
    have := brkNx_lo (s.getD g.nx 0) g.nx
    exact .inr ⟨by show (k : Int) ≤ ((brkNx (s.getD g.nx 0) g.nx : Nat) : Int); omega, by show ((brkNx (s.getD g.nx 0) g.nx : Nat) : Int) ≤ _; omega⟩
  · rw [if_neg (by omega), if_neg (by omega)]
    split
    · exact .inr ⟨by show (k : Int) ≤ (g.nx : Int); omega, by show (g.nx : Int) ≤ _; omega⟩
    · split
      · rcases str_next ((begunP (g.B.getD (g.B.length - 1) 0) : Int) == 6) s.length (s.drop g.nx) g.nx [] (by simp; omega) with q | ⟨q, q'⟩
        · exact .inl q
        · exact .inr ⟨by show (k : Int) ≤ (strL _ _ _ _).nx; omega, q'⟩
      · rcases seqB_next s (begunP (g.B.getD (g.B.length - 1) 0)) g.C g.nx h2 with q | ⟨q, q'⟩
        · exact .inl q
        · exact .inr ⟨by omega, q'⟩
def oneT (c : Nat) : List Tok := if 32 ≤ c then [prtT c] else if c ≠ 24 then [ctlT c] else []
/-- The reference's Split, from a place on. -/
def splW (s : List Nat) (i : Nat) : List Tok × Bool :=
  if h : i < s.length then
    if s[i] = 27 then
      if hn : (seqP s (i + 1)).2 < 0 then ((seqP s (i + 1)).1, true)
      else ((seqP s (i + 1)).1 ++ (splW s (seqP s (i + 1)).2.toNat).1, (splW s (seqP s (i + 1)).2.toNat).2)
    else (oneT s[i] ++ (splW s (i + 1)).1, (splW s (i + 1)).2)
  else ([], false)
termination_by s.length - i
decreasing_by
  all_goals (have := seq_next s (i + 1) (by omega); omega)
theorem brkC_len (c : Nat) (C : List Nat) : (brkC c C).length ≤ C.length + 1 := by unfold brkC; split <;> simp
theorem strT_len (t : Tok) (g : Bool) (r : St) (C : List Nat) : (strT t g r C).length ≤ C.length + 1 := by
  unfold strT
  split
  · rw [List.length_append, List.length_map]
    split <;> simp
  · split
    · rw [List.length_map]; exact brkC_len _ _
    · simp
theorem seq_len (s : List Nat) (k : Nat) (hk : k ≤ s.length) : (seqP s k).1.length ≤ 2 * s.length + 2 := by
  have hC := (hdrF 48 s k hk).C
  have hx := hdr_at hk (last := 48) rfl
  rw [seqP_eq]
  unfold seqA
  generalize hdrL 48 (s.drop k) k [] [] = h at *
  have b1 := brkC_len (s.getD h.nx 0) h.C
  split
  · simp; omega
  · split
    · show (List.map _ _).length ≤ _
      rw [List.length_map]
      omega
    · split
      · rw [List.length_append, List.length_map]
        split <;> simp <;> omega
      · split
        · have := strT_len ⟨(begunP (h.B.getD (h.B.length - 1) 0) : Int), 0, 0, [], ⟨#[]⟩, []⟩ true (strL ((begunP (h.B.getD (h.B.length - 1) 0) : Int) == 6) (s.drop h.nx) h.nx []) h.C
          dsimp only at this ⊢
          omega
        · have hnx : h.nx ≤ s.length := by omega
          have hG := (hdrF 64 s h.nx hnx).C
          unfold seqB
          generalize hdrL 64 (s.drop h.nx) h.nx [] [] = g at *
          dsimp only
          have b2 := brkC_len (s.getD g.nx 0) (h.C ++ g.C)
          rw [List.length_append] at b2
          split
          · simp; omega
          · split
            · show (List.map _ _).length ≤ _
              rw [List.length_map]
              omega
            · split
              · have := strT_len (parsP (begunP (h.B.getD (h.B.length - 1) 0) : Int) g.B).1 (parsP (begunP (h.B.getD (h.B.length - 1) 0) : Int) g.B).2 (strL ((begunP (h.B.getD (h.B.length - 1) 0) : Int) == 6) (s.drop g.nx) g.nx []) (h.C ++ g.C)
                rw [List.length_append] at this
                dsimp only at this ⊢
                omega
              · dsimp only
                rw [List.length_append, List.length_map, List.length_append]
                split <;> simp <;> omega
theorem plainL_lt (ns : List Nat) (h : ∀ x ∈ ns, x < 256) : ∀ x ∈ plainL ns, x < 256 := fun x hx => by
  unfold plainL at hx
  obtain ⟨c, hc, hx⟩ := List.mem_flatMap.1 hx
  have := h c hc
  unfold plainC at hx
  split at hx
  · simp at hx
  · split at hx
    · simp at hx; omega
    · simp at hx; omega
theorem OTk.keepT {w w' : World} {base b n sz : Nat} {v u : Value} {t : Tok} {T : TypeId} {xs : List Value} (h : OTk w base v t) (ho : w.ownsRow b T sz u n xs) (h1 : 3 ≠ T) (h2 : 5 ≠ T) (hg : w.grownBy w' u.ownBlock) : OTk w' base v t := by
  obtain ⟨A, c, B, d, e, g1, g2⟩ := h
  exact ⟨A, c, B, d, e, World.ownsRow.kept g1 hg (own_apart g1 ho h1), World.ownsRow.kept g2 hg (own_apart g2 ho h2)⟩
theorem OTl.keepT {w w' : World} {base b n sz : Nat} {u : Value} {T : TypeId} {ys : List Value} (ho : w.ownsRow b T sz u n ys) (h1 : 3 ≠ T) (h2 : 5 ≠ T) (hg : w.grownBy w' u.ownBlock) : ∀ {xs : List (Array Value)} {ts : List Tok}, OTl w base xs ts → OTl w' base xs ts
  | [], [], _ => trivial
  | _ :: _, _ :: _, h => ⟨h.1.keepT ho h1 h2 hg, OTl.keepT ho h1 h2 hg h.2⟩

end Go.Proofs.YtigaaidacndeiaaDoor

namespace Go.Proofs.YtigaaidacndeiaaDoor

open Go Go.RowKit
set_option maxRecDepth 100000

theorem splW_esc {s : List Nat} {i : Nat} (h : i < s.length) (h27 : s[i] = 27) : splW s i = if (seqP s (i + 1)).2 < 0 then ((seqP s (i + 1)).1, true) else ((seqP s (i + 1)).1 ++ (splW s (seqP s (i + 1)).2.toNat).1, (splW s (seqP s (i + 1)).2.toNat).2) := by
  rw [splW, dif_pos h, if_pos h27]
  split <;> rfl
theorem splW_one {s : List Nat} {i : Nat} (h : i < s.length) (h27 : s[i] ≠ 27) : splW s i = (oneT s[i] ++ (splW s (i + 1)).1, (splW s (i + 1)).2) := by
  rw [splW, dif_pos h, if_neg h27]
theorem splW_end {s : List Nat} {i : Nat} (h : ¬ i < s.length) : splW s i = ([], false) := by rw [splW, dif_neg h]
theorem pt2 {W : World} {b : Nat} {T : TypeId} {x y : Value} (h : Blk W b T #[x, y]) : W.cell? ⟨b, 0, none⟩ = some x ∧ W.cell? ⟨b, 1, none⟩ = some y := ⟨h.cell 0, h.cell 1⟩
def onX (k : Int) (c : Nat) : Array Value := #[.int .i64 k, .int .u8 (c : Int), .int .u8 0, .slice none 0 0, .string ⟨#[]⟩, .slice none 0 0]
theorem onX_one (k : Int) (c : Nat) : ∀ u ∈ ([.int .i64 k, .int .u8 (c : Int), .int .u8 0, .slice none 0 0, .string ⟨#[]⟩, .slice none 0 0] : List Value), u.oneCell' = true := by simp [Value.oneCell']


end Go.Proofs.YtigaaidacndeiaaDoor
