/-
  Parsers that are held against each other.
  Lists of tokens that are held against each other; lists that are told.
  Lists of tokens that are told; tokens behind tokens; a parser that is copied.
  What the laws of the parser share: pieces of a stream, what came in, the sizes of what is told.
-/
import Derived.Test.YtigaaidacndeiaaDoorPrsR
import Derived.Test.YtigaaidacndeiaaDoorTokY
import Derived.Deep.MidRow
import Derived.ChangeKeysEq
import Derived.Laws.StructEq
import Derived.Test.YtigaaidacndeiaaDoorPrsU
namespace Go.Proofs.YtigaaidacndeiaaDoor

open Go Go.RowKit

section

variable {P : Program} (w : World)

theorem all_range_eqI : ∀ (xs ys : List Int), xs.length = ys.length → ((List.range xs.length).all fun i => xs.getD i 0 == ys.getD i 0) = (xs == ys)
  | [], [], _ => rfl
  | x :: xs, y :: ys, h => by
    have ih := all_range_eqI xs ys (by simpa using h)
    rw [List.length_cons, List.range_succ_eq_map, List.all_cons, List.all_map]
    simp only [List.getD_cons_zero, Function.comp_def, List.getD_cons_succ, ih]
    simp [List.cons_beq_cons]
  | [], _ :: _, h => by simp at h
  | _ :: _, [], h => by simp at h
theorem run_equalIn_intArr (d : Nat) (t e : TypeId) (n : Nat) (k : IntKind) {i : TypeInfo} (ht : P.underlying t = some (.array n e)) (he : P.underlying e = some (.int k)) (hi : P.info? e = some i) (hc : P.cellsOf e = 1)
    (xs ys : List Int) (hx : xs.length = n) (hy : ys.length = n) :
    (Op.equalIn (d + 2) t (.agg (xs.map (Value.int k)).toArray) (.agg (ys.map (Value.int k)).toArray)).run P w = .ok (xs == ys) w := by
  rw [← all_range_eqI xs ys (hx.trans hy.symm), hx, run_equalIn_array w (d + 1) _ _ ht hi, hc]
  have hl : ∀ i ∈ List.range n, i < n := fun i hi => List.mem_range.1 hi
  generalize List.range n = l at hl ⊢
  induction l with
  | nil => simp [Op.eqItems]
  | cons i l ih =>
    have hi : i < n := hl i (by simp)
    have px : (part e (xs.map (Value.int k)).toArray (i * 1)).run P w = .ok (.int k (xs.getD i 0)) w := by
      simp [part, isAgg, run_underlying he, List.getD, List.getElem?_eq_getElem (show i < xs.length by omega)]
    have py : (part e (ys.map (Value.int k)).toArray (i * 1)).run P w = .ok (.int k (ys.getD i 0)) w := by
      simp [part, isAgg, run_underlying he, List.getD, List.getElem?_eq_getElem (show i < ys.length by omega)]
    have pe : (Op.equalIn (d + 1) e (.int k (xs.getD i 0)) (.int k (ys.getD i 0))).run P w = .ok (xs.getD i 0 == ys.getD i 0) w := by
      rw [run_equalIn_int w d e k k _ _ he]
    simp only [Op.eqItems, Sem.run_bind, px, py, pe, Result.andThen_ok, List.all_cons]
    cases hb : (xs.getD i 0 == ys.getD i 0)
    · simp
    · simp only [Bool.not_true, Bool.false_eq_true, if_false, Bool.true_and]
      exact ih fun j hj => hl j (by simp [hj])
end

theorem apUnder : Tryd.prog.underlying 46 = some (.struct (Tryd.prog.fieldsOf 46)) := by kernel_rfl
theorem apArr : Tryd.prog.underlying 44 = some (.array 30 3) := by kernel_rfl
theorem apStood : Tryd.prog.stoodInHeld 46 = false := by kernel_rfl
theorem apGuard : Tryd.prog.eqGuardType Tryd.prog.depth 46 = false := by kernel_rfl
theorem apFields : (Tryd.prog.fieldsOf 46).toList.map (fun f => (f.name != "_", f.type, f.offset)) = [(true, 44, 0), (true, 3, 30)] := by kernel_rfl
theorem apInfo : ∃ i, Tryd.prog.info? 3 = some i := Option.isSome_iff_exists.1 (show (Tryd.prog.info? 3).isSome = true by kernel_rfl)
theorem apByte : ∃ i, Tryd.prog.info? 5 = some i := Option.isSome_iff_exists.1 (show (Tryd.prog.info? 5).isSome = true by kernel_rfl)
theorem apNums (W : World) (xs : Array Value) : (part 44 xs 0).run Tryd.prog W = .ok (.agg (xs.extract 0 30)) W := by kernel_rfl
theorem apCnt (W : World) (xs : Array Value) (v : Value) (h : xs[30]? = some v) : (part 3 xs 30).run Tryd.prog W = .ok v W := by simp [part, h]
theorem apSize : (Tryd.prog.info? 46).map (·.size) = some 31 := by kernel_rfl
theorem daUnder : Tryd.prog.underlying 49 = some (.array 4096 5) := by kernel_rfl
theorem daGuard : Tryd.prog.eqGuardType Tryd.prog.depth 49 = false := by kernel_rfl
theorem daSize : (Tryd.prog.info? 49).map (·.size) = some 4096 := by kernel_rfl
set_option maxRecDepth 100000 in
theorem eqAccP (W : World) (m : Nat) (s : Ps) : (Op.equalIn (m + 3) 46 (.agg s.acc.toArray) (.agg s.acc.toArray)).run Tryd.prog W = .ok true W := by
  rw [run_equalIn_struct W (m + 2) 46 _ _ apUnder apStood]
  obtain ⟨l, hl⟩ : ∃ l, (Tryd.prog.fieldsOf 46).toList = l := ⟨_, rfl⟩
  have hf := apFields
  rw [hl] at hf ⊢
  match l, hf with
  | [f0, f1], hf =>
    simp only [List.map_cons, List.map_nil, List.cons.injEq, Prod.mk.injEq, bne_iff_ne, and_true] at hf
    obtain ⟨⟨n0, t0, o0⟩, n1, t1, o1⟩ := hf
    obtain ⟨i, hi⟩ := apInfo
    have hx : s.acc.toArray.extract 0 30 = ((padF s.fs).map (Value.int .i64)).toArray := by
      unfold Ps.acc
      rw [List.extract_toArray, List.extract_eq_take_drop]
      simp only [List.drop_zero, Nat.sub_zero]
      rw [List.take_append_of_le_length (by rw [List.length_map, padF_len]; exact Nat.le_refl _), List.take_of_length_le (by rw [List.length_map, padF_len]; exact Nat.le_refl _)]
    have hc : s.acc.toArray[30]? = some (.int .i64 ((min s.fs.length 31 : Nat) : Int)) := by
      rw [List.getElem?_toArray]
      unfold Ps.acc
      rw [List.getElem?_append_right (by rw [List.length_map, padF_len]; exact Nat.le_refl _), List.length_map, padF_len]
      rfl
    have E1 : (Op.equalIn (m + 2) 44 (.agg ((padF s.fs).map (Value.int .i64)).toArray) (.agg ((padF s.fs).map (Value.int .i64)).toArray)).run Tryd.prog W = .ok true W := by
      rw [run_equalIn_intArr W m 44 3 30 .i64 apArr Tryd.underlying3 hi (by kernel_rfl) _ _ (padF_len _) (padF_len _)]
      simp
    have P1 := apCnt W s.acc.toArray _ hc
    simp only [Op.eqFields, t0, t1, o0, o1, n0, n1, ne_eq, not_false_eq_true, if_true, Sem.run_bind, apNums, hx, Result.andThen_ok, E1, Bool.not_true, if_false, P1, run_equalIn_int W (m + 1) 3 .i64 .i64 _ _ Tryd.underlying3, Bool.false_eq_true]
    simp
def datI (s : Ps) : List Int := s.ds.map (fun n : Nat => (n : Int)) ++ List.replicate (4096 - s.ds.length) 0
theorem dat_is (s : Ps) : s.dat = (datI s).map (Value.int .u8) := by simp [Ps.dat, datI, Function.comp_def]
theorem datI_len (s : Ps) (h : s.ds.length ≤ 4096) : (datI s).length = 4096 := by simp [datI]; omega
set_option maxRecDepth 100000 in
theorem eqDatP (W : World) (m : Nat) (s : Ps) (h : s.ds.length ≤ 4096) : (Op.equalIn (m + 2) 49 (.agg s.dat.toArray) (.agg s.dat.toArray)).run Tryd.prog W = .ok true W := by
  obtain ⟨i, hi⟩ := apByte
  rw [dat_is, run_equalIn_intArr W m 49 5 4096 .u8 daUnder Tryd.underlying5 hi (by kernel_rfl) _ _ (datI_len s h) (datI_len s h)]
  simp
theorem PsB.accAt {w : World} {g : Nat} {s : Ps} (h : PsB w g s) : w.rangeAt g 7 s.acc := fun j v hv => by
  have hj : j < 31 := by rw [← acc_len s]; exact (List.getElem?_eq_some_iff.1 hv).1
  exact h.at_ _ _ (by rw [cell_acc s j hj]; exact hv)
theorem PsB.datAt {w : World} {g : Nat} {s : Ps} (h : PsB w g s) : w.rangeAt g 40 s.dat := fun j v hv => by
  refine h.at_ _ _ ?_
  unfold Ps.cells
  rw [List.getElem?_append_right (by rw [beg_len]; omega), beg_len, Nat.add_sub_cancel_left]
  exact hv
theorem exec_load_midP {P : Program} {o : Oper} {a : Act} (T : TypeId) (x : Operand) (ho : o.op = .load T x) {g k : Nat} {cs : List Value} {w : World} {d : TypeDesc} (hx : a.eval x = .pointer (some ⟨g, k, none⟩))
    (hc : w.rangeAt g k cs) (hu : P.underlying T = some d) (hd : d.isRow = true) (hi : (P.info? T).map (·.size) = some cs.length) : (execOp a.eval o).run P w = .ok (.value (.agg cs.toArray)) w := by
  unfold execOp
  simp only [ho, hx, Instr.loadAt, Instr.sureAddr, Sem.run_bind, Sem.run_pure, Result.andThen_ok, run_loadVar_mid w g k T cs d hc hu hd hi]

/-- A parser's first cells, and whether it is void. -/
def Head (w : World) (g : Nat) (pl kd cd mr : Int) (it : ByteArray) (vo : Bool) : Prop :=
  w.cell? ⟨g, 0, none⟩ = some (.int .i64 pl) ∧ w.cell? ⟨g, 1, none⟩ = some (.int .i64 kd) ∧ w.cell? ⟨g, 2, none⟩ = some (.int .u8 cd) ∧ w.cell? ⟨g, 3, none⟩ = some (.int .u8 mr) ∧ w.cell? ⟨g, 4, none⟩ = some (.slice none 0 0) ∧ w.cell? ⟨g, 5, none⟩ = some (.string it) ∧ w.cell? ⟨g, 6, none⟩ = some (.slice none 0 0) ∧ w.cell? ⟨g, 39, none⟩ = some (.bool vo)
theorem PsB.head {w : World} {g : Nat} {s : Ps} (h : PsB w g s) : Head w g s.pl s.kd s.cd s.mr s.it s.vo :=
  ⟨h.at_ 0 _ rfl, h.at_ 1 _ rfl, h.at_ 2 _ rfl, h.at_ 3 _ rfl, h.at_ 4 _ rfl, h.at_ 5 _ rfl, h.at_ 6 _ rfl, h.at_ 39 _ (cell_void s)⟩


end Go.Proofs.YtigaaidacndeiaaDoor

namespace Go.Proofs.YtigaaidacndeiaaDoor

open Go Go.RowKit

def sameT (t u : Tok) : Bool := sameQ t.kd (t.cd : Int) (t.mr : Int) t.ps t.it t.dt u.kd (u.cd : Int) (u.mr : Int) u.ps u.it u.dt
theorem sameT_self (t : Tok) : sameT t t = true := by simp [sameT, sameQ]
def areP (ts us : List Tok) : Prop := ts.length = us.length ∧ ∀ (k : Nat) (_h1 : k < ts.length) (_h2 : k < us.length), sameT ts[k] us[k] = true
theorem areP_self (ts : List Tok) : areP ts ts := ⟨rfl, fun _ _ _ => sameT_self _⟩
theorem RTs.blt {w : World} {ts : List Tok} {ad : Addr} (h : RTs w (some ad) ts) (h0 : 0 < ts.length) : ad.block < w.heap.size := by
  obtain ⟨xs, h1, _⟩ := h
  obtain ⟨ad', e, hb, _⟩ := h1.2 h0
  injection e with e; subst e; exact hb
/-- A token's six cells. -/
def Six (w : World) (p : Addr) (k : Int) (c m : Nat) (v3 : Value) (s : ByteArray) (v5 : Value) : Prop :=
  w.cell? p = some (.int .i64 k) ∧ w.cell? ⟨p.block, p.off + 1, none⟩ = some (.int .u8 (c : Int)) ∧ w.cell? ⟨p.block, p.off + 2, none⟩ = some (.int .u8 (m : Int)) ∧ w.cell? ⟨p.block, p.off + 3, none⟩ = some v3 ∧ w.cell? ⟨p.block, p.off + 4, none⟩ = some (.string s) ∧ w.cell? ⟨p.block, p.off + 5, none⟩ = some v5
theorem Six.next {w w' : World} {p : Addr} {k : Int} {c m : Nat} {v3 v5 : Value} {s : ByteArray} (h : Six w p k c m v3 s v5) (hp : p.block < w.heap.size) (hb : Below w.heap.size w w') : Six w' p k c m v3 s v5 := by
  obtain ⟨h0, h1, h2, h3, h4, h5⟩ := h
  exact ⟨(hb.cell (p := p) hp).trans h0, (hb.cell (p := ⟨p.block, p.off + 1, none⟩) hp).trans h1, (hb.cell (p := ⟨p.block, p.off + 2, none⟩) hp).trans h2, (hb.cell (p := ⟨p.block, p.off + 3, none⟩) hp).trans h3, (hb.cell (p := ⟨p.block, p.off + 4, none⟩) hp).trans h4, (hb.cell (p := ⟨p.block, p.off + 5, none⟩) hp).trans h5⟩
theorem add_blk (ad : Addr) (n : Nat) : (ad.add n).block = ad.block := by unfold Addr.add; split <;> rfl
def Tok.szs (t : Tok) : Prop := t.ps.length ≤ maxLen

end Go.Proofs.YtigaaidacndeiaaDoor

namespace Go.Proofs.YtigaaidacndeiaaDoor

open Go Go.RowKit

theorem feedL_fold (l : List Nat) : ∀ (s : Ps) (a : List Tok), l.foldl (fun r c => ((feedB r.1 c).1, r.2 ++ (feedB r.1 c).2)) (s, a) = ((feedL s l).1, a ++ (feedL s l).2) := by
  induction l with
  | nil => intro s a; simp [feedL]
  | cons c l ih =>
    intro s a
    unfold feedL
    simp only [List.foldl_cons, List.nil_append]
    rw [ih, ih]
    simp [feedL]
theorem feedL_append (s : Ps) (l m : List Nat) : feedL s (l ++ m) = ((feedL (feedL s l).1 m).1, (feedL s l).2 ++ (feedL (feedL s l).1 m).2) := by
  rw [← feedL_fold m (feedL s l).1 (feedL s l).2]
  unfold feedL
  rw [List.foldl_append]
theorem feedL_nil (s : Ps) : feedL s [] = (s, []) := rfl
theorem feedL_split (s : Ps) (l : List Nat) (a b : Nat) (h : a ≤ b) : feedL s (l.take b) = ((feedL (feedL s (l.take a)).1 ((l.take b).drop a)).1, (feedL s (l.take a)).2 ++ (feedL (feedL s (l.take a)).1 ((l.take b).drop a)).2) := by
  have h2 : l.take b = l.take a ++ (l.take b).drop a := by
    have := List.take_append_drop a (l.take b)
    rw [List.take_take, Nat.min_eq_left h] at this
    exact this.symm
  rw [← feedL_append, ← h2]
theorem below_row {B : Nat} {w w1 w2 : World} {row : Option Nat} (h : Below B w w1) (hg : w1.grownBy w2 row) (hB : ∀ k, row = some k → B ≤ k) (hs : B ≤ w1.heap.size := by omega) : Below B w w2 :=
  ⟨hg.os.trans h.os, hg.tape.trans h.tape, hg.output.trans h.output, Nat.le_trans h.size hg.size, fun k hk => (hg.block k (Nat.lt_of_lt_of_le hk hs) (fun e => by have := hB k e.symm; omega)).trans (h.block k hk)⟩
theorem own_more {W W' : World} {b n s : Nat} {T : TypeId} {v : Value} {xs : List Value} (h : W.ownsRow b T s v n xs) (hb : Below W.heap.size W W') : W'.ownsRow b T s v n xs := by
  refine World.ownsRow.kept (row := none) h (grown_below hb) ?_
  rcases hk : v.ownBlock with _ | k
  · exact .inl rfl
  · exact .inr (fun e => by cases e)
theorem own_formS {W : World} {b n s : Nat} {T : TypeId} {v : Value} {xs : List Value} (h : W.ownsRow b T s v n xs) : ∃ A c, v = .slice A n c := by
  rcases h.2 with ⟨rfl, rfl⟩ | ⟨g, cap, cur, rfl, _⟩
  · exact ⟨none, 0, rfl⟩
  · exact ⟨_, _, rfl⟩
theorem own_ge {W : World} {b n s : Nat} {T : TypeId} {v : Value} {xs : List Value} (h : W.ownsRow b T s v n xs) : ∀ k, v.ownBlock = some k → b ≤ k := fun k hk => (World.ownsRow.lt h k hk).1
theorem OTl.app {w : World} {base : Nat} : ∀ {xs : List (Array Value)} {ts : List Tok} {ys : List (Array Value)} {us : List Tok}, OTl w base xs ts → OTl w base ys us → OTl w base (xs ++ ys) (ts ++ us)
  | [], [], _, _, _, h => h
  | _ :: _, _ :: _, _, _, h, h2 => ⟨h.1, OTl.app h.2 h2⟩
/-- Some tokens more. -/
theorem FdW.pushL {w W W' : World} {g : Nat} {r : Ps × List Tok} {u v : Value} {ts : List Tok} {xs ys : List (Array Value)} (h : FdW w W g r u) (ho : W.ownsRow w.heap.size 34 6 u r.2.length (xs.flatMap Array.toList)) (hl : OTl W w.heap.size xs r.2) (hY : OTl W w.heap.size ys ts)
    (hown : W'.ownsRow w.heap.size 34 6 v (r.2.length + ts.length) (xs.flatMap Array.toList ++ ys.flatMap Array.toList)) (hg : W.grownBy W' u.ownBlock) : FdW w W' g (r.1, r.2 ++ ts) v := by
  have hk : ∀ k, u.ownBlock = some k → w.heap.size ≤ k := own_ge ho
  have hpr : u.ownBlock ≠ some g := fun e => by have := hk g e; have := h.gl; omega
  refine ⟨⟨xs ++ ys, ?_, OTl.app (hl.keepR ho hg) (hY.keepR ho hg)⟩, ⟨(hg.block g h.prs.lt (fun e => hpr e.symm)).trans h.prs.blk, h.prs.ok⟩, ⟨hg.os.trans h.gro.os, hg.tape.trans h.gro.tape, hg.output.trans h.gro.output, Nat.le_trans h.gro.size hg.size, fun k hkl hn => (hg.block k (Nat.lt_of_lt_of_le hkl h.gro.size) (fun e => by have := hk k e.symm; omega)).trans (h.gro.block k hkl hn)⟩, h.pl, h.gl⟩
  rw [List.length_append, List.flatMap_append]
  exact hown
theorem rt_one : ∀ {w : World} {xs : List (Array Value)} {ts : List Tok} (_ : RTl w xs ts) (u : Value), u ∈ xs.flatMap Array.toList → u.oneCell' = true
  | _, [], [], _, u, hu => by simp at hu
  | w, x :: xs, t :: ts, h, u, hu => by
    obtain ⟨⟨A, c, B, d, e, _, _⟩, h3⟩ := h
    rw [List.flatMap_cons, List.mem_append] at hu
    rcases hu with hu | hu
    · subst e
      exact Array.all_eq_true_iff_forall_mem.1 (tk_cs_one t A c B d) u (by simpa using hu)
    · exact rt_one h3 u hu
theorem RTl.snoc {w : World} {x : Array Value} {t : Tok} (hx : ∃ A c B d, x = t.cs A c B d ∧ RInts w A t.ps ∧ RByt w B t.dt) : ∀ {xs : List (Array Value)} {ts : List Tok}, RTl w xs ts → RTl w (xs ++ [x]) (ts ++ [t])
  | [], [], _ => ⟨hx, trivial⟩
  | _ :: _, _ :: _, h => ⟨h.1, RTl.snoc hx h.2⟩
theorem RTl.len {w : World} : ∀ {xs : List (Array Value)} {ts : List Tok}, RTl w xs ts → xs.length = ts.length
  | [], [], _ => rfl
  | _ :: _, _ :: _, h => by simp [RTl.len h.2]



end Go.Proofs.YtigaaidacndeiaaDoor

namespace Go.Proofs.YtigaaidacndeiaaDoor

open Go Go.RowKit

theorem szs_feed (ms : List Nat) (hb : ∀ x ∈ ms, x < 256) : ∀ t ∈ (feedL ps0 ms).2, t.szs := fun t ht => by
  have h := (V_feedL V0 ms hb).2 t ht
  have := (tokG_of h.1 h.2).ps
  unfold Tok.szs maxLen
  omega
set_option maxRecDepth 100000 in
theorem run_sub (W : World) (A : Option Addr) (L cap a b : Nat) (h : a ≤ b) (hb : b ≤ cap) :
    (Instr.slice 30 (.slice A L cap) (some (.int .i64 (a : Int))) (some (.int .i64 (b : Int))) none).run Tryd.prog W = .ok (sliced A a b cap 1) W := by
  rw [run_slice_lh W _ A L cap Tryd.underlying30 .i64 .i64 (a : Int) (b : Int) (by omega) (by omega) (by omega)]
  have hs : (sizeOf (Tryd.prog.elem 30)).run Tryd.prog W = .ok 1 W := by kernel_rfl
  rw [hs]
  rfl
theorem RByt.sub {w : World} {A : Option Addr} {l : List Nat} (h : RByt w A l) {a b cap : Nat} (hab : a ≤ b) (hb : b ≤ l.length) (hc : l.length ≤ cap) : ∃ A' c', sliced A a b cap 1 = .slice A' ((l.take b).drop a).length c' ∧ RByt w A' ((l.take b).drop a) ∧ (∀ ad', A' = some ad' → 0 < ((l.take b).drop a).length → ∃ ad, A = some ad ∧ ad'.block = ad.block) ∧ ((l.take b).drop a).length ≤ c' := by
  have hlen : ((l.take b).drop a).length = b - a := by simp; omega
  refine ⟨if cap = a then A else A.map (·.add (a * 1)), cap - a, by rw [hlen]; rfl, ⟨by simp, fun h0 => ?_⟩, fun ad' e h0 => ?_, by omega⟩
  · rw [hlen] at h0
    obtain ⟨ad, rfl, hblk, hcell⟩ := h.2 (by omega)
    rw [if_neg (by omega)]
    refine ⟨ad.add (a * 1), rfl, by rw [add_blk]; exact hblk, fun j u hu => ?_⟩
    rw [add_of_add, Nat.mul_one]
    refine hcell _ _ ?_
    rw [List.map_drop, List.map_take, List.getElem?_drop, List.getElem?_take] at hu
    split at hu
    · exact hu
    · cases hu
  · rw [hlen] at h0
    obtain ⟨ad, rfl, _, _⟩ := h.2 (by omega)
    rw [if_neg (by omega)] at e
    simp only [Option.map_some, Option.some.injEq] at e
    subst e
    exact ⟨ad, rfl, add_blk _ _⟩
theorem rints_grown {w W : World} {A : Option Addr} {ns : List Int} {g : Nat} (h : RInts w A ns) (hg : w.grownBy W (some g)) (hA : ∀ ad, 0 < ns.length → A = some ad → ad.block ≠ g) : RInts W A ns := by
  refine ⟨h.1, fun hn => ?_⟩
  obtain ⟨ad, rfl, hb, hc⟩ := h.2 hn
  refine ⟨ad, rfl, Nat.lt_of_lt_of_le hb hg.size, fun j u hu => ?_⟩
  have hk := hg.block ad.block hb (by intro e; exact hA ad hn rfl (by simpa using e))
  have := hc j u hu
  unfold World.cell? at this ⊢
  rw [add_blk] at this ⊢
  rw [hk]
  exact this
theorem rbyt_grown' {w W : World} {A : Option Addr} {ns : List Nat} {g : Nat} (h : RByt w A ns) (hg : w.grownBy W (some g)) (hA : ∀ ad, 0 < ns.length → A = some ad → ad.block ≠ g) : RByt W A ns := by
  rcases Nat.eq_zero_or_pos ns.length with h0 | h0
  · exact ⟨h.1, fun hp => absurd hp (by omega)⟩
  · exact rbyt_grown h hg (fun ad e => hA ad h0 e)
theorem rints_blk {w : World} {A : Option Addr} {ns : List Int} (h : RInts w A ns) : ∀ ad, 0 < ns.length → A = some ad → ad.block < w.heap.size := fun ad h0 e => by
  obtain ⟨ad', e', hlt, _⟩ := h.2 h0
  rw [e] at e'; injection e' with e'; subst e'; exact hlt
theorem rbyt_blk {w : World} {A : Option Addr} {ns : List Nat} (h : RByt w A ns) : ∀ ad, 0 < ns.length → A = some ad → ad.block < w.heap.size := fun ad h0 e => by
  obtain ⟨ad', e', hlt, _⟩ := h.2 h0
  rw [e] at e'; injection e' with e'; subst e'; exact hlt
end Go.Proofs.YtigaaidacndeiaaDoor
