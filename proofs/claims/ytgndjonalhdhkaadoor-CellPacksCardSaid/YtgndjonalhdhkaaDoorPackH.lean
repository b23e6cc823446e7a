/-
  The walk that reads runs of bytes back as a row.
-/
import Derived.Test.YtgndjonalhdhkaaDoorPackG
namespace Go.Proofs.YtgndjonalhdhkaaDoor

open Go.RowKit

theorem seven (l : List Int) : l.length < 7 ∨ ∃ b0 b1 b2 b3 b4 b5 b6 tl, l = b0 :: b1 :: b2 :: b3 :: b4 :: b5 :: b6 :: tl := by
  match l with
  | b0 :: b1 :: b2 :: b3 :: b4 :: b5 :: b6 :: tl => exact .inr ⟨b0, b1, b2, b3, b4, b5, b6, tl, rfl⟩
  | [] | [_] | [_, _] | [_, _, _] | [_, _, _, _] | [_, _, _, _, _] | [_, _, _, _, _, _] => exact .inl (by simp)
theorem RBs.drop {w : World} {ad : Addr} {bs : List Int} (h : RBs w (some ad) bs) (i : Nat) (ad' : Addr) (had : ∀ j, ad'.add j = ad.add (i + j)) (hb : ad'.block = ad.block) : RBs w (some ad') (bs.drop i) := by
  refine ⟨by simp, fun hn => ⟨ad', rfl, ?_, fun j u hu => ?_⟩⟩
  · rw [hb]
    obtain ⟨x, e, h1, _⟩ := h.2 (by rw [List.length_drop] at hn; omega)
    obtain rfl : ad = x := by injection e
    exact h1
  · obtain ⟨x, e, _, h2⟩ := h.2 (by rw [List.length_drop] at hn; omega)
    obtain rfl : ad = x := by injection e
    rw [had]
    refine h2 _ _ ?_
    rw [← hu, List.map_drop, List.getElem?_drop]
/-- The run that bytes begin with. -/
def rr : List Int → Option Rn
  | b0 :: b1 :: b2 :: b3 :: b4 :: b5 :: b6 :: _ => if b0 = 0 ∨ 1 < b6 then none else some (cell6 b1 b2 b3 b4 b5 b6, b0.toNat)
  | _ => none
def rrVal : Option Rn → Value
  | none => .tuple #[.agg #[.int .i32 0, .int .u8 0, .bool false, .int .i64 0], .bool false]
  | some x => .tuple #[.agg #[.int .i32 x.1.g, .int .u8 x.1.r, .bool x.1.k, .int .i64 x.2], .bool true]
theorem rr_short (l : List Int) (h : l.length < 7) : rr l = none := by
  match l, h with
  | [], _ | [_], _ | [_, _], _ | [_, _, _], _ | [_, _, _, _], _ | [_, _, _, _, _], _ | [_, _, _, _, _, _], _ => rfl
  | _ :: _ :: _ :: _ :: _ :: _ :: _ :: _, h => simp at h; omega
theorem decR_short (a : Rn) (l : List Int) (h : l.length < 7) (h0 : l ≠ []) : decR a l = none := by
  match l, h, h0 with
  | [], _, h0 => exact absurd rfl h0
  | [_], _, _ | [_, _], _, _ | [_, _, _], _, _ | [_, _, _, _], _, _ | [_, _, _, _, _], _, _ | [_, _, _, _, _, _], _, _ => rfl
  | _ :: _ :: _ :: _ :: _ :: _ :: _ :: _, h, _ => simp at h; omega
theorem decR_none (a : Rn) (l : List Int) (h0 : l ≠ []) (h : rr l = none) : decR a l = none := by
  rcases seven l with hs | ⟨b0, b1, b2, b3, b4, b5, b6, tl, rfl⟩
  · exact decR_short a l hs h0
  · simp only [rr] at h
    split at h
    · rename_i hb; simp only [decR]; rw [if_pos hb]
    · cases h
theorem decR_some_ (a x : Rn) (l : List Int) (h : rr l = some x) : 7 ≤ l.length ∧ decR a l = if takesC a.2 a.1 x.1 then none else (decR x (l.drop 7)).map (x :: ·) := by
  rcases seven l with hs | ⟨b0, b1, b2, b3, b4, b5, b6, tl, rfl⟩
  · rw [rr_short l hs] at h; cases h
  · simp only [rr] at h
    split at h
    · cases h
    · rename_i hb
      obtain rfl := Option.some.inj h
      refine ⟨by simp, ?_⟩
      simp only [decR]
      rw [if_neg hb]
      rfl
theorem rr_ok (l : List Int) (x : Rn) (hok : OkBs l) (h : rr l = some x) : x.1.ok ∧ 1 ≤ x.2 ∧ x.2 ≤ 255 := by
  rcases seven l with hs | ⟨b0, b1, b2, b3, b4, b5, b6, tl, rfl⟩
  · rw [rr_short l hs] at h; cases h
  · simp only [rr] at h
    split at h
    · cases h
    · obtain rfl := Option.some.inj h
      have o0 := hok b0 (by simp)
      exact ⟨cell6_ok _ _ _ _ _ _ (fun y hy => hok y (show y ∈ b0 :: ([b1, b2, b3, b4, b5, b6] ++ tl) from List.mem_cons_of_mem _ (List.mem_append_left tl hy))), by show 1 ≤ b0.toNat; omega, by show b0.toNat ≤ 255; omega⟩
theorem readRun_at (A : Option Addr) (c : Nat) (l : List Int) (n : Nat) (hn : n = l.length) (hl : l.length ≤ 1000000) (hok : OkBs l) (w : World) (hr : RBs w A l) :
    Calls Tryd.prog 22 #[.slice A n c] w fun e w' => e = .returned (rrVal (rr l)) ∧ Below w.heap.size w w' := by
  subst hn
  rcases seven l with hs | ⟨b0, b1, b2, b3, b4, b5, b6, tl, rfl⟩
  · rw [rr_short l hs]
    exact readRun_short A c l hs w
  · have hlen : (b0 :: b1 :: b2 :: b3 :: b4 :: b5 :: b6 :: tl).length = tl.length + 7 := rfl
    rw [hlen] at hl ⊢
    by_cases hb : b0 = 0 ∨ 1 < b6
    · have e : rr (b0 :: b1 :: b2 :: b3 :: b4 :: b5 :: b6 :: tl) = none := if_pos hb
      rw [e]
      exact readRun_bad A c b0 b1 b2 b3 b4 b5 b6 tl w (by omega) hr hb
    · have e : rr (b0 :: b1 :: b2 :: b3 :: b4 :: b5 :: b6 :: tl) = some (cell6 b1 b2 b3 b4 b5 b6, b0.toNat) := if_neg hb
      rw [e]
      have o0 := hok b0 (by simp)
      have hz : ((b0.toNat : Nat) : Int) = b0 := by omega
      have := readRun_good A c b0 b1 b2 b3 b4 b5 b6 tl w (by omega) hr (fun y hy => hok y (show y ∈ [b0, b1, b2, b3, b4, b5, b6] ++ tl from List.mem_append_left tl hy)) (by omega) (by omega)
      simpa [rrVal, cell6, hz] using this
theorem ocells_mono {w : World} {b b' : Nat} {v : Value} {l : List Cl} (h : OCells w b v l) (hb : b' ≤ b) : OCells w b' v l := by
  refine ⟨h.1, ?_⟩
  rcases h.2 with h | ⟨g, cap, cur, hv, hg, r⟩
  · exact .inl h
  · exact .inr ⟨g, cap, cur, hv, Nat.le_trans hb hg, r⟩
theorem ocells_own {w : World} {base : Nat} {v : Value} {l : List Cl} (h : OCells w base v l) : w.ownsRow base 42 3 v l.length (l.flatMap Cl.cells) := h
theorem add_add (ad : Addr) (i : Nat) (j : Nat) : (ad.add i).add j = ad.add (i + j) := by
  unfold Addr.add
  by_cases h1 : i = 0
  · simp [h1]
  · by_cases h2 : j = 0
    · simp [h1, h2]
    · simp [h1, h2, Nat.add_assoc]
/-- What Decode answers. -/
def DecOut (o : Option (List Rn)) (w w' : World) (e : Ending) : Prop :=
  (o = none ∧ e = .returned (.tuple #[.slice none 0 0, .int .i64 3])) ∨ ∃ rs v, o = some rs ∧ e = .returned (.tuple #[v, .int .i64 0]) ∧ OCells w' w.heap.size v (flatR rs)
def z0 : Rn := (⟨0, 0, false⟩, 0)
def rnBlk (a : Rn) : Array Value := #[.int .i32 a.1.g, .int .u8 a.1.r, .bool a.1.k, .int .i64 a.2]

theorem ownBlock_ne {w : World} {base G : Nat} {e : TypeId} {size n : Nat} {v : Value} {xs : List Value} (h : w.ownsRow base e size v n xs) (hG : w.heap.size ≤ G) : some G ≠ v.ownBlock := fun e1 => by
  have := (h.lt G e1.symm).2
  omega
/-- What is known in the midst of a round: the row so far, the run ahead, the run that was read. -/
def KD (w : World) (a x : Rn) (G : Nat) (s : Value) (l : List Cl) (W : World) : Prop :=
  OCells W (w.heap.size + 1) s l ∧ Blk W w.heap.size 48 (rnBlk a) ∧ Blk W G 48 (rnBlk x) ∧ Below w.heap.size w W ∧ some G ≠ s.ownBlock ∧ w.heap.size + 1 ≤ G
theorem KD.next {w W W' : World} {a x : Rn} {G : Nat} {s : Value} {l : List Cl} (h : KD w a x G s l W) (hb : Below W.heap.size W W') : KD w a x G s l W' :=
  ⟨h.1.next hb, h.2.1.next hb, h.2.2.1.next hb, h.2.2.2.1.trans (hb.mono h.2.2.2.1.size), h.2.2.2.2⟩
theorem KD.drew {w W : World} {a x : Rn} {G : Nat} {s : Value} {l : List Cl} (h : KD w a x G s l W) : KD w a x G s l W.drew := h.next (Below.refl _ _).drew
theorem KD.cells {w W : World} {a x : Rn} {G : Nat} {s : Value} {l : List Cl} (h : KD w a x G s l W) :
    (W.cell? ⟨w.heap.size, 0, none⟩ = some (.int .i32 a.1.g) ∧ W.cell? ⟨w.heap.size, 1, none⟩ = some (.int .u8 a.1.r) ∧ W.cell? ⟨w.heap.size, 2, none⟩ = some (.bool a.1.k) ∧ W.cell? ⟨w.heap.size, 3, none⟩ = some (.int .i64 a.2)) ∧
    W.cell? ⟨G, 0, none⟩ = some (.int .i32 x.1.g) ∧ W.cell? ⟨G, 1, none⟩ = some (.int .u8 x.1.r) ∧ W.cell? ⟨G, 2, none⟩ = some (.bool x.1.k) ∧ W.cell? ⟨G, 3, none⟩ = some (.int .i64 x.2) :=
  ⟨⟨h.2.1.cell 0, h.2.1.cell 1, h.2.1.cell 2, h.2.1.cell 3⟩, h.2.2.1.cell 0, h.2.2.1.cell 1, h.2.2.1.cell 2, h.2.2.1.cell 3⟩
theorem KD.new {w wr w1 : World} {a x : Rn} {s : Value} {l : List Cl} (ho : OCells wr (w.heap.size + 1) s l) (hk : Blk wr w.heap.size 48 (rnBlk a)) (hb : Below w.heap.size w wr) (h1 : Below wr.heap.size wr w1) :
    KD w a x w1.heap.size s l (w1.alloc (.cells (rnBlk x) 48)) := by
  have hA : Below w1.heap.size w1 (w1.alloc (.cells (rnBlk x) 48)) := (Below.refl _ _).alloc (Nat.le_refl _) _
  have h2 := (hb.trans (h1.mono hb.size))
  have := hk.lt
  have := h1.size
  exact ⟨(ho.next h1).next hA, (hk.next h1).next hA, Blk.new _ _ _, h2.trans (hA.mono h2.size), ownBlock_ne (ho.next h1) (Nat.le_refl _), by omega⟩
theorem KD.store {w W : World} {a x : Rn} {G : Nat} {s : Value} {l : List Cl} (h : KD w a x G s l W) (W' : World) (hW : W' = (((W.setCell ⟨w.heap.size, 0, none⟩ (.int .i32 x.1.g)).setCell ⟨w.heap.size, 1, none⟩ (.int .u8 x.1.r)).setCell ⟨w.heap.size, 2, none⟩ (.bool x.1.k)).setCell ⟨w.heap.size, 3, none⟩ (.int .i64 x.2)) :
    OCells W' (w.heap.size + 1) s l ∧ Blk W' w.heap.size 48 (rnBlk x) ∧ Below w.heap.size w W' ∧ w.heap.size + 1 ≤ W'.heap.size := by
  subst hW
  refine ⟨World.ownsRow.kept (row := some w.heap.size) h.1 ?_ (.inr fun e => by have := (h.1.lt _ e).1; omega), (((h.2.1.set_ 0 _).set_ 1 _).set_ 2 _).set_ 3 _, (((h.2.2.2.1.setCell (Nat.le_refl _) _).setCell (Nat.le_refl _) _).setCell (Nat.le_refl _) _).setCell (Nat.le_refl _) _, ?_⟩
  · refine ⟨rfl, rfl, rfl, by simp, fun k _ hk => ?_⟩
    have hk' : k ≠ w.heap.size := fun e => hk (by rw [e])
    rw [heap_setCell_other _ _ _ _ (by exact hk'), heap_setCell_other _ _ _ _ (by exact hk'), heap_setCell_other _ _ _ _ (by exact hk'), heap_setCell_other _ _ _ _ (by exact hk')]
  · have := h.2.1.lt
    simp; omega
/-- A struct more, at the end of a slice of the call's own; and whose block it is then. -/
theorem wpList_pushA {P : Program} {ops : Array Oper} {rest : List Oper} {o : Oper} {a : Act} {Q : Exit → Act → World → Prop} {W : World} (hgd : o.guard = none) (s x : Operand) (t : TypeId)
    (ho : o.op = .call { callee := .builtin .append, args := #[s, x], argTypes := #[t, t] })
    (base : Nat) (e : TypeId) (z : Value) (size bytes : Nat) (ht : P.underlying t = some (.slice e)) (hinfo : (P.info? e).map (fun i => (i.zero, i.size, i.bytes)) = some (some z, size, bytes)) (hzs : z.cells.size = size) (hsz : 0 < size)
    (v : Value) (n : Nat) (xs : List Value) (hs : a.eval s = v) (hown : W.ownsRow base e size v n xs)
    (us : List Value) (hul : us.length = size) (hu : ∀ u ∈ us, u.oneCell' = true) (cs : Array Value) (hcs : cs = us.toArray) (T : TypeId) (g c : Nat) (hg : g = W.heap.size) (hx : a.eval x = .slice (some ⟨g, 0, none⟩) 1 c)
    (h63 : n + 1 ≤ maxLen) (hbytes : (n + 1) * bytes ≤ 140737488355328) (hbase : base ≤ W.heap.size)
    (h : ∀ v' w', w'.ownsRow base e size v' (n + 1) (xs ++ us) → W.grownBy w' v.ownBlock → Below base W w' → (∀ G, G < W.heap.size → some G ≠ v.ownBlock → some G ≠ v'.ownBlock) → wpList P ops Q rest (a.put o.dst v') w') : wpList P ops Q (o :: rest) a (W.alloc (.cells cs T)) := by
  obtain ⟨i, hi, hz, hsize, hby⟩ := info_parts hinfo
  subst hcs
  have hB : Below W.heap.size W (W.alloc (.cells us.toArray T)) := (Below.refl _ _).alloc (Nat.le_refl _) _
  refine wpList_append_own_at _ hgd s x t ho base e i z size bytes ht hi hz hsize hby hzs hsz v n xs hs (hown.alloc _) ⟨g, 0, none⟩ 1 c us hx (by omega) (fun j u' hj => ?_) hu h63 hbytes (Nat.le_trans hbase hB.size) (fun v' w' h2 h3 _ h5 => h v' w' h2 (grown_own hB h3) (below_own hown hbase hB h3) (fun G hG hne => ?_))
  · subst hg
    have hadd : (⟨W.heap.size, 0, none⟩ : Addr).add j = ⟨W.heap.size, j, none⟩ := by unfold Addr.add; split <;> simp_all
    rw [hadd, (Blk.new W T _).cell j]
    simpa using hj
  · rcases h5 with h5 | h5
    · rw [h5]; exact hne
    · rw [h5]
      intro e1
      have e2 := Option.some.inj e1
      have := hB.size
      omega
theorem KD.push {w W W' : World} {a x : Rn} {G n : Nat} {s s' : Value} {l : List Cl} (h : KD w a x G s l W) (hn : l.length = n) (hown : W'.ownsRow (w.heap.size + 1) 42 3 s' (n + 1) (l.flatMap Cl.cells ++ [.int .i32 x.1.g, .int .u8 x.1.r, .bool x.1.k])) (hg : W.grownBy W' s.ownBlock) (hb : Below (w.heap.size + 1) W W')
    (hne : ∀ G, G < W.heap.size → some G ≠ s.ownBlock → some G ≠ s'.ownBlock) : KD w a x G s' (l ++ [x.1]) W' := by
  subst hn
  refine ⟨by simpa [OCells, Cl.cells] using hown, h.2.1.below hb (by omega), h.2.2.1.grown hg h.2.2.2.2.1, h.2.2.2.1.trans (hb.mono (by omega)), hne G h.2.2.1.lt h.2.2.2.2.1, h.2.2.2.2.2⟩
theorem flat_more (l : List Cl) (x : Cl) (j : Nat) : l ++ List.replicate (j + 1) x = l ++ List.replicate j x ++ [x] := by
  rw [List.replicate_succ', List.append_assoc]
theorem flatR_snoc (pre : List Rn) (x : Rn) : flatR (pre ++ [x]) = flatR pre ++ List.replicate x.2 x.1 := by simp [flatR]
theorem cell_one (g r : Int) (b : Bool) : ∀ u ∈ [Value.int .i32 g, .int .u8 r, .bool b], u.oneCell' = true := by
  intro u hu
  simp at hu
  rcases hu with rfl | rfl | rfl <;> rfl

set_option maxHeartbeats 4000000 in
theorem decode_any (A : Option Addr) (c : Nat) (bs : List Int) (hl : bs.length ≤ 1000000) (hc : bs.length ≤ c) (hok : OkBs bs) (w : World) (hr : RBs w A bs) :
    Calls Tryd.prog 9 #[.slice A bs.length c] w fun e w' => DecOut (decR z0 bs) w w' e ∧ Below w.heap.size w w' := by
  have HOk := Lib.hid hok
  generalize hD : decR z0 bs = D
  have HD := Lib.hid hD
  clear hD hok
  go_enter Tryd.func9, Tryd.ntmps9
  go_wp2_with fail
  go_loopw [4, 6] (fun s i wr => ∃ (k : Nat) (pre : List Rn) (a : Rn), 7 * k ≤ bs.length ∧ i = .int .i64 (7 * k) ∧ OCells wr (w.heap.size + 1) s (flatR pre) ∧ (flatR pre).length ≤ 255 * k ∧ Blk wr w.heap.size 48 (rnBlk a) ∧ Below w.heap.size w wr ∧ w.heap.size + 1 ≤ wr.heap.size ∧ D = (decR a (bs.drop (7 * k))).map (pre ++ ·)) (fun _ i _ => bs.length - (intOf i).toNat)
  case atStart => exact ⟨0, [], z0, by omega, rfl, World.ownsRow_nil _ _ _ _, by simp [flatR], Blk.new _ _ _, (Below.refl _ _).alloc (Nat.le_refl _) _, by simp, by rw [← HD.out]; simp⟩
  case round =>
    obtain ⟨k, pre, a, hk, rfl, hown, hpl, hblk, hb, hbs, hDk⟩ := hrel
    by_cases hlt : 7 * k < bs.length
    · obtain ⟨ad, rfl, had, _⟩ := (hr.next hb).at_ hlt
      have HRR : Hid (∀ W, Below w.heap.size w W → Calls Tryd.prog 22 #[.slice (some (ad.add (7 * k))) (bs.length - 7 * k) (c - 7 * k)] W fun e w' => e = .returned (rrVal (rr (bs.drop (7 * k)))) ∧ Below W.heap.size W w') :=
        Lib.hid (fun W hW => readRun_at _ _ (bs.drop (7 * k)) _ (by simp) (by simp; omega) (fun x hx => HOk.out x (List.mem_of_mem_drop hx)) W ((hr.next hW).drop (7 * k) _ (add_add _ _) (by exact block_of_add _ _)))
      have hne : bs.drop (7 * k) ≠ [] := by intro h; have := congrArg List.length h; simp at this; omega
      have HD2 := Lib.hid hDk
      have HOwn := Lib.hid hown; have HBlk := Lib.hid hblk; have HB := Lib.hid hb
      clear hown hblk hb hDk
      cases hq : rr (bs.drop (7 * k)) with
      | none =>
        have hdn := decR_none a _ hne hq
        rw [hdn] at HD2
        rw [hq] at HRR
        clear hdn hq hne
        go_wp2_with fail
        refine (HRR.out _ HB.out).mono ?_
        rintro e w1 ⟨rfl, hb1⟩
        simp only [rrVal]
        go_wp2
        go_returns
        exact ⟨.inl ⟨HD2.out, rfl⟩, (HB.out.trans (hb1.mono HB.out.size)).alloc (Nat.le_trans HB.out.size hb1.size) _⟩
      | some x =>
        obtain ⟨h7, hdn⟩ := decR_some_ a x _ hq
        obtain ⟨_, hx1, hx2⟩ := rr_ok _ x (fun y hy => HOk.out y (List.mem_of_mem_drop hy)) hq
        rw [hdn, List.drop_drop] at HD2
        rw [hq] at HRR
        rw [List.length_drop] at h7
        have h77 : 7 * k + 7 ≤ bs.length := by omega
        clear hdn hq hne h7
        have HL := Lib.hid hpl
        clear hpl
        have HT := Lib.hid (fun W => takes_any a.1 x.1 a.2 W)
        obtain ⟨⟨g, r, b⟩, n⟩ := x
        obtain ⟨⟨ag, ar, ab⟩, an⟩ := a
        simp only at hx1 hx2
        go_wp2_with fail
        refine (HRR.out _ HB.out).mono ?_
        rintro e w1 ⟨rfl, hb1⟩
        simp only [rrVal]
        have HK : Hid (KD w ((⟨ag, ar, ab⟩ : Cl), an) ((⟨g, r, b⟩ : Cl), n) w1.heap.size u4 (flatR pre) (w1.alloc (.cells #[.int .i32 g, .int .u8 r, .bool b, .int .i64 n] 48))) := Lib.hid (KD.new HOwn.out HBlk.out HB.out hb1)
        obtain ⟨⟨d0, d1, d2, d3⟩, e0, e1, e2, e3⟩ := HK.out.cells
        simp only at d0 d1 d2 d3 e0 e1 e2 e3
        generalize takesC an ⟨ag, ar, ab⟩ ⟨g, r, b⟩ = E at *
        go_upto_region 7 with fail
        generalize w1.alloc (Obj.cells #[Value.int .i32 g, Value.int .u8 r, Value.bool b, Value.int .i64 n] 48) = W at *
        generalize w1.heap.size = G at *
        have HR2 := Lib.hid hr; have HAD := Lib.hid had
        clear hr had
        go_wp2_with fail
        refine (HT.out _).mono ?_
        rintro e w2 ⟨rfl, hb2⟩
        have L1 : KD w ((⟨ag, ar, ab⟩ : Cl), an) ((⟨g, r, b⟩ : Cl), n) G u4 (flatR pre) w2 := KD.next (by first | exact HK.out | exact HK.out.drew) hb2
        clear d0 d1 d2 d3 e0 e1 e2 e3
        obtain ⟨⟨d0, d1, d2, d3⟩, e0, e1, e2, e3⟩ := KD.cells L1
        simp only at d0 d1 d2 d3 e0 e1 e2 e3
        cases E
        · go_wp2_with fail
          go_loopw [4, 32] (fun s i wq => ∃ j : Nat, j ≤ n ∧ i = .int .i64 j ∧ KD w ((⟨ag, ar, ab⟩ : Cl), an) ((⟨g, r, b⟩ : Cl), n) G s (flatR pre ++ List.replicate j ⟨g, r, b⟩) wq) (fun _ i _ => n - (intOf i).toNat)
          case atStart => exact ⟨0, by omega, rfl, by simpa using L1⟩
          case round =>
            obtain ⟨j, hj, rfl, hK⟩ := hrel
            clear d0 d1 d2 d3 e0 e1 e2 e3
            obtain ⟨-, e0, e1, e2, e3⟩ := KD.cells hK
            simp only at e0 e1 e2 e3
            by_cases hltj : j < n
            · have hlen : (flatR pre ++ List.replicate j (⟨g, r, b⟩ : Cl)).length ≤ 255 * k + j := by
                rw [List.length_append, List.length_replicate]; have := HL.out; omega
              have HM := Lib.hid (flat_more (flatR pre) ⟨g, r, b⟩ j)
              have hsz := hK.2.2.1.lt
              have hsG := hK.2.2.2.2.2
              have HKj := Lib.hid hK
              generalize flatR pre ++ List.replicate j (⟨g, r, b⟩ : Cl) = L at *
              clear hK
              go_wp2_with (at_builtin; refine wpList_pushA rfl _ _ _ rfl (w.heap.size + 1) 42 _ 3 8 Tryd.underlying22 info_cell rfl (by decide) _ _ _ rfl (ocells_own HKj.out.1) [.int .i32 g, .int .u8 r, .bool b] rfl (cell_one g r b) _ rfl _ _ _ (by simp) rfl (by unfold maxLen; omega) (by omega) (by omega) ?_; intro v3 w3 hown3 hg3 hb3 hne3)
              go_roundw
              case rel => exact ⟨j + 1, by omega, by go_num, by rw [HM.out]; exact HKj.out.push rfl hown3 hg3 hb3 hne3⟩
              case measure => simp [intOf]; omega
            · obtain rfl : j = n := by omega
              obtain ⟨⟨d0, d1, d2, d3⟩, -⟩ := KD.cells hK
              simp only at d0 d1 d2 d3
              have f0 := hK.2.1.frozen 0; have f1 := hK.2.1.frozen 1; have f2 := hK.2.1.frozen 2; have f3 := hK.2.1.frozen 3
              go_wp2_with fail
              obtain ⟨s1, s2, s3, s4⟩ := hK.store _ rfl
              go_roundw
              case rel =>
                refine ⟨k + 1, pre ++ [((⟨g, r, b⟩ : Cl), j)], ((⟨g, r, b⟩ : Cl), j), by omega, by go_num, by rw [flatR_snoc]; exact s1, ?_, s2, s3, s4, ?_⟩
                · rw [flatR_snoc, List.length_append, List.length_replicate]; have := HL.out; simp only; omega
                · rw [show 7 * (k + 1) = 7 * k + 7 from by omega, HD2.out]
                  simp [Option.map_map, Function.comp_def]
              case measure => simp [intOf]; omega
        · go_wp2
          go_returns
          exact ⟨.inl ⟨HD2.out, rfl⟩, L1.2.2.2.1⟩
    · have hke : 7 * k = bs.length := by omega
      go_wp2
      rw [hke, List.drop_length] at hDk
      go_returns
      exact ⟨.inr ⟨pre, _, by rw [hDk]; simp [decR], rfl, ocells_mono hown (by omega)⟩, hb⟩
end Go.Proofs.YtgndjonalhdhkaaDoor
