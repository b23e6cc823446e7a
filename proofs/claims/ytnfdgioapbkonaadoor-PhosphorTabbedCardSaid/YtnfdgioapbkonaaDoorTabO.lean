/-
  The walk that plays deeds with stops, and with the reference's.
-/
import Derived.Test.YtnfdgioapbkonaaDoorTabN
import Derived.Deep.Onto
import Derived.Deep.CutBlock
import Derived.Test.YtnfdgioapbkonaaDoorCuts
namespace Go.Proofs.YtnfdgioapbkonaaDoor

open Go Go.RowKit

/-- A deed with stops. -/
structure Ac where
  k : Int
  n : Int
  t : ByteArray
def Ac.cells (a : Ac) : List Value := [.int .i64 a.k, .int .i64 a.n, .string a.t]
/-- A slice of deeds. -/
def RActs (w : World) (A : Option Addr) (l : List Ac) : Prop := Reads w w.heap.size 3 A l.length (l.flatMap Ac.cells)
theorem RActs.next {w w' : World} {A : Option Addr} {l : List Ac} (h : RActs w A l) (hb : Below w.heap.size w w') : RActs w' A l := (Reads.below h hb).more hb.size
theorem acts_at (l : List Ac) (k : Nat) (hk : k < l.length) :
    (l.flatMap Ac.cells)[k * 3]? = some (.int .i64 l[k].k) ∧ (l.flatMap Ac.cells)[k * 3 + 1]? = some (.int .i64 l[k].n) ∧ (l.flatMap Ac.cells)[k * 3 + 2]? = some (.string l[k].t) := by
  induction l generalizing k with
  | nil => simp at hk
  | cons c l ih =>
    cases k with
    | zero => simp [Ac.cells]
    | succ k =>
      have h := ih k (by simpa using hk)
      have e : (k + 1) * 3 = k * 3 + 3 := by omega
      rw [List.flatMap_cons, e]
      simp only [Ac.cells, List.cons_append, List.nil_append, List.getElem?_cons_succ, List.getElem_cons_succ]
      exact h
theorem RActs.at_ {w : World} {A : Option Addr} {l : List Ac} (h : RActs w A l) {k : Nat} (hk : k < l.length) :
    ∃ ad, A = some ad ∧ ad.block < w.heap.size ∧ w.cell? (ad.add (k * 3)) = some (.int .i64 l[k].k) ∧ w.cell? ⟨(ad.add (k * 3)).block, (ad.add (k * 3)).off + 1, none⟩ = some (.int .i64 l[k].n) ∧ w.cell? ⟨(ad.add (k * 3)).block, (ad.add (k * 3)).off + 2, none⟩ = some (.string l[k].t) := by
  obtain ⟨ad, e, hb, hc⟩ := h.2 (by omega)
  obtain ⟨h1, h2, h3⟩ := acts_at l k hk
  have a1 : (⟨(ad.add (k * 3)).block, (ad.add (k * 3)).off + 1, none⟩ : Addr) = ad.add (k * 3 + 1) := (show _ = (ad.add (k * 3)).add 1 from rfl).trans (add_of_add ad _ _)
  have a2 : (⟨(ad.add (k * 3)).block, (ad.add (k * 3)).off + 2, none⟩ : Addr) = ad.add (k * 3 + 2) := (show _ = (ad.add (k * 3)).add 2 from rfl).trans (add_of_add ad _ _)
  refine ⟨ad, e, hb, hc _ _ h1, ?_, ?_⟩
  · rw [a1]; exact hc _ _ h2
  · rw [a2]; exact hc _ _ h3
theorem new_rsz (N : Nat) (c : Nat) : newH N c = hOf (rszP [] N) c := by
  rw [rszP_get]
  unfold newH rszAt
  by_cases h : c < N
  · simp [h]
  · simp [h]
/-- What is known of stops and of the reference's between two deeds. -/
structure PlayI (w : World) (B : Nat) (v : Value) (l : List Bool) (W : World) : Prop where
  own : OBools W w.heap.size v l
  len : l.length ≤ 500
  st : Stp W B l.length (hOf l)
  below : Below w.heap.size w W
theorem PlayI.next {w W W' : World} {B : Nat} {v : Value} {l : List Bool} (h : PlayI w B v l W) (hb : Below W.heap.size W W') : PlayI w B v l W' :=
  ⟨h.own.next hb, h.len, h.st.next hb, h.below.trans (hb.mono h.below.size)⟩

theorem world_gen {P : Program} {c : Code} {Q : Exit → Act → World → Prop} {a : Act} (Φ : World → Prop) {W0 : World} (h : Φ W0) (k : ∀ W, Φ W → c.wp P Q a W) : c.wp P Q a W0 := k _ h
theorem cells_act {w : World} {b : Nat} {T : TypeId} {x y z : Value} (h : Blk w b T #[x, y, z]) : w.cell? ⟨b, 0, none⟩ = some x ∧ w.cell? ⟨b, 1, none⟩ = some y ∧ w.cell? ⟨b, 2, none⟩ = some z ∧ w.frozen? ⟨b, 2, none⟩ = false := ⟨h.cell 0, h.cell 1, h.cell 2, h.frozen 2⟩
/-- A slice of yes and no of one's own stays where stops change. -/
theorem OBools.by_stops {W W' : World} {base B n : Nat} {v : Value} {l : List Bool} {h : Nat → Bool} (o : OBools W base v l) (s : Stp W B n h) (g : W.grownBy W' (some B)) : OBools W' base v l :=
  World.ownsRow.kept (row := some B) o g (by
    rcases o.2 with ⟨rfl, _⟩ | ⟨g', cap, cur, rfl, _, hh, _⟩
    · exact .inl rfl
    · right
      intro e
      obtain ⟨ws, hb, _⟩ := s
      simp [Value.ownBlock] at e
      subst e
      unfold Blk at hb
      rw [hh] at hb
      injection hb with hb
      injection hb with _ e2
      exact absurd e2 (by decide))
theorem blk_by_stops {W W' : World} {B n b : Nat} {h : Nat → Bool} {cs : Array Value} (x : Blk W b 44 cs) (s : Stp W B n h) (g : W.grownBy W' (some B)) : Blk W' b 44 cs :=
  x.grown g (by
    intro e
    injection e with e
    subst e
    obtain ⟨ws, hb, _⟩ := s
    unfold Blk at hb x
    rw [x] at hb
    injection hb with hb
    injection hb with _ e2
    exact absurd e2 (by decide))
theorem set_put (B : Nat) (l : List Bool) (col : Int) (w : World) (s : Stp w B l.length (hOf l)) :
    Calls Tryd.prog 20 #[.pointer (some ⟨B, 0, none⟩), .int .i64 col] w fun e w' => e = .returned (.tuple #[]) ∧ Stp w' B l.length (hOf (putP l col true)) ∧ w.grownBy w' (some B) := by
  by_cases h : 0 ≤ col ∧ col < l.length
  · obtain ⟨c, rfl⟩ := Int.eq_ofNat_of_zero_le h.1
    refine (set_yes B l.length (hOf l) c (by omega) w s).mono fun e w' ⟨h1, h2, h3⟩ => ⟨h1, h2.to (fun d _ => ?_), h3⟩
    rw [putP_in l c true (by omega)]
    by_cases e : c = d <;> simp [e]
  · rw [putP_out l col true h]
    exact set_no B l.length (hOf l) col h w s
theorem clear_put (B : Nat) (l : List Bool) (col : Int) (w : World) (s : Stp w B l.length (hOf l)) :
    Calls Tryd.prog 21 #[.pointer (some ⟨B, 0, none⟩), .int .i64 col] w fun e w' => e = .returned (.tuple #[]) ∧ Stp w' B l.length (hOf (putP l col false)) ∧ w.grownBy w' (some B) := by
  by_cases h : 0 ≤ col ∧ col < l.length
  · obtain ⟨c, rfl⟩ := Int.eq_ofNat_of_zero_le h.1
    refine (clear_yes B l.length (hOf l) c (by omega) w s).mono fun e w' ⟨h1, h2, h3⟩ => ⟨h1, h2.to (fun d _ => ?_), h3⟩
    rw [putP_in l c false (by omega)]
    by_cases e : c = d <;> simp [e]
  · rw [putP_out l col false h]
    exact clear_no B l.length (hOf l) col h w s
theorem resize_rsz (B : Nat) (l : List Bool) (c : Int) (w : World) (s : Stp w B l.length (hOf l)) :
    Calls Tryd.prog 9 #[.pointer (some ⟨B, 0, none⟩), .int .i64 c] w fun e w' => e = .returned (.tuple #[]) ∧ Stp w' B (rszP l (colsT c)).length (hOf (rszP l (colsT c))) ∧ w.grownBy w' (some B) :=
  (resize_any B l.length (hOf l) c w s).mono fun e w' ⟨h1, h2, h3⟩ => ⟨h1, by rw [rszP_len]; exact h2.to (fun d _ => rsz_stops l (colsT c) d), h3⟩
/-- A slice of ints as a letter. -/
def IlP (n : Nat) (u : Value) : Prop := ∃ A c, u = .slice A n c
def IlF (B : Nat) (L : List Int) (u : Value) (W : World) : Prop := ∃ A c base, u = .slice A L.length c ∧ B ≤ base ∧ OInts W base (.slice A L.length c) L
theorem ilF_stab (ks : Kinds) (wr : World) (L : List Int) (ht : 3 ∉ boxes ks) : ∀ v w w', Kept ks wr w w' → IlF wr.heap.size L v w → IlF wr.heap.size L v w' := by
  rintro v w w' hk ⟨A, c, base, e, hb, ho⟩
  refine ⟨A, c, base, e, hb, ho.1, ?_⟩
  rcases ho.2 with hn | ⟨g, cap, cur, hv, hg, hh, rest⟩
  · exact .inl hn
  · refine .inr ⟨g, cap, cur, hv, hg, ?_, rest⟩
    rw [hk.block g (Blk.lt (show Blk w g _ cur from hh)) (by omega) (fun cs T fr e => by
      have e2 : some (Obj.cells cur 3 (0, 0)) = some (.cells cs T fr) := hh.symm.trans e
      injection e2 with e2
      injection e2 with _ e3 _
      rw [← e3]; exact ht)]
    exact hh
theorem il_own {W : World} {B n : Nat} {f : FuncId} {args : Array Value} {l : List Int} (hB : B ≤ W.heap.size) (hn : n = l.length) (h : Calls Tryd.prog f args W fun e w' => ∃ v, e = .returned v ∧ OInts w' W.heap.size v l ∧ Below W.heap.size W w') :
    Calls Tryd.prog f args W fun e w' => ∃ u, e = .returned u ∧ IlP n u ∧ IlF B l u w' ∧ Below W.heap.size W w' :=
  h.mono fun e w' ⟨v, he, ho, hb⟩ => by
    obtain ⟨A, c, rfl⟩ := OInts.form ho
    exact ⟨_, he, ⟨A, c, by rw [hn]⟩, ⟨A, c, _, rfl, hB, ho⟩, hb⟩
theorem IlF.reads {B n c : Nat} {L : List Int} {A : Option Addr} {W : World} (h : IlF B L (.slice A n c) W) : RInts W A L := by
  obtain ⟨A', c', base, e, hb, ho⟩ := h
  injection e with e1 e2 e3
  subst e1
  exact OInts.reads ho
/-- What is known in the midst of a deed: the stops are ahead of the reference's. -/
structure MidI (w : World) (B : Nat) (v : Value) (l l' : List Bool) (bx : Nat) (cs : Array Value) (W : World) : Prop where
  own : OBools W w.heap.size v l
  len : l.length ≤ 500
  len' : l'.length ≤ 500
  st : Stp W B l'.length (hOf l')
  below : Below w.heap.size w W
  box : Blk W bx 44 cs
theorem MidI.reads {w W : World} {B bx c : Nat} {A : Option Addr} {l l' : List Bool} {cs : Array Value} (h : MidI w B (.slice A l.length c) l l' bx cs W) : RBools W A l := OBools.reads h.own
theorem MidI.next {w W W' : World} {B bx : Nat} {v : Value} {l l' : List Bool} {cs : Array Value} (h : MidI w B v l l' bx cs W) (hb : Below W.heap.size W W') : MidI w B v l l' bx cs W' :=
  ⟨h.own.next hb, h.len, h.len', h.st.next hb, h.below.trans (hb.mono h.below.size), h.box.next hb⟩
theorem MidI.turn {w W W' : World} {B bx : Nat} {v : Value} {l l' l2 : List Bool} {cs : Array Value} (h : MidI w B v l l' bx cs W) (hl : l2.length ≤ 500) (hs : Stp W' B l2.length (hOf l2)) (hg : W.grownBy W' (some B)) (hB : w.heap.size ≤ B) : MidI w B v l l2 bx cs W' :=
  ⟨h.own.by_stops h.st hg, h.len, hl, hs, below_of_grown h.below hg h.below.size hB, blk_by_stops h.box h.st hg⟩
theorem MidI.give {w W W' : World} {B bx : Nat} {v v' : Value} {l l' : List Bool} {cs : Array Value} (h : MidI w B v l l' bx cs W) (ho : OBools W' W.heap.size v' l') (hb : Below W.heap.size W W') : MidI w B v' l' l' bx cs W' :=
  ⟨World.ownsRow.mono ho h.below.size, h.len', h.len', h.st.next hb, h.below.trans (hb.mono h.below.size), h.box.next hb⟩
theorem MidI.box2 {w W : World} {B bx : Nat} {v a b c : Value} {l l' : List Bool} (h : MidI w B v l l' bx #[a, b, c] W) (hb : w.heap.size ≤ bx) (d : Value) : MidI w B v l l' bx #[a, b, d] (W.setCell ⟨bx, 2, none⟩ d) := by
  refine ⟨World.ownsRow.kept (row := some bx) h.own grown_set1 ?_, h.len, h.len', ?_, h.below.setCell (by simpa using hb) _, ?_⟩
  · rcases h.own.2 with ⟨rfl, _⟩ | ⟨g', cap, cur, rfl, _, hh, _⟩
    · exact .inl rfl
    · right
      intro e
      simp [Value.ownBlock] at e
      subst e
      have hx := h.box
      unfold Blk at hx
      rw [hh] at hx
      injection hx with hx
      injection hx with _ e2
      exact absurd e2 (by decide)
  · obtain ⟨ws, h1, h2⟩ := h.st
    refine ⟨ws, Blk.far h1 ?_ _, h2⟩
    intro e
    have hx := h.box
    unfold Blk at hx h1
    simp only at e
    rw [← e, h1] at hx
    injection hx with hx
    injection hx with _ e2
    exact absurd e2 (by decide)
  · have := h.box.set_ 2 d
    simp only [List.setIfInBounds_toArray, List.set_cons_zero, List.set_cons_succ] at this
    exact this
theorem MidI.play {w W : World} {B bx : Nat} {v : Value} {l : List Bool} {cs : Array Value} (h : MidI w B v l l bx cs W) : PlayI w B v l W := ⟨h.own, h.len, h.st, h.below⟩

set_option maxRecDepth 100000 in
set_option maxHeartbeats 8000000 in
theorem played_any (cols : Int) (A : Option Addr) (c : Nat) (acts : List Ac) (hl : acts.length ≤ maxLen) (w : World) (hr : RActs w A acts) :
    Calls Tryd.prog 6 #[.int .i64 cols, .slice A acts.length c] w fun e w' => ∃ B v l, e = .returned (.tuple #[.pointer (some ⟨B, 0, none⟩), v, .bool true]) ∧ w.heap.size ≤ B ∧ PlayI w B v l w' := by
  have HR := Lib.hid hr
  have HNew := Lib.hid (fun W => new_any cols W)
  have HRs := Lib.hid (fun W => refResize_any none 0 [] (by decide) cols W Reads.none_)
  have hN : colsT cols ≤ 500 := by unfold colsT; omega
  have HNr := Lib.hid (fun d => new_rsz (colsT cols) d)
  have HLn := Lib.hid (rszP_len [] (colsT cols))
  unfold maxLen at hl
  clear hr
  rw [List.length_nil] at HRs
  generalize rszP [] (colsT cols) = L0 at *
  generalize colsT cols = N at *
  go_enter Tryd.func6, Tryd.ntmps6
  go_wp2_with fail
  refine (HNew.out _).mono ?_
  rintro e w1 ⟨rfl, hs1, hb1⟩
  have HS1 := Lib.hid (hs1.to (fun d _ => HNr.out d)); have HB1 := Lib.hid hb1
  clear hs1 hb1
  go_wp2_with fail
  refine (HRs.out _).mono ?_
  rintro e w2 ⟨v, rfl, ho, hb2⟩
  have HI : Hid (PlayI w w.heap.size v L0 w2) := Lib.hid ⟨World.ownsRow.mono ho HB1.out.size, by rw [HLn.out]; exact hN, by rw [HLn.out]; exact HS1.out.next hb2, HB1.out.trans (hb2.mono HB1.out.size)⟩
  clear ho hb2
  go_wp2_with fail
  go_loopw [8, 9] (fun v i wr => ∃ (k : Nat) (l : List Bool), k ≤ acts.length ∧ k ≤ 40 ∧ i = .int .i64 k ∧ PlayI w w.heap.size v l wr) (fun _ i _ => 40 - (intOf i).toNat)
  case atStart => exact ⟨0, L0, by omega, by omega, rfl, HI.out⟩
  case round =>
    obtain ⟨k, l, hk, hk40, rfl, hI⟩ := hrel
    have HP := Lib.hid hI
    clear hI HI
    by_cases hlt : k < acts.length
    · by_cases h40 : k < 40
      · obtain ⟨ad, rfl, _, c0, c1, c2⟩ := (HR.out.next HP.out.below).at_ hlt
        generalize acts[k] = a at *
        obtain ⟨kd, nn, tx⟩ := a
        simp only at c0 c1 c2
        have hd1 : decide (k < acts.length) = true := by simpa using hlt
        have hd2 : decide ((k : Int) < 40) = true := by simp; omega
        go_upto_block 2 with (fail)
        obtain ⟨bx, hbx⟩ : ∃ bx, bx = wr.heap.size := ⟨_, rfl⟩
        have hbw : w.heap.size ≤ bx := by rw [hbx]; exact HP.out.below.size
        rw [← hbx]
        obtain ⟨A1, cc, rfl⟩ := OBools.form HP.out.own
        refine world_gen (MidI w w.heap.size (.slice A1 l.length cc) l l bx #[.int .i64 kd, .int .i64 nn, .string tx]) ⟨(HP.out.own).next (al wr _), HP.out.len, HP.out.len, HP.out.st.next (al wr _), HP.out.below.trans ((al wr _).mono HP.out.below.size), by rw [hbx]; exact Blk.new wr _ _⟩ ?_
        clear c0 c1 c2 hd1 hd2 HP hbx
        intro W0 hW0
        have HM := Lib.hid hW0
        clear hW0
        go_cut [8] (fun u wx => ∃ (l2 : List Bool) (t2 : ByteArray), MidI w w.heap.size u l2 l2 bx #[.int .i64 kd, .int .i64 nn, .string t2] wx)
        case first =>
          have hlen := HM.out.len
          by_cases k1 : kd = 1
          · subst k1
            have HSt := Lib.hid (set_put w.heap.size l nn W0 HM.out.st)
            have HPt := Lib.hid (fun W h => refPut_any A1 cc l hlen nn true W h)
            have HPl := Lib.hid (putP_len l nn true)
            obtain ⟨b0, b1, b2, bf⟩ := cells_act HM.out.box
            go_wp2_with fail
            refine HSt.out.mono ?_
            rintro e w3 ⟨rfl, hs3, hg3⟩
            have HM3 := Lib.hid (HM.out.turn (l2 := putP l nn true) (by rw [HPl.out]; exact hlen) (by rw [HPl.out]; exact hs3) hg3 (Nat.le_refl _))
            clear hs3 hg3 b0 b1 b2 bf
            obtain ⟨b0, b1, b2, bf⟩ := cells_act HM3.out.box
            go_wp2_with fail
            refine (HPt.out _ HM3.out.reads).mono ?_
            rintro e w4 ⟨v4, rfl, ho4, hb4⟩
            have HM4 := Lib.hid (HM3.out.give ho4 hb4)
            clear ho4 hb4 b0 b1 b2 bf
            go_wp2_with fail
            go_meet
            exact ⟨_, _, HM4.out⟩
          · by_cases k2 : kd = 2
            · subst k2
              clear k1
              have HSt := Lib.hid (clear_put w.heap.size l nn W0 HM.out.st)
              have HPt := Lib.hid (fun W h => refPut_any A1 cc l hlen nn false W h)
              have HPl := Lib.hid (putP_len l nn false)
              obtain ⟨b0, b1, b2, bf⟩ := cells_act HM.out.box
              go_wp2_with fail
              refine HSt.out.mono ?_
              rintro e w3 ⟨rfl, hs3, hg3⟩
              have HM3 := Lib.hid (HM.out.turn (l2 := putP l nn false) (by rw [HPl.out]; exact hlen) (by rw [HPl.out]; exact hs3) hg3 (Nat.le_refl _))
              clear hs3 hg3 b0 b1 b2 bf
              obtain ⟨b0, b1, b2, bf⟩ := cells_act HM3.out.box
              go_wp2_with fail
              refine (HPt.out _ HM3.out.reads).mono ?_
              rintro e w4 ⟨v4, rfl, ho4, hb4⟩
              have HM4 := Lib.hid (HM3.out.give ho4 hb4)
              clear ho4 hb4 b0 b1 b2 bf
              go_wp2_with fail
              go_meet
              exact ⟨_, _, HM4.out⟩
            · by_cases k3 : kd = 3
              · subst k3
                clear k1 k2
                obtain ⟨i0, hi0, hz0, hz1, hz2⟩ := info_parts info_bool
                have HI0 := Lib.hid hi0; have HZ0 := Lib.hid hz0; have HZ1 := Lib.hid hz1; have HZ2 := Lib.hid hz2
                clear hi0 hz0 hz1 hz2
                have HCa := Lib.hid (clearAll_any w.heap.size l.length (hOf l) W0 HM.out.st)
                obtain ⟨b0, b1, b2, bf⟩ := cells_act HM.out.box
                go_wp2_with fail
                refine HCa.out.mono ?_
                rintro e w3 ⟨rfl, hs3, hg3⟩
                have HM3 := Lib.hid (HM.out.turn (l2 := List.replicate l.length false) (by simpa using hlen) (by simpa using hs3.to (fun d _ => hOf_none l.length d)) hg3 (Nat.le_refl _))
                clear hs3 hg3 b0 b1 b2 bf
                go_wp2_with (at_make; refine wpList_make_full _ rfl _ _ 25 rfl w3.heap.size 4 i0 _ 1 Tryd.underlying25 HI0.out HZ0.out HZ1.out _ _ _ _ l.length rfl rfl rfl rfl (by rw [HZ2.out]; omega) (by unfold maxLen; omega) (Nat.le_refl _) ?_; intro w4 hown hgr; have HM4 := Lib.hid (HM3.out.give (v' := .slice (some ⟨w3.heap.size, 0, none⟩) l.length l.length) (by rw [made_bools] at hown; unfold OBools; rw [List.length_replicate]; exact hown) (below_none hgr (Nat.le_refl _))); clear hown hgr)
                go_meet
                exact ⟨_, _, HM4.out⟩
              · by_cases k4 : kd = 4
                · subst k4
                  clear k1 k2 k3
                  have HSt := Lib.hid (resize_rsz w.heap.size l nn W0 HM.out.st)
                  have HPt := Lib.hid (fun W h => refResize_any A1 cc l hlen nn W h)
                  have HPl := Lib.hid (rszP_len l (colsT nn))
                  have hN2 : colsT nn ≤ 500 := by unfold colsT; omega
                  obtain ⟨b0, b1, b2, bf⟩ := cells_act HM.out.box
                  go_wp2_with fail
                  refine HSt.out.mono ?_
                  rintro e w3 ⟨rfl, hs3, hg3⟩
                  have HM3 := Lib.hid (HM.out.turn (l2 := rszP l (colsT nn)) (by rw [HPl.out]; exact hN2) hs3 hg3 (Nat.le_refl _))
                  clear hs3 hg3 b0 b1 b2 bf
                  obtain ⟨b0, b1, b2, bf⟩ := cells_act HM3.out.box
                  go_wp2_with fail
                  refine (HPt.out _ HM3.out.reads).mono ?_
                  rintro e w4 ⟨v4, rfl, ho4, hb4⟩
                  have HM4 := Lib.hid (HM3.out.give ho4 hb4)
                  clear ho4 hb4 b0 b1 b2 bf
                  go_wp2_with fail
                  go_meet
                  exact ⟨_, _, HM4.out⟩
                · by_cases k5 : kd = 5
                  · subst k5
                    clear k1 k2 k3 k4
                    have hL : l.length ≤ 500 := hlen
                    by_cases hsz : 3000 < tx.size
                    · have hd : decide (3000 < (tx.size : Int)) = true := by simp; omega
                      have hes : (tx.extract 0 3000).size ≤ 100000 := by simp; omega
                      have HRe := Lib.hid (fun W s' => restore_any w.heap.size l.length (hOf l) (tx.extract 0 3000) hes W s')
                      have HRr := Lib.hid (fun W => refRestore_any A1 cc l hL (tx.extract 0 3000) hes W)
                      obtain ⟨b0, b1, b2, bf⟩ := cells_act HM.out.box
                      have HMa := Lib.hid (HM.out.box2 hbw (.string (tx.extract 0 3000)))
                      have h3 : (3000 : Int) ≤ (tx.size : Int) := by omega
                      go_wp2_with fail
                      refine (HRe.out _ HMa.out.st).mono ?_
                      rintro e w3 ⟨hg3, ⟨out, hZ, hol, rfl, hs3⟩ | ⟨hZ, rfl, hs3⟩⟩
                      · have HM3 := Lib.hid (HMa.out.turn (l2 := out) (by rw [hol]; exact hL) (by rw [hol]; exact hs3) hg3 (Nat.le_refl _))
                        have HZ := Lib.hid hZ
                        clear hs3 hg3 hZ b0 b1 b2 bf hol
                        obtain ⟨b0, b1, b2, bf⟩ := cells_act HM3.out.box
                        go_wp2_with fail
                        refine (HRr.out _).mono ?_
                        rintro e w4 ⟨hb4, ⟨v4, out4, hZ4, rfl, ho4⟩ | ⟨hZ4, rfl⟩⟩
                        · have e4 : out4 = out := by rw [HZ.out] at hZ4; exact (Option.some.inj hZ4).symm
                          subst e4
                          have HM4 := Lib.hid (HM3.out.give ho4 hb4)
                          clear ho4 hb4 hZ4 b0 b1 b2 bf
                          go_wp2_with fail
                          go_meet
                          exact ⟨_, _, HM4.out⟩
                        · rw [HZ.out] at hZ4; cases hZ4
                      · have HM3 := Lib.hid (HMa.out.turn (l2 := l) hL hs3 hg3 (Nat.le_refl _))
                        have HZ := Lib.hid hZ
                        clear hs3 hg3 hZ b0 b1 b2 bf
                        obtain ⟨b0, b1, b2, bf⟩ := cells_act HM3.out.box
                        go_wp2_with fail
                        refine (HRr.out _).mono ?_
                        rintro e w4 ⟨hb4, ⟨v4, out4, hZ4, rfl, ho4⟩ | ⟨hZ4, rfl⟩⟩
                        · rw [HZ.out] at hZ4; cases hZ4
                        · have HM4 := Lib.hid (HM3.out.next hb4)
                          clear hb4 hZ4 b0 b1 b2 bf
                          go_wp2_with fail
                          go_meet
                          exact ⟨_, _, HM4.out⟩
                    · have hd : decide (3000 < (tx.size : Int)) = false := by simp; omega
                      have hes : tx.size ≤ 100000 := by omega
                      have HRe := Lib.hid (fun W s' => restore_any w.heap.size l.length (hOf l) tx hes W s')
                      have HRr := Lib.hid (fun W => refRestore_any A1 cc l hL tx hes W)
                      obtain ⟨b0, b1, b2, bf⟩ := cells_act HM.out.box
                      have HMa := HM
                      go_wp2_with fail
                      refine (HRe.out _ HMa.out.st).mono ?_
                      rintro e w3 ⟨hg3, ⟨out, hZ, hol, rfl, hs3⟩ | ⟨hZ, rfl, hs3⟩⟩
                      · have HM3 := Lib.hid (HMa.out.turn (l2 := out) (by rw [hol]; exact hL) (by rw [hol]; exact hs3) hg3 (Nat.le_refl _))
                        have HZ := Lib.hid hZ
                        clear hs3 hg3 hZ b0 b1 b2 bf hol
                        obtain ⟨b0, b1, b2, bf⟩ := cells_act HM3.out.box
                        go_wp2_with fail
                        refine (HRr.out _).mono ?_
                        rintro e w4 ⟨hb4, ⟨v4, out4, hZ4, rfl, ho4⟩ | ⟨hZ4, rfl⟩⟩
                        · have e4 : out4 = out := by rw [HZ.out] at hZ4; exact (Option.some.inj hZ4).symm
                          subst e4
                          have HM4 := Lib.hid (HM3.out.give ho4 hb4)
                          clear ho4 hb4 hZ4 b0 b1 b2 bf
                          go_wp2_with fail
                          go_meet
                          exact ⟨_, _, HM4.out⟩
                        · rw [HZ.out] at hZ4; cases hZ4
                      · have HM3 := Lib.hid (HMa.out.turn (l2 := l) hL hs3 hg3 (Nat.le_refl _))
                        have HZ := Lib.hid hZ
                        clear hs3 hg3 hZ b0 b1 b2 bf
                        obtain ⟨b0, b1, b2, bf⟩ := cells_act HM3.out.box
                        go_wp2_with fail
                        refine (HRr.out _).mono ?_
                        rintro e w4 ⟨hb4, ⟨v4, out4, hZ4, rfl, ho4⟩ | ⟨hZ4, rfl⟩⟩
                        · rw [HZ.out] at hZ4; cases hZ4
                        · have HM4 := Lib.hid (HM3.out.next hb4)
                          clear hb4 hZ4 b0 b1 b2 bf
                          go_wp2_with fail
                          go_meet
                          exact ⟨_, _, HM4.out⟩
                  · have e1 : (kd == 1) = false := by simpa using k1
                    have e2 : (kd == 2) = false := by simpa using k2
                    have e3 : (kd == 3) = false := by simpa using k3
                    have e4 : (kd == 4) = false := by simpa using k4
                    have e5 : (kd == 5) = false := by simpa using k5
                    obtain ⟨b0, b1, b2, bf⟩ := cells_act HM.out.box
                    clear k1 k2 k3 k4 k5
                    go_wp2_with fail
                    go_meet
                    exact ⟨_, _, HM.out⟩
        case rest =>
          obtain ⟨l2, t2, hm⟩ := hcut
          obtain ⟨A2, c2, rfl⟩ := OBools.form hm.own
          have hlen := hm.len
          have hrd := hm.reads
          have HM2 := Lib.hid hm
          clear hm HM
          have HCo := Lib.hid (fun W s' => cols_any w.heap.size l2.length (hOf l2) W s')
          have HLi := Lib.hid (fun W s' => list_any w.heap.size l2.length (hOf l2) W s')
          have HRl := Lib.hid (fun W h => refList_any A2 c2 l2 hlen W h)
          have hml := lstP_len (hOf l2) l2.length
          have HSa := Lib.hid (fun (A B : Option Addr) (c d : Nat) (W : World) h h' => (by
            have := sameInts_any A B c d (lstP (hOf l2) l2.length) (lstP (hOf l2) l2.length) (by unfold maxLen; omega) (by unfold maxLen; omega) W h h'
            rw [show (lstP (hOf l2) l2.length == lstP (hOf l2) l2.length) = true from by simp] at this
            exact this : Calls Tryd.prog 12 #[.slice A (lstP (hOf l2) l2.length).length c, .slice B (lstP (hOf l2) l2.length).length d] W fun e w' => e = .returned (.bool true) ∧ Below W.heap.size W w'))
          have HRd := Lib.hid hrd
          clear hrd
          have hcase : (nn < 0 ∧ decide (0 ≤ nn) = false) ∨ ((l2.length : Int) ≤ nn ∧ decide (0 ≤ nn) = true ∧ decide (nn < (l2.length : Int)) = false) ∨ (∃ m : Nat, nn = m ∧ m < l2.length) := by
            by_cases h0 : nn < 0
            · exact .inl ⟨h0, by simp; omega⟩
            · by_cases h1 : (l2.length : Int) ≤ nn
              · exact .inr (.inl ⟨h1, by simp; omega, by simp; omega⟩)
              · exact .inr (.inr ⟨nn.toNat, by omega, by omega⟩)
          generalize hL : lstP (hOf l2) l2.length = L at *
          have HIn : Hid (∀ m : Nat, m < l2.length → ∀ W, Stp W w.heap.size l2.length (hOf l2) → Calls Tryd.prog 26 #[.pointer (some ⟨w.heap.size, 0, none⟩), .int .i64 (m : Int)] W fun e w' => e = .returned (.bool (hOf l2 m)) ∧ Below W.heap.size W w') := Lib.hid (fun m hm W s' => has_yes w.heap.size l2.length (hOf l2) m hm W s')
          have HOut := Lib.hid (fun hc W s' => has_no w.heap.size l2.length (hOf l2) nn hc W s')
          clear hL
          rcases hcase with ⟨h0, hd0⟩ | ⟨h1, hd0, hd1⟩ | ⟨m, rfl, hmlt⟩
          · have HH := Lib.hid (HOut.out (by omega))
            clear HOut HIn
            go_wp2_with fail
            have HC := Lib.hid (fun w' (h : Only [] wc w') => cells_act (HM2.out.box.next h.below0))
            refine wp_region_mix_lit (by kernel_rfl) [(1, .call (.int .i64 l2.length)), (7, .letter (IlP L.length) (IlF wc.heap.size L)), (9, .letter (IlP L.length) (IlF wc.heap.size L)), (10, .call (.bool true)), (17, .call (.bool false))] (by kernel_rfl) (by kernel_rfl) (by kernel_rfl) (by rfl) (by simp [apartK] <;> omega) (by simp [startK]) (by repeat (first | (refine List.forall_mem_cons.2 ⟨?_, ?_⟩; (first | exact trivial | exact ilF_stab _ _ _ (by simp [boxes, Kind.boxed]))) | (intro x hx; cases hx; done))) (⟨fun i => .slice none L.length 0, by repeat (first | (refine List.forall_mem_cons.2 ⟨?_, ?_⟩; (first | exact trivial | exact ⟨none, _, rfl⟩ | exact ⟨_, rfl, Nat.le_refl _⟩)) | (intro x hx; cases hx; done))⟩) (fun β hβ => ?_)
            obtain ⟨A7, c7, e7⟩ := (hβ 7 : IlP L.length (β 7))
            obtain ⟨A9, c9, e9⟩ := (hβ 9 : IlP L.length (β 9))
            repeat (
              refine lex_val (v := ?_) rfl rfl (fun w' hf => ?_) ?_
              rotate_left
              · go_simp
                try rfl
              try simp only [Act.put, List.setIfInBounds_toArray, List.set_cons_zero, List.set_cons_succ])
            refine lex_call (f := 10) (args := ?_) rfl rfl (fun w' hf => ?_) (fun w' hf => ?_) ?_
            rotate_left
            · go_simp
              try rfl
            · exact HCo.out w' (HM2.out.st.next hf.only.below0)
            try simp only [Act.put, List.setIfInBounds_toArray, List.set_cons_zero, List.set_cons_succ]
            repeat (
              refine lex_val (v := ?_) rfl rfl (fun w' hf => ?_) ?_
              rotate_left
              · go_simp
                try rfl
              try simp only [Act.put, List.setIfInBounds_toArray, List.set_cons_zero, List.set_cons_succ])
            refine lex_letter (f := 13) (args := ?_) rfl rfl (fun w' hf => ?_) (fun w' hf => ?_) ?_
            rotate_left
            · go_simp
              try rfl
            · exact il_own hf.only.size rfl (HLi.out w' (HM2.out.st.next hf.only.below0))
            try simp only [Act.put, List.setIfInBounds_toArray, List.set_cons_zero, List.set_cons_succ]
            repeat (
              refine lex_val (v := ?_) rfl rfl (fun w' hf => ?_) ?_
              rotate_left
              · go_simp
                try rfl
              try simp only [Act.put, List.setIfInBounds_toArray, List.set_cons_zero, List.set_cons_succ])
            refine lex_letter (f := 25) (args := ?_) rfl rfl (fun w' hf => ?_) (fun w' hf => ?_) ?_
            rotate_left
            · go_simp
              try rfl
            · exact il_own hf.only.size rfl (HRl.out w' (HRd.out.next hf.only.below0))
            try simp only [Act.put, List.setIfInBounds_toArray, List.set_cons_zero, List.set_cons_succ]
            refine lex_call (f := 12) (args := ?_) rfl rfl (fun w' hf => ?_) (fun w' hf => ?_) ?_
            rotate_left
            · go_simp
              try rfl
            · exact HSa.out A7 A9 c7 c9 w' (IlF.reads (n := L.length) (c := c7) (by have := hf.got 7 _ _ rfl (by kernel_rfl); rw [e7] at this; exact this)) (IlF.reads (n := L.length) (c := c9) (by have := hf.got 9 _ _ rfl (by kernel_rfl); rw [e9] at this; exact this))
            try simp only [Act.put, List.setIfInBounds_toArray, List.set_cons_zero, List.set_cons_succ]
            repeat (
              refine lex_val (v := ?_) rfl rfl (fun w' hf => ?_) ?_
              rotate_left
              · obtain ⟨b0, b1, b2, _⟩ := HC.out w' hf.only; go_simp
                try rfl
              try simp only [Act.put, List.setIfInBounds_toArray, List.set_cons_zero, List.set_cons_succ])
            refine lex_call (f := 26) (args := ?_) rfl rfl (fun w' hf => ?_) (fun w' hf => ?_) ?_
            rotate_left
            · go_simp
              try rfl
            · exact HH.out w' (HM2.out.st.next hf.only.below0)
            try simp only [Act.put, List.setIfInBounds_toArray, List.set_cons_zero, List.set_cons_succ]
            repeat (
              refine lex_val (v := ?_) rfl rfl (fun w' hf => ?_) ?_
              rotate_left
              · obtain ⟨b0, b1, b2, _⟩ := HC.out w' hf.only; go_simp
                try rfl
              try simp only [Act.put, List.setIfInBounds_toArray, List.set_cons_zero, List.set_cons_succ])
            repeat (
              refine lex_skip rfl rfl ?_
              try simp only [Act.put, List.setIfInBounds_toArray, List.set_cons_zero, List.set_cons_succ])
            repeat (
              refine lex_val (v := ?_) rfl rfl (fun w' hf => ?_) ?_
              rotate_left
              · go_simp
                try rfl
              try simp only [Act.put, List.setIfInBounds_toArray, List.set_cons_zero, List.set_cons_succ])
            repeat (
              refine lex_skip rfl rfl ?_
              try simp only [Act.put, List.setIfInBounds_toArray, List.set_cons_zero, List.set_cons_succ])
            repeat (
              refine lex_val (v := ?_) rfl rfl (fun w' hf => ?_) ?_
              rotate_left
              · go_simp
                try rfl
              try simp only [Act.put, List.setIfInBounds_toArray, List.set_cons_zero, List.set_cons_succ])
            refine lex_nil fun w5 he => ?_
            have HP5 := Lib.hid (HM2.out.play.next he.only.below0)
            clear he hβ HC HM2
            go_wp2_with fail
            go_roundw
            case rel => exact ⟨k + 1, l2, by omega, by omega, by go_num, HP5.out⟩
            case measure => simp [intOf]; omega
          · have HH := Lib.hid (HOut.out (by omega))
            clear HOut HIn
            go_wp2_with fail
            have HC := Lib.hid (fun w' (h : Only [] wc w') => cells_act (HM2.out.box.next h.below0))
            refine wp_region_mix_lit (by kernel_rfl) [(1, .call (.int .i64 l2.length)), (7, .letter (IlP L.length) (IlF wc.heap.size L)), (9, .letter (IlP L.length) (IlF wc.heap.size L)), (10, .call (.bool true)), (17, .call (.bool false))] (by kernel_rfl) (by kernel_rfl) (by kernel_rfl) (by rfl) (by simp [apartK] <;> omega) (by simp [startK]) (by repeat (first | (refine List.forall_mem_cons.2 ⟨?_, ?_⟩; (first | exact trivial | exact ilF_stab _ _ _ (by simp [boxes, Kind.boxed]))) | (intro x hx; cases hx; done))) (⟨fun i => .slice none L.length 0, by repeat (first | (refine List.forall_mem_cons.2 ⟨?_, ?_⟩; (first | exact trivial | exact ⟨none, _, rfl⟩ | exact ⟨_, rfl, Nat.le_refl _⟩)) | (intro x hx; cases hx; done))⟩) (fun β hβ => ?_)
            obtain ⟨A7, c7, e7⟩ := (hβ 7 : IlP L.length (β 7))
            obtain ⟨A9, c9, e9⟩ := (hβ 9 : IlP L.length (β 9))
            repeat (
              refine lex_val (v := ?_) rfl rfl (fun w' hf => ?_) ?_
              rotate_left
              · go_simp
                try rfl
              try simp only [Act.put, List.setIfInBounds_toArray, List.set_cons_zero, List.set_cons_succ])
            refine lex_call (f := 10) (args := ?_) rfl rfl (fun w' hf => ?_) (fun w' hf => ?_) ?_
            rotate_left
            · go_simp
              try rfl
            · exact HCo.out w' (HM2.out.st.next hf.only.below0)
            try simp only [Act.put, List.setIfInBounds_toArray, List.set_cons_zero, List.set_cons_succ]
            repeat (
              refine lex_val (v := ?_) rfl rfl (fun w' hf => ?_) ?_
              rotate_left
              · go_simp
                try rfl
              try simp only [Act.put, List.setIfInBounds_toArray, List.set_cons_zero, List.set_cons_succ])
            refine lex_letter (f := 13) (args := ?_) rfl rfl (fun w' hf => ?_) (fun w' hf => ?_) ?_
            rotate_left
            · go_simp
              try rfl
            · exact il_own hf.only.size rfl (HLi.out w' (HM2.out.st.next hf.only.below0))
            try simp only [Act.put, List.setIfInBounds_toArray, List.set_cons_zero, List.set_cons_succ]
            repeat (
              refine lex_val (v := ?_) rfl rfl (fun w' hf => ?_) ?_
              rotate_left
              · go_simp
                try rfl
              try simp only [Act.put, List.setIfInBounds_toArray, List.set_cons_zero, List.set_cons_succ])
            refine lex_letter (f := 25) (args := ?_) rfl rfl (fun w' hf => ?_) (fun w' hf => ?_) ?_
            rotate_left
            · go_simp
              try rfl
            · exact il_own hf.only.size rfl (HRl.out w' (HRd.out.next hf.only.below0))
            try simp only [Act.put, List.setIfInBounds_toArray, List.set_cons_zero, List.set_cons_succ]
            refine lex_call (f := 12) (args := ?_) rfl rfl (fun w' hf => ?_) (fun w' hf => ?_) ?_
            rotate_left
            · go_simp
              try rfl
            · exact HSa.out A7 A9 c7 c9 w' (IlF.reads (n := L.length) (c := c7) (by have := hf.got 7 _ _ rfl (by kernel_rfl); rw [e7] at this; exact this)) (IlF.reads (n := L.length) (c := c9) (by have := hf.got 9 _ _ rfl (by kernel_rfl); rw [e9] at this; exact this))
            try simp only [Act.put, List.setIfInBounds_toArray, List.set_cons_zero, List.set_cons_succ]
            repeat (
              refine lex_val (v := ?_) rfl rfl (fun w' hf => ?_) ?_
              rotate_left
              · obtain ⟨b0, b1, b2, _⟩ := HC.out w' hf.only; go_simp
                try rfl
              try simp only [Act.put, List.setIfInBounds_toArray, List.set_cons_zero, List.set_cons_succ])
            refine lex_call (f := 26) (args := ?_) rfl rfl (fun w' hf => ?_) (fun w' hf => ?_) ?_
            rotate_left
            · go_simp
              try rfl
            · exact HH.out w' (HM2.out.st.next hf.only.below0)
            try simp only [Act.put, List.setIfInBounds_toArray, List.set_cons_zero, List.set_cons_succ]
            repeat (
              refine lex_val (v := ?_) rfl rfl (fun w' hf => ?_) ?_
              rotate_left
              · obtain ⟨b0, b1, b2, _⟩ := HC.out w' hf.only; go_simp
                try rfl
              try simp only [Act.put, List.setIfInBounds_toArray, List.set_cons_zero, List.set_cons_succ])
            repeat (
              refine lex_skip rfl rfl ?_
              try simp only [Act.put, List.setIfInBounds_toArray, List.set_cons_zero, List.set_cons_succ])
            repeat (
              refine lex_val (v := ?_) rfl rfl (fun w' hf => ?_) ?_
              rotate_left
              · go_simp
                try rfl
              try simp only [Act.put, List.setIfInBounds_toArray, List.set_cons_zero, List.set_cons_succ])
            refine lex_nil fun w5 he => ?_
            have HP5 := Lib.hid (HM2.out.play.next he.only.below0)
            clear he hβ HC HM2
            go_wp2_with fail
            go_roundw
            case rel => exact ⟨k + 1, l2, by omega, by omega, by go_num, HP5.out⟩
            case measure => simp [intOf]; omega
          · have HH0 := Lib.hid (HIn.out m hmlt)
            obtain ⟨ad2, rfl, _⟩ := HRd.out.at_ hmlt
            have HC2 := Lib.hid (fun w' (h : Only [] wc w') => (by
              obtain ⟨ad', e, _, h3⟩ := (HRd.out.next h.below0).at_ hmlt
              injection e with e
              subst e
              rw [← hOf_in l2 m hmlt] at h3
              exact h3 : w'.cell? (ad2.add m) = some (.bool (hOf l2 m))))
            have hd0 : decide (m < l2.length) = true := by simpa using hmlt
            generalize hOf l2 m = bb at *
            have HH := HH0
            clear HH0
            clear HOut HIn
            go_wp2_with fail
            have HC := Lib.hid (fun w' (h : Only [] wc w') => cells_act (HM2.out.box.next h.below0))
            refine wp_region_mix_lit (by kernel_rfl) [(1, .call (.int .i64 l2.length)), (7, .letter (IlP L.length) (IlF wc.heap.size L)), (9, .letter (IlP L.length) (IlF wc.heap.size L)), (10, .call (.bool true)), (17, .call (.bool bb))] (by kernel_rfl) (by kernel_rfl) (by kernel_rfl) (by rfl) (by simp [apartK] <;> omega) (by simp [startK]) (by repeat (first | (refine List.forall_mem_cons.2 ⟨?_, ?_⟩; (first | exact trivial | exact ilF_stab _ _ _ (by simp [boxes, Kind.boxed]))) | (intro x hx; cases hx; done))) (⟨fun i => .slice none L.length 0, by repeat (first | (refine List.forall_mem_cons.2 ⟨?_, ?_⟩; (first | exact trivial | exact ⟨none, _, rfl⟩ | exact ⟨_, rfl, Nat.le_refl _⟩)) | (intro x hx; cases hx; done))⟩) (fun β hβ => ?_)
            obtain ⟨A7, c7, e7⟩ := (hβ 7 : IlP L.length (β 7))
            obtain ⟨A9, c9, e9⟩ := (hβ 9 : IlP L.length (β 9))
            repeat (
              refine lex_val (v := ?_) rfl rfl (fun w' hf => ?_) ?_
              rotate_left
              · go_simp
                try rfl
              try simp only [Act.put, List.setIfInBounds_toArray, List.set_cons_zero, List.set_cons_succ])
            refine lex_call (f := 10) (args := ?_) rfl rfl (fun w' hf => ?_) (fun w' hf => ?_) ?_
            rotate_left
            · go_simp
              try rfl
            · exact HCo.out w' (HM2.out.st.next hf.only.below0)
            try simp only [Act.put, List.setIfInBounds_toArray, List.set_cons_zero, List.set_cons_succ]
            repeat (
              refine lex_val (v := ?_) rfl rfl (fun w' hf => ?_) ?_
              rotate_left
              · go_simp
                try rfl
              try simp only [Act.put, List.setIfInBounds_toArray, List.set_cons_zero, List.set_cons_succ])
            refine lex_letter (f := 13) (args := ?_) rfl rfl (fun w' hf => ?_) (fun w' hf => ?_) ?_
            rotate_left
            · go_simp
              try rfl
            · exact il_own hf.only.size rfl (HLi.out w' (HM2.out.st.next hf.only.below0))
            try simp only [Act.put, List.setIfInBounds_toArray, List.set_cons_zero, List.set_cons_succ]
            repeat (
              refine lex_val (v := ?_) rfl rfl (fun w' hf => ?_) ?_
              rotate_left
              · go_simp
                try rfl
              try simp only [Act.put, List.setIfInBounds_toArray, List.set_cons_zero, List.set_cons_succ])
            refine lex_letter (f := 25) (args := ?_) rfl rfl (fun w' hf => ?_) (fun w' hf => ?_) ?_
            rotate_left
            · go_simp
              try rfl
            · exact il_own hf.only.size rfl (HRl.out w' (HRd.out.next hf.only.below0))
            try simp only [Act.put, List.setIfInBounds_toArray, List.set_cons_zero, List.set_cons_succ]
            refine lex_call (f := 12) (args := ?_) rfl rfl (fun w' hf => ?_) (fun w' hf => ?_) ?_
            rotate_left
            · go_simp
              try rfl
            · exact HSa.out A7 A9 c7 c9 w' (IlF.reads (n := L.length) (c := c7) (by have := hf.got 7 _ _ rfl (by kernel_rfl); rw [e7] at this; exact this)) (IlF.reads (n := L.length) (c := c9) (by have := hf.got 9 _ _ rfl (by kernel_rfl); rw [e9] at this; exact this))
            try simp only [Act.put, List.setIfInBounds_toArray, List.set_cons_zero, List.set_cons_succ]
            repeat (
              refine lex_val (v := ?_) rfl rfl (fun w' hf => ?_) ?_
              rotate_left
              · obtain ⟨b0, b1, b2, _⟩ := HC.out w' hf.only; go_simp
                try rfl
              try simp only [Act.put, List.setIfInBounds_toArray, List.set_cons_zero, List.set_cons_succ])
            refine lex_call (f := 26) (args := ?_) rfl rfl (fun w' hf => ?_) (fun w' hf => ?_) ?_
            rotate_left
            · go_simp
              try rfl
            · exact HH.out w' (HM2.out.st.next hf.only.below0)
            try simp only [Act.put, List.setIfInBounds_toArray, List.set_cons_zero, List.set_cons_succ]
            repeat (
              refine lex_val (v := ?_) rfl rfl (fun w' hf => ?_) ?_
              rotate_left
              · obtain ⟨b0, b1, b2, _⟩ := HC.out w' hf.only; have hcc := HC2.out w' hf.only; go_simp
                try rfl
              try simp only [Act.put, List.setIfInBounds_toArray, List.set_cons_zero, List.set_cons_succ])
            refine lex_nil fun w5 he => ?_
            have HP5 := Lib.hid (HM2.out.play.next he.only.below0)
            clear he hβ HC HM2
            go_wp2_with fail
            go_roundw
            case rel => exact ⟨k + 1, l2, by omega, by omega, by go_num, HP5.out⟩
            case measure => simp [intOf]; omega
      · have hd1 : decide (k < acts.length) = true := by simpa using hlt
        have hd2 : decide ((k : Int) < 40) = false := by simp; omega
        go_wp2_with fail
        go_ret3
        exact ⟨_, _, l, rfl, Nat.le_refl _, HP.out⟩
    · have hd1 : decide (k < acts.length) = false := by simpa using hlt
      go_wp2_with fail
      go_ret3
      exact ⟨_, _, l, rfl, Nat.le_refl _, HP.out⟩
end Go.Proofs.YtnfdgioapbkonaaDoor
