/-
  Lists that share no memory are found apart.
-/
import Derived.Test.YtbndnaohjloanaaDoorKeepB
namespace Go.Proofs.YtbndnaohjloanaaDoor

open Go Go.RowKit

theorem own_put {W : World} {b g n c : Nat} {L : List Cl} (h : OCells W b (.slice (some ⟨g, 0, none⟩) n c) L) (hn : n = L.length) {k : Nat} (hk : k < L.length) (x : Cl) :
    OCells (((W.setCell ⟨g, k * 3, none⟩ (.int .i32 x.g)).setCell ⟨g, k * 3 + 1, none⟩ (.int .u8 x.r)).setCell ⟨g, k * 3 + 2, none⟩ (.bool x.k)) b (.slice (some ⟨g, 0, none⟩) n c) (L.set k x) ∧
    W.grownBy (((W.setCell ⟨g, k * 3, none⟩ (.int .i32 x.g)).setCell ⟨g, k * 3 + 1, none⟩ (.int .u8 x.r)).setCell ⟨g, k * 3 + 2, none⟩ (.bool x.k)) (some g) := by
  subst hn
  have h0 : W.ownsRow b 45 3 (.slice (some ⟨g, 0, none⟩) L.length c) L.length (L.flatMap Cl.cells) := h
  have h1 := World.ownsRow.stored h0 (k * 3) (.int .i32 x.g)
  have h2 := World.ownsRow.stored h1.1 (k * 3 + 1) (.int .u8 x.r)
  have h3 := World.ownsRow.stored h2.1 (k * 3 + 2) (.bool x.k)
  refine ⟨?_, grown_tr (grown_tr h1.2 h2.2) h3.2⟩
  have e := flat_set L k hk x
  unfold OCells
  rw [List.length_set, ← e]
  exact h3.1
theorem own_at {W : World} {b g n c : Nat} {L : List Cl} (h : OCells W b (.slice (some ⟨g, 0, none⟩) n c) L) (hn : n = L.length) {k : Nat} (hk : k < L.length) :
    (W.cell? ⟨g, k * 3, none⟩ = some (.int .i32 L[k].g) ∧ W.cell? ⟨g, k * 3 + 1, none⟩ = some (.int .u8 L[k].r) ∧ W.cell? ⟨g, k * 3 + 2, none⟩ = some (.bool L[k].k)) ∧
    W.frozen? ⟨g, k * 3, none⟩ = false ∧ W.frozen? ⟨g, k * 3 + 1, none⟩ = false ∧ W.frozen? ⟨g, k * 3 + 2, none⟩ = false := by
  subst hn
  have h0 : W.ownsRow b 45 3 (.slice (some ⟨g, 0, none⟩) L.length c) L.length (L.flatMap Cl.cells) := h
  obtain ⟨q1, q2, q3⟩ := flat_at L k hk
  refine ⟨⟨?_, ?_, ?_⟩, World.ownsRow.frozenAt h0 _, World.ownsRow.frozenAt h0 _, World.ownsRow.frozenAt h0 _⟩
  · rw [World.ownsRow.cellAt h0 _ (by omega)]; exact q1
  · rw [World.ownsRow.cellAt h0 _ (by omega)]; exact q2
  · rw [World.ownsRow.cellAt h0 _ (by omega)]; exact q3
/-- A store at the head of what has been grown leaves the old slice as it was, if its head is what is stored. -/
theorem own_head {W : World} {b g n c : Nat} {L : List Cl} (h : OCells W b (.slice (some ⟨g, 0, none⟩) n c) L) (hn : n = L.length) (x : Cl) (hx : ∀ y, L[0]? = some y → y = x) :
    OCells (((W.setCell ⟨g, 0, none⟩ (.int .i32 x.g)).setCell ⟨g, 1, none⟩ (.int .u8 x.r)).setCell ⟨g, 2, none⟩ (.bool x.k)) b (.slice (some ⟨g, 0, none⟩) n c) L := by
  cases L with
  | nil =>
    subst hn
    have h0 : W.ownsRow b 45 3 (.slice (some ⟨g, 0, none⟩) 0 c) 0 [] := h
    exact (World.ownsRow.stored (World.ownsRow.stored (World.ownsRow.stored h0 0 (.int .i32 x.g)).1 1 (.int .u8 x.r)).1 2 (.bool x.k)).1
  | cons y L =>
    have hy := hx y rfl
    subst hy
    have := (own_put h hn (k := 0) (by simp) y).1
    simpa using this
theorem LS.other {W W' : World} {b gu : Nat} {A : Option Addr} {vs : List Value} {Ls : List (List Cl)} (h : LS W b A vs Ls) (hg : W.grownBy W' (some gu)) (hne : ∀ (i : Nat) (v : Value), vs[i]? = some v → v.ownBlock ≠ some gu) (ho : ∀ ad : Addr, A = some ad → ad.block ≠ gu) : LS W' b A vs Ls := by
  refine ⟨h.len, ⟨h.outer.1, fun hp => ?_⟩, fun j u L hj hL => World.ownsRow.kept (row := some gu) (h.own j u L hj hL) hg (.inr (hne j u hj)), h.apart, h.far⟩
  obtain ⟨ad, e, hlt, hc⟩ := h.outer.2 hp
  refine ⟨ad, e, Nat.lt_of_lt_of_le hlt hg.size, fun j u hu => ?_⟩
  have hb : (ad.add j).block = ad.block := block_of_add ad j
  rw [← hc j u hu]
  unfold World.cell?
  rw [hb, hg.block ad.block hlt (fun e2 => ho ad e (Option.some.inj e2))]
def mkC (i k : Nat) : Cl := ⟨1000 * (i : Int) + (k : Int), 0, false⟩
def MkL (M : List (List Cl)) (i : Nat) : Prop := ∀ j L, j < i → M[j]? = some L → ∀ k, k < L.length → L[k]? = some (mkC j k)
/-- What is known in the midst of a row that is written. -/
structure MI (w : World) (b : Nat) (A : Option Addr) (vs : List Value) (N : List Nat) (i : Nat) (M : List (List Cl)) (W : World) : Prop where
  lens : M.map List.length = N
  mks : MkL M i
  ls : LS W b A vs M
  below : Below b w W
theorem MI.at_ {w W : World} {b : Nat} {A : Option Addr} {vs : List Value} {N : List Nat} {i : Nat} {M : List (List Cl)} (h : MI w b A vs N i M W) (j : Nat) (hj : j < vs.length) :
    ∃ ad B cp L, A = some ad ∧ vs[j]? = some (.slice B L.length cp) ∧ M[j]? = some L ∧ N[j]? = some L.length ∧ OCells W b (.slice B L.length cp) L ∧ W.cell? (ad.add j) = some (.slice B L.length cp) := by
  obtain ⟨ad, e, _, hc⟩ := h.ls.outer.2 (by omega)
  have hM : j < M.length := by rw [← h.ls.len]; exact hj
  have hv := List.getElem?_eq_getElem hj
  have hL := List.getElem?_eq_getElem hM
  have ho := h.ls.own j _ _ hv hL
  obtain ⟨B, cp, e2, _⟩ := OCells.form ho
  rw [e2] at ho hv
  exact ⟨ad, B, cp, M[j], e, hv, hL, by rw [← h.lens, List.getElem?_map, hL]; rfl, ho, hc j _ hv⟩
theorem MI.more {w W : World} {b : Nat} {A : Option Addr} {vs : List Value} {N : List Nat} {i n : Nat} {M : List (List Cl)} (h : MI w b A vs N i M W) (hp : ∀ L, M[i]? = some L → ∀ q, q < n → L[q]? = some (mkC i q)) (hl : ∀ L, M[i]? = some L → L.length = n) : MI w b A vs N (i + 1) M W :=
  ⟨h.lens, fun j L hj hL q hq => by
    by_cases e : j = i
    · subst e; exact hp L hL q (by rw [← hl L hL]; exact hq)
    · exact h.mks j L (by omega) hL q hq, h.ls, h.below⟩
theorem MI.next {w W W' : World} {b : Nat} {A : Option Addr} {vs : List Value} {N : List Nat} {i : Nat} {M : List (List Cl)} (h : MI w b A vs N i M W) (hb : Below W.heap.size W W') (hbw : b ≤ w.heap.size) : MI w b A vs N i M W' :=
  ⟨h.lens, h.mks, h.ls.next hb, h.below.trans (hb.mono (Nat.le_trans hbw h.below.size))⟩
theorem new_cells {W : World} {g : Nat} {T : TypeId} {cs : Array Value} (h : Blk W g T cs) : ∀ (j : Nat) (u : Value), cs.toList[j]? = some u → W.cell? ((⟨g, 0, none⟩ : Addr).add j) = some u := fun j u hj => by
  rw [add_cell, h.cell j, ← Array.getElem?_toList]; exact hj
theorem MI.put {w W W' : World} {b : Nat} {A : Option Addr} {vs : List Value} {N : List Nat} {i : Nat} {M : List (List Cl)} (h : MI w b A vs N i M W) {v : Value} {L L' : List Cl} (hv : vs[i]? = some v) (hL : M[i]? = some L) (hg : W.grownBy W' v.ownBlock) (ho : OCells W' b v L') (hl : L'.length = L.length) (hb : b ≤ w.heap.size) : MI w b A vs N i (M.set i L') W' := by
  refine ⟨?_, fun j K hj hK => ?_, h.ls.step hv hg ho, h.ls.below hv hL h.below hb hg⟩
  · rw [List.map_set, hl, ← h.lens]
    have : (M.map List.length)[i]? = some L.length := by rw [List.getElem?_map, hL]; rfl
    obtain ⟨h1, h2⟩ := List.getElem?_eq_some_iff.1 this
    rw [← h2]; exact List.set_getElem_self h1
  · rw [List.getElem?_set_ne (by omega)] at hK
    exact h.mks j K hj hK
theorem put_pre {i k : Nat} {M : List (List Cl)} {L : List Cl} (hL : M[i]? = some L) (hp : ∀ q, q < k → L[q]? = some (mkC i q)) (hk : k < L.length) : ∀ L', (M.set i (L.set k (mkC i k)))[i]? = some L' → ∀ q, q < k + 1 → L'[q]? = some (mkC i q) := by
  intro L' h q hq
  have hlt := (List.getElem?_eq_some_iff.1 hL).1
  rw [List.getElem?_set_self hlt] at h
  obtain rfl := Option.some.inj h
  by_cases e : k = q
  · subst e; rw [List.getElem?_set_self hk]
  · rw [List.getElem?_set_ne e]; exact hp q (by omega)
theorem MI.same {w W W' : World} {b : Nat} {A : Option Addr} {vs : List Value} {N : List Nat} {i k : Nat} {M : List (List Cl)} (h : MI w b A vs N i M W) {v : Value} {L : List Cl} (hv : vs[k]? = some v) (hL : M[k]? = some L) (hg : W.grownBy W' v.ownBlock) (ho : OCells W' b v L) (hb : b ≤ w.heap.size) : MI w b A vs N i M W' :=
  ⟨h.lens, h.mks, h.ls.same hv hL hg ho, h.ls.below hv hL h.below hb hg⟩
theorem MI.head {w W1 W2 : World} {b : Nat} {A : Option Addr} {vs : List Value} {N : List Nat} {m k : Nat} {M : List (List Cl)} (h1 : MI w b A vs N m M W1) (h2 : MI w b A vs N m M W2) {v : Value} {L R : List Cl} (hv : vs[k]? = some v) (hL : M[k]? = some L) (hkm : k < m)
    {gu n cu : Nat} (hu : OCells W2 b (.slice (some ⟨gu, 0, none⟩) n cu) (L ++ R)) (hn : n = (L ++ R).length) (hpos : 0 < (L ++ R).length) (hor : some gu = v.ownBlock ∨ W1.heap.size ≤ gu) (hb : b ≤ w.heap.size) :
    MI w b A vs N m M (((W2.setCell ⟨gu, 0, none⟩ (.int .i32 (L ++ R)[0].g)).setCell ⟨gu, 1, none⟩ (.int .u8 0)).setCell ⟨gu, 2, none⟩ (.bool false)) := by
  have hput := own_put hu hn hpos ⟨(L ++ R)[0].g, 0, false⟩
  simp only [Nat.zero_mul, Nat.zero_add] at hput
  have hg := hput.2
  rcases hor with he | hge
  · have ho := h2.ls.own k v L hv hL
    have hvf : ∃ cp, v = .slice (some ⟨gu, 0, none⟩) L.length cp := by
      rcases (show W2.ownsRow b 45 3 v L.length _ from ho).2 with ⟨rfl, _⟩ | ⟨g, cap, cur, rfl, _⟩
      · simp [Value.ownBlock] at he
      · simp [Value.ownBlock] at he
        subst he
        exact ⟨cap, rfl⟩
    obtain ⟨cp, rfl⟩ := hvf
    have hh := own_head ho rfl ⟨(L ++ R)[0].g, 0, false⟩ (fun y hy => by
      have hl : 0 < L.length := by
        rcases Nat.lt_or_ge 0 L.length with h | h
        · exact h
        · rw [List.getElem?_eq_none h] at hy; cases hy
      have hm := h2.mks k L hkm hL 0 hl
      rw [hy] at hm
      have hyy := Option.some.inj hm
      have e : (L ++ R)[0] = L[0] := List.getElem_append_left hl
      rw [List.getElem?_eq_getElem hl] at hy
      have hy2 := Option.some.inj hy
      rw [e, hy2, hyy]
      rfl)
    exact h2.same hv hL (by rw [← he]; exact hg) hh hb
  · refine ⟨h2.lens, h2.mks, h2.ls.other hg (fun j u hj he => ?_) (fun ad hA he => ?_), h2.below.grown hg (Nat.le_trans hb h2.below.size) (fun q hq => ?_)⟩
    · have hjM : j < M.length := by rw [← h1.ls.len]; exact (List.getElem?_eq_some_iff.1 hj).1
      have hlt := (World.ownsRow.lt (show W1.ownsRow b _ 3 u M[j].length _ from h1.ls.own j u M[j] hj (List.getElem?_eq_getElem hjM)) gu he).2
      omega
    · have hp : 0 < vs.length := Nat.lt_of_le_of_lt (Nat.zero_le _) (List.getElem?_eq_some_iff.1 hv).1
      obtain ⟨ad', e', hlt, _⟩ := h1.ls.outer.2 hp
      rw [hA] at e'
      obtain rfl := Option.some.inj e'
      omega
    · have := Option.some.inj hq
      have := h1.below.size
      omega
set_option maxRecDepth 100000 in
set_option maxHeartbeats 8000000 in
theorem apart_any (A : Option Addr) (c b : Nat) (vs : List Value) (Ls : List (List Cl)) (hn : vs.length ≤ 200) (hc : ∀ L ∈ Ls, L.length ≤ 2100) (w : World) (hb : b ≤ w.heap.size) (h : LS w b A vs Ls) :
    Calls Tryd.prog 17 #[.slice A vs.length c] w fun e w' => e = .returned (.bool true) ∧ Below b w w' := by
  obtain ⟨N, hN⟩ : ∃ N, N = Ls.map List.length := ⟨_, rfl⟩
  have HNb : Hid (∀ (j n : Nat), N[j]? = some n → n ≤ 2100) := Lib.hid (fun j n hj => by
    rw [hN, List.getElem?_map] at hj
    cases hq : Ls[j]? with
    | none => rw [hq] at hj; cases hj
    | some L => rw [hq] at hj; obtain rfl := Option.some.inj hj; exact hc L (List.mem_of_getElem? hq))
  have HM0 : Hid (MI w b A vs N 0 Ls w) := Lib.hid ⟨hN.symm, fun j L hj => by omega, h, Below.refl _ _⟩
  have HB := Lib.hid hb
  clear h hc hN hb
  generalize hm : vs.length = m at *
  have HMm := Lib.hid hm
  clear hm
  go_enter Tryd.func17, Tryd.ntmps17
  go_wp2_with fail
  go_loopw [3] (fun i wr => ∃ (k : Nat) (M : List (List Cl)), k ≤ m ∧ i = .int .i64 k ∧ MI w b A vs N k M wr) (fun i _ => m - (intOf i).toNat)
  case atStart => exact ⟨0, Ls, by omega, rfl, HM0.out⟩
  case round =>
    obtain ⟨i, M, hi, rfl, hmi⟩ := hrel
    have HMi := Lib.hid hmi
    clear hmi HM0
    by_cases hlt : i < m
    · obtain ⟨ad, B, cp, L, rfl, hv, hL, hNi, ho, hcl⟩ := HMi.out.at_ i (by rw [HMm.out]; exact hlt)
      have HV := Lib.hid hv; have HL := Lib.hid hL
      have hLb := HNb.out i _ hNi
      have HNi := Lib.hid hNi
      clear hv hL ho hcl hNi
      generalize L.length = n at *
      go_wp2_with fail
      go_loopw [4] (fun k wr => ∃ (k' : Nat) (M' : List (List Cl)), k' ≤ n ∧ k = .int .i64 k' ∧ MI w b (some ad) vs N i M' wr ∧ (∀ L', M'[i]? = some L' → ∀ q, q < k' → L'[q]? = some (mkC i q))) (fun k _ => n - (intOf k).toNat)
      case atStart => exact ⟨0, M, by omega, rfl, HMi.out, fun L' _ q hq => by omega⟩
      case round =>
        obtain ⟨k, M', hk, rfl, hmi', hpre⟩ := hrel
        have HM' := Lib.hid hmi'; have HPre := Lib.hid hpre
        clear hmi' hpre
        obtain ⟨ad', B', cp', L', e1, hv', hL', hN', ho', hcl'⟩ := HM'.out.at_ i (by rw [HMm.out]; exact hlt)
        obtain rfl := Option.some.inj e1
        have hnn : L'.length = n := Option.some.inj (hN'.symm.trans HNi.out)
        rw [hnn] at hv' hcl'
        rw [hv'] at HV
        have hVV := HV.out
        simp only [Option.some.injEq, Value.slice.injEq, true_and] at hVV
        obtain ⟨rfl, rfl⟩ := hVV
        have HNn := Lib.hid hnn; have HL' := Lib.hid hL'; have HO' := Lib.hid ho'
        clear hL' ho' hN' hnn e1
        by_cases hkn : k < n
        · have hkL : k < L'.length := by rw [HNn.out]; exact hkn
          have ho2 := HO'.out
          rw [HNn.out] at ho2
          obtain ⟨g, cap, hvg, hgb, hgl⟩ := World.ownsRow.form (show wr.ownsRow b _ 3 _ n _ from (by have := HO'.out; unfold OCells at this; rw [HNn.out] at this; exact this)) (by omega)
          simp only [Value.slice.injEq, true_and] at hvg
          obtain ⟨rfl, rfl⟩ := hvg
          have hput := own_put ho2 HNn.out.symm hkL (mkC i k)
          obtain ⟨⟨d0, d1, d2⟩, f0, f1, f2⟩ := own_at ho2 HNn.out.symm hkL
          have hw1 : IntKind.i64.wrap (1000 * (i : Int)) = 1000 * (i : Int) := IntWalk.i64_in _ (by omega)
          have hw2 : IntKind.i64.wrap (1000 * (i : Int) + (k : Int)) = 1000 * (i : Int) + (k : Int) := IntWalk.i64_in _ (by omega)
          have hw3 : IntKind.i32.wrap (1000 * (i : Int) + (k : Int)) = 1000 * (i : Int) + (k : Int) := by rw [IntKind.wrap_i32]; omega
          have HFin : Hid (MI w b (some ad) vs N i (M'.set i (L'.set k (mkC i k))) _ ∧ _) := Lib.hid (And.intro (HM'.out.put hv' HL'.out hput.2 (by have := hput.1; unfold OCells at this ⊢; rw [List.length_set, HNn.out] at this ⊢; exact this) (by rw [List.length_set]) HB.out) (put_pre HL'.out (HPre.out L' HL'.out) hkL))
          clear hput ho2
          generalize L'[k] = old at *
          simp only [mkC] at HFin
          go_wp2_with fail
          go_roundw
          case rel => exact ⟨k + 1, _, by omega, by go_num, HFin.out.1, HFin.out.2⟩
          case measure => simp [intOf]; omega
        · obtain rfl : k = n := by omega
          have HFin := Lib.hid (HM'.out.more HPre.out (fun K hK => by have e := Option.some.inj (HL'.out.symm.trans hK); rw [← e]; exact HNn.out))
          go_wp2_with fail
          go_roundw
          case rel => exact ⟨i + 1, M', by omega, by go_num, HFin.out⟩
          case measure => simp [intOf]; omega
    · obtain rfl : i = m := by omega
      obtain ⟨i0, hi0, hz0, hz1, hz2⟩ := info_parts info_cell
      have HI := Lib.hid hi0; have HZ0 := Lib.hid hz0; have HZ1 := Lib.hid hz1; have HZ2 := Lib.hid hz2
      clear hi0 hz0 hz1 hz2 hlt hi
      go_wp2_with fail
      go_loopw [5] (fun k wr => ∃ k' : Nat, k' ≤ i ∧ k = .int .i64 k' ∧ MI w b A vs N i M wr) (fun k _ => i - (intOf k).toNat)
      case atStart => exact ⟨0, by omega, rfl, HMi.out⟩
      case round =>
        obtain ⟨k, hk, rfl, hmi2⟩ := hrel
        have HM2 := Lib.hid hmi2
        clear hmi2 HMi
        by_cases hlt : k < i
        · obtain ⟨ad, B, cp, L, rfl, hv, hL, hNi, ho, hcl⟩ := HM2.out.at_ k (by rw [HMm.out]; exact hlt)
          have hLb := HNb.out k _ hNi
          have HV := Lib.hid hv; have HL := Lib.hid hL
          have hw1 : IntKind.i64.wrap (500000 + (k : Int)) = 500000 + (k : Int) := IntWalk.i64_in _ (by omega)
          have hw2 : IntKind.i32.wrap (500000 + (k : Int)) = 500000 + (k : Int) := by rw [IntKind.wrap_i32]; omega
          have hw3 : IntKind.i64.wrap (600000 + (k : Int)) = 600000 + (k : Int) := IntWalk.i64_in _ (by omega)
          have hw4 : IntKind.i32.wrap (600000 + (k : Int)) = 600000 + (k : Int) := by rw [IntKind.wrap_i32]; omega
          have HLb := Lib.hid hLb
          have hal := (Below.refl wr.heap.size wr).alloc (Nat.le_refl _) (.cells #[.int .i32 (500000 + (k : Int)), .int .u8 0, .bool false, .int .i32 (600000 + (k : Int)), .int .u8 0, .bool false] 45)
          have HM3 := Lib.hid (HM2.out.next hal HB.out)
          have HO3 := Lib.hid (ho.next hal)
          have HNw := Lib.hid (Blk.new wr 45 #[.int .i32 (500000 + (k : Int)), .int .u8 0, .bool false, .int .i32 (600000 + (k : Int)), .int .u8 0, .bool false])
          have hbs : b ≤ wr.heap.size := Nat.le_trans HB.out HM2.out.below.size
          have HBs := Lib.hid (Nat.le_trans hbs hal.size)
          clear hv hL hNi ho hal hbs hLb
          go_upto_region 12 with (at_builtin; refine wpList_append_old rfl (.tmp 45) (.tmp 54) 22 rfl b 45 i0 _ 3 8 Tryd.underlying22 HI.out HZ0.out HZ1.out HZ2.out rfl (by decide) _ L.length _ rfl HO3.out ⟨wr.heap.size, 0, none⟩ 2 2 [.int .i32 (500000 + (k : Int)), .int .u8 0, .bool false, .int .i32 (600000 + (k : Int)), .int .u8 0, .bool false] rfl rfl (new_cells HNw.out) (by intro v hv; simp at hv; rcases hv with rfl | rfl | rfl | rfl | rfl | rfl <;> rfl) (by have := HLb.out; unfold maxLen; omega) (by have := HLb.out; omega) HBs.out ?_; intro u w4 hu hold hgr hor)
          have huo : OCells w4 b u (L ++ [⟨500000 + (k : Int), 0, false⟩, ⟨600000 + (k : Int), 0, false⟩]) := by unfold OCells; rw [List.length_append, List.flatMap_append]; exact hu
          obtain ⟨gu, cu, rfl, _, _⟩ := World.ownsRow.form hu (by omega)
          have HM4 := Lib.hid (HM3.out.same HV.out HL.out hgr hold HB.out)
          have hpos : 0 < (L ++ [(⟨500000 + (k : Int), 0, false⟩ : Cl), ⟨600000 + (k : Int), 0, false⟩]).length := by simp
          have hq : L.length + 2 = (L ++ [(⟨500000 + (k : Int), 0, false⟩ : Cl), ⟨600000 + (k : Int), 0, false⟩]).length := by simp
          obtain ⟨⟨d0, d1, d2⟩, f0, f1, f2⟩ := own_at huo hq hpos
          simp only [Nat.zero_mul, Nat.zero_add] at d0 d1 d2 f0 f1 f2
          have HFin := Lib.hid (MI.head HM3.out HM4.out HV.out HL.out hlt huo hq hpos (hor.imp (fun h => h) (fun ⟨g2, h, h2⟩ => by have e : gu = g2 := Option.some.inj h; rw [e]; exact h2)) HB.out)
          clear hu hold hgr hor huo hq
          generalize (L ++ [(⟨500000 + (k : Int), 0, false⟩ : Cl), ⟨600000 + (k : Int), 0, false⟩])[0] = Z at *
          clear hpos HM3 HM4 HO3 HNw hw1 hw2 hw3 hw4 hcl
          have hLb := HLb.out
          go_wp2_with fail
          go_roundw
          case rel => exact ⟨k + 1, by omega, by go_num, HFin.out⟩
          case measure => simp [intOf]; omega
        · obtain rfl : k = i := by omega
          clear hlt hk
          have hgc : ∀ (y : Cl) W p q, (eqGuard .neq 45 p q (.agg #[.int .i32 y.g, .int .u8 y.r, .bool y.k]) (.agg #[.int .i32 y.g, .int .u8 y.r, .bool y.k])).run Tryd.prog W = .ok () W := fun y W p q => guard_cells .neq W p q y y
          have hnc : ∀ (y : Cl) W, (binOp .neq 45 (.agg #[.int .i32 y.g, .int .u8 y.r, .bool y.k]) (.agg #[.int .i32 y.g, .int .u8 y.r, .bool y.k])).run Tryd.prog W = .ok (.bool false) W := fun y W => by
            have := neq_cells W y y
            rw [(Cl.beq_iff _ _).2 rfl] at this
            exact this
          have HGc := Lib.hid hgc; have HNc := Lib.hid hnc
          clear hgc hnc
          go_wp2_with fail
          go_loopw [7] (fun i wr => ∃ i' : Nat, i' ≤ k ∧ i = .int .i64 i' ∧ MI w b A vs N k M wr) (fun i _ => k - (intOf i).toNat)
          case atStart => exact ⟨0, by omega, rfl, HM2.out⟩
          case round =>
            obtain ⟨i, hi, rfl, hmi3⟩ := hrel
            have HM5 := Lib.hid hmi3
            clear hmi3 HM2
            by_cases hlt : i < k
            · obtain ⟨ad, B, cp, L, rfl, hv, hL, hNi, ho, hcl⟩ := HM5.out.at_ i (by rw [HMm.out]; exact hlt)
              have hLb := HNb.out i _ hNi
              have HV := Lib.hid hv; have HL := Lib.hid hL
              clear hv hL hNi ho hcl
              go_wp2_with fail
              go_loopw [8] (fun q wr => ∃ q' : Nat, q' ≤ L.length ∧ q = .int .i64 q' ∧ MI w b (some ad) vs N k M wr) (fun q _ => L.length - (intOf q).toNat)
              case atStart => exact ⟨0, by omega, rfl, HM5.out⟩
              case round =>
                obtain ⟨q, hq, rfl, hmi4⟩ := hrel
                have HM6 := Lib.hid hmi4
                clear hmi4
                obtain ⟨ad', B', cp', L', e1, hv', hL', hN', ho', hcl'⟩ := HM6.out.at_ i (by rw [HMm.out]; exact hlt)
                obtain rfl := Option.some.inj e1
                obtain rfl : L = L' := Option.some.inj (HL.out.symm.trans hL')
                have hVV := HV.out.symm.trans hv'
                simp only [Option.some.injEq, Value.slice.injEq, true_and] at hVV
                obtain ⟨rfl, rfl⟩ := hVV
                have HO' := Lib.hid ho'
                clear hv' hL' hN' ho' e1
                by_cases hqn : q < L.length
                · obtain ⟨g, cap, hvg, hgb, hgl⟩ := World.ownsRow.form (show wr.ownsRow b _ 3 _ L.length _ from HO'.out) (by omega)
                  simp only [Value.slice.injEq, true_and] at hvg
                  obtain ⟨rfl, rfl⟩ := hvg
                  obtain ⟨⟨d0, d1, d2⟩, _, _, _⟩ := own_at HO'.out rfl hqn
                  have hmk : L[q] = mkC i q := by
                    have := HM6.out.mks i L hlt HL.out q hqn
                    rw [List.getElem?_eq_getElem hqn] at this
                    exact Option.some.inj this
                  rw [hmk] at d0 d1 d2
                  have hgc := HGc.out (mkC i q); have hnc := HNc.out (mkC i q)
                  have hw1 : IntKind.i64.wrap (1000 * (i : Int)) = 1000 * (i : Int) := IntWalk.i64_in _ (by omega)
                  have hw2 : IntKind.i64.wrap (1000 * (i : Int) + (q : Int)) = 1000 * (i : Int) + (q : Int) := IntWalk.i64_in _ (by omega)
                  have hw3 : IntKind.i32.wrap (1000 * (i : Int) + (q : Int)) = 1000 * (i : Int) + (q : Int) := by rw [IntKind.wrap_i32]; omega
                  clear hmk
                  simp only [mkC] at d0 d1 d2 hgc hnc
                  go_wp2_with fail
                  go_roundw
                  case rel => exact ⟨q + 1, by omega, by go_num, HM6.out⟩
                  case measure => simp [intOf]; omega
                · obtain rfl : q = L.length := by omega
                  go_wp2_with fail
                  go_roundw
                  case rel => exact ⟨i + 1, by omega, by go_num, HM6.out⟩
                  case measure => simp [intOf]; omega
            · obtain rfl : i = k := by omega
              have hfin := HM5.out.below
              go_wp2_with fail
              go_ret
              exact ⟨rfl, hfin⟩
end Go.Proofs.YtbndnaohjloanaaDoor
