/-
  The reference's macros: lists of a number and its text.
  The reference's macros: one is looked up; all bytes, added; two lists held against each other.
  The reference's macros: one is defined.
  A store of macros: which there are; all bytes, added.
  The reference's macros: two lists held against each other.
  A store of macros: all bytes, added.
  A store's map and the reference's list: the one is the other.
  Layer 20's law: is a store the document's?
  Layer 20's law: an act, done by both.
-/
import Derived.Test.YtnbbepkkedhhgaaGreatDoorStoG
import Derived.Test.YtnbbepkkedhhgaaGreatDoorMacF
import Derived.Maps.AppendAt
import Derived.Deep.Upon
import Derived.Test.YtnbbepkkedhhgaaGreatDoorShelfS
import Derived.Test.YtnbbepkkedhhgaaGreatDoorMixE
import Derived.Laws.StructEq
namespace Go.Proofs.YtnbbepkkedhhgaaGreatDoor
open Go Go.RowKit

/-- A macro. -/
structure Mc where
  k : Int
  s : ByteArray
def Mc.cells (x : Mc) : List Value := [.int .i64 x.k, .string x.s]
def RMc (w : World) (A : Option Addr) (l : List Mc) : Prop := Reads w w.heap.size 2 A l.length (l.flatMap Mc.cells)
theorem mc_at (l : List Mc) (k : Nat) (hk : k < l.length) : (l.flatMap Mc.cells)[k * 2]? = some (.int .i64 l[k].k) ∧ (l.flatMap Mc.cells)[k * 2 + 1]? = some (.string l[k].s) := by
  induction l generalizing k with
  | nil => simp at hk
  | cons c l ih =>
    cases k with
    | zero => simp [Mc.cells]
    | succ k =>
      have h := ih k (by simpa using hk)
      have e : (k + 1) * 2 = k * 2 + 2 := by omega
      rw [List.flatMap_cons, e]
      simp only [Mc.cells, List.cons_append, List.nil_append, List.getElem?_cons_succ, List.getElem_cons_succ]
      exact h
theorem RMc.next {w w' : World} {A : Option Addr} {l : List Mc} (h : RMc w A l) (hb : Below w.heap.size w w') : RMc w' A l := (Reads.below h hb).more hb.size
theorem RMc.at_ {w : World} {A : Option Addr} {l : List Mc} (h : RMc w A l) {k : Nat} (hk : k < l.length) :
    ∃ ad, A = some ad ∧ ad.block < w.heap.size ∧ w.cell? (ad.add (k * 2)) = some (.int .i64 l[k].k) ∧ w.cell? ⟨(ad.add (k * 2)).block, (ad.add (k * 2)).off + 1, none⟩ = some (.string l[k].s) := by
  obtain ⟨ad, e, hb, hc⟩ := h.2 (by omega)
  obtain ⟨h1, h2⟩ := mc_at l k hk
  have a1 : (⟨(ad.add (k * 2)).block, (ad.add (k * 2)).off + 1, none⟩ : Addr) = ad.add (k * 2 + 1) := (show _ = (ad.add (k * 2)).add 1 from rfl).trans (add_of_add ad _ _)
  refine ⟨ad, e, hb, hc _ _ h1, ?_⟩
  rw [a1]; exact hc _ _ h2
theorem RMc.two {w : World} {ad : Addr} {l : List Mc} (h : RMc w (some ad) l) {k : Nat} (hk : k < l.length) :
    w.cell? (ad.add (k * 2)) = some (.int .i64 l[k].k) ∧ w.cell? ⟨(ad.add (k * 2)).block, (ad.add (k * 2)).off + 1, none⟩ = some (.string l[k].s) := by
  obtain ⟨ad', e, _, h1, h2⟩ := h.at_ hk
  injection e with e; subst e
  exact ⟨h1, h2⟩
/-- A slice of the call's own. -/
def OMc (w : World) (base : Nat) (v : Value) (l : List Mc) : Prop := w.ownsRow base 56 2 v l.length (l.flatMap Mc.cells)
theorem omc_own {w : World} {base : Nat} {v : Value} {l : List Mc} (h : OMc w base v l) : w.ownsRow base 56 2 v l.length (l.flatMap Mc.cells) := h
theorem info_mc : (Tryz.prog.info? 56).map (fun i => (i.zero, i.size, i.bytes)) = some (some (.agg #[.int .i64 0, .string ⟨#[]⟩]), 2, 24) := by kernel_rfl
theorem mc_one (k : Int) (s : ByteArray) : ∀ u ∈ [Value.int .i64 k, .string s], u.oneCell' = true := by
  intro u hu
  simp at hu
  rcases hu with rfl | rfl <;> rfl
theorem OMc.reads {w : World} {base : Nat} {A : Option Addr} {n c : Nat} {l : List Mc} (h : OMc w base (.slice A n c) l) : n = l.length ∧ RMc w A l := by
  have hl := h.1
  rcases h.2 with ⟨e, hn⟩ | ⟨g, cap, cur, e, r⟩
  · injection e with e1 e2 e3
    subst e1
    have : l = [] := List.eq_nil_of_length_eq_zero hn
    subst this
    exact ⟨by omega, Reads.none_⟩
  · injection e with e1 e2 e3
    subst e1 e2
    exact ⟨rfl, Reads.of_own (show w.ownsRow base 56 2 (.slice (some ⟨g, 0, none⟩) l.length c) l.length (l.flatMap Mc.cells) from h)⟩
theorem OMc.form {w : World} {base : Nat} {v : Value} {l : List Mc} (h : OMc w base v l) : ∃ A c, v = .slice A l.length c ∧ RMc w A l := by
  have h0 := h
  rcases h.2 with ⟨rfl, hn⟩ | ⟨g, cap, cur, rfl, r⟩
  · exact ⟨none, 0, by rw [hn], (OMc.reads h0).2⟩
  · exact ⟨_, _, rfl, (OMc.reads h0).2⟩
theorem OMc.next {w w' : World} {base : Nat} {v : Value} {l : List Mc} (h : OMc w base v l) (hb : Below w.heap.size w w') : OMc w' base v l :=
  World.ownsRow.kept (row := none) h ⟨hb.os, hb.tape, hb.output, hb.size, fun k hk _ => hb.block k hk⟩ (by cases v.ownBlock <;> simp)

/-- How many bytes. -/
def usedM (l : List Mc) : Nat := (l.map (·.s.size)).sum
theorem usedM_cut (l : List Mc) (k : Nat) (h : k < l.length) : usedM (l.take (k + 1)) = usedM (l.take k) + l[k].s.size := by
  unfold usedM
  rw [List.take_succ_eq_append_getElem h, List.map_append, List.sum_append]
  rfl
theorem usedM_mono (l : List Mc) (k : Nat) : usedM (l.take k) ≤ usedM l := by
  unfold usedM
  conv => rhs; rw [← List.take_append_drop k l]
  rw [List.map_append, List.sum_append]
  omega
set_option maxHeartbeats 2000000 in
theorem usedM_any (A : Option Addr) (c : Nat) (l : List Mc) (hl : l.length ≤ 1000) (hu : usedM l ≤ 10000000000) (w : World) (hr : RMc w A l) :
    Calls Tryz.prog 20 #[.slice A l.length c] w fun e w' => e = .returned (.int .i64 (usedM l)) ∧ w = w' := by
  have HR := Lib.hid hr
  clear hr
  go_enter Tryz.func20, Tryz.ntmps20
  go_upto_region 3 with fail
  go_loopw [3, 4] (fun v i wr => ∃ k : Nat, k ≤ l.length ∧ v = .int .i64 (usedM (l.take k)) ∧ i = .int .i64 k ∧ w = wr) (fun _ i _ => l.length - (intOf i).toNat)
  case atStart => exact ⟨0, by omega, by simp [usedM], rfl, rfl⟩
  case round =>
    obtain ⟨k, hk, rfl, rfl, rfl⟩ := hrel
    by_cases hlt : k < l.length
    · have hu1 := usedM_cut l k hlt
      have hm := usedM_mono l (k + 1)
      obtain ⟨ad, rfl, _⟩ := HR.out.2 (by omega)
      obtain ⟨_, s1⟩ := HR.out.two hlt
      have hwk : IntKind.i64.wrap ((k : Int) + 1) = (k : Int) + 1 := IntWalk.i64_in _ (by omega)
      have hwn : IntKind.i64.wrap ((usedM (l.take k) : Int) + (l[k].s.size : Int)) = (usedM (l.take (k + 1)) : Int) := (IntWalk.i64_in _ (by omega)).trans (by omega)
      generalize l[k].s = t at *
      clear hu1 hm
      generalize hu2 : usedM (l.take (k + 1)) = u1 at *
      replace hu2 := Lib.hid hu2
      generalize usedM (l.take k) = u0 at *
      go_wp2_with fail
      go_roundw
      case rel => exact ⟨k + 1, by omega, by rw [hu2.out], by go_num, by first | rfl | trivial⟩
      case measure => simp [intOf]; omega
    · obtain rfl : k = l.length := by omega
      have e : l.take l.length = l := List.take_length
      rw [e]
      go_wp2_with fail
      go_ret
      exact ⟨rfl, rfl⟩
end Go.Proofs.YtnbbepkkedhhgaaGreatDoor

namespace Go.Proofs.YtnbbepkkedhhgaaGreatDoor
open Go Go.RowKit

/-- The first text of a number. -/
def getMc : List Mc → Int → ByteArray × Bool
  | [], _ => (⟨#[]⟩, false)
  | x :: l, key => if x.k = key then (x.s, true) else getMc l key
theorem getMc_drop (l : List Mc) (k : Nat) (h : k < l.length) (key : Int) : getMc (l.drop k) key = if l[k].k = key then (l[k].s, true) else getMc (l.drop (k + 1)) key := by
  rw [List.drop_eq_getElem_cons h]; rfl
set_option maxHeartbeats 2000000 in
theorem refGetM_any (A : Option Addr) (c : Nat) (l : List Mc) (hl : l.length ≤ 1000) (key : Int) (w : World) (hr : RMc w A l) :
    Calls Tryz.prog 11 #[.slice A l.length c, .int .i64 key] w fun e w' => e = .returned (.tuple #[.string (getMc l key).1, .bool (getMc l key).2]) ∧ Below w.heap.size w w' := by
  have HR := Lib.hid hr
  obtain ⟨G, hG⟩ : ∃ G, G = getMc l key := ⟨_, rfl⟩
  rw [← hG]
  have HG := Lib.hid hG
  clear hr hG
  go_enter Tryz.func11, Tryz.ntmps11
  go_upto_region 2 with fail
  go_loopw [6] (fun i wr => ∃ k : Nat, k ≤ l.length ∧ i = .int .i64 k ∧ Hid (G = getMc (l.drop k) key) ∧ w = wr) (fun i _ => l.length - (intOf i).toNat)
  case atStart => exact ⟨0, by omega, by simp, Lib.hid (by rw [HG.out]; rfl), rfl⟩
  case round =>
    obtain ⟨k, hk, rfl, hg, rfl⟩ := hrel
    by_cases hlt : k < l.length
    · have hgd := getMc_drop l k hlt key
      obtain ⟨ad, rfl, _⟩ := HR.out.2 (by omega)
      obtain ⟨s0, s1⟩ := HR.out.two hlt
      have hwk : IntKind.i64.wrap ((k : Int) + 1) = (k : Int) + 1 := IntWalk.i64_in _ (by omega)
      have m0 : (0 : Int) ≤ (k : Int) := by omega
      have m1 : ((k : Int) < (l.length : Int)) = True := eq_true (by omega)
      generalize l[k] = x at *
      obtain ⟨xk, xs⟩ := x
      simp only at s0 s1 hgd
      by_cases he : xk = key
      · subst he
        rw [if_pos rfl] at hgd
        have HG2 : Hid (G = (xs, true)) := Lib.hid (by rw [hg.out, hgd])
        clear hgd hg
        go_wp2_with fail
        go_ret2
        exact ⟨by rw [HG2.out]; rfl, Below.refl _ _⟩
      · rw [if_neg he] at hgd
        have HG2 : Hid (G = getMc (l.drop (k + 1)) key) := Lib.hid (by rw [hg.out, hgd])
        have q2 : (xk == key) = false := by simpa using he
        clear hgd hg
        go_wp2_with fail
        go_roundw
        case rel => exact ⟨k + 1, by omega, by go_num, HG2, by first | rfl | trivial⟩
        case measure => simp [intOf]; omega
    · obtain rfl : k = l.length := by omega
      have HG2 : Hid (G = (⟨#[]⟩, false)) := Lib.hid (by rw [hg.out, List.drop_length]; rfl)
      clear hg
      go_wp2_with fail
      go_ret2
      exact ⟨by rw [HG2.out]; rfl, Below.refl _ _⟩

/-- All bytes of a text, added. -/
def sumT (s : ByteArray) : Nat := (s.data.toList.map (·.toNat)).sum
def sumMc (l : List Mc) : Nat := (l.map (fun m => sumT m.s)).sum
theorem sumT_step (s : ByteArray) (j : Nat) (h : j < s.size) : ((s.data.toList.take (j + 1)).map (·.toNat)).sum = ((s.data.toList.take j).map (·.toNat)).sum + (s[j]).toNat := by
  rw [List.take_succ_eq_append_getElem (by simpa using h), List.map_append, List.sum_append]
  simp
  rfl
theorem sumMc_step (l : List Mc) (k : Nat) (h : k < l.length) : sumMc (l.take (k + 1)) = sumMc (l.take k) + sumT l[k].s := by
  unfold sumMc
  rw [List.take_succ_eq_append_getElem h, List.map_append, List.sum_append]
  simp
theorem byte_lt (b : UInt8) : b.toNat < 256 := b.toNat_lt
set_option maxRecDepth 100000 in
set_option maxHeartbeats 4000000 in
theorem refSumM_any (A : Option Addr) (c : Nat) (l : List Mc) (hl : l.length ≤ 1000) (hz : ∀ x ∈ l, x.s.size ≤ 10000) (w : World) (hr : RMc w A l) :
    Calls Tryz.prog 22 #[.slice A l.length c] w fun e w' => e = .returned (.int .i64 ((sumMc l % 65536 : Nat) : Int)) ∧ w = w' := by
  have HR := Lib.hid hr
  have HZ := Lib.hid hz
  clear hr hz
  go_enter Tryz.func22, Tryz.ntmps22
  go_wp2_with fail
  go_loopw [3, 4] (fun s i wr => ∃ k : Nat, k ≤ l.length ∧ i = .int .i64 k ∧ s = .int .i64 ((sumMc (l.take k) % 65536 : Nat) : Int) ∧ w = wr) (fun _ i _ => l.length - (intOf i).toNat)
  case atStart => exact ⟨0, by omega, rfl, rfl, rfl⟩
  case round =>
    obtain ⟨k, hk, rfl, rfl, rfl⟩ := hrel
    by_cases hlt : k < l.length
    · have hst := sumMc_step l k hlt
      have hxz := HZ.out l[k] (List.getElem_mem hlt)
      obtain ⟨ad, rfl, _⟩ := HR.out.2 (by omega)
      obtain ⟨s0, s1⟩ := HR.out.two hlt
      have hwk : IntKind.i64.wrap ((k : Int) + 1) = (k : Int) + 1 := IntWalk.i64_in _ (by omega)
      have m0 : (0 : Int) ≤ (k : Int) := by omega
      have m1 : ((k : Int) < (l.length : Int)) = True := eq_true (by omega)
      obtain ⟨S1, hS1⟩ : ∃ S1, sumMc (l.take (k + 1)) = S1 := ⟨_, rfl⟩
      have HS1 := Lib.hid hS1
      rw [hS1] at hst
      generalize sumMc (l.take k) = S0 at *
      generalize l[k] = x at *
      obtain ⟨xk, xs⟩ := x
      simp only at s0 s1 hst hxz
      have HST := Lib.hid hst
      clear hst hS1
      go_wp2_with fail
      go_loopw [3, 5] (fun s i wr => ∃ j : Nat, j ≤ xs.size ∧ i = .int .i64 j ∧ s = .int .i64 (((S0 + ((xs.data.toList.take j).map (·.toNat)).sum) % 65536 : Nat) : Int) ∧ w = wr) (fun _ i _ => xs.size - (intOf i).toNat)
      case atStart => exact ⟨0, by omega, rfl, by simp, rfl⟩
      case round =>
        obtain ⟨j, hj, rfl, rfl, rfl⟩ := hrel
        by_cases hltj : j < xs.size
        · have hsj := sumT_step xs j hltj
          have hb := byte_lt xs[j]
          have c1 : (j : Int) < (xs.size : Int) := by omega
          have n0 : (0 : Int) ≤ (j : Int) := by omega
          have hwj : IntKind.i64.wrap ((j : Int) + 1) = (j : Int) + 1 := IntWalk.i64_in _ (by omega)
          obtain ⟨P1, hP1⟩ : ∃ P1 : Nat, ((xs.data.toList.take (j + 1)).map (·.toNat)).sum = P1 := ⟨_, rfl⟩
          have HP1 := Lib.hid hP1
          rw [hP1] at hsj
          obtain ⟨P0, hP0⟩ : ∃ P0 : Nat, ((xs.data.toList.take j).map (·.toNat)).sum = P0 := ⟨_, rfl⟩
          rw [hP0] at hsj ⊢
          obtain ⟨Q0, hQ0⟩ : ∃ Q0 : Nat, (S0 + P0) % 65536 = Q0 := ⟨_, rfl⟩
          rw [hQ0]
          have HQ := Lib.hid (And.intro hQ0 hsj)
          have hq : Q0 < 65536 := by omega
          obtain ⟨b, hbb⟩ : ∃ b : Nat, (xs[j]).toNat = b := ⟨_, rfl⟩
          rw [hbb] at HQ hb
          clear hP0 hP1 hQ0 hsj
          go_wp2_with fail
          go_roundw
          case rel =>
            refine ⟨j + 1, by omega, by go_num, ?_, by first | rfl | trivial⟩
            rw [HP1.out]
            have := HQ.out.1
            have := HQ.out.2
            congr 1
            omega
          case measure => simp [intOf]; omega
        · obtain rfl : j = xs.size := by omega
          have htk : xs.data.toList.take xs.size = xs.data.toList := List.take_of_length_le (by rw [Array.length_toList]; exact Nat.le_refl _)
          rw [htk, show (xs.data.toList.map (·.toNat)).sum = sumT xs from rfl]
          have c1 : ¬ ((xs.size : Int) < (xs.size : Int)) := by omega
          go_wp2_with fail
          go_roundw
          case rel =>
            refine ⟨k + 1, by omega, by go_num, ?_, by first | rfl | trivial⟩
            rw [HS1.out, HST.out]
          case measure => simp [intOf]; omega
    · obtain rfl : k = l.length := by omega
      have m1 : ¬ ((l.length : Int) < (l.length : Int)) := by omega
      rw [List.take_length]
      go_wp2_with fail
      go_ret
      exact ⟨rfl, rfl⟩
end Go.Proofs.YtnbbepkkedhhgaaGreatDoor

namespace Go.Proofs.YtnbbepkkedhhgaaGreatDoor
open Go Go.RowKit

/-- Some elements more, out of a new block, and where they lie. -/
theorem wpList_pushA {P : Program} {ops : Array Oper} {rest : List Oper} {o : Oper} {a : Act} {Q : Exit → Act → World → Prop} {W : World} (hgd : o.guard = none) (s x : Operand) (t : TypeId)
    (ho : o.op = .call { callee := .builtin .append, args := #[s, x], argTypes := #[t, t] })
    (base : Nat) (e : TypeId) (z : Value) (size bytes : Nat) (ht : P.underlying t = some (.slice e)) (hinfo : (P.info? e).map (fun i => (i.zero, i.size, i.bytes)) = some (some z, size, bytes)) (hzs : z.cells.size = size) (hsz : 0 < size)
    (v : Value) (n : Nat) (xs : List Value) (hs : a.eval s = v) (hown : W.ownsRow base e size v n xs)
    (us : List Value) (m : Nat) (hul : us.length = m * size) (hu : ∀ u ∈ us, u.oneCell' = true) (cs : Array Value) (hcs : cs = us.toArray) (T : TypeId) (g c : Nat) (hg : g = W.heap.size) (hx : a.eval x = .slice (some ⟨g, 0, none⟩) m c)
    (h63 : n + m ≤ maxLen) (hbytes : (n + m) * bytes ≤ 140737488355328) (hbase : base ≤ W.heap.size)
    (h : ∀ v' w', w'.ownsRow base e size v' (n + m) (xs ++ us) → W.grownBy w' v.ownBlock → Below base W w' → (v'.ownBlock = v.ownBlock ∨ ∃ g2, v'.ownBlock = some g2 ∧ W.heap.size < g2) → wpList P ops Q rest (a.put o.dst v') w') : wpList P ops Q (o :: rest) a (W.alloc (.cells cs T)) := by
  obtain ⟨i, hi, hz, hsize, hby⟩ := info_parts hinfo
  subst hcs
  have hB : Below W.heap.size W (W.alloc (.cells us.toArray T)) := (Below.refl _ _).alloc (Nat.le_refl _) _
  refine wpList_append_own_at _ hgd s x t ho base e i z size bytes ht hi hz hsize hby hzs hsz v n xs hs (hown.alloc _) ⟨g, 0, none⟩ m c us hx hul (fun j u' hj => ?_) hu h63 hbytes (Nat.le_trans hbase hB.size) (fun v' w' h2 h3 _ h5 => h v' w' h2 (grown_own hB h3) (below_own hown hbase hB h3) (h5.imp id (fun e => ⟨_, e, by simp⟩)))
  subst hg
  have hadd : (⟨W.heap.size, 0, none⟩ : Addr).add j = ⟨W.heap.size, j, none⟩ := by unfold Addr.add; split <;> simp_all
  rw [hadd, (Blk.new W T _).cell j]
  simpa using hj
/-- Two slices that share no memory. -/
def Apt (u v : Value) : Prop := ∀ g, u.ownBlock = some g → v.ownBlock ≠ some g
theorem Apt.symm {u v : Value} (h : Apt u v) : Apt v u := fun g h1 h2 => h g h2 h1
theorem OMc.blk {w : World} {base : Nat} {v : Value} {l : List Mc} (h : OMc w base v l) : ∀ g, v.ownBlock = some g → g < w.heap.size ∧ base ≤ g := by
  intro g hg
  rcases h.2 with ⟨rfl, _⟩ | ⟨g2, cap, cur, rfl, hb, hh, _⟩
  · cases hg
  · injection hg with hg
    have : g2 = g := hg
    subst this
    exact ⟨(Array.getElem?_eq_some_iff.1 hh).1, hb⟩
/-- The other one stays where it is. -/
theorem OMc.beside {w w' : World} {base : Nat} {u v : Value} {l : List Mc} (h : OMc w base u l) (hg : w.grownBy w' v.ownBlock) (ha : Apt v u) : OMc w' base u l :=
  World.ownsRow.kept h hg (by
    cases hu : u.ownBlock with
    | none => exact .inl rfl
    | some g => exact .inr (fun e => ha g (by rw [← e]) hu))
theorem Apt.moved {w : World} {base : Nat} {u v v' : Value} {l : List Mc} (ha : Apt v u) (hu : OMc w base u l) (hv : v'.ownBlock = v.ownBlock ∨ ∃ g2, v'.ownBlock = some g2 ∧ w.heap.size < g2) : Apt v' u := by
  intro g h1 h2
  have hlt := (hu.blk g h2).1
  rcases hv with h | ⟨g2, h3, h4⟩
  · exact ha g (by rw [← h]; exact h1) h2
  · rw [h3] at h1
    injection h1 with h1
    omega
theorem OMc.push {w : World} {base : Nat} {v : Value} {l : List Mc} {k : Int} {s : ByteArray} (h : w.ownsRow base 56 2 v (l.length + 1) (l.flatMap Mc.cells ++ [.int .i64 k, .string s])) : OMc w base v (l ++ [⟨k, s⟩]) := by
  unfold OMc
  rw [List.length_append, List.flatMap_append]
  exact h
theorem OMc.nil (w : World) (base : Nat) : OMc w base (.slice none 0 0) [] := ⟨rfl, .inl ⟨rfl, rfl⟩⟩
theorem apt_nil (v : Value) : Apt (.slice none 0 0) v := fun g h => by cases h

/-- The ones ahead of a number, those behind it. -/
def befM (l : List Mc) (i : Int) : List Mc := l.filter (fun x => decide (x.k < i))
def behM (l : List Mc) (i : Int) : List Mc := l.filter (fun x => decide (i < x.k))
theorem filter_take (p : Mc → Bool) (l : List Mc) (k : Nat) (h : k < l.length) : (l.take (k + 1)).filter p = (l.take k).filter p ++ (if p l[k] then [l[k]] else []) := by
  rw [List.take_succ_eq_append_getElem h, List.filter_append]
  congr 1
  by_cases hp : p l[k] = true
  · simp [hp]
  · simp [hp]
theorem used_filter (p : Mc → Bool) : ∀ l : List Mc, usedM (l.filter p) ≤ usedM l
  | [] => Nat.le_refl _
  | x :: l => by
    have ih := used_filter p l
    have h1 : usedM (x :: l) = x.s.size + usedM l := rfl
    by_cases hp : p x = true
    · rw [List.filter_cons_of_pos hp]
      have h2 : usedM (x :: l.filter p) = x.s.size + usedM (l.filter p) := rfl
      omega
    · rw [List.filter_cons_of_neg hp]; omega
theorem used_parts (l : List Mc) (i : Int) : usedM (befM l i) + usedM (behM l i) ≤ usedM l := by
  unfold befM behM
  induction l with
  | nil => exact Nat.le_refl _
  | cons x l ih =>
    have h1 : usedM (x :: l) = x.s.size + usedM l := rfl
    by_cases h : x.k < i
    · rw [List.filter_cons_of_pos (by simpa using h), List.filter_cons_of_neg (by simp; omega)]
      have h2 : usedM (x :: l.filter (fun x => decide (x.k < i))) = x.s.size + usedM (l.filter (fun x => decide (x.k < i))) := rfl
      omega
    · rw [List.filter_cons_of_neg (by simpa using h)]
      by_cases h3 : i < x.k
      · rw [List.filter_cons_of_pos (by simpa using h3)]
        have h2 : usedM (x :: l.filter (fun x => decide (i < x.k))) = x.s.size + usedM (l.filter (fun x => decide (i < x.k))) := rfl
        omega
      · rw [List.filter_cons_of_neg (by simpa using h3)]; omega
/-- What the reference makes of a list. -/
def bf0 (l : List Mc) (i : Int) (cl : Bool) : List Mc := if cl then [] else befM l i
def bh0 (l : List Mc) (i : Int) (cl : Bool) : List Mc := if cl then [] else behM l i
def roomM (l : List Mc) (i : Int) (cl : Bool) : Nat := 6144 - usedM (bf0 l i cl) - usedM (bh0 l i cl)
def defM (l : List Mc) (i : Int) (cl hx : Bool) (d : ByteArray) : Int × List Mc :=
  if i < 0 ∨ 64 ≤ i then (1, l) else
  if (takeD hx d (roomM l i cl)).1 = 0 then (0, bf0 l i cl ++ ((if (takeD hx d (roomM l i cl)).2.size = 0 then [] else [⟨i, (takeD hx d (roomM l i cl)).2⟩]) ++ bh0 l i cl)) else ((takeD hx d (roomM l i cl)).1, l)
theorem filter_len (p : Mc → Bool) (l : List Mc) : (l.filter p).length ≤ l.length := List.length_filter_le p l
/-- What is known where the loop has ended. -/
structure SplM (W : World) (base : Nat) (vb vh : Value) (bf bh : List Mc) : Prop where
  b : OMc W base vb bf
  h : OMc W base vh bh
  a : Apt vb vh
theorem SplM.next {W W2 : World} {base : Nat} {vb vh : Value} {bf bh : List Mc} (h : SplM W base vb vh bf bh) (hb : Below W.heap.size W W2) : SplM W2 base vb vh bf bh := ⟨h.b.next hb, h.h.next hb, h.a⟩
/-- What is handed back: a list that can be read, and a number. -/
def DefP (A : Option Addr) (l : List Mc) (w w' : World) (e : Ending) (r : Int × List Mc) : Prop := ∃ B c2, e = .returned (.tuple #[.slice B r.2.length c2, .int .i64 r.1]) ∧ RMc w' B r.2 ∧ Below w.heap.size w w' ∧ ((B = A ∧ r.2 = l) ∨ ∀ ad, B = some ad → w.heap.size ≤ ad.block)
theorem usedV_any (v : Value) (base : Nat) (l : List Mc) (hl : l.length ≤ 1000) (hu : usedM l ≤ 10000000000) (w : World) (h : OMc w base v l) :
    Calls Tryz.prog 20 #[v] w fun e w' => e = .returned (.int .i64 (usedM l)) ∧ w = w' := by
  obtain ⟨A, c, rfl, hr⟩ := h.form
  exact usedM_any A c l hl hu w hr
set_option maxRecDepth 100000 in
/-- One list behind the other. -/
theorem wpList_appTwo {ops : Array Oper} {rest : List Oper} {o : Oper} {a : Act} {Q : Exit → Act → World → Prop} {w : World} (hgd : o.guard = none) (s x : Operand)
    (ho : o.op = .call { callee := .builtin .append, args := #[s, x], argTypes := #[27, 27] }) (base : Nat) (vb vh : Value) (bf bh : List Mc) (hs : a.eval s = vb) (hx : a.eval x = vh)
    (hb : OMc w base vb bf) (hh : OMc w base vh bh) (hl : bf.length + bh.length ≤ 1000) (hbase : base ≤ w.heap.size)
    (h : ∀ v' w', OMc w' base v' (bf ++ bh) → Below base w w' → wpList Tryz.prog ops Q rest (a.put o.dst v') w') : wpList Tryz.prog ops Q (o :: rest) a w := by
  obtain ⟨i, hi, hz, hsize, hby⟩ := info_parts info_mc
  rcases hh.2 with ⟨rfl, hn⟩ | ⟨g, cap, cur, rfl, hg, hh3, hh4, hh5, hh6, hh7⟩
  · have hn2 : bh = [] := List.eq_nil_of_length_eq_zero hn
    subst hn2
    rw [List.append_nil] at h
    refine wpList_plain hgd fun K hK => ?_
    have hsrc : Src Tryz.prog i.size 27 (.slice none 0 0) 0 [] w := Src.ofNil _ Tryz.underlying27 0
    have hrun : (Builtin.append_ #[27, 27] o.type #[vb, .slice none 0 0]).run Tryz.prog w = .ok vb w := by
      rcases hb.2 with ⟨rfl, _⟩ | ⟨g, cap, cur, rfl, _, _, hle, _⟩
      · exact run_append_nothing w _ _ _ _ i Tryz.underlying27 hi none 0 0 (Nat.le_refl _) _ hsrc
      · exact run_append_nothing w _ _ _ _ i Tryz.underlying27 hi (some ⟨g, 0, none⟩) _ cap hle _ hsrc
    unfold Oper.wp execOp
    simp only [ho, resolve, invoke, builtin, Sem.run_bind, Sem.run_pure, Result.andThen_ok, List.map_toArray, List.map_cons, List.map_nil, hs, hx, hrun]
    exact hK _ _ (h vb w hb (Below.refl _ _))
  · have hr := (OMc.reads hh).2
    refine wpList_append_own _ hgd s x _ ho base _ i _ 2 24 Tryz.underlying27 hi hz hsize hby rfl (by decide) vb bf.length _ hs hb ⟨g, 0, none⟩ bh.length cap (bh.flatMap Mc.cells) hx hh.1 (fun j u hj => ?_) (fun u hu => ?_) (by unfold maxLen; omega) (by omega) hbase (fun v' w' h2 h3 _ => h v' w' ?_ ?_)
    · have hpos : 0 < bh.length := by
        rcases Nat.eq_zero_or_pos bh.length with h0 | h0
        · have : bh = [] := List.eq_nil_of_length_eq_zero h0
          subst this
          simp at hj
        · exact h0
      obtain ⟨ad, e, _, hc⟩ := hr.2 hpos
      injection e with e
      subst e
      exact hc j u hj
    · obtain ⟨m, _, hm⟩ := List.mem_flatMap.1 hu
      simp [Mc.cells] at hm
      rcases hm with rfl | rfl <;> rfl
    · unfold OMc
      rw [List.length_append, List.flatMap_append]
      exact h2
    · exact below_own hb hbase (Below.refl _ _) h3
set_option maxRecDepth 100000 in
set_option maxHeartbeats 16000000 in
theorem refDefM_any (A : Option Addr) (c : Nat) (l : List Mc) (hl : l.length ≤ 300) (hul : usedM l ≤ 6144) (i : Int) (cl hx : Bool) (d : ByteArray) (hd : d.size ≤ 100000) (w : World) (hr : RMc w A l) :
    Calls Tryz.prog 17 #[.slice A l.length c, .int .i64 i, .bool cl, .bool hx, .string d] w fun e w' => DefP A l w w' e (defM l i cl hx d) := by
  have HR := Lib.hid hr
  clear hr
  by_cases hout : i < 0 ∨ 64 ≤ i
  · have e : defM l i cl hx d = (1, l) := if_pos hout
    rw [e]
    by_cases g : i < 0
    · go_enter Tryz.func17, Tryz.ntmps17
      go_wp2_with fail
      go_ret2
      exact ⟨A, c, rfl, HR.out, Below.refl _ _, .inl ⟨rfl, rfl⟩⟩
    · have g2 : 63 < i := by omega
      go_enter Tryz.func17, Tryz.ntmps17
      go_wp2_with fail
      go_ret2
      exact ⟨A, c, rfl, HR.out, Below.refl _ _, .inl ⟨rfl, rfl⟩⟩
  · have g1 : ¬ i < 0 := by omega
    have g2 : ¬ 63 < i := by omega
    cases cl
    · --cl
      obtain ⟨bf, hbf⟩ : ∃ bf, bf0 l i false = bf := ⟨_, rfl⟩
      obtain ⟨bh, hbh⟩ : ∃ bh, bh0 l i false = bh := ⟨_, rfl⟩
      have HBF := Lib.hid (show befM l i = bf from hbf)
      have HBH := Lib.hid (show behM l i = bh from hbh)
      have hu := used_parts l i
      have hbl : bf.length ≤ l.length ∧ bh.length ≤ l.length := ⟨by rw [← hbf]; exact filter_len _ _, by rw [← hbh]; exact filter_len _ _⟩
      have hub : usedM bf + usedM bh ≤ 6144 := by rw [← hbf, ← hbh]; show usedM (befM l i) + usedM (behM l i) ≤ 6144; omega
      obtain ⟨M, hMe⟩ : ∃ M, roomM l i false = M := ⟨_, rfl⟩
      have hMv : M = 6144 - usedM bf - usedM bh := by rw [← hMe, ← hbf, ← hbh]; rfl
      have HDF : Hid (∀ hx, defM l i false hx d = if (takeD hx d M).1 = 0 then (0, bf ++ ((if (takeD hx d M).2.size = 0 then [] else [⟨i, (takeD hx d M).2⟩]) ++ bh)) else ((takeD hx d M).1, l)) := Lib.hid (fun hx => by unfold defM; rw [if_neg (by omega), hMe, hbf, hbh])
      have hw1 : IntKind.i64.wrap (6144 - (usedM bf : Int)) = 6144 - (usedM bf : Int) := IntWalk.i64_in _ (by omega)
      have hw2 : IntKind.i64.wrap (6144 - (usedM bf : Int) - (usedM bh : Int)) = (M : Int) := by rw [IntWalk.i64_in _ (by omega)]; omega
      have hM6 : M ≤ 6144 := by omega
      clear hMe hbf hbh hu hMv
      go_enter Tryz.func17, Tryz.ntmps17
      go_wp2_with fail
      go_loopw [12, 13, 14] (fun xb xh iv wr => ∃ (k : Nat) (vb vh : Value), k ≤ l.length ∧ vb = xb ∧ vh = xh ∧ iv = .int .i64 k ∧ SplM wr w.heap.size vb vh ((l.take k).filter (fun x => decide (x.k < i))) ((l.take k).filter (fun x => decide (i < x.k))) ∧ Below w.heap.size w wr) (fun _ _ iv _ => l.length - (intOf iv).toNat)
      case atStart => exact ⟨0, _, _, by omega, rfl, rfl, rfl, ⟨OMc.nil _ _, OMc.nil _ _, apt_nil _⟩, Below.refl _ _⟩
      case round =>
        obtain ⟨k, vb, vh, hk, rfl, rfl, rfl, hsp, hb⟩ := hrel
        have HSP := Lib.hid hsp
        have HB := Lib.hid hb
        clear hsp hb
        by_cases hlt : k < l.length
        · have f1 := filter_take (fun x => decide (x.k < i)) l k hlt
          have f2 := filter_take (fun x => decide (i < x.k)) l k hlt
          have n1 := filter_len (fun x => decide (x.k < i)) (l.take k)
          have n2 := filter_len (fun x => decide (i < x.k)) (l.take k)
          have n3 : (l.take k).length ≤ k := by simp; omega
          obtain ⟨ad, rfl, _⟩ := HR.out.2 (by omega)
          obtain ⟨s0, s1⟩ := (HR.out.next HB.out).two hlt
          have hwk : IntKind.i64.wrap ((k : Int) + 1) = (k : Int) + 1 := IntWalk.i64_in _ (by omega)
          have m0 : (0 : Int) ≤ (k : Int) := by omega
          have m1 : ((k : Int) < (l.length : Int)) = True := eq_true (by omega)
          generalize hx0 : l[k] = x at *
          obtain ⟨xk, xs⟩ := x
          simp only at s0 s1 f1 f2
          generalize (l.take k).filter (fun x => decide (x.k < i)) = p1 at *
          generalize (l.take k).filter (fun x => decide (i < x.k)) = p2 at *
          have F1 := Lib.hid f1
          have F2 := Lib.hid f2
          clear f1 f2
          by_cases q1 : xk < i
          · have q2 : ¬ i < xk := by omega
            go_upto_region 9 with (at_builtin; refine wpList_pushA rfl _ _ _ rfl w.heap.size 56 _ 2 24 Tryz.underlying27 info_mc rfl (by decide) _ _ _ rfl (omc_own HSP.out.b) [.int .i64 xk, .string xs] 1 rfl (mc_one xk xs) _ rfl _ _ _ (by simp) rfl (by unfold maxLen; omega) (by omega) HB.out.size ?_; intro v3 w3 hown3 hg3 hb3 hat3)
            have HSP3 := Lib.hid (show SplM w3 w.heap.size v3 vh (p1 ++ [⟨xk, xs⟩]) p2 from ⟨OMc.push hown3, HSP.out.h.beside hg3 HSP.out.a, HSP.out.a.moved HSP.out.h hat3⟩)
            have HB3 := Lib.hid (HB.out.trans hb3)
            obtain ⟨t0, t1⟩ := (HR.out.next HB3.out).two hlt
            rw [hx0] at t0 t1
            simp only at t0 t1
            clear hown3 hg3 hb3 hat3 s0 s1
            go_wp2_with fail
            go_roundw
            case rel => exact ⟨k + 1, v3, vh, by omega, rfl, rfl, by go_num, by rw [F1.out, F2.out]; simpa [q1, q2] using HSP3.out, HB3.out⟩
            case measure => simp [intOf]; omega
          · by_cases q2 : i < xk
            · go_wp2_with (at_builtin; refine wpList_pushA rfl _ _ _ rfl w.heap.size 56 _ 2 24 Tryz.underlying27 info_mc rfl (by decide) _ _ _ rfl (omc_own HSP.out.h) [.int .i64 xk, .string xs] 1 rfl (mc_one xk xs) _ rfl _ _ _ (by simp) rfl (by unfold maxLen; omega) (by omega) HB.out.size ?_; intro v3 w3 hown3 hg3 hb3 hat3)
              have HSP3 := Lib.hid (show SplM w3 w.heap.size vb v3 p1 (p2 ++ [⟨xk, xs⟩]) from ⟨HSP.out.b.beside hg3 HSP.out.a.symm, OMc.push hown3, (HSP.out.a.symm.moved HSP.out.b hat3).symm⟩)
              have HB3 := Lib.hid (HB.out.trans hb3)
              clear hown3 hg3 hb3 hat3 s0 s1
              go_roundw
              case rel => exact ⟨k + 1, vb, v3, by omega, rfl, rfl, by go_num, by rw [F1.out, F2.out]; simpa [q1, q2] using HSP3.out, HB3.out⟩
              case measure => simp [intOf]; omega
            · go_wp2_with fail
              go_roundw
              case rel => exact ⟨k + 1, vb, vh, by omega, rfl, rfl, by go_num, by rw [F1.out, F2.out]; simpa [q1, q2] using HSP.out, HB.out⟩
              case measure => simp [intOf]; omega
        · obtain rfl : k = l.length := by omega
          have m1 : ¬ ((l.length : Int) < (l.length : Int)) := by omega
          have htk : l.take l.length = l := List.take_length
          rw [htk] at HSP
          have HSPn : Hid (SplM wr w.heap.size vb vh bf bh) := Lib.hid (by rw [← HBF.out, ← HBH.out]; exact HSP.out)
          clear HSP htk
          have HSP := HSPn
          clear HSPn
          go_wp2_with fail
          refine (usedV_any vb w.heap.size bf (by omega) (by omega) wr HSP.out.b).mono ?_
          rintro e w3 ⟨rfl, rfl⟩
          go_wp2_with fail
          refine (usedV_any vh w.heap.size bh (by omega) (by omega) wr HSP.out.h).mono ?_
          rintro e w3 ⟨rfl, rfl⟩
          cases hx
          · by_cases hM : M < d.size
            · have c5 : (M : Int) < (d.size : Int) := by omega
              have HD5 : Hid (defM l i false false d = (5, l)) := Lib.hid (by rw [HDF.out]; unfold takeD; simp [hM])
              have hr5 := HR.out.next HB.out
              clear HDF
              go_wp2_with fail
              go_ret2
              rw [HD5.out]
              exact ⟨A, c, rfl, hr5, HB.out, .inl ⟨rfl, rfl⟩⟩
            · have c5 : ¬ (M : Int) < (d.size : Int) := by omega
              have HD : Hid (defM l i false false d = (0, bf ++ ((if d.size = 0 then [] else [⟨i, d⟩]) ++ bh))) := Lib.hid (by rw [HDF.out]; unfold takeD; simp [hM])
              clear HDF
              by_cases hz0 : d.size = 0
              · have he0 : d.toList.isEmpty = true := by rw [str_mt]; simp [hz0]
                have HD2 : Hid (defM l i false false d = (0, bf ++ bh)) := Lib.hid (by rw [HD.out, if_pos hz0]; simp)
                clear HD
                go_upto_region 21 with fail
                --K1
                go_wp2_with (at_builtin; refine wpList_appTwo rfl _ _ rfl w.heap.size vb vh bf bh rfl rfl HSP.out.b HSP.out.h (by first | omega | (simp; omega)) HB.out.size ?_; intro v9 w9 hown9 hb9)
                go_ret2
                obtain ⟨B, c2, rfl, hr9⟩ := hown9.form
                rw [HD2.out]
                exact ⟨B, c2, rfl, hr9, HB.out.trans hb9, .inr (fun ad e => (hown9.blk ad.block (by rw [e]; rfl)).2)⟩
              · have he0 : d.toList.isEmpty = false := by rw [str_mt]; simp [hz0]
                have HD2 : Hid (defM l i false false d = (0, (bf ++ [⟨i, d⟩]) ++ bh)) := Lib.hid (by rw [HD.out, if_neg hz0]; simp)
                clear HD
                go_upto_region 20 with fail
                --K2
                go_upto_region 21 with (at_builtin; refine wpList_pushA rfl _ _ _ rfl w.heap.size 56 _ 2 24 Tryz.underlying27 info_mc rfl (by decide) _ _ _ rfl (omc_own HSP.out.b) [.int .i64 i, .string d] 1 rfl (mc_one i d) _ rfl _ _ _ (by simp) rfl (by unfold maxLen; omega) (by omega) HB.out.size ?_; intro v3 w3 hown3 hg3 hb3 hat3)
                --K3
                go_wp2_with (at_builtin; refine wpList_appTwo rfl _ _ rfl w.heap.size v3 vh (bf ++ [⟨i, d⟩]) bh rfl rfl (OMc.push hown3) (HSP.out.h.beside hg3 HSP.out.a) (by first | omega | (simp; omega)) (Nat.le_trans HB.out.size hb3.size) ?_; intro v9 w9 hown9 hb9)
                go_ret2
                obtain ⟨B, c2, rfl, hr9⟩ := hown9.form
                rw [HD2.out]
                exact ⟨B, c2, rfl, hr9, (HB.out.trans hb3).trans hb9, .inr (fun ad e => (hown9.blk ad.block (by rw [e]; rfl)).2)⟩
          · have HX := Lib.hid (refDecode_any d hd M (by omega) M (by split <;> omega) wr)
            obtain ⟨z, hz⟩ : ∃ z, z = dcF (d.size + 1) M [] (natL d.data.toList) := ⟨_, rfl⟩
            have hzl := take_le true d M
            have hzt : takeD true d M = (z.1, bstr z.2) := by unfold takeD; rw [if_pos rfl, ← hz]
            rw [hzt] at hzl
            rw [← hz] at HX
            have HDT : Hid (defM l i false true d = if z.1 = 0 then (0, bf ++ ((if (bstr z.2).size = 0 then [] else [⟨i, bstr z.2⟩]) ++ bh)) else (z.1, l)) := Lib.hid (by rw [HDF.out, hzt])
            obtain ⟨zc, zl⟩ := z
            unfold dcV at HX
            simp only at HX hzl HDT
            obtain ⟨zs, hzs⟩ : ∃ zs, zs = bstr zl := ⟨_, rfl⟩
            rw [← hzs] at HX hzl HDT
            clear HDF hz hzt hzs
            go_wp2_with fail
            refine HX.out.mono ?_
            rintro e w4 ⟨rfl, hb4⟩
            have HB4 := Lib.hid (HB.out.trans (hb4.mono HB.out.size))
            have HSP4 := Lib.hid (HSP.out.next hb4)
            clear hb4 HX HB HSP
            have HB := HB4
            have HSP := HSP4
            by_cases hzc : zc = 0
            · subst hzc
              have HD : Hid (defM l i false true d = (0, bf ++ ((if zs.size = 0 then [] else [⟨i, zs⟩]) ++ bh))) := Lib.hid (by rw [HDT.out, if_pos rfl])
              have c5 : ¬ (M : Int) < (zs.size : Int) := by omega
              clear HDT
              by_cases hz0 : zs.size = 0
              · have he0 : zs.toList.isEmpty = true := by rw [str_mt]; simp [hz0]
                have HD2 : Hid (defM l i false true d = (0, bf ++ bh)) := Lib.hid (by rw [HD.out, if_pos hz0]; simp)
                clear HD
                go_upto_region 21 with fail
                --K1
                go_wp2_with (at_builtin; refine wpList_appTwo rfl _ _ rfl w.heap.size vb vh bf bh rfl rfl HSP.out.b HSP.out.h (by first | omega | (simp; omega)) HB.out.size ?_; intro v9 w9 hown9 hb9)
                go_ret2
                obtain ⟨B, c2, rfl, hr9⟩ := hown9.form
                rw [HD2.out]
                exact ⟨B, c2, rfl, hr9, HB.out.trans hb9, .inr (fun ad e => (hown9.blk ad.block (by rw [e]; rfl)).2)⟩
              · have he0 : zs.toList.isEmpty = false := by rw [str_mt]; simp [hz0]
                have HD2 : Hid (defM l i false true d = (0, (bf ++ [⟨i, zs⟩]) ++ bh)) := Lib.hid (by rw [HD.out, if_neg hz0]; simp)
                clear HD
                go_upto_region 20 with fail
                --K2
                go_upto_region 21 with (at_builtin; refine wpList_pushA rfl _ _ _ rfl w.heap.size 56 _ 2 24 Tryz.underlying27 info_mc rfl (by decide) _ _ _ rfl (omc_own HSP.out.b) [.int .i64 i, .string zs] 1 rfl (mc_one i zs) _ rfl _ _ _ (by simp) rfl (by unfold maxLen; omega) (by omega) HB.out.size ?_; intro v3 w3 hown3 hg3 hb3 hat3)
                --K3
                go_wp2_with (at_builtin; refine wpList_appTwo rfl _ _ rfl w.heap.size v3 vh (bf ++ [⟨i, zs⟩]) bh rfl rfl (OMc.push hown3) (HSP.out.h.beside hg3 HSP.out.a) (by first | omega | (simp; omega)) (Nat.le_trans HB.out.size hb3.size) ?_; intro v9 w9 hown9 hb9)
                go_ret2
                obtain ⟨B, c2, rfl, hr9⟩ := hown9.form
                rw [HD2.out]
                exact ⟨B, c2, rfl, hr9, (HB.out.trans hb3).trans hb9, .inr (fun ad e => (hown9.blk ad.block (by rw [e]; rfl)).2)⟩
            · have HD5 : Hid (defM l i false true d = (zc, l)) := Lib.hid (by rw [HDT.out, if_neg hzc])
              have hr5 := HR.out.next HB.out
              have hzb : (zc != 0) = true := by simpa using hzc
              clear HDT
              go_wp2_with fail
              go_ret2
              rw [HD5.out]
              exact ⟨A, c, rfl, hr5, HB.out, .inl ⟨rfl, rfl⟩⟩
    · obtain ⟨bf, hbf⟩ : ∃ bf, bf0 l i true = bf := ⟨_, rfl⟩
      obtain ⟨bh, hbh⟩ : ∃ bh, bh0 l i true = bh := ⟨_, rfl⟩
      have HBF := Lib.hid (show [] = bf from hbf)
      have HBH := Lib.hid (show [] = bh from hbh)
      have hu := used_parts l i
      have hbl : bf.length ≤ l.length ∧ bh.length ≤ l.length := ⟨by rw [← hbf]; exact Nat.zero_le _, by rw [← hbh]; exact Nat.zero_le _⟩
      have hub : usedM bf + usedM bh ≤ 6144 := by rw [← hbf, ← hbh]; show (0 : Nat) + 0 ≤ 6144; omega
      obtain ⟨M, hMe⟩ : ∃ M, roomM l i true = M := ⟨_, rfl⟩
      have hMv : M = 6144 - usedM bf - usedM bh := by rw [← hMe, ← hbf, ← hbh]; rfl
      have HDF : Hid (∀ hx, defM l i true hx d = if (takeD hx d M).1 = 0 then (0, bf ++ ((if (takeD hx d M).2.size = 0 then [] else [⟨i, (takeD hx d M).2⟩]) ++ bh)) else ((takeD hx d M).1, l)) := Lib.hid (fun hx => by unfold defM; rw [if_neg (by omega), hMe, hbf, hbh])
      have hw1 : IntKind.i64.wrap (6144 - (usedM bf : Int)) = 6144 - (usedM bf : Int) := IntWalk.i64_in _ (by omega)
      have hw2 : IntKind.i64.wrap (6144 - (usedM bf : Int) - (usedM bh : Int)) = (M : Int) := by rw [IntWalk.i64_in _ (by omega)]; omega
      have hM6 : M ≤ 6144 := by omega
      clear hMe hbf hbh hu hMv
      go_enter Tryz.func17, Tryz.ntmps17
      go_wp2_with fail
      refine wp_loop_rounds 1 ?_
      rw [rounds_succ]
      obtain ⟨vh, hvh⟩ : ∃ v : Value, v = .slice none 0 0 := ⟨_, rfl⟩
      have HSP : Hid (SplM w w.heap.size vh vh bf bh) := Lib.hid (by rw [← HBF.out, ← HBH.out, hvh]; exact ⟨OMc.nil _ _, OMc.nil _ _, apt_nil _⟩)
      have HB := Lib.hid (Below.refl w.heap.size w)
      rw [← hvh]
      clear hvh
      go_wp2_with fail
      all_goals (
        refine (usedV_any vh w.heap.size bf (by omega) (by omega) w HSP.out.b).mono ?_
        rintro e w3 ⟨rfl, rfl⟩
        go_wp2_with fail
        refine (usedV_any vh w.heap.size bh (by omega) (by omega) w HSP.out.h).mono ?_
        rintro e w3 ⟨rfl, rfl⟩
        cases hx
        · by_cases hM : M < d.size
          · have c5 : (M : Int) < (d.size : Int) := by omega
            have HD5 : Hid (defM l i true false d = (5, l)) := Lib.hid (by rw [HDF.out]; unfold takeD; simp [hM])
            have hr5 := HR.out.next HB.out
            clear HDF
            go_wp2_with fail
            go_ret2
            rw [HD5.out]
            exact ⟨A, c, rfl, hr5, HB.out, .inl ⟨rfl, rfl⟩⟩
          · have c5 : ¬ (M : Int) < (d.size : Int) := by omega
            have HD : Hid (defM l i true false d = (0, bf ++ ((if d.size = 0 then [] else [⟨i, d⟩]) ++ bh))) := Lib.hid (by rw [HDF.out]; unfold takeD; simp [hM])
            clear HDF
            by_cases hz0 : d.size = 0
            · have he0 : d.toList.isEmpty = true := by rw [str_mt]; simp [hz0]
              have HD2 : Hid (defM l i true false d = (0, bf ++ bh)) := Lib.hid (by rw [HD.out, if_pos hz0]; simp)
              clear HD
              go_upto_region 21 with fail
              --K1
              go_wp2_with (at_builtin; refine wpList_appTwo rfl _ _ rfl w.heap.size vh vh bf bh rfl rfl HSP.out.b HSP.out.h (by first | omega | (simp; omega)) HB.out.size ?_; intro v9 w9 hown9 hb9)
              go_ret2
              obtain ⟨B, c2, rfl, hr9⟩ := hown9.form
              rw [HD2.out]
              exact ⟨B, c2, rfl, hr9, HB.out.trans hb9, .inr (fun ad e => (hown9.blk ad.block (by rw [e]; rfl)).2)⟩
            · have he0 : d.toList.isEmpty = false := by rw [str_mt]; simp [hz0]
              have HD2 : Hid (defM l i true false d = (0, (bf ++ [⟨i, d⟩]) ++ bh)) := Lib.hid (by rw [HD.out, if_neg hz0]; simp)
              clear HD
              go_upto_region 20 with fail
              --K2
              go_upto_region 21 with (at_builtin; refine wpList_pushA rfl _ _ _ rfl w.heap.size 56 _ 2 24 Tryz.underlying27 info_mc rfl (by decide) _ _ _ rfl (omc_own HSP.out.b) [.int .i64 i, .string d] 1 rfl (mc_one i d) _ rfl _ _ _ (by simp) rfl (by unfold maxLen; omega) (by omega) HB.out.size ?_; intro v3 w3 hown3 hg3 hb3 hat3)
              --K3
              go_wp2_with (at_builtin; refine wpList_appTwo rfl _ _ rfl w.heap.size v3 vh (bf ++ [⟨i, d⟩]) bh rfl rfl (OMc.push hown3) (HSP.out.h.beside hg3 HSP.out.a) (by first | omega | (simp; omega)) (Nat.le_trans HB.out.size hb3.size) ?_; intro v9 w9 hown9 hb9)
              go_ret2
              obtain ⟨B, c2, rfl, hr9⟩ := hown9.form
              rw [HD2.out]
              exact ⟨B, c2, rfl, hr9, (HB.out.trans hb3).trans hb9, .inr (fun ad e => (hown9.blk ad.block (by rw [e]; rfl)).2)⟩
        · have HX := Lib.hid (refDecode_any d hd M (by omega) M (by split <;> omega) w)
          obtain ⟨z, hz⟩ : ∃ z, z = dcF (d.size + 1) M [] (natL d.data.toList) := ⟨_, rfl⟩
          have hzl := take_le true d M
          have hzt : takeD true d M = (z.1, bstr z.2) := by unfold takeD; rw [if_pos rfl, ← hz]
          rw [hzt] at hzl
          rw [← hz] at HX
          have HDT : Hid (defM l i true true d = if z.1 = 0 then (0, bf ++ ((if (bstr z.2).size = 0 then [] else [⟨i, bstr z.2⟩]) ++ bh)) else (z.1, l)) := Lib.hid (by rw [HDF.out, hzt])
          obtain ⟨zc, zl⟩ := z
          unfold dcV at HX
          simp only at HX hzl HDT
          obtain ⟨zs, hzs⟩ : ∃ zs, zs = bstr zl := ⟨_, rfl⟩
          rw [← hzs] at HX hzl HDT
          clear HDF hz hzt hzs
          go_wp2_with fail
          refine HX.out.mono ?_
          rintro e w4 ⟨rfl, hb4⟩
          have HB4 := Lib.hid (HB.out.trans (hb4.mono HB.out.size))
          have HSP4 := Lib.hid (HSP.out.next hb4)
          clear hb4 HX HB HSP
          have HB := HB4
          have HSP := HSP4
          by_cases hzc : zc = 0
          · subst hzc
            have HD : Hid (defM l i true true d = (0, bf ++ ((if zs.size = 0 then [] else [⟨i, zs⟩]) ++ bh))) := Lib.hid (by rw [HDT.out, if_pos rfl])
            have c5 : ¬ (M : Int) < (zs.size : Int) := by omega
            clear HDT
            by_cases hz0 : zs.size = 0
            · have he0 : zs.toList.isEmpty = true := by rw [str_mt]; simp [hz0]
              have HD2 : Hid (defM l i true true d = (0, bf ++ bh)) := Lib.hid (by rw [HD.out, if_pos hz0]; simp)
              clear HD
              go_upto_region 21 with fail
              --K1
              go_wp2_with (at_builtin; refine wpList_appTwo rfl _ _ rfl w.heap.size vh vh bf bh rfl rfl HSP.out.b HSP.out.h (by first | omega | (simp; omega)) HB.out.size ?_; intro v9 w9 hown9 hb9)
              go_ret2
              obtain ⟨B, c2, rfl, hr9⟩ := hown9.form
              rw [HD2.out]
              exact ⟨B, c2, rfl, hr9, HB.out.trans hb9, .inr (fun ad e => (hown9.blk ad.block (by rw [e]; rfl)).2)⟩
            · have he0 : zs.toList.isEmpty = false := by rw [str_mt]; simp [hz0]
              have HD2 : Hid (defM l i true true d = (0, (bf ++ [⟨i, zs⟩]) ++ bh)) := Lib.hid (by rw [HD.out, if_neg hz0]; simp)
              clear HD
              go_upto_region 20 with fail
              --K2
              go_upto_region 21 with (at_builtin; refine wpList_pushA rfl _ _ _ rfl w.heap.size 56 _ 2 24 Tryz.underlying27 info_mc rfl (by decide) _ _ _ rfl (omc_own HSP.out.b) [.int .i64 i, .string zs] 1 rfl (mc_one i zs) _ rfl _ _ _ (by simp) rfl (by unfold maxLen; omega) (by omega) HB.out.size ?_; intro v3 w3 hown3 hg3 hb3 hat3)
              --K3
              go_wp2_with (at_builtin; refine wpList_appTwo rfl _ _ rfl w.heap.size v3 vh (bf ++ [⟨i, zs⟩]) bh rfl rfl (OMc.push hown3) (HSP.out.h.beside hg3 HSP.out.a) (by first | omega | (simp; omega)) (Nat.le_trans HB.out.size hb3.size) ?_; intro v9 w9 hown9 hb9)
              go_ret2
              obtain ⟨B, c2, rfl, hr9⟩ := hown9.form
              rw [HD2.out]
              exact ⟨B, c2, rfl, hr9, (HB.out.trans hb3).trans hb9, .inr (fun ad e => (hown9.blk ad.block (by rw [e]; rfl)).2)⟩
          · have HD5 : Hid (defM l i true true d = (zc, l)) := Lib.hid (by rw [HDT.out, if_neg hzc])
            have hr5 := HR.out.next HB.out
            have hzb : (zc != 0) = true := by simpa using hzc
            clear HDT
            go_wp2_with fail
            go_ret2
            rw [HD5.out]
            exact ⟨A, c, rfl, hr5, HB.out, .inl ⟨rfl, rfl⟩⟩)
end Go.Proofs.YtnbbepkkedhhgaaGreatDoor

namespace Go.Proofs.YtnbbepkkedhhgaaGreatDoor
open Go Go.RowKit Go.Maps Go.Sort

/-- The sort's two contracts at this place, at the fence that asks nothing. -/
theorem sortsZ (m : Nat) : AnyZI.SortsIn Tryz.prog Tryz.sortedZ_ren Fence.wide m :=
  ⟨fun blk off cap ss W hH hblk hsz => callsIn_wide.2 (AnyM.slices_Sort_int Tryz.sortZ blk off cap ss W hH hblk hsz),
   fun p cap W => callsIn_wide.2 (AnyM.slices_Sort_int_none Tryz.sortZ p cap W)⟩
set_option maxRecDepth 100000 in
set_option maxHeartbeats 2000000 in
theorem idsM_any (S : Nat) (m : Option Nat) (n : Nat) (D : DataW Unit) (w : World) (h : StoB w S m n D) (hs : Maps.size D ≤ 1000) :
    Calls Tryz.prog 18 #[.pointer (some ⟨S, 0, none⟩)] w fun e w' => ∃ (v : Value) (ss : List Int), e = .returned v ∧ ss.Perm (intKeys D) ∧ w'.ownsRow w.heap.size 3 1 v ss.length ((ss.mergeSort leI).map (Value.int .i64)) ∧ Below w.heap.size w w' := by
  have hc := h.1.cell 0
  have hmax : Maps.size D ≤ maxLen := by unfold maxLen; omega
  have hbytes : Maps.size D * 8 ≤ 140737488355328 := by omega
  have cK : Calls Tryz.prog 32 #[.map m] w fun e w' => e = .returned (.func (.func 50) #[] #[.pointer (some ⟨w.heap.size, 0, none⟩)]) ∧ w' = w.alloc (.cells #[.map m] 24) :=
    (callsIn_wide (n := 5)).1 (AnyZI.keys_in Tryz.keysZ Fence.wide 5 trivial rfl m w)
  rcases h.2 with ⟨rfl, rfl⟩ | ⟨b, rfl, ho⟩
  · have hseq : SeqGives Fence.wide 2 Tryz.prog 50 #[.pointer (some ⟨w.heap.size, 0, none⟩)] encZ (fun ss : List Int => ss = []) 0 (w.alloc (.cells #[.map none] 24)) :=
      AnyZI.keys_gives_nil (ρ := Tryz.keysZ_ren) { Tryz.keysZ with } Fence.wide _ trivial rfl w.heap.size _ (by simp) (by simp)
    have cS := AnyZI.sorted_in Tryz.sortedZ Fence.wide 5 trivial trivial trivial trivial rfl (by omega) (sortsZ _) (enters_of Tryz.func49 (by kernel_rfl) rfl) 50 #[.pointer (some ⟨w.heap.size, 0, none⟩)] trivial (enters_of Tryz.func50 (by kernel_rfl) rfl) _ 0 (Nat.zero_le _) (by omega) _ hseq
    change CallsIn _ _ Tryz.prog 31 _ _ _ at cS
    have HS := Lib.hid ((callsIn_wide (n := 5)).1 cS)
    clear cS hseq h
    go_enter Tryz.func18, Tryz.ntmps18
    go_wp2_with fail
    refine cK.mono ?_
    rintro e w1 ⟨rfl, rfl⟩
    go_wp2_with fail
    refine HS.out.mono ?_
    rintro e w2 ⟨v, ss, rfl, rfl, hrow, hnil, hb⟩
    have HR := Lib.hid hrow
    have HB := Lib.hid (((Below.refl _ w).alloc (Nat.le_refl _) (.cells #[.map none] 24)).trans (hb.mono (by simp)))
    clear hrow hb hnil
    go_wp2_with fail
    go_ret
    exact ⟨v, [], rfl, List.Perm.refl _, ownsRow_base_a HR.out (by simp), HB.out⟩
  · have hbl := ho.lt
    have hseq : SeqGives Fence.wide 2 Tryz.prog 50 #[.pointer (some ⟨w.heap.size, 0, none⟩)] encZ (fun ss => ss.Perm (intKeys D)) (Maps.size D) (w.alloc (.cells #[.map (some b)] 24)) :=
      AnyZI.keys_gives (ρ := Tryz.keysZ_ren) { Tryz.keysZ with } Fence.wide _ trivial rfl (by omega) w.heap.size b n D _ (by simp) (by simp) (ho.alloc _)
    have cS := AnyZI.sorted_in Tryz.sortedZ Fence.wide 5 trivial trivial trivial trivial rfl (by omega) (sortsZ _) (enters_of Tryz.func49 (by kernel_rfl) rfl) 50 #[.pointer (some ⟨w.heap.size, 0, none⟩)] trivial (enters_of Tryz.func50 (by kernel_rfl) rfl) _ _ hmax hbytes _ hseq
    change CallsIn _ _ Tryz.prog 31 _ _ _ at cS
    have HS := Lib.hid ((callsIn_wide (n := 5)).1 cS)
    clear cS hseq h
    go_enter Tryz.func18, Tryz.ntmps18
    go_wp2_with fail
    refine cK.mono ?_
    rintro e w1 ⟨rfl, rfl⟩
    go_wp2_with fail
    refine HS.out.mono ?_
    rintro e w2 ⟨v, ss, rfl, hp, hrow, hnil, hb⟩
    have HR := Lib.hid hrow
    have HP := Lib.hid hp
    have HB := Lib.hid (((Below.refl _ w).alloc (Nat.le_refl _) (.cells #[.map (some b)] 24)).trans (hb.mono (by simp)))
    clear hrow hb hnil hp
    go_wp2_with fail
    go_ret
    exact ⟨v, ss, rfl, HP.out, ownsRow_base_a HR.out (by simp), HB.out⟩
end Go.Proofs.YtnbbepkkedhhgaaGreatDoor

namespace Go.Proofs.YtnbbepkkedhhgaaGreatDoor
open Go Go.RowKit

instance : DecidableEq Mc := fun a b => decidable_of_iff (a.k = b.k ∧ a.s = b.s) (by
  obtain ⟨a1, a2⟩ := a
  obtain ⟨b1, b2⟩ := b
  simp)
theorem mcUnder : Tryz.prog.underlying 56 = some (.struct (Tryz.prog.fieldsOf 56)) := by kernel_rfl
theorem mcStood : Tryz.prog.stoodInHeld 56 = false := by kernel_rfl
theorem mcGuard : Tryz.prog.eqGuardType Tryz.prog.depth 56 = false := by kernel_rfl
theorem mcFields : (Tryz.prog.fieldsOf 56).toList.map (fun f => (f.name != "_", f.type, f.offset)) = [(true, 3, 0), (true, 9, 1)] := by kernel_rfl
theorem part_intM (W : World) (xs : Array Value) (i : Nat) (v : Value) (h : xs[i]? = some v) : (part 3 xs i).run Tryz.prog W = .ok v W := by
  simp [part, h]
theorem part_strM (W : World) (xs : Array Value) (i : Nat) (v : Value) (h : xs[i]? = some v) : (part 9 xs i).run Tryz.prog W = .ok v W := by
  simp [part, h]
set_option maxRecDepth 100000 in
theorem eq_mc (W : World) (m : Nat) (a b : Int) (s t : ByteArray) : (Op.equalIn (m + 3) 56 (.agg #[.int .i64 a, .string s]) (.agg #[.int .i64 b, .string t])).run Tryz.prog W = .ok (decide (a = b ∧ s = t)) W := by
  rw [run_equalIn_struct W (m + 2) 56 _ _ mcUnder mcStood]
  obtain ⟨l, hl⟩ : ∃ l, (Tryz.prog.fieldsOf 56).toList = l := ⟨_, rfl⟩
  have hf := mcFields
  rw [hl] at hf ⊢
  match l, hf with
  | [f0, f1], hf =>
    simp only [List.map_cons, List.map_nil, List.cons.injEq, Prod.mk.injEq, bne_iff_ne, and_true] at hf
    obtain ⟨⟨n0, t0, o0⟩, n1, t1, o1⟩ := hf
    have P0 := part_intM W #[.int .i64 a, .string s] 0 (.int .i64 a) rfl
    have P1 := part_intM W #[.int .i64 b, .string t] 0 (.int .i64 b) rfl
    have P2 := part_strM W #[.int .i64 a, .string s] 1 (.string s) rfl
    have P3 := part_strM W #[.int .i64 b, .string t] 1 (.string t) rfl
    simp only [Op.eqFields, t0, t1, o0, o1, n0, n1, ne_eq, not_false_eq_true, if_true, Sem.run_bind, P0, P1, Result.andThen_ok, run_equalIn_int W (m + 1) 3 .i64 .i64 a b Tryz.underlying3]
    by_cases hab : a = b
    · subst hab
      simp only [beq_self_eq_true, Bool.not_true, if_false, Bool.false_eq_true, Sem.run_bind, P2, P3, Result.andThen_ok, run_equalIn_string W (m + 1) 9 s t Tryz.underlying9, bytes_beq]
      by_cases hst : s = t <;> simp [hst]
    · simp [hab]
set_option maxRecDepth 100000 in
set_option maxHeartbeats 4000000 in
theorem refSameM_any (A : Option Addr) (c : Nat) (l : List Mc) (B : Option Addr) (d : Nat) (l2 : List Mc) (hl : l.length ≤ 1000) (hl2 : l2.length ≤ 1000) (w : World) (hr : RMc w A l) (hr2 : RMc w B l2) :
    Calls Tryz.prog 9 #[.slice A l.length c, .slice B l2.length d] w fun e w' => e = .returned (.bool (decide (l = l2))) ∧ Below w.heap.size w w' := by
  obtain ⟨R, hR⟩ : ∃ R, R = decide (l = l2) := ⟨_, rfl⟩
  rw [← hR]
  have HRR := Lib.hid hR
  have HR := Lib.hid hr; have HR2 := Lib.hid hr2
  clear hR hr hr2
  by_cases hlen : l.length = l2.length
  · have e2 : ((l.length : Int) != (l2.length : Int)) = false := by rw [hlen]; simp
    go_enter Tryz.func9, Tryz.ntmps9
    go_upto_region 4 with fail
    clear e2
    go_loopw [5] (fun i wr => ∃ k : Nat, k ≤ l.length ∧ i = .int .i64 k ∧ Hid (l.take k = l2.take k) ∧ Below w.heap.size w wr) (fun i _ => l.length - (intOf i).toNat)
    case atStart => exact ⟨0, by omega, by simp, Lib.hid rfl, Below.refl _ _⟩
    case round =>
      obtain ⟨k, hk, rfl, ht, hbk⟩ := hrel
      have HBk := Lib.hid hbk
      have HRk := Lib.hid (HR.out.next hbk); have HRk2 := Lib.hid (HR2.out.next hbk)
      clear hbk
      by_cases hlt : k < l.length
      · obtain ⟨ad, rfl, _⟩ := HRk.out.2 (by omega)
        obtain ⟨bd, rfl, _⟩ := HRk2.out.2 (by omega)
        have hwk : IntKind.i64.wrap ((k : Int) + 1) = (k : Int) + 1 := IntWalk.i64_in _ (by omega)
        have m0 : (0 : Int) ≤ (k : Int) := by omega
        have m1 : ((k : Int) < (l.length : Int)) = True := eq_true (by omega)
        have m2 : ((k : Int) < (l2.length : Int)) = True := eq_true (by omega)
        have hlt2 : k < l2.length := by omega
        have HS := Lib.hid (fun w' (h : Below wr.heap.size wr w') => (HRk.out.next h).two hlt)
        have HS2 := Lib.hid (fun w' (h : Below wr.heap.size wr w') => (HRk2.out.next h).two hlt2)
        have hstep : l.take (k + 1) = l2.take (k + 1) ↔ l[k] = l2[k] := by
          rw [List.take_succ_eq_append_getElem hlt, List.take_succ_eq_append_getElem hlt2, ht.out, List.append_cancel_left_eq]
          exact ⟨fun e => by injection e, fun e => by rw [e]⟩
        have hwhole : l = l2 → l[k] = l2[k] := fun e => by subst e; rfl
        generalize l[k] = x at *
        generalize l2[k] = y at *
        obtain ⟨xk, xs⟩ := x
        obtain ⟨yk, ys⟩ := y
        simp only at HS HS2
        have hxy : ((⟨xk, xs⟩ : Mc) = ⟨yk, ys⟩) ↔ (xk = yk ∧ xs = ys) := by simp
        rw [hxy] at hstep hwhole
        obtain ⟨q, hq⟩ : ∃ q, q = decide (xk = yk ∧ xs = ys) := ⟨_, rfl⟩
        have HX := Lib.hid (fun W => show (binOp .neq 56 (.agg #[.int .i64 xk, .string xs]) (.agg #[.int .i64 yk, .string ys])).run Tryz.prog W = .ok (.bool (!q)) W by
          rw [run_neq_struct, show (10000 : Nat) = 9997 + 3 from rfl, eq_mc, hq]
          rfl)
        have HG := Lib.hid (fun W p r => run_eqGuard_agg (P := Tryz.prog) W .neq 56 p r #[.int .i64 xk, .string xs] #[.int .i64 yk, .string ys] mcGuard)
        have HST := Lib.hid hstep; have HWH := Lib.hid hwhole; have HQE := Lib.hid hq
        clear hstep hwhole hxy hq
        go_upto_region 6 with fail
        refine wp_region_mix_lit (by kernel_rfl) [] (by kernel_rfl) (by kernel_rfl) (by kernel_rfl) (by rfl) (by simp [apartK] <;> omega) (by simp [startK]) (by simp [stabK]) (⟨fun _ => undef, by simp [okK]⟩) (fun β hβ => ?_)
        refine lex_val (v := ?_) rfl rfl (fun w' hf => ?_) ?_
        rotate_left
        · go_simp
          try rfl
        try simp only [Act.put, List.setIfInBounds_toArray, List.set_cons_zero, List.set_cons_succ]
        refine lex_val (v := ?_) rfl rfl (fun w' hf => ?_) ?_
        rotate_left
        · go_simp
          try rfl
        try simp only [Act.put, List.setIfInBounds_toArray, List.set_cons_zero, List.set_cons_succ]
        refine lex_val (v := ?_) rfl rfl (fun w' hf => ?_) ?_
        rotate_left
        · go_simp
          try rfl
        try simp only [Act.put, List.setIfInBounds_toArray, List.set_cons_zero, List.set_cons_succ]
        refine lex_val (v := ?_) rfl rfl (fun w' hf => ?_) ?_
        rotate_left
        · have hs := HS.out w' hf.only.below0; obtain ⟨s0, s1⟩ := hs; go_simp
          try rfl
        try simp only [Act.put, List.setIfInBounds_toArray, List.set_cons_zero, List.set_cons_succ]
        refine lex_val (v := ?_) rfl rfl (fun w' hf => ?_) ?_
        rotate_left
        · go_simp
          try rfl
        try simp only [Act.put, List.setIfInBounds_toArray, List.set_cons_zero, List.set_cons_succ]
        refine lex_val (v := ?_) rfl rfl (fun w' hf => ?_) ?_
        rotate_left
        · go_simp
          try rfl
        try simp only [Act.put, List.setIfInBounds_toArray, List.set_cons_zero, List.set_cons_succ]
        refine lex_val (v := ?_) rfl rfl (fun w' hf => ?_) ?_
        rotate_left
        · go_simp
          try rfl
        try simp only [Act.put, List.setIfInBounds_toArray, List.set_cons_zero, List.set_cons_succ]
        refine lex_val (v := ?_) rfl rfl (fun w' hf => ?_) ?_
        rotate_left
        · have hs := HS2.out w' hf.only.below0; obtain ⟨s0, s1⟩ := hs; go_simp
          try rfl
        try simp only [Act.put, List.setIfInBounds_toArray, List.set_cons_zero, List.set_cons_succ]
        refine lex_val (v := .bool (!q)) rfl rfl (fun w' hf => ?_) ?_
        · have hb := HX.out; have hg := HG.out
          go_simp
          try rfl
        try simp only [Act.put, List.setIfInBounds_toArray, List.set_cons_zero, List.set_cons_succ]
        refine lex_nil fun W2 he => ?_
        have hb2 := he.only.below0
        clear he
        have HBn := Lib.hid (HBk.out.trans (hb2.mono HBk.out.size))
        clear hb2
        rcases q with _ | _
        · go_wp2_with fail
          go_ret
          exact ⟨by rw [HRR.out, decide_eq_false (fun e => by have h4 := HQE.out; rw [decide_eq_true (HWH.out e)] at h4; cases h4)]; rfl, HBn.out⟩
        · go_wp2_with fail
          go_roundw
          case rel => exact ⟨k + 1, by omega, by go_num, Lib.hid (HST.out.mpr (of_decide_eq_true HQE.out.symm)), HBn.out⟩
          case measure => simp [intOf]; omega
      · obtain rfl : k = l.length := by omega
        have m1 : ((l.length : Int) < (l.length : Int)) = False := eq_false (by omega)
        go_wp2_with fail
        go_ret
        have hll : l = l2 := by
          have h := ht.out
          rw [List.take_length, hlen, List.take_length] at h
          exact h
        exact ⟨by rw [HRR.out, decide_eq_true hll]; rfl, HBk.out⟩
  · have e2 : ((l.length : Int) != (l2.length : Int)) = true := by simp; omega
    go_enter Tryz.func9, Tryz.ntmps9
    go_wp2_with fail
    go_ret
    exact ⟨by rw [HRR.out, decide_eq_false (fun e => hlen (by rw [e]))]; rfl, Below.refl _ _⟩
end Go.Proofs.YtnbbepkkedhhgaaGreatDoor

namespace Go.Proofs.YtnbbepkkedhhgaaGreatDoor
open Go Go.RowKit Go.Maps

theorem dSum_le (d : DataW Unit) : dSum d ≤ 255 * dLen d := by
  unfold dSum dLen
  generalize txL d = l
  induction l with
  | nil => simp
  | cons x l ih =>
    have := x.toNat_lt
    simp only [List.map_cons, List.sum_cons, List.length_cons]
    omega
theorem macL_le (left : Lit → Bool) (es : List (Lit × DataW Unit)) : macL dSum left es ≤ 255 * macL dLen left es := by
  induction es with
  | nil => exact Nat.le_refl _
  | cons p es ih =>
    rw [macL_cons, macL_cons]
    have := dSum_le p.2
    split <;> omega
theorem sumD_le (D : DataW Unit) (h : tot D ≤ 6144) : sumD dSum allK D ≤ 1566720 := by
  cases D <;> try exact Nat.zero_le _
  have := macL_le allK (by assumption)
  unfold tot at h
  show macL dSum allK _ ≤ _
  have h2 : macL dLen allK _ ≤ 6144 := h
  omega
set_option maxRecDepth 100000 in
set_option maxHeartbeats 2000000 in
theorem txSum_any (s : ByteArray) (hs : s.size ≤ 6144) (w : World) :
    Calls Tryz.prog 33 #[.agg #[.string s]] w fun e w' => e = .returned (.int .i64 (sumT s : Nat)) ∧ Below w.heap.size w w' := by
  have b0 := Blk.new w 46 #[.string s]
  have q0 := b0.cell 0
  have HB := Lib.hid (show Below w.heap.size w (w.alloc (.cells #[.string s] 46)) from (Below.refl _ _).alloc (Nat.le_refl _) _)
  clear b0
  go_enter Tryz.func33, Tryz.ntmps33
  go_wp2_with fail
  generalize w.alloc (.cells #[.string s] 46) = W0 at *
  go_loopw [3, 8] (fun v i wr => ∃ j : Nat, j ≤ s.size ∧ i = .int .i64 j ∧ v = .int .i64 ((((s.data.toList.take j).map (·.toNat)).sum : Nat) : Int) ∧ W0 = wr) (fun _ i _ => s.size - (intOf i).toNat)
  case atStart => exact ⟨0, by omega, rfl, rfl, rfl⟩
  case round =>
    obtain ⟨j, hj, rfl, rfl, rfl⟩ := hrel
    by_cases hltj : j < s.size
    · have hsj := sumT_step s j hltj
      have hb := byte_lt s[j]
      have c1 : (j : Int) < (s.size : Int) := by omega
      have n0 : (0 : Int) ≤ (j : Int) := by omega
      have hwj : IntKind.i64.wrap ((j : Int) + 1) = (j : Int) + 1 := IntWalk.i64_in _ (by omega)
      have hle : ((s.data.toList.take j).map (·.toNat)).sum ≤ 255 * j := by
        have h1 := dSum_le (.lit (.string (s.data.toList.take j)))
        have h2 : dLen (.lit (.string (s.data.toList.take j))) ≤ j := by show (s.data.toList.take j).length ≤ j; simp; omega
        have h3 : dSum (.lit (.string (s.data.toList.take j))) = ((s.data.toList.take j).map (·.toNat)).sum := rfl
        omega
      obtain ⟨P1, hP1⟩ : ∃ P1 : Nat, ((s.data.toList.take (j + 1)).map (·.toNat)).sum = P1 := ⟨_, rfl⟩
      have HP1 := Lib.hid hP1
      rw [hP1] at hsj
      obtain ⟨P0, hP0⟩ : ∃ P0 : Nat, ((s.data.toList.take j).map (·.toNat)).sum = P0 := ⟨_, rfl⟩
      rw [hP0] at hsj hle ⊢
      obtain ⟨b, hbb⟩ : ∃ b : Nat, (s[j]).toNat = b := ⟨_, rfl⟩
      rw [hbb] at hsj hb
      have HQ := Lib.hid hsj
      have hw2 : IntKind.i64.wrap ((P0 : Int) + (b : Int)) = (P1 : Int) := by rw [IntWalk.i64_in _ (by omega)]; omega
      clear hP0 hP1 hsj hle
      go_wp2_with fail
      go_roundw
      case rel => exact ⟨j + 1, by omega, by go_num, by rw [HP1.out], by first | rfl | trivial⟩
      case measure => simp [intOf]; omega
    · obtain rfl : j = s.size := by omega
      have htk : s.data.toList.take s.size = s.data.toList := List.take_of_length_le (by rw [Array.length_toList]; exact Nat.le_refl _)
      rw [htk, show (s.data.toList.map (·.toNat)).sum = sumT s from rfl]
      have c1 : ¬ ((s.size : Int) < (s.size : Int)) := by omega
      go_wp2_with fail
      go_ret
      exact ⟨rfl, HB.out⟩
theorem and_16 (T : Nat) (h : T < 1099511627776) : bits .and .i64 (T : Int) 65535 = ((T % 65536 : Nat) : Int) := by
  show IntKind.i64.wrap (((BitVec.ofInt 64 (T : Int) &&& BitVec.ofInt 64 65535).toNat : Nat) : Int) = _
  have e1 : (BitVec.ofInt 64 (T : Int)).toNat = T := by simp; omega
  have e2 : (BitVec.ofInt 64 65535).toNat = 65535 := by decide
  rw [BitVec.toNat_and, e1, e2, show (65535 : Nat) = 2 ^ 16 - 1 from rfl, Nat.and_two_pow_sub_one_eq_mod]
  exact IntWalk.i64_in _ (by omega)
theorem ranges_later {w w' : World} {P : Program} {k : TypeId} {R : Value → Option (DataW Unit × List MemPlace)} {b r n : Nat} {D : DataW Unit} {left : Lit → Bool} {cnt : Nat} (h : w.ranges P k R b r n D left cnt) (hb : Below w.heap.size w w') : w'.ranges P k R b r n D left cnt :=
  h.kept (row := none) ⟨hb.os, hb.tape, hb.output, hb.size, fun i hi _ => hb.block i hi⟩ (by simp) (by simp)
set_option maxRecDepth 100000 in
set_option maxHeartbeats 4000000 in
theorem sumM_any (S : Nat) (m : Option Nat) (n : Nat) (D : DataW Unit) (w : World) (h : StoB w S m n D) (ht : tot D ≤ 6144) :
    Calls Tryz.prog 21 #[.pointer (some ⟨S, 0, none⟩)] w fun e w' => e = .returned (.int .i64 ((sumD dSum allK D % 65536 : Nat) : Int)) ∧ Below w.heap.size w w' := by
  have hc := h.1.cell 0
  have hb := h.1.lt
  have hty := h.2.tidy
  have hks := h.2.keys
  rcases h.2 with ⟨rfl, rfl⟩ | ⟨b, rfl, ho⟩
  · have hrg := run_range_nilMap (P := Tryz.prog) w 24 3 46 mapUnder
    have hnx : ∀ ty, (Instr.next (.pointer (some ⟨w.heap.size, 0, none⟩)) false ty).run Tryz.prog (w.alloc (.mapIter none 0 #[] 0)) = _ := fun ty => run_next_nilMap w ty 0 0 #[]
    clear h hty hks ht
    go_enter Tryz.func21, Tryz.ntmps21
    go_wp2
    refine wp_loop_rounds 1 ?_
    rw [rounds_succ]
    go_wp2
    go_ret
    exact ⟨rfl, (Below.refl _ _).alloc (Nat.le_refl _) _⟩
  · have hlt := ho.lt
    clear h
    obtain ⟨T, hT⟩ : ∃ T : Nat, sumD dSum allK D = T := ⟨_, rfl⟩
    have htT := sumD_le D ht
    rw [hT] at htT ⊢
    go_enter Tryz.func21, Tryz.ntmps21
    go_wp2_with (first
      | (at_range; refine wpList_range_own _ rfl _ 24 rfl 3 46 keyZ mapUnder Rt b n _ rfl ho ?_; intro w0 hrg0 hg0 hs0)
      | go_in)
    go_frame
    go_loopw [3] (fun x wr => ∃ (left : Lit → Bool) (cnt : Nat), wr.ranges Tryz.prog 3 Rt b w.heap.size n D left cnt ∧ Below w.heap.size w wr ∧ w.heap.size < wr.heap.size ∧ x = .int .i64 ((T : Int) - (sumD dSum left D : Nat)))
      (fun _ wr => wr.rangeLeft b w.heap.size)
    case atStart =>
      refine ⟨_, _, hrg0, ⟨hg0.os, hg0.tape, hg0.output, hg0.size, fun k hk => hg0.block k hk (by simp)⟩, by omega, ?_⟩
      rw [sum_start dSum hty hks]
      rw [hT]
      congr 1
      omega
    case round =>
      obtain ⟨left, cnt, hrg, hbw, hsz, rfl⟩ := hrel
      have hpart := sum_part dSum left D
      replace hpart : sumD dSum left D ≤ T := by rw [← hT]; exact hpart
      go_wp2_with (first
        | (at_next; refine wpList_next_ranges _ rfl _ rfl 3 keyZ Rt (Value.int .i64) (fun c : ByteArray => .agg #[.string c]) (fun key kl hkey => by obtain ⟨x, rfl, _⟩ := keyOf_int_inv Tryz.underlying3 hkey; exact ⟨x, rfl⟩) Rt_shape b w.heap.size n _ _ _ rfl hrg ?_ ?_)
        | go_in)
      · intro _ hl0
        rw [sum_end dSum left hl0]
        have hand := and_16 T (by omega)
        go_wp2
        go_ret
        exact ⟨by simp, hbw⟩
      · intro x c kl yd yp w1 cnt1 hkey hlx hy hat hrg1 hlt1 hg1 hs1 hen
        obtain ⟨s2, e1, e2, hs2⟩ := Rt_inv hy
        obtain rfl : yd = .lit (.string s2.data.toList) := congrArg Prod.fst e2
        obtain rfl : c = s2 := by injection e1 with e1; injection e1 with e1; injection e1 with e1; injection e1
        have hst := sum_step dSum hty left kl hlx noTx rfl
        rw [hat noTx] at hst
        have hcl : dSum (.lit (.string c.data.toList)) = sumT c := rfl
        rw [hcl] at hst
        have HX := Lib.hid (fun W => txSum_any c hs2 W)
        obtain ⟨tc, htc⟩ : ∃ tc, sumT c = tc := ⟨_, rfl⟩
        rw [htc] at hst HX
        obtain ⟨r, hr⟩ : ∃ r : Nat, sumD dSum (fun z => left z && !z.sameKey kl) D = r := ⟨_, rfl⟩
        rw [hr] at hst
        have HST := Lib.hid hst
        have hpart2 : tc + r ≤ T := by omega
        obtain ⟨R0, hR0⟩ : ∃ R0 : Nat, sumD dSum left D = R0 := ⟨_, rfl⟩
        rw [hR0] at HST ⊢
        have hR1 : R0 = tc + r := HST.out
        have hw5 : IntKind.i64.wrap ((T : Int) - (R0 : Int) + (tc : Int)) = (T : Int) - (r : Int) := by rw [IntWalk.i64_in _ (by omega)]; omega
        have hbw1 : Below w.heap.size w w1 := ⟨hg1.os.trans hbw.os, hg1.tape.trans hbw.tape, hg1.output.trans hbw.output, Nat.le_trans hbw.size hg1.size, fun k hk => (hg1.block k (by omega) (by simp; omega)).trans (hbw.block k hk)⟩
        have hsz1 : w.heap.size < w1.heap.size := by omega
        have hle := Lib.hid hrg.left_eq
        have hrgh := Lib.hid hrg1
        clear hst hat hy hty hks hbw hT hc hg1 hrg hrg1 hg0 hrg0 hs0 ho hs2
        clear hR1 hR0 hpart
        go_wp2_with fail
        have hal : Below w1.heap.size w1 (w1.alloc (.cells #[.string c] 46)) := (Below.refl _ _).alloc (Nat.le_refl _) _
        have hrg2 := Lib.hid (hrgh.out.alloc (.cells #[.string c] 46))
        have hbw2 := Lib.hid (hbw1.alloc (by omega) (.cells #[.string c] 46))
        have hsz2 : w.heap.size < (w1.alloc (.cells #[.string c] 46)).heap.size := by simp; omega
        generalize w1.alloc (.cells #[.string c] 46) = w2 at *
        refine (HX.out w2).mono ?_
        rintro e w3 ⟨rfl, hb3⟩
        have hrg3 := Lib.hid (ranges_later hrg2.out hb3)
        have hbw3 := Lib.hid (hbw2.out.trans (hb3.mono (by omega)))
        have hsz3 : w.heap.size < w3.heap.size := Nat.lt_of_lt_of_le hsz2 hb3.size
        clear hb3
        go_wp2_with fail
        go_roundw
        case rel => exact ⟨_, cnt1, hrg3.out, hbw3.out, hsz3, by rw [hr]⟩
        case measure =>
          rw [hrg3.out.left_eq, hle.out]
          exact hlt1
end Go.Proofs.YtnbbepkkedhhgaaGreatDoor

namespace Go.Proofs.YtnbbepkkedhhgaaGreatDoor
open Go Go.RowKit Go.Maps

def ent (m : Mc) : Lit × DataW Unit := (kz m.k, .lit (.string m.s.data.toList))
def dOf (L : List Mc) : DataW Unit := .map (L.map ent)
/-- Rising numbers from 0 to 63, no text empty, no more than there is space for. -/
structure OkL (L : List Mc) : Prop where
  rise : L.Pairwise (fun a b => a.k < b.k)
  keys : ∀ m ∈ L, 0 ≤ m.k ∧ m.k < 64
  full : ∀ m ∈ L, m.s.size ≠ 0
  used : usedM L ≤ 6144
theorem okL_nil : OkL [] := ⟨List.Pairwise.nil, by simp, by simp, by decide⟩
theorem same_kz (i j : Int) : (kz i).sameKey (kz j) = decide (i = j) := by
  show decide (IntKind.i64 = IntKind.i64 ∧ i = j) = _
  simp
theorem before_kz (i j : Int) : (kz i).before (kz j) = decide (i < j) := rfl
theorem tot_dOf : ∀ L : List Mc, tot (dOf L) = usedM L
  | [] => rfl
  | x :: L => by
    have ih := tot_dOf L
    show macL dLen allK (ent x :: L.map ent) = usedM (x :: L)
    rw [macL_cons]
    have e : macL dLen allK (L.map ent) = usedM L := ih
    have e2 : dLen (ent x).2 = x.s.size := by show x.s.data.toList.length = x.s.size; simp
    rw [e, e2]
    rfl
theorem sum_dOf : ∀ L : List Mc, sumD dSum allK (dOf L) = sumMc L
  | [] => rfl
  | x :: L => by
    have ih := sum_dOf L
    show macL dSum allK (ent x :: L.map ent) = sumMc (x :: L)
    rw [macL_cons]
    have e : macL dSum allK (L.map ent) = sumMc L := ih
    rw [e]
    rfl
theorem size_dOf (L : List Mc) : Maps.size (dOf L) = L.length := by
  show (L.map ent).length = _
  simp
theorem keys_dOf (L : List Mc) : intKeys (dOf L) = L.map (·.k) := by
  unfold intKeys dOf
  simp only
  rw [List.map_map]
  rfl
theorem ids_sorted (L : List Mc) (h : OkL L) (ss : List Int) (hp : ss.Perm (intKeys (dOf L))) : ss.mergeSort leI = L.map (·.k) := by
  rw [keys_dOf] at hp
  rw [mergeSort_of_perm_i hp]
  refine List.mergeSort_of_pairwise ?_
  rw [List.pairwise_map]
  exact h.rise.imp (fun {a b} hab => by simp [leI]; omega)
theorem tx_dOf : ∀ (L : List Mc) (i : Int), txAt (dOf L) i = (getMc L i).1 ∧ has (dOf L) (kz i) = (getMc L i).2
  | [], i => ⟨rfl, rfl⟩
  | x :: L, i => by
    obtain ⟨h1, h2⟩ := tx_dOf L i
    have e : getMc (x :: L) i = if x.k = i then (x.s, true) else getMc L i := rfl
    rw [e]
    have hs : (ent x).1.sameKey (kz i) = decide (x.k = i) := same_kz x.k i
    by_cases hk : x.k = i
    · rw [if_pos hk]
      have ha : (dOf (x :: L)).atKey (kz i) noTx = .lit (.string x.s.data.toList) := by
        have h3 : (DataW.map (ent x :: L.map ent)).atKey (kz i) noTx = (ent x).2 := by simp [DataW.atKey, hs, hk]
        exact h3
      refine ⟨?_, ?_⟩
      · unfold txAt
        rw [ha]
        show (⟨x.s.data.toList.toArray⟩ : ByteArray) = x.s
        rw [Array.toArray_toList]
      · show (ent x :: L.map ent).any (fun p => p.1.sameKey (kz i)) = true
        simp [hs, hk]
    · rw [if_neg hk, ← h1, ← h2]
      refine ⟨?_, ?_⟩
      · unfold txAt
        have h3 : (DataW.map (ent x :: L.map ent)).atKey (kz i) noTx = (DataW.map (L.map ent)).atKey (kz i) noTx := by simp [DataW.atKey, hs, hk]
        have h4 : (dOf (x :: L)).atKey (kz i) noTx = (dOf L).atKey (kz i) noTx := h3
        rw [h4]
      · show (ent x :: L.map ent).any (fun p => p.1.sameKey (kz i)) = (L.map ent).any (fun p => p.1.sameKey (kz i))
        simp [hs, hk]
theorem ent_inj {a b : Mc} (h : ent a = ent b) : a = b := by
  obtain ⟨ak, s1⟩ := a
  obtain ⟨bk, s2⟩ := b
  unfold ent at h
  injection h with h1 h2
  injection h1 with _ h1
  injection h2 with h2
  injection h2 with h2
  have e : s1 = s2 := ByteArray.ext (Array.toList_inj.1 h2)
  rw [e]
  simp only at h1
  rw [h1]
theorem dOf_inj : ∀ {L L2 : List Mc}, dOf L = dOf L2 → L = L2
  | [], [], _ => rfl
  | [], _ :: _, h => by unfold dOf at h; simp at h
  | _ :: _, [], h => by unfold dOf at h; simp at h
  | a :: L, b :: L2, h => by
    unfold dOf at h
    simp only [List.map_cons, DataW.map.injEq, List.cons.injEq] at h
    rw [ent_inj h.1, dOf_inj (show dOf L = dOf L2 by unfold dOf; rw [h.2])]

theorem bef_all (L : List Mc) (i : Int) (h : ∀ m ∈ L, i < m.k) : befM L i = [] ∧ behM L i = L ∧ getMc L i = (⟨#[]⟩, false) := by
  refine ⟨?_, ?_, ?_⟩
  · unfold befM
    rw [List.filter_eq_nil_iff]
    intro m hm
    have := h m hm
    simp; omega
  · unfold behM
    rw [List.filter_eq_self]
    intro m hm
    simpa using h m hm
  · induction L with
    | nil => rfl
    | cons x L ih =>
      have e : getMc (x :: L) i = if x.k = i then (x.s, true) else getMc L i := rfl
      have := h x (by simp)
      rw [e, if_neg (by omega)]
      exact ih (fun m hm => h m (by simp [hm]))
theorem bef_cons (x : Mc) (L : List Mc) (i : Int) : befM (x :: L) i = (if x.k < i then [x] else []) ++ befM L i ∧ behM (x :: L) i = (if i < x.k then [x] else []) ++ behM L i := by
  unfold befM behM
  constructor
  · by_cases h : x.k < i
    · rw [List.filter_cons_of_pos (by simpa using h), if_pos h]; rfl
    · rw [List.filter_cons_of_neg (by simpa using h), if_neg h]; rfl
  · by_cases h : i < x.k
    · rw [List.filter_cons_of_pos (by simpa using h), if_pos h]; rfl
    · rw [List.filter_cons_of_neg (by simpa using h), if_neg h]; rfl
/-- A rising list falls into those ahead of a number, the one at it, those behind it. -/
theorem parts (i : Int) : ∀ L : List Mc, L.Pairwise (fun a b => a.k < b.k) →
    usedM L = usedM (befM L i) + usedM (behM L i) + (getMc L i).1.size ∧ L.filter (fun m => !decide (m.k = i)) = befM L i ++ behM L i
  | [], _ => ⟨rfl, rfl⟩
  | x :: L, h => by
    obtain ⟨h1, h2⟩ := List.pairwise_cons.1 h
    obtain ⟨ih1, ih2⟩ := parts i L h2
    obtain ⟨b1, b2⟩ := bef_cons x L i
    have e : getMc (x :: L) i = if x.k = i then (x.s, true) else getMc L i := rfl
    have u : usedM (x :: L) = x.s.size + usedM L := rfl
    rw [b1, b2, e, u]
    by_cases c1 : x.k < i
    · rw [if_pos c1, if_neg (by omega), if_neg (by omega)]
      have u2 : usedM ([x] ++ befM L i) = x.s.size + usedM (befM L i) := rfl
      rw [u2]
      refine ⟨by simp only [List.nil_append]; omega, ?_⟩
      rw [List.filter_cons_of_pos (by simp; omega), ih2]
      rfl
    · have hall : ∀ m ∈ L, i < m.k := fun m hm => by have := h1 m hm; omega
      obtain ⟨a1, a2, a3⟩ := bef_all L i hall
      by_cases c2 : x.k = i
      · rw [if_neg c1, if_neg (by omega), if_pos c2, a1, a2]
        refine ⟨by simp only [List.nil_append]; show x.s.size + usedM L = 0 + usedM L + x.s.size; omega, ?_⟩
        rw [List.filter_cons_of_neg (by simp [c2]), ih2, a1, a2]
        rfl
      · rw [if_neg c1, if_pos (by omega), if_neg c2, a1, a2, a3]
        refine ⟨?_, ?_⟩
        · show x.s.size + usedM L = 0 + (x.s.size + usedM L) + 0
          omega
        · rw [List.filter_cons_of_pos (by simp [c2]), ih2, a1, a2]
          rfl
theorem del_dOf (L : List Mc) (i : Int) (h : L.Pairwise (fun a b => a.k < b.k)) : (dOf L).del (kz i) = dOf (befM L i ++ behM L i) := by
  rw [← (parts i L h).2]
  show DataW.map ((L.map ent).filter fun p => !p.1.sameKey (kz i)) = .map _
  congr 1
  rw [List.filter_map]
  congr 1
  refine List.filter_congr (fun m _ => ?_)
  show (!(kz m.k).sameKey (kz i)) = _
  rw [same_kz]
theorem insert_at (i : Int) (d : DataW Unit) : ∀ (A B : List Mc), (∀ m ∈ A, m.k < i) → (∀ m ∈ B, i < m.k) → DataW.insert (kz i, d) (A.map ent ++ B.map ent) = A.map ent ++ (kz i, d) :: B.map ent
  | [], [], _, _ => rfl
  | [], b :: B, _, hB => by
    show (if (kz i).before (kz b.k) then _ else _) = _
    rw [before_kz, decide_eq_true (hB b (by simp)), if_pos rfl]
    rfl
  | a :: A, B, hA, hB => by
    have ha := hA a (by simp)
    show (if (kz i).before (kz a.k) then _ else _ :: DataW.insert (kz i, d) (A.map ent ++ B.map ent)) = _
    rw [before_kz, decide_eq_false (by omega), if_neg (by simp), insert_at i d A B (fun m hm => hA m (by simp [hm])) hB]
    rfl
theorem bef_lt (L : List Mc) (i : Int) : ∀ m ∈ befM L i, m.k < i ∧ m ∈ L := fun m hm => by
  obtain ⟨h1, h2⟩ := List.mem_filter.1 hm
  exact ⟨by simpa using h2, h1⟩
theorem beh_gt (L : List Mc) (i : Int) : ∀ m ∈ behM L i, i < m.k ∧ m ∈ L := fun m hm => by
  obtain ⟨h1, h2⟩ := List.mem_filter.1 hm
  exact ⟨by simpa using h2, h1⟩
theorem put_dOf (L : List Mc) (i : Int) (s : ByteArray) (h : L.Pairwise (fun a b => a.k < b.k)) : putD (dOf L) i s = dOf (befM L i ++ ((if s.size = 0 then [] else [⟨i, s⟩]) ++ behM L i)) := by
  unfold putD
  by_cases hs : s.size = 0
  · rw [if_pos hs, if_pos hs, List.nil_append]
    exact del_dOf L i h
  · rw [if_neg hs, if_neg hs]
    have hd := del_dOf L i h
    show DataW.map (DataW.insert (kz i, _) ((L.map ent).filter fun p => !p.1.sameKey (kz i))) = _
    have hf : (L.map ent).filter (fun p => !p.1.sameKey (kz i)) = (befM L i).map ent ++ (behM L i).map ent := by
      have h2 : DataW.map ((L.map ent).filter fun p => !p.1.sameKey (kz i)) = DataW.map ((befM L i ++ behM L i).map ent) := hd
      injection h2 with h2
      rw [h2, List.map_append]
    rw [hf, insert_at i _ _ _ (fun m hm => (bef_lt L i m hm).1) (fun m hm => (beh_gt L i m hm).1)]
    unfold dOf
    rw [List.map_append, List.map_append]
    rfl
/-- Behind a definition both are one again. -/
theorem def_dOf (L : List Mc) (hL : OkL L) (i : Int) (cl hx : Bool) (d : ByteArray) :
    defD (dOf L) i cl hx d = ((defM L i cl hx d).1, dOf (defM L i cl hx d).2) ∧ OkL (defM L i cl hx d).2 ∧ (defM L i cl hx d).2.length ≤ L.length + 1 := by
  unfold defD defM
  by_cases ho : i < 0 ∨ 64 ≤ i
  · rw [if_pos ho, if_pos ho]
    exact ⟨rfl, hL, by simp⟩
  · rw [if_neg ho, if_neg ho]
    have hr : roomD (dOf L) i cl = roomM L i cl := by
      unfold roomD roomM bf0 bh0
      cases cl
      · simp only [Bool.false_eq_true, if_false]
        rw [tot_dOf, (tx_dOf L i).1]
        have h1 := (parts i L hL.rise).1
        have := hL.used
        omega
      · rfl
    rw [hr]
    obtain ⟨z, hz⟩ : ∃ z, takeD hx d (roomM L i cl) = z := ⟨_, rfl⟩
    have hzl := take_le hx d (roomM L i cl)
    rw [hz] at hzl ⊢
    by_cases h0 : z.1 = 0
    · rw [if_pos h0, if_pos h0]
      have hbf : ∀ m ∈ bf0 L i cl, m.k < i ∧ m ∈ L := by
        unfold bf0; cases cl
        · exact bef_lt L i
        · intro m hm; cases hm
      have hbh : ∀ m ∈ bh0 L i cl, i < m.k ∧ m ∈ L := by
        unfold bh0; cases cl
        · exact beh_gt L i
        · intro m hm; cases hm
      refine ⟨?_, ⟨?_, ?_, ?_, ?_⟩, ?_⟩
      · cases cl
        · exact congrArg (Prod.mk _) (put_dOf L i z.2 hL.rise)
        · exact congrArg (Prod.mk _) (put_dOf [] i z.2 List.Pairwise.nil)
      · rw [List.pairwise_append]
        refine ⟨?_, ?_, ?_⟩
        · unfold bf0; cases cl
          · exact hL.rise.filter _
          · exact List.Pairwise.nil
        · rw [List.pairwise_append]
          refine ⟨by split <;> simp, ?_, fun a ha b hb => ?_⟩
          · unfold bh0; cases cl
            · exact hL.rise.filter _
            · exact List.Pairwise.nil
          · split at ha
            · cases ha
            · simp at ha; subst ha; exact (hbh b hb).1
        · intro a ha b hb
          have h1 := (hbf a ha).1
          rcases List.mem_append.1 hb with hb | hb
          · split at hb
            · cases hb
            · simp at hb; subst hb; exact h1
          · have := (hbh b hb).1; omega
      · intro m hm
        rcases List.mem_append.1 hm with hm | hm
        · exact hL.keys m (hbf m hm).2
        · rcases List.mem_append.1 hm with hm | hm
          · split at hm
            · cases hm
            · simp at hm; subst hm; simp only; omega
          · exact hL.keys m (hbh m hm).2
      · intro m hm
        rcases List.mem_append.1 hm with hm | hm
        · exact hL.full m (hbf m hm).2
        · rcases List.mem_append.1 hm with hm | hm
          · split at hm
            · cases hm
            · rename_i hs; simp at hm; subst hm; exact hs
          · exact hL.full m (hbh m hm).2
      · have ha : ∀ A B : List Mc, usedM (A ++ B) = usedM A + usedM B := fun A B => by unfold usedM; rw [List.map_append, List.sum_append]
        have hu : usedM (bf0 L i cl) + usedM (bh0 L i cl) ≤ 6144 := by
          unfold bf0 bh0; cases cl
          · have := used_parts L i; have := hL.used; simp only [Bool.false_eq_true, if_false]; omega
          · show (0 : Nat) + 0 ≤ 6144
            omega
        rw [ha, ha]
        unfold roomM at hzl
        split
        · have : usedM ([] : List Mc) = 0 := rfl
          omega
        · have : usedM [(⟨i, z.2⟩ : Mc)] = z.2.size := by show z.2.size + 0 = _; omega
          omega
      · have h1 : (bf0 L i cl).length + (bh0 L i cl).length ≤ L.length := by
          unfold bf0 bh0; cases cl
          · simp only [Bool.false_eq_true, if_false]
            have := congrArg List.length (parts i L hL.rise).2
            rw [List.length_append] at this
            have h2 := List.length_filter_le (fun m : Mc => !decide (m.k = i)) L
            omega
          · simp
        show (bf0 L i cl ++ ((if z.2.size = 0 then ([] : List Mc) else [⟨i, z.2⟩]) ++ bh0 L i cl)).length ≤ _
        rw [List.length_append, List.length_append]
        split <;> simp <;> omega
    · rw [if_neg h0, if_neg h0]
      exact ⟨rfl, hL, by simp⟩
end Go.Proofs.YtnbbepkkedhhgaaGreatDoor

namespace Go.Proofs.YtnbbepkkedhhgaaGreatDoor
open Go Go.RowKit Go.Maps

theorem getMc_mem : ∀ (L : List Mc), L.Pairwise (fun a b => a.k < b.k) → ∀ m ∈ L, getMc L m.k = (m.s, true)
  | x :: L, h, m, hm => by
    obtain ⟨h1, h2⟩ := List.pairwise_cons.1 h
    have e : getMc (x :: L) m.k = if x.k = m.k then (x.s, true) else getMc L m.k := rfl
    rw [e]
    rcases List.mem_cons.1 hm with rfl | hm
    · rw [if_pos rfl]
    · have := h1 m hm
      rw [if_neg (by omega)]
      exact getMc_mem L h2 m hm
theorem size_le_used : ∀ (L : List Mc), ∀ x ∈ L, x.s.size ≤ usedM L
  | y :: L, x, hx => by
    have h1 : usedM (y :: L) = y.s.size + usedM L := rfl
    rcases List.mem_cons.1 hx with rfl | hx
    · omega
    · have := size_le_used L x hx; omega
/-- The numbers of a store, as the call hands them back. -/
theorem idsL_any (S : Nat) (m : Option Nat) (n : Nat) (L : List Mc) (w : World) (h : StoB w S m n (dOf L)) (hL : OkL L) (hl : L.length ≤ 1000) :
    Calls Tryz.prog 18 #[.pointer (some ⟨S, 0, none⟩)] w fun e w' => ∃ v, (e = .returned v ∧ OInts w' w.heap.size v (L.map (·.k))) ∧ Below w.heap.size w w' := by
  refine (idsM_any S m n (dOf L) w h (by rw [size_dOf]; exact hl)).mono ?_
  rintro e w' ⟨v, ss, rfl, hp, hrow, hb⟩
  refine ⟨v, ⟨rfl, ?_⟩, hb⟩
  have e2 : ss.length = (L.map (·.k)).length := by rw [hp.length_eq, keys_dOf]
  rw [ids_sorted L hL ss hp, e2] at hrow
  exact hrow
set_option maxRecDepth 100000 in
set_option maxHeartbeats 8000000 in
theorem isM_any (S : Nat) (m : Option Nat) (n : Nat) (L : List Mc) (A : Option Addr) (c : Nat) (w : World) (h : StoB w S m n (dOf L)) (hL : OkL L) (hl : L.length ≤ 1000) (hr : RMc w A L) :
    Calls Tryz.prog 7 #[.pointer (some ⟨S, 0, none⟩), .slice A L.length c] w fun e w' => e = .returned (.bool true) ∧ Below w.heap.size w w' := by
  have hu := hL.used
  have hz : ∀ x ∈ L, x.s.size ≤ 10000 := fun x hx => by have := size_le_used L x hx; omega
  have ht : tot (dOf L) ≤ 6144 := by rw [tot_dOf]; exact hu
  have HI := Lib.hid (idsL_any S m n L w h hL hl)
  have HSp := Lib.hid (fun W (g : StoB W S m n (dOf L)) => space_any S m n (dOf L) W g ht)
  rw [tot_dOf] at HSp
  have HSu := Lib.hid (fun W (g : StoB W S m n (dOf L)) => sumM_any S m n (dOf L) W g ht)
  rw [sum_dOf] at HSu
  have HUs := Lib.hid (fun W (g : RMc W A L) => usedM_any A c L hl (by omega) W g)
  have HRs := Lib.hid (fun W (g : RMc W A L) => refSumM_any A c L hl hz W g)
  have HG := Lib.hid (fun (x : Mc) (hx : x ∈ L) W (g : StoB W S m n (dOf L)) => show Calls Tryz.prog 10 #[.pointer (some ⟨S, 0, none⟩), .int .i64 x.k] W fun e w' => e = .returned (.tuple #[.string x.s, .bool true]) ∧ Below W.heap.size W w' from by
    have h1 := getM_any S m n (dOf L) x.k (by have := hL.keys x hx; omega) W g
    rw [(tx_dOf L x.k).1, (tx_dOf L x.k).2, getMc_mem L hL.rise x hx] at h1
    exact h1)
  have HS := Lib.hid h
  have HR := Lib.hid hr
  obtain ⟨U, hU⟩ : ∃ U, usedM L = U := ⟨_, rfl⟩
  rw [hU] at hu HSp HUs
  obtain ⟨Q, hQ⟩ : ∃ Q, sumMc L % 65536 = Q := ⟨_, rfl⟩
  rw [hQ] at HSu HRs
  have hw6 : IntKind.i64.wrap (6144 - (U : Int)) = 6144 - (U : Int) := IntWalk.i64_in _ (by omega)
  have hneg : ((6144 - (U : Int)) < 0) = False := eq_false (by omega)
  clear h hr hz ht hL hU hQ hu
  go_enter Tryz.func7, Tryz.ntmps7
  go_wp2_with fail
  refine HI.out.mono ?_
  rintro e w1 ⟨v, ⟨rfl, ho⟩, hb1⟩
  obtain ⟨A1, c1, rfl⟩ := ho.form
  have HRD := Lib.hid ho.reads
  have hln : (L.map (·.k)).length = L.length := by simp
  rw [hln]
  have HS1 := Lib.hid (HS.out.next hb1)
  have HR1 := Lib.hid (HR.out.next hb1)
  have HB1 := Lib.hid hb1
  clear ho hb1 HI
  --#1
  go_wp2_with fail
  refine (HSp.out _ HS1.out).mono ?_
  rintro e w2 ⟨rfl, hb2⟩
  have HS2 := Lib.hid (HS1.out.next hb2)
  have HR2 := Lib.hid (HR1.out.next hb2)
  have HRD2 := Lib.hid (HRD.out.next hb2)
  have HB2 := Lib.hid (HB1.out.trans (hb2.mono HB1.out.size))
  clear hb2 HRD HS1 HR1 HB1
  --#2
  go_wp2_with fail
  refine (HUs.out _ HR2.out).mono ?_
  rintro e w3 ⟨rfl, rfl⟩
  --#3
  go_wp2_with fail
  refine (HSp.out _ HS2.out).mono ?_
  rintro e w4 ⟨rfl, hb4⟩
  have HS4 := Lib.hid (HS2.out.next hb4)
  have HR4 := Lib.hid (HR2.out.next hb4)
  have HRD4 := Lib.hid (HRD2.out.next hb4)
  have HB4 := Lib.hid (HB2.out.trans (hb4.mono HB2.out.size))
  clear hb4 HRD2 HS2 HR2 HB2
  --#4
  go_wp2_with fail
  refine (HSu.out _ HS4.out).mono ?_
  rintro e w5 ⟨rfl, hb5⟩
  have HS5 := Lib.hid (HS4.out.next hb5)
  have HR5 := Lib.hid (HR4.out.next hb5)
  have HRD5 := Lib.hid (HRD4.out.next hb5)
  have HB5 := Lib.hid (HB4.out.trans (hb5.mono HB4.out.size))
  clear hb5 HRD4 HS4 HR4 HB4
  go_wp2_with fail
  refine (HRs.out _ HR5.out).mono ?_
  rintro e w6 ⟨rfl, rfl⟩
  clear HSp HSu HUs HRs hw6 hneg
  --#5
  go_upto_region 5 with fail
  obtain ⟨W2, hW2⟩ : ∃ W2, W2 = w5 := ⟨_, rfl⟩
  rw [← hW2] at HS5 HR5 HRD5 HB5 ⊢
  clear hW2
  go_loopw [39] (fun i wr => ∃ k : Nat, k ≤ L.length ∧ i = .int .i64 k ∧ Below W2.heap.size W2 wr) (fun i _ => L.length - (intOf i).toNat)
  case atStart => exact ⟨0, by omega, by simp, Below.refl _ _⟩
  case round =>
    obtain ⟨k, hk, rfl, hbk⟩ := hrel
    have HBk := Lib.hid hbk
    by_cases hlt : k < L.length
    · have HT3 := Lib.hid (HR5.out.next hbk)
      have HS3 := Lib.hid (HS5.out.next hbk)
      obtain ⟨ad, rfl, _⟩ := HT3.out.2 (by omega)
      obtain ⟨s0, s1⟩ := HT3.out.two hlt
      have hwk : IntKind.i64.wrap ((k : Int) + 1) = (k : Int) + 1 := IntWalk.i64_in _ (by omega)
      have m0 : (0 : Int) ≤ (k : Int) := by omega
      have m1 : ((k : Int) < (L.length : Int)) = True := eq_true (by omega)
      have HGX := Lib.hid (fun W g => HG.out L[k] (List.getElem_mem hlt) W g)
      obtain ⟨bd, hbd, hblt, hcl⟩ := HRD5.out.2 (by simp; omega)
      have HBL := Lib.hid hblt
      clear hblt
      have hxk := hcl k (.int .i64 L[k].k) (by simp [hlt])
      subst hbd
      have HXK := Lib.hid hxk
      clear hxk hcl hbk
      generalize L[k] = x at *
      obtain ⟨xk, xs⟩ := x
      simp only at s0 s1 HXK HGX
      --#11
      go_upto_region 7 with fail
      --#12
      have bT := Blk.new wr 56 #[.int .i64 xk, .string xs]
      have hb3 : Below wr.heap.size wr (wr.alloc (.cells #[.int .i64 xk, .string xs] 56)) := (Below.refl _ _).alloc (Nat.le_refl _) _
      have hb4 := HBk.out.trans (hb3.mono HBk.out.size)
      have HGXc := Lib.hid (HGX.out _ (HS3.out.next hb3))
      have HB4 := Lib.hid hb4
      have t0 := bT.cell 0
      have HBT := Lib.hid bT
      clear hb3 hb4 bT HGX s0 s1
      generalize (wr.alloc (.cells #[.int .i64 xk, .string xs] 56)) = W3 at *
      go_wp2_with fail
      refine HGXc.out.mono ?_
      rintro e W4 ⟨rfl, hb6⟩
      have HB6 := Lib.hid (HB4.out.trans (hb6.mono HB4.out.size))
      have HBT6 := Lib.hid (HBT.out.next hb6)
      clear hb6 HB4 HBT HGXc
      --#13
      go_upto_region 8 with fail
      clear t0
      refine wp_region_mix_lit (by kernel_rfl) [] (by kernel_rfl) (by kernel_rfl) (by kernel_rfl) (by rfl) (by simp [apartK] <;> omega) (by simp [startK]) (by simp [stabK]) (⟨fun _ => undef, by simp [okK]⟩) (fun β hβ => ?_)
      refine lex_val (v := ?_) rfl rfl (fun w' hf => ?_) ?_
      rotate_left
      · go_simp
        try rfl
      try simp only [Act.put, List.setIfInBounds_toArray, List.set_cons_zero, List.set_cons_succ]
      refine lex_val (v := ?_) rfl rfl (fun w' hf => ?_) ?_
      rotate_left
      · go_simp
        try rfl
      try simp only [Act.put, List.setIfInBounds_toArray, List.set_cons_zero, List.set_cons_succ]
      refine lex_val (v := ?_) rfl rfl (fun w' hf => ?_) ?_
      rotate_left
      · go_simp
        try rfl
      try simp only [Act.put, List.setIfInBounds_toArray, List.set_cons_zero, List.set_cons_succ]
      refine lex_val (v := ?_) rfl rfl (fun w' hf => ?_) ?_
      rotate_left
      · have e := ((HB6.out.trans (hf.only.below0.mono HB6.out.size)).cell (p := bd.add k) (by rw [block_of_add]; exact HBL.out)).trans HXK.out; go_simp
        try rfl
      try simp only [Act.put, List.setIfInBounds_toArray, List.set_cons_zero, List.set_cons_succ]
      refine lex_val (v := ?_) rfl rfl (fun w' hf => ?_) ?_
      rotate_left
      · go_simp
        try rfl
      try simp only [Act.put, List.setIfInBounds_toArray, List.set_cons_zero, List.set_cons_succ]
      refine lex_val (v := ?_) rfl rfl (fun w' hf => ?_) ?_
      rotate_left
      · have t0 := (HBT6.out.next hf.only.below0).cell 0; go_simp
        try rfl
      try simp only [Act.put, List.setIfInBounds_toArray, List.set_cons_zero, List.set_cons_succ]
      --#14
      refine lex_val (v := .bool false) rfl rfl (fun w' hf => ?_) ?_
      · go_simp
        try rfl
      try simp only [Act.put, List.setIfInBounds_toArray, List.set_cons_zero, List.set_cons_succ]
      refine lex_val (v := ?_) rfl rfl (fun w' hf => ?_) ?_
      rotate_left
      · go_simp
        try rfl
      try simp only [Act.put, List.setIfInBounds_toArray, List.set_cons_zero, List.set_cons_succ]
      refine lex_val (v := ?_) rfl rfl (fun w' hf => ?_) ?_
      rotate_left
      · go_simp
        try rfl
      try simp only [Act.put, List.setIfInBounds_toArray, List.set_cons_zero, List.set_cons_succ]
      refine lex_val (v := .bool false) rfl rfl (fun w' hf => ?_) ?_
      · go_simp
        try rfl
      try simp only [Act.put, List.setIfInBounds_toArray, List.set_cons_zero, List.set_cons_succ]
      refine lex_val (v := ?_) rfl rfl (fun w' hf => ?_) ?_
      rotate_left
      · go_simp
        try rfl
      try simp only [Act.put, List.setIfInBounds_toArray, List.set_cons_zero, List.set_cons_succ]
      refine lex_val (v := ?_) rfl rfl (fun w' hf => ?_) ?_
      rotate_left
      · go_simp
        try rfl
      try simp only [Act.put, List.setIfInBounds_toArray, List.set_cons_zero, List.set_cons_succ]
      refine lex_val (v := ?_) rfl rfl (fun w' hf => ?_) ?_
      rotate_left
      · go_simp
        try rfl
      try simp only [Act.put, List.setIfInBounds_toArray, List.set_cons_zero, List.set_cons_succ]
      refine lex_val (v := ?_) rfl rfl (fun w' hf => ?_) ?_
      rotate_left
      · go_simp
        try rfl
      try simp only [Act.put, List.setIfInBounds_toArray, List.set_cons_zero, List.set_cons_succ]
      refine lex_val (v := ?_) rfl rfl (fun w' hf => ?_) ?_
      rotate_left
      · have t1 := (HBT6.out.next hf.only.below0).cell 1; go_simp
        try rfl
      try simp only [Act.put, List.setIfInBounds_toArray, List.set_cons_zero, List.set_cons_succ]
      --#15
      refine lex_val (v := .bool false) rfl rfl (fun w' hf => ?_) ?_
      · go_simp
        try rfl
      try simp only [Act.put, List.setIfInBounds_toArray, List.set_cons_zero, List.set_cons_succ]
      repeat (
        refine lex_val (v := ?_) rfl rfl (fun w' hf => ?_) ?_
        rotate_left
        · go_simp
          try rfl
        try simp only [Act.put, List.setIfInBounds_toArray, List.set_cons_zero, List.set_cons_succ])
      refine lex_nil fun w' he => ?_
      have HB7 := Lib.hid (HB6.out.trans (he.only.below0.mono HB6.out.size))
      clear he
      go_wp2_with fail
      go_roundw
      case rel => exact ⟨k + 1, by omega, by go_num, HB7.out⟩
      case measure => simp [intOf]; omega
    · obtain rfl : k = L.length := by omega
      have m1 : ((L.length : Int) < (L.length : Int)) = False := eq_false (by omega)
      go_wp2_with fail
      go_ret
      exact ⟨rfl, HB5.out.trans (HBk.out.mono HB5.out.size)⟩
end Go.Proofs.YtnbbepkkedhhgaaGreatDoor

namespace Go.Proofs.YtnbbepkkedhhgaaGreatDoor
open Go Go.RowKit Go.Maps

/-- An act. -/
structure Am where
  id : Int
  cl : Bool
  hx : Bool
  data : ByteArray
def Am.cells (a : Am) : List Value := [.int .i64 a.id, .bool a.cl, .bool a.hx, .string a.data]
def Am.ok (a : Am) : Prop := (-9223372036854775808 ≤ a.id ∧ a.id ≤ 9223372036854775807) ∧ a.data.size ≤ maxLen
/-- A slice of acts. -/
def RAm (w : World) (A : Option Addr) (l : List Am) : Prop := Reads w w.heap.size 4 A l.length (l.flatMap Am.cells)
theorem RAm.next {w w' : World} {A : Option Addr} {l : List Am} (h : RAm w A l) (hb : Below w.heap.size w w') : RAm w' A l := (Reads.below h hb).more hb.size
theorem am_at (l : List Am) (k : Nat) (hk : k < l.length) :
    (l.flatMap Am.cells)[k * 4]? = some (.int .i64 l[k].id) ∧ (l.flatMap Am.cells)[k * 4 + 1]? = some (.bool l[k].cl) ∧ (l.flatMap Am.cells)[k * 4 + 2]? = some (.bool l[k].hx) ∧ (l.flatMap Am.cells)[k * 4 + 3]? = some (.string l[k].data) := by
  induction l generalizing k with
  | nil => simp at hk
  | cons c l ih =>
    cases k with
    | zero => simp [Am.cells]
    | succ k =>
      have h := ih k (by simpa using hk)
      have e : (k + 1) * 4 = k * 4 + 4 := by omega
      rw [List.flatMap_cons, e]
      simp only [Am.cells, List.cons_append, List.nil_append, List.getElem?_cons_succ, List.getElem_cons_succ]
      exact h
theorem am_len (l : List Am) : (l.flatMap Am.cells).length = l.length * 4 := by
  induction l with
  | nil => rfl
  | cons c l ih => rw [List.flatMap_cons, List.length_append, ih, List.length_cons]; simp [Am.cells]; omega
theorem RAm.four {w : World} {ad : Addr} {l : List Am} (h : RAm w (some ad) l) {k : Nat} (hk : k < l.length) :
    w.cell? (ad.add (k * 4)) = some (.int .i64 l[k].id) ∧ w.cell? ⟨(ad.add (k * 4)).block, (ad.add (k * 4)).off + 1, none⟩ = some (.bool l[k].cl) ∧ w.cell? ⟨(ad.add (k * 4)).block, (ad.add (k * 4)).off + 2, none⟩ = some (.bool l[k].hx) ∧ w.cell? ⟨(ad.add (k * 4)).block, (ad.add (k * 4)).off + 3, none⟩ = some (.string l[k].data) := by
  obtain ⟨ad', e, hb, hc⟩ := h.2 (by omega)
  injection e with e
  subst e
  obtain ⟨h1, h2, h3, h4⟩ := am_at l k hk
  have a1 : (⟨(ad.add (k * 4)).block, (ad.add (k * 4)).off + 1, none⟩ : Addr) = ad.add (k * 4 + 1) := (show _ = (ad.add (k * 4)).add 1 from rfl).trans (add_of_add ad _ _)
  have a2 : (⟨(ad.add (k * 4)).block, (ad.add (k * 4)).off + 2, none⟩ : Addr) = ad.add (k * 4 + 2) := (show _ = (ad.add (k * 4)).add 2 from rfl).trans (add_of_add ad _ _)
  have a3 : (⟨(ad.add (k * 4)).block, (ad.add (k * 4)).off + 3, none⟩ : Addr) = ad.add (k * 4 + 3) := (show _ = (ad.add (k * 4)).add 3 from rfl).trans (add_of_add ad _ _)
  exact ⟨hc _ _ h1, by rw [a1]; exact hc _ _ h2, by rw [a2]; exact hc _ _ h3, by rw [a3]; exact hc _ _ h4⟩

theorem Only.at_ {X : List Nat} {w w' : World} (h : Only X w w') {p : Addr} (hp : p.block < w.heap.size) (hX : p.block ∉ X) : w'.cell? p = w.cell? p := by
  unfold World.cell?
  rw [h.block p.block hp hX]
/-- A list's memory is none of a store's. -/
def ApS (S : Nat) (m : Option Nat) (A : Option Addr) (l : List Mc) : Prop := 0 < l.length → ∀ ad, A = some ad → ad.block ∉ ownB S m
theorem RMc.only {w w' : World} {A : Option Addr} {l : List Mc} {X : List Nat} (h : RMc w A l) (ho : Only X w w') (hA : 0 < l.length → ∀ ad, A = some ad → ad.block ∉ X) : RMc w' A l := by
  refine ⟨h.1, fun hn => ?_⟩
  obtain ⟨ad, e, hb, hc⟩ := h.2 hn
  refine ⟨ad, e, Nat.lt_of_lt_of_le hb ho.size, fun j u hj => ?_⟩
  rw [ho.at_ (by rw [block_of_add]; exact hb) (by rw [block_of_add]; exact hA hn ad e)]
  exact hc j u hj
theorem RMc.lt {w : World} {A : Option Addr} {l : List Mc} (h : RMc w A l) (hn : 0 < l.length) : ∀ ad, A = some ad → ad.block < w.heap.size := by
  intro ad e
  obtain ⟨ad', e', hb, _⟩ := h.2 hn
  rw [e] at e'
  injection e' with e'
  subst e'
  exact hb
theorem ap_same {w : World} {S : Nat} {m m2 : Option Nat} {A : Option Addr} {L : List Mc} (hr : RMc w A L) (h : ApS S m A L) (hs : SameOrNew w m m2) : ApS S m2 A L := by
  intro hn ad e hk
  have h1 := h hn ad e
  have h2 := hr.lt hn ad e
  rcases hs with rfl | ⟨b, rfl, hb⟩
  · exact h1 hk
  · unfold ownB at h1 hk
    simp at h1 hk
    rcases hk with hk | hk
    · exact h1.1 hk
    · omega
/-- What an act leaves. -/
def DoP (S : Nat) (m : Option Nat) (n : Nat) (L : List Mc) (_A : Option Addr) (w w' : World) (e : Ending) : Prop :=
  ∃ (L2 : List Mc) (B : Option Addr) (c2 : Nat) (m2 : Option Nat), e = .returned (.tuple #[.slice B L2.length c2, .bool true]) ∧ RMc w' B L2 ∧ OkL L2 ∧ L2.length ≤ L.length + 1 ∧ StoB w' S m2 (n + 1) (dOf L2) ∧ SameOrNew w m m2 ∧ Only (ownB S m) w w' ∧ ApS S m2 B L2

set_option maxRecDepth 100000 in
set_option maxHeartbeats 8000000 in
theorem doM_any (S : Nat) (m : Option Nat) (n : Nat) (L : List Mc) (A : Option Addr) (c : Nat) (a : Am) (ha : a.ok) (hn : n < 100000) (w : World) (h : StoB w S m n (dOf L)) (hL : OkL L) (hl : L.length ≤ 299) (hr : RMc w A L) (hap : ApS S m A L) (he : ErrS w) :
    Calls Tryz.prog 6 #[.pointer (some ⟨S, 0, none⟩), .slice A L.length c, .agg #[.int .i64 a.id, .bool a.cl, .bool a.hx, .string a.data]] w fun e w' => DoP S m n L A w w' e := by
  obtain ⟨id, cl, hx, data⟩ := a
  obtain ⟨hid, hdz⟩ := ha
  simp only at hid hdz ⊢
  have b0 := Blk.new w 33 #[.int .i64 id, .bool cl, .bool hx, .string data]
  have hb0 : Below w.heap.size w (w.alloc (.cells #[.int .i64 id, .bool cl, .bool hx, .string data] 33)) := (Below.refl _ _).alloc (Nat.le_refl _) _
  have HQ := Lib.hid b0
  have HB0 := Lib.hid hb0
  have HS := Lib.hid (h.next hb0)
  have HR := Lib.hid (hr.next hb0)
  have HE := Lib.hid (he.next hb0)
  have HAP := Lib.hid hap
  have HL := Lib.hid hL
  have hso : ∀ m2, SameOrNew (w.alloc (.cells #[.int .i64 id, .bool cl, .bool hx, .string data] 33)) m m2 → SameOrNew w m m2 := fun m2 g => by
    rcases g with g | ⟨b, g1, g2⟩
    · exact .inl g
    · exact .inr ⟨b, g1, Nat.le_trans hb0.size g2⟩
  have HSO := Lib.hid hso
  have ht : tot (dOf L) ≤ 6144 := by rw [tot_dOf]; exact hL.used
  have hlA : ∀ k ∈ ownB S m, k < w.heap.size := own_lt h
  have q0 := b0.cell 0; have q1 := b0.cell 1; have q2 := b0.cell 2; have q3 := b0.cell 3
  have HRW := Lib.hid hr
  clear b0 hb0 h hr he hap hso
  go_enter Tryz.func6, Tryz.ntmps6
  by_cases hneg : id < -1
  · go_wp2_with fail
    generalize w.alloc (.cells #[.int .i64 id, .bool cl, .bool hx, .string data] 33) = W0 at *
    refine (clearM_any S m n (dOf L) W0 HS.out).mono ?_
    rintro e w2 ⟨⟨v, rfl⟩, hs2, ho2⟩
    have HS2 := Lib.hid (hs2.mono (Nat.le_succ n))
    have HO2 := Lib.hid ((Only.ofBelow (S := ownB S m) HB0.out).join ho2)
    clear hs2 ho2 q0 q1 q2 q3
    go_wp2_with fail
    go_ret2
    exact ⟨[], none, 0, m, rfl, ⟨rfl, fun hn => absurd hn (by simp)⟩, okL_nil, by simp, HS2.out, .inl rfl, HO2.out, fun hn => absurd hn (by simp)⟩
  · go_wp2_with fail
    generalize w.alloc (.cells #[.int .i64 id, .bool cl, .bool hx, .string data] 33) = W0 at *
    refine (shortM_any data hdz 7000 (by omega) W0).mono ?_
    rintro e w2 ⟨⟨t, ht7, _, rfl, _⟩, rfl⟩
    cases hx
    · go_wp2_with fail
      have HD := Lib.hid (defineM_any S m n (dOf L) id hid cl false t (by omega) (by omega) W0 HS.out ht HE.out)
      obtain ⟨hde, hok, hlen⟩ := def_dOf L HL.out id cl false t
      rw [hde] at HD
      have HRD := Lib.hid (fun W (g : RMc W A L) => refDefM_any A c L (by omega) HL.out.used id cl false t (by omega) W g)
      obtain ⟨R, hR⟩ : ∃ R, defM L id cl false t = R := ⟨_, rfl⟩
      rw [hR] at HD HRD hok hlen
      obtain ⟨rc, RL⟩ := R
      simp only at HD hok hlen
      clear hde hR
      refine HD.out.mono ?_
      rintro e w3 ⟨rfl, ⟨m2, hs3, hsn⟩, ho3⟩
      have HR3 := Lib.hid (HR.out.only ho3 HAP.out)
      have hm2lt : ∀ k ∈ ownB S m2, k < w3.heap.size := own_lt hs3
      have hQ3 : Blk w3 w.heap.size 33 #[.int .i64 id, .bool cl, .bool false, .string data] := ho3.blk HQ.out (fun hk => by have := hlA _ hk; omega)
      have HO3 := Lib.hid ((Only.ofBelow (S := ownB S m) HB0.out).join ho3)
      have HSN := Lib.hid (HSO.out m2 hsn)
      have HS3 := Lib.hid hs3
      have hap2 := ap_same HRW.out HAP.out HSN.out
      clear ho3 hsn hs3 HD q0 q1 q2 q3
      have q0 := hQ3.cell 0; have q1 := hQ3.cell 1; have q2 := hQ3.cell 2; have q3 := hQ3.cell 3
      clear hQ3
      go_wp2_with fail
      refine (HRD.out w3 HR3.out).mono ?_
      intro e w4 hd4
      obtain ⟨B, c2, rfl, hrB, hb4, hlie⟩ := hd4
      have HF := Lib.hid (show DoP S m n L A w w4 (.returned (.tuple #[.slice B RL.length c2, .bool true])) from
        ⟨RL, B, c2, m2, rfl, hrB, hok, hlen, HS3.out.next hb4, HSN.out, HO3.out.join (Only.ofBelow hb4), by
          rcases hlie with ⟨rfl, rfl⟩ | hfar
          · exact hap2
          · exact fun _ ad e hk => by have := hfar ad e; have := hm2lt _ hk; omega⟩)
      clear hrB hb4 hlie hok hlen HRD HS3 HO3
      go_wp2_with fail
      go_ret2
      have hbe : (rc == rc) = true := by simp
      simpa using HF.out
    · go_wp2_with fail
      refine (shortM_any data hdz 400 (by omega) W0).mono ?_
      rintro e w2 ⟨⟨u, hu4, _, rfl, _⟩, rfl⟩
      go_wp2_with fail
      have HD := Lib.hid (defineM_any S m n (dOf L) id hid cl true u (by omega) (by omega) W0 HS.out ht HE.out)
      obtain ⟨hde, hok, hlen⟩ := def_dOf L HL.out id cl true u
      rw [hde] at HD
      have HRD := Lib.hid (fun W (g : RMc W A L) => refDefM_any A c L (by omega) HL.out.used id cl true u (by omega) W g)
      obtain ⟨R, hR⟩ : ∃ R, defM L id cl true u = R := ⟨_, rfl⟩
      rw [hR] at HD HRD hok hlen
      obtain ⟨rc, RL⟩ := R
      simp only at HD hok hlen
      clear hde hR
      refine HD.out.mono ?_
      rintro e w3 ⟨rfl, ⟨m2, hs3, hsn⟩, ho3⟩
      have HR3 := Lib.hid (HR.out.only ho3 HAP.out)
      have hm2lt : ∀ k ∈ ownB S m2, k < w3.heap.size := own_lt hs3
      have hQ3 : Blk w3 w.heap.size 33 #[.int .i64 id, .bool cl, .bool true, .string data] := ho3.blk HQ.out (fun hk => by have := hlA _ hk; omega)
      have HO3 := Lib.hid ((Only.ofBelow (S := ownB S m) HB0.out).join ho3)
      have HSN := Lib.hid (HSO.out m2 hsn)
      have HS3 := Lib.hid hs3
      have hap2 := ap_same HRW.out HAP.out HSN.out
      clear ho3 hsn hs3 HD q0 q1 q2 q3
      have q0 := hQ3.cell 0; have q1 := hQ3.cell 1; have q2 := hQ3.cell 2; have q3 := hQ3.cell 3
      clear hQ3
      go_wp2_with fail
      refine (HRD.out w3 HR3.out).mono ?_
      intro e w4 hd4
      obtain ⟨B, c2, rfl, hrB, hb4, hlie⟩ := hd4
      have HF := Lib.hid (show DoP S m n L A w w4 (.returned (.tuple #[.slice B RL.length c2, .bool true])) from
        ⟨RL, B, c2, m2, rfl, hrB, hok, hlen, HS3.out.next hb4, HSN.out, HO3.out.join (Only.ofBelow hb4), by
          rcases hlie with ⟨rfl, rfl⟩ | hfar
          · exact hap2
          · exact fun _ ad e hk => by have := hfar ad e; have := hm2lt _ hk; omega⟩)
      clear hrB hb4 hlie hok hlen HRD HS3 HO3
      go_wp2_with fail
      go_ret2
      have hbe : (rc == rc) = true := by simp
      simpa using HF.out
end Go.Proofs.YtnbbepkkedhhgaaGreatDoor
