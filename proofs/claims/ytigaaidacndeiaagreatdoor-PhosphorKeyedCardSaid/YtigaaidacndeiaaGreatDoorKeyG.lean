/-
  Layer 22's law: answers as letters; texts; what is fixed.
-/
import Derived.Test.YtigaaidacndeiaaGreatDoorKeyF
import Derived.Test.YtigaaidacndeiaaGreatDoorMixE
namespace Go.Proofs.YtigaaidacndeiaaGreatDoor

open Go Go.RowKit

def KyP (n : Nat) (u : Value) : Prop := ∃ A c, u = .slice A n c
def KyF (B : Nat) (l : List Nat) (u : Value) (W : World) : Prop := ∃ A c, u = .slice A l.length c ∧ RByt W A l ∧ ∀ ad, A = some ad → B ≤ ad.block
theorem kyF_stab (ks : Kinds) (wr : World) (l : List Nat) (hb : boxes ks = []) : ∀ v w w', Kept ks wr w w' → KyF wr.heap.size l v w → KyF wr.heap.size l v w' := by
  rintro v w w' hk ⟨A, c, e, hr, hf⟩
  refine ⟨A, c, e, ⟨hr.1, fun hn => ?_⟩, hf⟩
  obtain ⟨ad, e2, hlt, hc⟩ := hr.2 hn
  refine ⟨ad, e2, Nat.lt_of_lt_of_le hlt hk.size, fun j u hu => ?_⟩
  have hblk := hk.block ad.block hlt (hf ad e2) (fun cs T fr _ => by rw [hb]; simp)
  rw [World.cell?_of_block (w := w) (by rw [block_of_add]; exact hblk)]
  exact hc j u hu
theorem ky_own {B : Nat} {w : World} {f : FuncId} {args : Array Value} {l : List Nat} {n : Nat} (hn : n = l.length) (hB : B ≤ w.heap.size) (h : Calls Tryz.prog f args w fun e w' => GivB w.heap.size w' e l ∧ Below w.heap.size w w') :
    Calls Tryz.prog f args w fun e w' => ∃ u, e = .returned u ∧ KyP n u ∧ KyF B l u w' ∧ Below w.heap.size w w' :=
  h.mono fun _ _ ⟨⟨A, c, he, hr, hf⟩, hb⟩ => ⟨_, he, ⟨A, c, by rw [hn]⟩, ⟨A, c, rfl, hr, fun ad e => Nat.le_trans hB (hf ad e)⟩, hb⟩
theorem ky_conv {B : Nat} {l : List Nat} {A : Option Addr} {n c : Nat} {W : World} (h : KyF B l (.slice A n c) W) : (convert 25 9 (.slice A n c)).run Tryz.prog W = .ok (.string (bstr l)) W := by
  obtain ⟨A', c', e, hr, _⟩ := h
  rw [e]
  exact conv_by hr c'
theorem zero_keys : (#[.string ⟨#[]⟩, .string ⟨#[]⟩, .string ⟨#[]⟩, .string ⟨#[]⟩, .string ⟨#[]⟩, .string ⟨#[]⟩, .string ⟨#[]⟩, .string ⟨#[]⟩, .string ⟨#[]⟩, .string ⟨#[]⟩, .string ⟨#[]⟩, .string ⟨#[]⟩, .string ⟨#[]⟩, .string ⟨#[]⟩, .string ⟨#[]⟩, .bool false] : Array Value) = keyC noT false := rfl
theorem below_of_grownK {A B : World} {K : Nat} (h : A.grownBy B (some K)) {n : Nat} (hn : n ≤ A.heap.size) (hK : n ≤ K) : Below n A B :=
  ⟨h.os, h.tape, h.output, h.size, fun k hk => h.block k (by omega) (fun e => by injection e with e; omega)⟩
/-- All that the law leans on. -/
structure KEnv (w : World) : Prop where
  env : True ∧ True ∧ Nums w
  knum : KNums w
  ten : Ten w
theorem KEnv.next {w w' : World} (h : KEnv w) (hb : Below w.heap.size w w') : KEnv w' := ⟨⟨trivial, trivial, h.env.2.2.next hb⟩, h.knum.next hb, h.ten.next hb⟩
theorem KEnv.key {w : World} (h : KEnv w) {K : Nat} {T : List ByteArray} {lk : Bool} (k : KeyB w K T lk) : KeyW w K T lk := ⟨k, h.env.2.2, h.knum, h.ten⟩
set_option maxHeartbeats 1000000 in
theorem ownK_any (k : Int) (c : Nat) (sh ct : Bool) (w : World) : Calls Tryz.prog 18 #[.agg #[.int .i64 k, .int .u8 (c : Int), .bool sh, .bool ct]] w fun e w' => e = .returned (.agg #[.int .i64 k, .int .u8 (c : Int), .bool sh, .bool ct]) ∧ Below w.heap.size w w' := by
  go_enter Tryz.func18, Tryz.ntmps18
  go_wp2_with fail
  exact bodyPost_ret (v := .agg #[.int .i64 k, .int .u8 (c : Int), .bool sh, .bool ct]) (by simp [results, Tryz.results18, go_sem]) rfl ⟨rfl, ((Below.refl _ _).alloc (Nat.le_refl _) _).alloc (by simp) _⟩

end Go.Proofs.YtigaaidacndeiaaGreatDoor
