/-
  Slices of cells: what it is to read as a list of cells.
-/
import Derived.Test.YtdjbfnhgendacaaDoorCellB
namespace Go.Proofs.YtdjbfnhgendacaaDoor
open Go.RowKit

/-- A slice of cells that reads as l. -/
def RCells (w : World) (A : Option Addr) (l : List Cl) : Prop := Reads w w.heap.size 3 A l.length (l.flatMap Cl.cells)
theorem flat_at (l : List Cl) (k : Nat) (hk : k < l.length) :
    (l.flatMap Cl.cells)[k * 3]? = some (.int .i32 l[k].g) ∧ (l.flatMap Cl.cells)[k * 3 + 1]? = some (.int .u8 l[k].r) ∧ (l.flatMap Cl.cells)[k * 3 + 2]? = some (.bool l[k].k) := by
  induction l generalizing k with
  | nil => simp at hk
  | cons c l ih =>
    cases k with
    | zero => simp [Cl.cells]
    | succ k =>
      have h := ih k (by simpa using hk)
      have e : (k + 1) * 3 = k * 3 + 3 := by omega
      rw [List.flatMap_cons, e]
      simp only [Cl.cells, List.cons_append, List.nil_append, List.getElem?_cons_succ, List.getElem_cons_succ]
      exact h
theorem flat_len (l : List Cl) : (l.flatMap Cl.cells).length = l.length * 3 := by
  induction l with
  | nil => rfl
  | cons c l ih => rw [List.flatMap_cons, List.length_append, ih, List.length_cons]; simp [Cl.cells]; omega
theorem RCells.next {w w' : World} {A : Option Addr} {l : List Cl} (h : RCells w A l) (hb : Below w.heap.size w w') : RCells w' A l := (Reads.below h hb).more hb.size
theorem RCells.at_ {w : World} {A : Option Addr} {l : List Cl} (h : RCells w A l) {k : Nat} (hk : k < l.length) :
    ∃ ad, A = some ad ∧ ad.block < w.heap.size ∧ w.cell? (ad.add (k * 3)) = some (.int .i32 l[k].g) ∧ w.cell? ⟨(ad.add (k * 3)).block, (ad.add (k * 3)).off + 1, none⟩ = some (.int .u8 l[k].r) ∧ w.cell? ⟨(ad.add (k * 3)).block, (ad.add (k * 3)).off + 2, none⟩ = some (.bool l[k].k) := by
  obtain ⟨ad, e, hb, hc⟩ := h.2 (by omega)
  obtain ⟨h1, h2, h3⟩ := flat_at l k hk
  have a1 : (⟨(ad.add (k * 3)).block, (ad.add (k * 3)).off + 1, none⟩ : Addr) = ad.add (k * 3 + 1) := (show _ = (ad.add (k * 3)).add 1 from rfl).trans (add_of_add ad _ _)
  have a2 : (⟨(ad.add (k * 3)).block, (ad.add (k * 3)).off + 2, none⟩ : Addr) = ad.add (k * 3 + 2) := (show _ = (ad.add (k * 3)).add 2 from rfl).trans (add_of_add ad _ _)
  refine ⟨ad, e, hb, hc _ _ h1, ?_, ?_⟩
  · rw [a1]; exact hc _ _ h2
  · rw [a2]; exact hc _ _ h3
/-- Cells that lie within their kinds. -/
def OkCells (l : List Cl) : Prop := ∀ c ∈ l, c.ok
/-- The checksum, from s on. -/
def sumC (s : Int) (l : List Cl) : Int := l.foldl (fun s c => (s + c.w) % 65536) s
theorem sumC_snoc (s : Int) (l : List Cl) (k : Nat) (hk : k < l.length) : sumC s (l.take (k + 1)) = (sumC s (l.take k) + l[k].w) % 65536 := foldl_snoc _ s l k hk
theorem sumC_range (l : List Cl) : ∀ {s : Int}, 0 ≤ s → s < 65536 → 0 ≤ sumC s l ∧ sumC s l < 65536 := by
  induction l with
  | nil => exact fun a b => ⟨a, b⟩
  | cons c l ih => intro s _ _; exact ih (s := (s + c.w) % 65536) (by omega) (by omega)

set_option maxHeartbeats 1000000 in
theorem refSum_any (A : Option Addr) (c : Nat) (l : List Cl) (hl : l.length ≤ maxLen) (hok : OkCells l) (w : World) (hr : RCells w A l) :
    Calls Tryd.prog 37 #[.slice A l.length c] w fun e w' => e = .returned (.int .i64 (sumC 0 l)) ∧ Below w.heap.size w w' := by
  unfold maxLen at hl
  have HOk := Lib.hid hok
  clear hok
  go_enter Tryd.func37, Tryd.ntmps37
  go_wp2_with fail
  go_loopw [3, 4] (fun s i wr => ∃ k : Nat, k ≤ l.length ∧ i = .int .i64 k ∧ s = .int .i64 (sumC 0 (l.take k)) ∧ Below w.heap.size w wr) (fun _ i _ => l.length - (intOf i).toNat)
  case atStart => exact ⟨0, by omega, rfl, rfl, Below.refl _ _⟩
  case round =>
    obtain ⟨k, hk, rfl, rfl, hb⟩ := hrel
    by_cases hlt : k < l.length
    · obtain ⟨ad, rfl, hbd, hc0, hc1, hc2⟩ := (hr.next hb).at_ hlt
      have HS := Lib.hid (sumC_snoc 0 l k hlt)
      obtain ⟨s0, s1⟩ := sumC_range (l.take k) (s := 0) (by omega) (by omega)
      have hok := HOk.out l[k] (List.getElem_mem hlt)
      generalize sumC 0 (l.take k) = s at *
      generalize l[k] = cl at *
      obtain ⟨g, r, b⟩ := cl
      simp only at hc0 hc1 hc2
      obtain ⟨w0, w1'⟩ := Cl.w_range ⟨g, r, b⟩
      have HW := Lib.hid (refCellWeight_any g r b hok.1 hok.2)
      generalize Cl.w ⟨g, r, b⟩ = W at *
      clear hok
      go_wp2_with (go_at_call 33; refine (HW.out _).mono ?_; rintro e w1 ⟨rfl, hb1⟩)
      go_roundw
      case rel => exact ⟨k + 1, by omega, by go_num, by rw [HS.out], hb.trans (hb1.mono hb.size)⟩
      case measure => simp [intOf]; omega
    · obtain rfl : k = l.length := by omega
      go_wp2
      go_ret
      exact ⟨ret_int (by rw [List.take_length]), hb⟩
end Go.Proofs.YtdjbfnhgendacaaDoor
