/-
  A rendition's numbers, told as a text and read again, make any rendition it; what a deed leaves at a column; a span that came in.
-/
import Derived.Test.YtjljhnahofkmaaaDoorEachU
import Derived.Test.YtjljhnahofkmaaaDoorRendG
import Derived.Test.YtjljhnahofkmaaaDoorParL
import Derived.Test.YtjljhnahofkmaaaDoorParP
import Derived.Test.YtjljhnahofkmaaaDoorDeedC
import Derived.Test.YtjljhnahofkmaaaDoorFrameM
namespace Go.Proofs.YtjljhnahofkmaaaDoor
open Go Go.RowKit

theorem rd_mod {x : Int} (h0 : 0 ≤ x) (h1 : x ≤ 255) : rd (fb x 0) (fb x 1) (fb x 2) (fb x 3) (fb x 4) = x % 32 := by
  have h := all_below (n := 256) (p := fun x => rd (fb x 0) (fb x 1) (fb x 2) (fb x 3) (fb x 4) == x % 32) (by decide +kernel) h0 (by omega)
  simpa using h
theorem par_told {x : Int} (h0 : 0 ≤ x) (h1 : x ≤ 255) : numsOf (fmtL (parK x 5)) = parK x 5 := by
  rw [(fmt_back (parK x 5)).2]
  have h := all_below (n := 256) (p := fun x => ((parK x 5).take 30).map clip65 == parK x 5) (by decide +kernel) h0 (by omega)
  simpa using h
theorem each_at (φ : Cl → Cl) (l : List Cl) (F T : Nat) (hT : T ≤ l.length) (k : Nat) (hk : k < l.length) (h : k < (eachP φ l F (T - F)).length) : (eachP φ l F (T - F))[k] = if F ≤ k ∧ k < T then φ l[k] else l[k] := by
  have e := each_upd φ l F T hT
  have h2 : (updP (deedC φ F T) l l.length)[k]? = (eachP φ l F (T - F))[k]? := by rw [e]
  rw [List.getElem?_eq_getElem h, List.getElem?_eq_getElem (by rw [updP_len]; exact hk), updP_get, if_pos hk] at h2
  exact (Option.some.inj h2).symm
/-- What is known in the midst: the line's box and its cells, and the cells that came in. -/
structure TK (w : World) (A0 A : Option Addr) (c m bl : Nat) (L : List Cl) (W : World) : Prop where
  below : Below w.heap.size w W
  box : Blk W bl 28 #[.slice A m c, .int .i64 0]
  r0 : RCells W A0 L
  r1 : RCells W A L
theorem TK.next {w W W' : World} {A0 A : Option Addr} {c m bl : Nat} {L : List Cl} (h : TK w A0 A c m bl L W) (hb : Below W.heap.size W W') : TK w A0 A c m bl L W' :=
  ⟨h.below.trans (hb.mono h.below.size), h.box.next hb, h.r0.next hb, h.r1.next hb⟩
theorem alo (w : World) (o : Obj) : Below w.heap.size w (w.alloc o) := (Below.refl _ _).alloc (Nat.le_refl _) _
theorem cellsSpanT : Tryd.prog.cellsOf 24 = 2 := by kernel_rfl
open Go.Joins Go.ChangeShapes Go.WideShapes Go.Deep in
theorem span2_in {H : Type} {enc : TypeId × Value → H} {W : World} {base : Nat} {v : Value} {d : DataW H} {p : List MemPlace} (hv : Value.okWide Tryd.prog W .any base 24 v)
    (h : DataW.Trod enc Tryd.prog W 0 (fun _ => true) true 24 v d p) : ∃ f t : Int, v = .agg #[.int .i64 f, .int .i64 t] := by
  obtain ⟨c0, c1, y0, y1, m, rfl, _, _, h0, h1⟩ := open_agg2 Tryd.underlying24 (by kernel_rfl) cellsSpanT hv h
  obtain ⟨g0, e0, _⟩ := DataW.trod_int Tryd.underlying3 h0
  obtain ⟨g1, e1, _⟩ := DataW.trod_int Tryd.underlying3 h1
  simp at e0 e1
  subst e0 e1
  exact ⟨g0, g1, rfl⟩
end Go.Proofs.YtjljhnahofkmaaaDoor
