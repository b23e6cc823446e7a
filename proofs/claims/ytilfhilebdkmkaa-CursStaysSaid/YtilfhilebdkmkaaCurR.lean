/-
  Blocks of the call's own, behind a region that stored into two of them.
-/
import Derived.Test.YtilfhilebdkmkaaCurN
namespace Go.Proofs.Ytilfhilebdkmkaa
open Go Go.RowKit

theorem Bs.mix2 {w W W' : World} {l : List (Nat × TypeId × Array Value)} {b b2 : Nat} {T T2 : TypeId} {cs cs2 cs' cs2' : Array Value} (h : Bs w ((b, T, cs) :: (b2, T2, cs2) :: l) W) (ho : Only [b, b2] W W') (hn : Blk W' b T cs') (hn2 : Blk W' b2 T2 cs2') : Bs w ((b, T, cs') :: (b2, T2, cs2') :: l) W' := by
  have hp := h.2.1
  simp only [List.pairwise_cons, List.forall_mem_cons] at hp
  refine ⟨fun y hy => ?_, ?_, h.2.2.trans (ho.below (B := w.heap.size) h.2.2.size (by have := h.g0; have := h.tl.g0; simp; omega))⟩
  · rcases List.mem_cons.1 hy with rfl | hy
    · exact ⟨h.g0, hn⟩
    · rcases List.mem_cons.1 hy with rfl | hy
      · exact ⟨h.tl.g0, hn2⟩
      · exact ⟨(h.1 y (by simp [hy])).1, ho.blk (h.1 y (by simp [hy])).2 (by
          have h1 := hp.1.2 y hy; have h2 := hp.2.1 y hy
          simp only [List.mem_cons, List.not_mem_nil, or_false]
          rintro (e | e)
          · exact h1 e.symm
          · exact h2 e.symm)⟩
  · simp only [List.pairwise_cons, List.forall_mem_cons]
    exact ⟨⟨hp.1.1, hp.1.2⟩, hp.2.1, hp.2.2⟩
end Go.Proofs.Ytilfhilebdkmkaa
