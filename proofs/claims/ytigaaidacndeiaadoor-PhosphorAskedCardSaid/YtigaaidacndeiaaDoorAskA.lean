/-
  What is told of a mode and read again; what is told of the table's own numbers.
-/
import Derived.Test.YtigaaidacndeiaaDoorPrfV
import Derived.Test.YtigaaidacndeiaaDoorRepF
import Derived.Test.YtigaaidacndeiaaDoorModB
namespace Go.Proofs.YtigaaidacndeiaaDoor
open Go Go.RowKit
set_option maxRecDepth 100000

theorem clip_in {n : Int} (h : 0 ≤ n ∧ n ≤ 65535) : clip65 n = n := by
  show clipP n 0 65535 = n
  unfold clipP
  omega
theorem out_in {ns : List Int} (h : ∀ n ∈ ns, 0 ≤ n ∧ n ≤ 65535) : ns.any outB = false := by
  rw [List.any_eq_false]
  intro n hn
  have := clip_in (h n hn)
  unfold clip65 at this
  unfold outB
  simp [this]
theorem nums_in_ {ns : List Int} (hl : ns.length ≤ 30) (h : ∀ n ∈ ns, 0 ≤ n ∧ n ≤ 65535) : numsT ns = ns := by
  unfold numsT
  rw [List.take_of_length_le hl]
  conv => rhs; rw [← List.map_id ns]
  exact List.map_congr_left (fun n hn => clip_in (h n hn))
theorem check_csiS (c m : Nat) (ps : List Int) (it : ByteArray) (hl : ps.length ≤ 30) (h : ∀ n ∈ ps, 0 ≤ n ∧ n ≤ 65535) (hs0 : smallB [] it [] = true) (hr : (pureB 4 c m [] it [] && (codedB 4 c it && writtenB m it [])) = true) : checkP 4 c m ps it [] = 0 := by
  have hs : smallB ps it [] = true := by
    unfold smallB at hs0 ⊢
    rw [out_in h, decide_eq_true hl]
    simpa using hs0
  have hp : pureB 4 c m ps it [] = pureB 4 c m [] it [] := rfl
  unfold checkP
  rw [if_neg (by decide), hs, hp, hr]
  rfl
def askT (d : Bool) (n v : Int) : Tok := ⟨4, 121, if d then 63 else 0, [n, v], ⟨#[36]⟩, []⟩
theorem ask_bytes {n v : Int} (hn : 0 ≤ n ∧ n ≤ 65535) (hv : 0 ≤ v ∧ v ≤ 65535) (d e : Bool) : repL 4 (if d then ⟨#[63, 36, 121]⟩ else ⟨#[36, 121]⟩) ⟨#[]⟩ [n, v] e = bytesL 4 121 (if d then 63 else 0) [n, v] ⟨#[36]⟩ [] e ∧ checkP 4 121 (if d then 63 else 0) [n, v] ⟨#[36]⟩ [] = 0 := by
  have hin : ∀ x ∈ [n, v], 0 ≤ x ∧ x ≤ 65535 := fun x hx => by simp at hx; omega
  have e4 : natL (ByteArray.mk #[]).data.toList = [] := rfl
  cases d
  · have hc := check_csiS 121 0 [n, v] ⟨#[36]⟩ (by simp) hin (by decide +kernel) (by decide +kernel)
    refine ⟨?_, hc⟩
    simp only [Bool.false_eq_true, if_false]
    unfold repL
    have e1 : byteAt ⟨#[36, 121]⟩ ((ByteArray.mk #[36, 121]).size - 1) = 121 := by decide +kernel
    have e2 : tkM ⟨#[36, 121]⟩ = 0 := by decide +kernel
    have e3 : tkS ⟨#[36, 121]⟩ = ⟨#[36]⟩ := by kernel_rfl
    rw [if_neg (by decide), nums_in_ (by simp) hin, e1, e2, e3, e4, if_pos hc]
  · have hc := check_csiS 121 63 [n, v] ⟨#[36]⟩ (by simp) hin (by decide +kernel) (by decide +kernel)
    refine ⟨?_, hc⟩
    simp only [if_true]
    unfold repL
    have e1 : byteAt ⟨#[63, 36, 121]⟩ ((ByteArray.mk #[63, 36, 121]).size - 1) = 121 := by decide +kernel
    have e2 : tkM ⟨#[63, 36, 121]⟩ = 63 := by decide +kernel
    have e3 : tkS ⟨#[63, 36, 121]⟩ = ⟨#[36]⟩ := by kernel_rfl
    rw [if_neg (by decide), nums_in_ (by simp) hin, e1, e2, e3, e4, if_pos hc]
theorem ask_read {n v : Int} (hn : 0 ≤ n ∧ n ≤ 65535) (hv : 0 ≤ v ∧ v ≤ 65535) (d e : Bool) : feedL ps0 (repL 4 (if d then ⟨#[63, 36, 121]⟩ else ⟨#[36, 121]⟩) ⟨#[]⟩ [n, v] e) = (ps0, [askT d n v]) := by
  rw [(ask_bytes hn hv d e).1, feed_tok (ask_bytes hn hv d e).2 (by simp) e]
  rfl
theorem rep_len (k : Int) (id data : ByteArray) (ns : List Int) (e : Bool) : (repL k id data ns e).length ≤ 4290 := by
  unfold repL
  split
  · simp
  · split
    · rename_i h
      have hcd : byteAt id (id.size - 1) < 256 := byteAt_lt _ _
      have hdt : ∀ n ∈ natL data.data.toList, n < 256 := fun n hn => by
        obtain ⟨x, _, rfl⟩ := List.mem_map.1 hn
        exact UInt8.toNat_lt x
      exact bys_len (t := ⟨k, _, _, _, _, _⟩) ⟨hcd, h, hdt⟩ e
    · simp
theorem rep_lt (k : Int) (id data : ByteArray) (ns : List Int) (e : Bool) : ∀ n ∈ repL k id data ns e, n < 256 := by
  intro n hn
  unfold repL at hn
  split at hn
  · cases hn
  · split at hn
    · rename_i h
      have hcd : byteAt id (id.size - 1) < 256 := byteAt_lt _ _
      have hdt : ∀ n ∈ natL data.data.toList, n < 256 := fun n hn => by
        obtain ⟨x, _, rfl⟩ := List.mem_map.1 hn
        exact UInt8.toNat_lt x
      exact bys_lt (t := ⟨k, _, _, _, _, _⟩) ⟨hcd, h, hdt⟩ e n hn
    · cases hn
/-- One token of a list of one's own, with its numbers. -/
theorem one_tokR {W : World} {base n : Nat} {A : Option Addr} {t : Tok} (h : OTks W base (.slice A 1 n) [t]) : ∃ g P p D d, A = some ⟨g, 0, none⟩ ∧ RInts W P t.ps ∧
    (W.cell? ⟨g, 0, none⟩ = some (.int .i64 t.kd) ∧ W.cell? ⟨g, 1, none⟩ = some (.int .u8 (t.cd : Int)) ∧ W.cell? ⟨g, 2, none⟩ = some (.int .u8 (t.mr : Int)) ∧ W.cell? ⟨g, 3, none⟩ = some (.slice P t.ps.length p) ∧ W.cell? ⟨g, 4, none⟩ = some (.string t.it) ∧ W.cell? ⟨g, 5, none⟩ = some (.slice D t.dt.length d)) := by
  obtain ⟨xs, h1, h2⟩ := h
  obtain ⟨g, cap, e, _⟩ := h1.form (by simp)
  cases e
  match xs, h2 with
  | [x], ⟨⟨P, p, D, d, e1, q1, q2⟩, _⟩ =>
    cases e1
    have c := fun j hj => h1.cellAt j hj
    exact ⟨g, P, p, D, d, rfl, OInts.reads q1, ⟨c 0 (by decide), c 1 (by decide), c 2 (by decide), c 3 (by decide), c 4 (by decide), c 5 (by decide)⟩⟩
/-- What is told of the table's own numbers. -/
theorem alone_ok : ∀ k, k < 17 → ∀ j, j < 17 → (decP j == decP k && numP j == numP k) = decide (j = k) := by decide +kernel
theorem nev_ok : ∀ k, k < 17 → (!decP k && nevP (numP k)) = false := by decide +kernel
theorem num_ok : ∀ k, k < 17 → 0 ≤ numP k ∧ numP k ≤ 65535 := by decide +kernel
theorem fin_own (k : Nat) (hk : k < 17) (level : Int) : fin (decP k) (numP k) level = if frmP k ≤ level then k else 17 := by
  have hh : ∀ j, j < 17 → hitP (decP k) (numP k) level j = (decide (j = k) && decide (frmP j ≤ level)) := fun j hj => by
    unfold hitP
    rw [alone_ok k hk j hj]
  by_cases hl : frmP k ≤ level
  · rw [if_pos hl]
    refine fin_some _ _ _ k hk ?_ ?_
    · rw [hh k hk]; simp [hl]
    · intro j hj
      rw [hh j (by omega)]
      simp; omega
  · rw [if_neg hl]
    refine fin_none _ _ _ fun j hj => ?_
    rw [hh j hj]
    by_cases e : j = k
    · subst e; simp; omega
    · simp [e]
theorem ask_own (m k : Nat) (hk : k < 17) (level : Int) : askP m (decP k) (numP k) level = if frmP k ≤ level then (if hasN m k then 1 else 2) else 0 := by
  unfold askP
  rw [fin_own k hk, nev_ok k hk]
  by_cases hl : frmP k ≤ level
  · rw [if_pos hl, if_pos hl, if_pos hk]
  · rw [if_neg hl, if_neg hl, if_neg (by omega)]
    rfl
end Go.Proofs.YtigaaidacndeiaaDoor
