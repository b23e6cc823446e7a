/-
  What never changes of the functions: the table, as the program's text lays it.
-/
import Derived.Test.YtegcebdnofnigaaDoorGen
import Derived.Test.YtegcebdnofnigaaDoorKit2
namespace Go.Proofs.YtegcebdnofnigaaDoor
open Go Go.RowKit

/-- A function's number, name, id and level. -/
structure Fct where
  n : Int
  nm : ByteArray
  idb : ByteArray
  lv : Int
def Fct.cells (x : Fct) : List Value := [.int .i64 x.n, .string x.nm, .string x.idb, .int .i64 x.lv]
def Fct.val (x : Fct) : Value := .agg #[.int .i64 x.n, .string x.nm, .string x.idb, .int .i64 x.lv]
def ctlF : List Fct := [⟨1, ⟨#[66, 69, 76]⟩, ⟨#[7]⟩, 1⟩, ⟨2, ⟨#[69, 78, 81]⟩, ⟨#[5]⟩, 1⟩, ⟨3, ⟨#[66, 83]⟩, ⟨#[8]⟩, 1⟩, ⟨4, ⟨#[72, 84]⟩, ⟨#[9]⟩, 1⟩, ⟨5, ⟨#[76, 70]⟩, ⟨#[10]⟩, 1⟩, ⟨6, ⟨#[86, 84]⟩, ⟨#[11]⟩, 1⟩, ⟨7, ⟨#[70, 70]⟩, ⟨#[12]⟩, 1⟩, ⟨8, ⟨#[67, 82]⟩, ⟨#[13]⟩, 1⟩, ⟨9, ⟨#[83, 79]⟩, ⟨#[14]⟩, 1⟩, ⟨10, ⟨#[83, 73]⟩, ⟨#[15]⟩, 1⟩, ⟨11, ⟨#[83, 85, 66]⟩, ⟨#[26]⟩, 1⟩]
def escF : List Fct := [⟨12, ⟨#[73, 78, 68]⟩, ⟨#[68]⟩, 1⟩, ⟨13, ⟨#[78, 69, 76]⟩, ⟨#[69]⟩, 1⟩, ⟨14, ⟨#[72, 84, 83]⟩, ⟨#[72]⟩, 1⟩, ⟨15, ⟨#[82, 73]⟩, ⟨#[77]⟩, 1⟩, ⟨16, ⟨#[83, 83, 50]⟩, ⟨#[78]⟩, 2⟩, ⟨17, ⟨#[83, 83, 51]⟩, ⟨#[79]⟩, 2⟩, ⟨18, ⟨#[68, 69, 67, 73, 68]⟩, ⟨#[90]⟩, 1⟩, ⟨19, ⟨#[68, 69, 67, 83, 67]⟩, ⟨#[55]⟩, 1⟩, ⟨20, ⟨#[68, 69, 67, 82, 67]⟩, ⟨#[56]⟩, 1⟩, ⟨21, ⟨#[68, 69, 67, 75, 80, 65, 77]⟩, ⟨#[61]⟩, 1⟩, ⟨22, ⟨#[68, 69, 67, 75, 80, 78, 77]⟩, ⟨#[62]⟩, 1⟩, ⟨23, ⟨#[82, 73, 83]⟩, ⟨#[99]⟩, 1⟩, ⟨24, ⟨#[68, 69, 67, 66, 73]⟩, ⟨#[54]⟩, 4⟩, ⟨25, ⟨#[68, 69, 67, 70, 73]⟩, ⟨#[57]⟩, 4⟩, ⟨26, ⟨#[76, 83, 50]⟩, ⟨#[110]⟩, 2⟩, ⟨27, ⟨#[76, 83, 51]⟩, ⟨#[111]⟩, 2⟩, ⟨28, ⟨#[76, 83, 49, 82]⟩, ⟨#[126]⟩, 2⟩, ⟨29, ⟨#[76, 83, 50, 82]⟩, ⟨#[125]⟩, 2⟩, ⟨30, ⟨#[76, 83, 51, 82]⟩, ⟨#[124]⟩, 2⟩, ⟨31, ⟨#[68, 69, 67, 68, 72, 76, 84]⟩, ⟨#[35, 51]⟩, 1⟩, ⟨32, ⟨#[68, 69, 67, 68, 72, 76, 66]⟩, ⟨#[35, 52]⟩, 1⟩, ⟨33, ⟨#[68, 69, 67, 83, 87, 76]⟩, ⟨#[35, 53]⟩, 1⟩, ⟨34, ⟨#[68, 69, 67, 68, 87, 76]⟩, ⟨#[35, 54]⟩, 1⟩, ⟨35, ⟨#[68, 69, 67, 65, 76, 78]⟩, ⟨#[35, 56]⟩, 1⟩, ⟨36, ⟨#[83, 55, 67, 49, 84]⟩, ⟨#[32, 70]⟩, 2⟩, ⟨37, ⟨#[83, 56, 67, 49, 84]⟩, ⟨#[32, 71]⟩, 2⟩]
def shoF : List Fct := [⟨38, ⟨#[67, 85, 85]⟩, ⟨#[65]⟩, 1⟩, ⟨39, ⟨#[67, 85, 68]⟩, ⟨#[66]⟩, 1⟩, ⟨40, ⟨#[67, 85, 70]⟩, ⟨#[67]⟩, 1⟩, ⟨41, ⟨#[67, 85, 66]⟩, ⟨#[68]⟩, 1⟩, ⟨42, ⟨#[67, 78, 76]⟩, ⟨#[69]⟩, 5⟩, ⟨43, ⟨#[67, 80, 76]⟩, ⟨#[70]⟩, 5⟩, ⟨44, ⟨#[67, 72, 65]⟩, ⟨#[71]⟩, 5⟩, ⟨45, ⟨#[67, 85, 80]⟩, ⟨#[72]⟩, 1⟩, ⟨46, ⟨#[67, 72, 84]⟩, ⟨#[73]⟩, 5⟩, ⟨47, ⟨#[69, 68]⟩, ⟨#[74]⟩, 1⟩, ⟨48, ⟨#[69, 76]⟩, ⟨#[75]⟩, 1⟩, ⟨49, ⟨#[73, 76]⟩, ⟨#[76]⟩, 1⟩, ⟨50, ⟨#[68, 76]⟩, ⟨#[77]⟩, 1⟩, ⟨51, ⟨#[68, 67, 72]⟩, ⟨#[80]⟩, 1⟩, ⟨52, ⟨#[73, 67, 72]⟩, ⟨#[64]⟩, 2⟩, ⟨53, ⟨#[83, 85]⟩, ⟨#[83]⟩, 2⟩, ⟨54, ⟨#[83, 68]⟩, ⟨#[84]⟩, 2⟩, ⟨55, ⟨#[78, 80]⟩, ⟨#[85]⟩, 3⟩, ⟨56, ⟨#[80, 80]⟩, ⟨#[86]⟩, 3⟩, ⟨57, ⟨#[69, 67, 72]⟩, ⟨#[88]⟩, 2⟩, ⟨58, ⟨#[67, 66, 84]⟩, ⟨#[90]⟩, 5⟩, ⟨59, ⟨#[72, 80, 65]⟩, ⟨#[96]⟩, 5⟩, ⟨60, ⟨#[72, 80, 82]⟩, ⟨#[97]⟩, 5⟩, ⟨61, ⟨#[82, 69, 80]⟩, ⟨#[98]⟩, 5⟩, ⟨62, ⟨#[68, 65, 49]⟩, ⟨#[99]⟩, 1⟩, ⟨63, ⟨#[68, 65, 50]⟩, ⟨#[62, 99]⟩, 2⟩, ⟨64, ⟨#[68, 65, 51]⟩, ⟨#[61, 99]⟩, 4⟩, ⟨65, ⟨#[86, 80, 65]⟩, ⟨#[100]⟩, 5⟩, ⟨66, ⟨#[86, 80, 82]⟩, ⟨#[101]⟩, 5⟩, ⟨67, ⟨#[72, 86, 80]⟩, ⟨#[102]⟩, 1⟩, ⟨68, ⟨#[84, 66, 67]⟩, ⟨#[103]⟩, 1⟩, ⟨69, ⟨#[83, 77]⟩, ⟨#[104]⟩, 1⟩, ⟨70, ⟨#[82, 77]⟩, ⟨#[108]⟩, 1⟩, ⟨71, ⟨#[68, 69, 67, 83, 69, 84]⟩, ⟨#[63, 104]⟩, 1⟩, ⟨72, ⟨#[68, 69, 67, 82, 83, 84]⟩, ⟨#[63, 108]⟩, 1⟩, ⟨73, ⟨#[83, 71, 82]⟩, ⟨#[109]⟩, 1⟩, ⟨74, ⟨#[68, 83, 82]⟩, ⟨#[110]⟩, 1⟩, ⟨75, ⟨#[68, 69, 67, 68, 83, 82]⟩, ⟨#[63, 110]⟩, 2⟩, ⟨76, ⟨#[68, 69, 67, 83, 84, 66, 77]⟩, ⟨#[114]⟩, 1⟩, ⟨77, ⟨#[68, 69, 67, 83, 76, 82, 77]⟩, ⟨#[115]⟩, 4⟩, ⟨78, ⟨#[68, 69, 67, 83, 69, 68]⟩, ⟨#[63, 74]⟩, 2⟩, ⟨79, ⟨#[68, 69, 67, 83, 69, 76]⟩, ⟨#[63, 75]⟩, 2⟩, ⟨106, ⟨#[68, 69, 67, 83, 76, 80, 80]⟩, ⟨#[116]⟩, 3⟩]
def lonF : List Fct := [⟨80, ⟨#[83, 76]⟩, ⟨#[32, 64]⟩, 5⟩, ⟨81, ⟨#[83, 82]⟩, ⟨#[32, 65]⟩, 5⟩, ⟨82, ⟨#[80, 80, 65]⟩, ⟨#[32, 80]⟩, 3⟩, ⟨83, ⟨#[80, 80, 82]⟩, ⟨#[32, 81]⟩, 3⟩, ⟨84, ⟨#[80, 80, 66]⟩, ⟨#[32, 82]⟩, 3⟩, ⟨85, ⟨#[68, 69, 67, 83, 84, 82]⟩, ⟨#[33, 112]⟩, 2⟩, ⟨86, ⟨#[68, 69, 67, 83, 67, 76]⟩, ⟨#[34, 112]⟩, 1⟩, ⟨87, ⟨#[68, 69, 67, 83, 67, 65]⟩, ⟨#[34, 113]⟩, 2⟩, ⟨88, ⟨#[82, 81, 77]⟩, ⟨#[36, 112]⟩, 3⟩, ⟨89, ⟨#[68, 69, 67, 82, 81, 77]⟩, ⟨#[63, 36, 112]⟩, 3⟩, ⟨90, ⟨#[68, 69, 67, 67, 65, 82, 65]⟩, ⟨#[36, 114]⟩, 4⟩, ⟨91, ⟨#[68, 69, 67, 82, 65, 82, 65]⟩, ⟨#[36, 116]⟩, 4⟩, ⟨92, ⟨#[68, 69, 67, 67, 82, 65]⟩, ⟨#[36, 118]⟩, 4⟩, ⟨93, ⟨#[68, 69, 67, 70, 82, 65]⟩, ⟨#[36, 120]⟩, 4⟩, ⟨94, ⟨#[68, 69, 67, 69, 82, 65]⟩, ⟨#[36, 122]⟩, 4⟩, ⟨95, ⟨#[68, 69, 67, 83, 69, 82, 65]⟩, ⟨#[36, 123]⟩, 4⟩, ⟨96, ⟨#[68, 69, 67, 83, 65, 67, 69]⟩, ⟨#[42, 120]⟩, 4⟩, ⟨97, ⟨#[68, 69, 67, 82, 81, 67, 82, 65]⟩, ⟨#[42, 121]⟩, 4⟩, ⟨98, ⟨#[68, 69, 67, 73, 78, 86, 77]⟩, ⟨#[42, 122]⟩, 4⟩, ⟨99, ⟨#[68, 69, 67, 82, 81, 80, 83, 82]⟩, ⟨#[36, 119]⟩, 3⟩, ⟨100, ⟨#[68, 69, 67, 82, 81, 84, 83, 82]⟩, ⟨#[36, 117]⟩, 3⟩, ⟨101, ⟨#[68, 69, 67, 73, 67]⟩, ⟨#[39, 125]⟩, 4⟩, ⟨102, ⟨#[68, 69, 67, 68, 67]⟩, ⟨#[39, 126]⟩, 4⟩, ⟨103, ⟨#[68, 69, 67, 83, 83, 68, 84]⟩, ⟨#[36, 126]⟩, 3⟩, ⟨104, ⟨#[68, 69, 67, 83, 65, 83, 68]⟩, ⟨#[36, 125]⟩, 3⟩, ⟨105, ⟨#[68, 69, 67, 83, 67, 80, 80]⟩, ⟨#[36, 124]⟩, 3⟩]
def devF : List Fct := [⟨107, ⟨#[68, 69, 67, 82, 81, 83, 83]⟩, ⟨#[36, 113]⟩, 3⟩, ⟨108, ⟨#[68, 69, 67, 68, 77, 65, 67]⟩, ⟨#[33, 122]⟩, 4⟩, ⟨109, ⟨#[68, 69, 67, 85, 68, 75]⟩, ⟨#[124]⟩, 2⟩, ⟨110, ⟨#[68, 69, 67, 82, 83, 84, 83]⟩, ⟨#[36, 112]⟩, 3⟩, ⟨111, ⟨#[68, 69, 67, 82, 83, 80, 83]⟩, ⟨#[36, 116]⟩, 3⟩]
def zeroF : Fct := ⟨0, ⟨#[]⟩, ⟨#[]⟩, 0⟩
def scsF : Fct := ⟨112, ⟨#[83, 67, 83]⟩, ⟨#[]⟩, 1⟩
/-- Those whose tokens are of a kind. -/
def fkF (k : Nat) : List Fct := match k with
  | 2 => ctlF
  | 3 => escF
  | 4 => shoF ++ lonF
  | 5 => devF
  | _ => []
/-- Those of a kind and all kinds behind it. -/
def restF (k : Nat) : List Fct := match k with
  | 2 => ctlF ++ (escF ++ ((shoF ++ lonF) ++ (devF ++ [])))
  | 3 => escF ++ ((shoF ++ lonF) ++ (devF ++ []))
  | 4 => (shoF ++ lonF) ++ (devF ++ [])
  | 5 => devF ++ []
  | _ => []
theorem rest_step (k : Nat) (h : 2 ≤ k ∧ k ≤ 5) : restF k = fkF k ++ restF (k + 1) := by
  rcases (by omega : k = 2 ∨ k = 3 ∨ k = 4 ∨ k = 5) with rfl | rfl | rfl | rfl <;> rfl
def getF (f : Int) : List Fct → Fct
  | [] => zeroF
  | x :: l => if x.n = f then x else getF f l
def factF (f : Int) : Fct := if f = 112 then scsF else getF f (restF 2)
theorem fk_len (k : Nat) : (fkF k).length ≤ 100 := by
  unfold fkF
  split <;> decide
theorem getF_drop (f : Int) (l r : List Fct) (k : Nat) (h : k < l.length) : getF f (l.drop k ++ r) = if l[k].n = f then l[k] else getF f (l.drop (k + 1) ++ r) := by
  rw [List.drop_eq_getElem_cons h]; rfl
/-! ### lists in memory -/
def RFc (w : World) (A : Option Addr) (l : List Fct) : Prop := Reads w w.heap.size 4 A l.length (l.flatMap Fct.cells)
theorem RFc.next {w w' : World} {A : Option Addr} {l : List Fct} (h : RFc w A l) (hb : Below w.heap.size w w') : RFc w' A l := (Reads.below h hb).more hb.size
theorem fc_at (l : List Fct) (k : Nat) (hk : k < l.length) :
    (l.flatMap Fct.cells)[k * 4]? = some (.int .i64 l[k].n) ∧ (l.flatMap Fct.cells)[k * 4 + 1]? = some (.string l[k].nm) ∧ (l.flatMap Fct.cells)[k * 4 + 2]? = some (.string l[k].idb) ∧ (l.flatMap Fct.cells)[k * 4 + 3]? = some (.int .i64 l[k].lv) := by
  induction l generalizing k with
  | nil => simp at hk
  | cons c l ih =>
    cases k with
    | zero => simp [Fct.cells]
    | succ k =>
      have h := ih k (by simpa using hk)
      have e : (k + 1) * 4 = k * 4 + 4 := by omega
      rw [List.flatMap_cons, e]
      simp only [Fct.cells, List.cons_append, List.nil_append, List.getElem?_cons_succ, List.getElem_cons_succ]
      exact h
theorem fc_len (l : List Fct) : (l.flatMap Fct.cells).length = l.length * 4 := by
  induction l with
  | nil => rfl
  | cons c l ih => rw [List.flatMap_cons, List.length_append, ih, List.length_cons]; simp [Fct.cells]; omega
theorem RFc.four {w : World} {ad : Addr} {l : List Fct} (h : RFc w (some ad) l) {k : Nat} (hk : k < l.length) :
    w.cell? (ad.add (k * 4)) = some (.int .i64 l[k].n) ∧ w.cell? ⟨(ad.add (k * 4)).block, (ad.add (k * 4)).off + 1, none⟩ = some (.string l[k].nm) ∧ w.cell? ⟨(ad.add (k * 4)).block, (ad.add (k * 4)).off + 2, none⟩ = some (.string l[k].idb) ∧ w.cell? ⟨(ad.add (k * 4)).block, (ad.add (k * 4)).off + 3, none⟩ = some (.int .i64 l[k].lv) := by
  obtain ⟨ad', e, hb, hc⟩ := h.2 (by omega)
  injection e with e
  subst e
  obtain ⟨h1, h2, h3, h4⟩ := fc_at l k hk
  have a1 : (⟨(ad.add (k * 4)).block, (ad.add (k * 4)).off + 1, none⟩ : Addr) = ad.add (k * 4 + 1) := (show _ = (ad.add (k * 4)).add 1 from rfl).trans (add_of_add ad _ _)
  have a2 : (⟨(ad.add (k * 4)).block, (ad.add (k * 4)).off + 2, none⟩ : Addr) = ad.add (k * 4 + 2) := (show _ = (ad.add (k * 4)).add 2 from rfl).trans (add_of_add ad _ _)
  have a3 : (⟨(ad.add (k * 4)).block, (ad.add (k * 4)).off + 3, none⟩ : Addr) = ad.add (k * 4 + 3) := (show _ = (ad.add (k * 4)).add 3 from rfl).trans (add_of_add ad _ _)
  exact ⟨hc _ _ h1, by rw [a1]; exact hc _ _ h2, by rw [a2]; exact hc _ _ h3, by rw [a3]; exact hc _ _ h4⟩
def OFc (w : World) (base : Nat) (v : Value) (l : List Fct) : Prop := w.ownsRow base 34 4 v l.length (l.flatMap Fct.cells)
theorem OFc.reads {w : World} {base : Nat} {v : Value} {l : List Fct} (h : OFc w base v l) : ∃ A c, v = .slice A l.length c ∧ RFc w A l := by
  rcases h.2 with ⟨rfl, hn⟩ | ⟨g, cap, cur, rfl, r⟩
  · have : l = [] := List.eq_nil_of_length_eq_zero hn
    subst this
    exact ⟨none, 0, rfl, Reads.none_⟩
  · exact ⟨_, _, rfl, Reads.of_own (show w.ownsRow base 34 4 (.slice (some ⟨g, 0, none⟩) l.length cap) l.length (l.flatMap Fct.cells) from h)⟩
theorem OFc.next {w w' : World} {base : Nat} {v : Value} {l : List Fct} (h : OFc w base v l) (hb : Below w.heap.size w w') : OFc w' base v l :=
  World.ownsRow.kept (row := none) h ⟨hb.os, hb.tape, hb.output, hb.size, fun k hk _ => hb.block k hk⟩ (by cases v.ownBlock <;> simp)
theorem OFc.more {w : World} {base b2 : Nat} {v : Value} {l : List Fct} (h : OFc w base v l) (hb : b2 ≤ base) : OFc w b2 v l := by
  refine ⟨h.1, ?_⟩
  rcases h.2 with h1 | ⟨g, cap, cur, e, h1, r⟩
  · exact .inl h1
  · exact .inr ⟨g, cap, cur, e, Nat.le_trans hb h1, r⟩
theorem ofc_new (w : World) (l : List Fct) (n : Nat) (cs : Array Value) (hcs : cs = (l.flatMap Fct.cells).toArray) (hn : n = l.length) (hm : n ≤ 1000) : OFc (w.alloc (.cells cs 34)) w.heap.size (.slice (some ⟨w.heap.size, 0, none⟩) n n) l := by
  subst hcs hn
  refine ⟨fc_len l, .inr ⟨w.heap.size, l.length, _, rfl, Nat.le_refl _, Blk.new w _ _, Nat.le_refl _, by unfold maxLen; omega, by simp [fc_len l], ?_⟩⟩
  rw [List.take_of_length_le (by simp [fc_len l])]
end Go.Proofs.YtegcebdnofnigaaDoor
