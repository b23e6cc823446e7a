/-
  What is answered as a sequence, plainly: a token of an id; its bytes. The walk of a mark.
  The walks of a token of an id, of its bytes, of sequences.
  The walks of a token's bytes, and of sequences and strings.
  The walks of the reference's sequences.
  The walks of the program's replies of numbers, and of the reference's.
  The walks of places, modes and the primary attributes, of both sides.
  Settings as sequences: the bytes of a setting behind CSI are one token, and what is told of it is read back.
  Settings of a clean core: each id has its numbers.
-/
import Derived.Test.YtfnamfkjbkhgeaaGreatDoorTokY
import Derived.Test.YtfnamfkjbkhgeaaGreatDoorParV
import Derived.Test.YtfnamfkjbkhgeaaGreatDoorParP
import Derived.Laws.Strings2
import Derived.Test.YtfnamfkjbkhgeaaGreatDoorPrfV
import Derived.Test.YtfnamfkjbkhgeaaGreatDoorStaH
namespace Go.Proofs.YtfnamfkjbkhgeaaGreatDoor

open Go Go.RowKit

/-- A byte of a text, as a number. -/
def byteAt (s : ByteArray) (k : Nat) : Nat := (s.data.toList.getD k 0).toNat
theorem byteAt_lt (s : ByteArray) (k : Nat) : byteAt s k < 256 := by unfold byteAt; exact UInt8.toNat_lt _
theorem byteAt_get (s : ByteArray) (k : Nat) (hk : k < s.size) : s[k].toNat = byteAt s k := by
  unfold byteAt
  rw [List.getD_eq_getElem?_getD, List.getElem?_eq_getElem (by rw [dlen]; exact hk), Option.getD_some, dat s k hk]
def markN (c : Nat) : Bool := decide (60 ≤ c) && decide (c ≤ 63)
def markedB (s : ByteArray) : Bool := decide (1 < s.size) && markN (byteAt s 0)
/-- The parts of a token of an id. -/
def tkM (s : ByteArray) : Nat := if markedB s then byteAt s 0 else 0
def tkS (s : ByteArray) : ByteArray := s.extract (if markedB s then 1 else 0) (s.size - 1)
def numsT (ns : List Int) : List Int := (ns.take 30).map clip65
/-- The bytes of a sequence; nothing, if there is none such. -/
def repL (kind : Int) (id data : ByteArray) (ns : List Int) (eight : Bool) : List Nat :=
  if id.size = 0 then []
  else if checkP kind (byteAt id (id.size - 1)) (tkM id) (numsT ns) (tkS id) (natL data.data.toList) = 0 then bytesL kind (byteAt id (id.size - 1)) (tkM id) (numsT ns) (tkS id) (natL data.data.toList) eight
  else []
set_option maxHeartbeats 1000000 in
theorem isMark_any (c : Nat) (w : World) :
    Calls Tryz.prog 97 #[.int .u8 (c : Int)] w fun e w' => e = .returned (.bool (markN c)) ∧ w = w' := by
  have h1 : decide (60 ≤ (c : Int)) = decide (60 ≤ c) := by rw [decide_eq_decide]; omega
  have h2 : decide ((c : Int) ≤ 63) = decide (c ≤ 63) := by rw [decide_eq_decide]; omega
  unfold markN
  rcases e1 : decide (60 ≤ c) with _ | _
  · rw [e1] at h1
    clear e1
    go_enter Tryz.func97, Tryz.ntmps97
    go_wp2_with fail
    go_ret
    exact ⟨rfl, rfl⟩
  · rw [e1] at h1
    clear e1
    generalize decide (c ≤ 63) = q at *
    go_enter Tryz.func97, Tryz.ntmps97
    go_wp2_with fail
    go_ret
    exact ⟨rfl, rfl⟩
/-- Bytes of a text, as a letter. -/
def SbP (n : Nat) (u : Value) : Prop := ∃ g cap, u = .slice (some ⟨g, 0, none⟩) n cap
/-- Parts of parts of a text. -/
theorem ext_ext (s : ByteArray) : (s.extract 0 (s.size - 1)).extract 1 (s.extract 0 (s.size - 1)).size = s.extract 1 (s.size - 1) := by
  rw [ByteArray.extract_extract, ByteArray.size_extract]
  try (congr 1 <;> omega)
theorem ext_size (s : ByteArray) (a b : Nat) (h : b ≤ s.size) : (s.extract a b).size = b - a := by rw [ByteArray.size_extract]; omega
theorem ext_at (s : ByteArray) (b : Nat) (h : 0 < b) (hb : b ≤ s.size) : byteAt (s.extract 0 b) 0 = byteAt s 0 := by
  rw [← byteAt_get _ 0 (by rw [ext_size s 0 b hb]; omega), ← byteAt_get s 0 (by omega)]
  rw [ByteArray.getElem_extract]
  try simp
theorem nums_len (ns : List Int) : (numsT ns).length ≤ 30 := by unfold numsT; simp; omega
theorem fmt_parse (ns : List Int) : parseV (bytesOf (fmtL ns)).data.toList = (numsT ns, 0) := by
  obtain ⟨h1, h2⟩ := fmt_back ns
  have e : (bytesOf (fmtL ns)).data.toList = fmtL ns := rfl
  rw [e, parseV_yes h1, h2]
  rfl
end Go.Proofs.YtfnamfkjbkhgeaaGreatDoor

namespace Go.Proofs.YtfnamfkjbkhgeaaGreatDoor

open Go Go.RowKit

theorem str_stab2 (ks : Kinds) (wr : World) (n : Nat) (xs : List Value) (h : 5 ∉ boxes ks) : ∀ v w w', Kept ks wr w w' → StrF wr.heap.size n xs v w → StrF wr.heap.size n xs v w' := by
  rintro v w w' hk ⟨g, cap, cur, fz, e, hb, hf, hg, ht⟩
  have hlt : g < w.heap.size := by
    rcases Nat.lt_or_ge g w.heap.size with h | h
    · exact h
    · rw [Array.getElem?_eq_none h] at hg; cases hg
  exact ⟨g, cap, cur, fz, e, hb, hf, (hk.block g hlt hb (fun cs T fr e2 => by
    rw [hg] at e2
    injection e2 with e2
    injection e2 with _ e3 _
    rw [← e3]; exact h)).trans hg, ht⟩
theorem own_cap {w : World} {base size n c : Nat} {e : TypeId} {A : Option Addr} {xs : List Value} (h : w.ownsRow base e size (.slice A n c) n xs) : n ≤ c := by
  rcases h.2 with ⟨hv, hn⟩ | ⟨g, cap, _, hv, _, _, hle, _⟩
  · omega
  · simp only [Value.slice.injEq] at hv
    omega
theorem rbyt_far {w : World} {g : Nat} {l : List Nat} (h : RByt w (some ⟨g, 0, none⟩) l) (p : Addr) (hne : g ≠ p.block) (u : Value) : RByt (w.setCell p u) (some ⟨g, 0, none⟩) l := by
  refine ⟨h.1, fun hn => ?_⟩
  obtain ⟨ad, e, hb, hc⟩ := h.2 hn
  refine ⟨ad, e, by simpa [World.setCell] using hb, fun j v hv => ?_⟩
  have e2 : ad = ⟨g, 0, none⟩ := (Option.some.inj e).symm
  rw [World.cell?_setCell_other w p _ u (fun e' => hne (by rw [e', block_of_add, e2]))]
  exact hc j v hv
theorem rints_put {w : World} {A : Option Addr} {ns : List Int} (h : RInts w A ns) (g : Nat) (hne : ∀ ad, A = some ad → ad.block ≠ g) (v0 v1 v2 v3 v4 v5 : Value) : RInts (put6 w g v0 v1 v2 v3 v4 v5) A ns :=
  (((((h.store ⟨g, 0, none⟩ hne v0).store ⟨g, 1, none⟩ hne v1).store ⟨g, 2, none⟩ hne v2).store ⟨g, 3, none⟩ hne v3).store ⟨g, 4, none⟩ hne v4).store ⟨g, 5, none⟩ hne v5
theorem rbyt_put {w : World} {b : Nat} {l : List Nat} (h : RByt w (some ⟨b, 0, none⟩) l) (g : Nat) (hne : b ≠ g) (v0 v1 v2 v3 v4 v5 : Value) : RByt (put6 w g v0 v1 v2 v3 v4 v5) (some ⟨b, 0, none⟩) l :=
  rbyt_far (rbyt_far (rbyt_far (rbyt_far (rbyt_far (rbyt_far h ⟨g, 0, none⟩ hne v0) ⟨g, 1, none⟩ hne v1) ⟨g, 2, none⟩ hne v2) ⟨g, 3, none⟩ hne v3) ⟨g, 4, none⟩ hne v4) ⟨g, 5, none⟩ hne v5
/-- A token that a call answers: its parts, in memory. -/
def Tkn (W : World) (e : Ending) (kind : Int) (c m : Nat) (ps : List Int) (s : ByteArray) (dt : List Nat) : Prop := ∃ P pc D dc, e = .returned (.agg (tkC kind (c : Int) (m : Int) P ps pc s D dt dc)) ∧ RInts W P ps ∧ ps.length ≤ pc ∧ RByt W D dt
def zero6 : Array Value := #[.int .i64 0, .int .u8 0, .int .u8 0, .slice none 0 0, .string ⟨#[]⟩, .slice none 0 0]
set_option maxRecDepth 100000 in
set_option maxHeartbeats 4000000 in
theorem seq_none (kind : Int) (data : ByteArray) (V : Value) (w : World) :
    Calls Tryz.prog 58 #[.int .i64 kind, .string ⟨#[]⟩, .string data, V] w fun e w' => Tkn w' e 0 0 0 [] ⟨#[]⟩ [] ∧ Below w.heap.size w w' := by
  have HK := Lib.hid (K1.start w 66 zero6)
  unfold zero6 at HK
  obtain ⟨a0, a1, a2, a3, a4, a5⟩ := six HK.out.1
  obtain ⟨f0, f1, f2, f3, f4, f5⟩ := six_fr HK.out.1
  go_enter Tryz.func58, Tryz.ntmps58
  go_wp2_with fail
  exact bodyPost_ret (v := .agg #[.int .i64 0, .int .u8 0, .int .u8 0, .slice none 0 0, .string ⟨#[]⟩, .slice none 0 0]) (by simp [results, Tryz.results58, go_sem, a0, a1, a2, a3, a4, a5]) rfl ⟨⟨none, 0, none, 0, rfl, rints_nil _, by simp, rbyt_nil _⟩, HK.out.2⟩
set_option maxRecDepth 100000 in
set_option maxHeartbeats 8000000 in
theorem seq_some (kind : Int) (id data : ByteArray) (A : Option Addr) (c : Nat) (ns : List Int) (hl : ns.length ≤ maxLen) (hc : ns.length ≤ c) (hid : 0 < id.size) (hi2 : id.size ≤ maxLen) (w : World) (ht : Ten w) (hr : RInts w A ns) :
    Calls Tryz.prog 58 #[.int .i64 kind, .string id, .string data, .slice A ns.length c] w fun e w' => Tkn w' e kind (byteAt id (id.size - 1)) (tkM id) (numsT ns) (tkS id) (natL data.data.toList) ∧ Below w.heap.size w w' := by
  have HF := Lib.hid (fun W t h => format_any A c ns hl hc W t h)
  have HP : Hid (∀ W, Calls Tryz.prog 49 #[.string (bytesOf (fmtL ns))] W fun e w' => Gave w' W.heap.size (numsT ns) 0 e ∧ Below W.heap.size W w') := Lib.hid (fun W => by
    have := parse_all (bytesOf (fmtL ns)) (by have := fmt_len ns; unfold maxLen; show (fmtL ns).toArray.size ≤ _; simp; omega) W
    rwa [fmt_parse] at this)
  have HT := Lib.hid ht; have HR := Lib.hid hr
  have HK := Lib.hid (K1.start w 66 zero6)
  unfold zero6 at HK
  have hne : id.toList.isEmpty = false := by
    have h : (id.toList == (ByteArray.mk #[]).toList) = false := by rw [str_nil]; exact decide_eq_false (by omega)
    rw [show (ByteArray.mk #[]).toList = [] from by rw [ByteArray.toList_eq]] at h
    cases hq : id.toList with
    | nil => rw [hq] at h; cases h
    | cons x xs => rfl
  obtain ⟨last, hlast⟩ : ∃ k, k = id.size - 1 := ⟨_, rfl⟩
  have hlt : last < id.size := by omega
  rw [← hlast]
  have hw1 : IntKind.i64.wrap ((id.size : Int) - 1) = (last : Int) := (IntWalk.i64_in _ (by unfold maxLen at hi2; omega)).trans (by omega)
  have hix := byteAt_get id last hlt
  have HLast := Lib.hid hlast
  have HMk := Lib.hid (fun W => isMark_any (byteAt id 0) W)
  clear ht hr hlast
  generalize bytesOf (fmtL ns) = fb at *
  go_enter Tryz.func58, Tryz.ntmps58
  go_wp2_with fail
  refine (HF.out _ (HT.out.next HK.out.2) (HR.out.next HK.out.2)).mono ?_
  rintro e w1 ⟨rfl, hb1⟩
  have HK1 := Lib.hid (K1.next HK.out hb1)
  clear hb1
  go_wp2_with fail
  refine (HP.out _).mono ?_
  rintro e w2 ⟨⟨P, pc, rfl, hown⟩, hb2⟩
  have HK2 := Lib.hid (K1.next HK1.out hb2); have HOwn := Lib.hid hown
  have HK1s : Hid (w.heap.size < w1.heap.size) := Lib.hid HK1.out.1.lt
  clear hb2 hown HK1
  go_upto_region 5 with fail
  have hle : last ≤ id.size := by omega
  have hb2 : byteAt id last < 256 := byteAt_lt id last
  have hex : ∃ sp : ByteArray, sp = id.extract 0 last := ⟨_, rfl⟩
  obtain ⟨sp, hsp⟩ := hex
  have hst := fun (W : World) (hB : w2.heap.size ≤ W.heap.size) => str_made w2.heap.size data W hB
  have HSt := Lib.hid hst
  clear hst
  refine wp_region_mix_lit (by kernel_rfl) [(9, .letter (SbP data.size) (StrF w2.heap.size data.size (Lib.strCells data))), (11, .alloc 12 66 #[.int .i64 0, .int .u8 0, .int .u8 0, .slice none 0 0, .string ⟨#[]⟩, .slice none 0 0] (fun β => #[.int .i64 kind, .int .u8 (byteAt id last : Nat), .int .u8 0, .slice P (numsT ns).length pc, .string (id.extract 0 last), β 9])), (12, .init 11)] (by kernel_rfl) (by kernel_rfl) (by kernel_rfl) (by rfl) (by simp [apartK] <;> omega) (by simp [startK]) (by simp only [List.forall_mem_cons]; exact ⟨str_stab2 _ _ _ _ (by simp [boxes, Kind.boxed]), trivial, trivial, by simp⟩) (⟨fun i => if i = 9 then .slice (some ⟨0, 0, none⟩) data.size 0 else .pointer (some ⟨w2.heap.size, 0, none⟩), by simp only [List.forall_mem_cons]; exact ⟨⟨0, 0, rfl⟩, ⟨_, rfl, Nat.le_refl _⟩, trivial, by simp⟩⟩) (fun β hβ => ?_)
  obtain ⟨g9, c9, e9⟩ := (hβ 9 : SbP data.size (β 9))
  repeat (
    refine lex_val (v := ?_) rfl rfl (fun w' hf => ?_) ?_
    rotate_left
    · go_simp
      try rfl
    try simp only [Act.put, List.setIfInBounds_toArray, List.set_cons_zero, List.set_cons_succ])
  refine lex_made rfl rfl (fun w' hf => ?_) ?_
  · obtain ⟨u, w3, hrun, hsb, hsf, hbb⟩ := HSt.out w' hf.only.size
    exact ⟨u, w3, by go_simp, hsb, hsf, hbb⟩
  try simp only [Act.put, List.setIfInBounds_toArray, List.set_cons_zero, List.set_cons_succ]
  repeat (
    refine lex_val (v := ?_) rfl rfl (fun w' hf => ?_) ?_
    rotate_left
    · go_simp
      try rfl
    try simp only [Act.put, List.setIfInBounds_toArray, List.set_cons_zero, List.set_cons_succ])
  refine lex_alloc rfl rfl (fun w' => ?_) ?_
  · go_simp
  try simp only [Act.put, List.setIfInBounds_toArray, List.set_cons_zero, List.set_cons_succ]
  refine lex_init rfl rfl rfl (fun bl w' hb hf hB => ⟨_, ?_, (repl6 hB (.int .i64 kind) (.int .u8 (byteAt id last : Nat)) (.int .u8 0) (.slice P (numsT ns).length pc) (.string (id.extract 0 last)) (.slice (some ⟨g9, 0, none⟩) data.size c9)).as (by show _ = #[_, _, _, _, _, β 9]; rw [e9])⟩) ?_
  · obtain ⟨z0, z1, z2, z3, z4, z5⟩ := six hB
    obtain ⟨f0, f1, f2, f3, f4, f5⟩ := six_fr hB
    unfold put6
    go_simp
  try simp only [Act.put]
  refine lex_nil fun w3 he => ?_
  have he9 := (he.facts 9).2
  obtain ⟨bl, ebl, hbl, hB⟩ := he.facts 11
  replace hB : Blk w3 bl 66 #[.int .i64 kind, .int .u8 (byteAt id last : Nat), .int .u8 0, .slice P (numsT ns).length pc, .string (id.extract 0 last), β 9] := hB
  rw [e9] at hB he9
  have hb3 : Below w2.heap.size w2 w3 := he.only.below0
  have hD : RByt w3 (some ⟨g9, 0, none⟩) (natL data.data.toList) := by
    refine ⟨by simp, fun hn => ⟨⟨g9, 0, none⟩, rfl, ?_, fun j u hu => str_cell he9 j u (by rw [strCells_nat]; exact hu)⟩⟩
    obtain ⟨g', c', cur, fz, e', _, _, hg, _⟩ := he9
    injection e' with e' _ _
    injection e' with e'
    injection e' with e' _ _
    subst e'
    rcases Nat.lt_or_ge g9 w3.heap.size with h | h
    · exact h
    · rw [Array.getElem?_eq_none h] at hg; cases hg
  have HK3 := Lib.hid (K1.next HK2.out hb3); have HD3 := Lib.hid hD; have HP3 := Lib.hid ((OInts.reads HOwn.out).next hb3); have HBl := Lib.hid hB
  have HPc : Hid ((numsT ns).length ≤ pc) := Lib.hid (own_cap (oints_own HOwn.out))
  have HNe : Hid (w.heap.size ≠ bl) := Lib.hid (by have := HK2.out.1.lt; omega)
  have HBlw : Hid (w.heap.size < bl) := Lib.hid (by have := HK2.out.1.lt; omega)
  have HPb : Hid (∀ ad, P = some ad → w.heap.size < ad.block ∧ ad.block < bl) := Lib.hid (fun ad e => by
    have h := World.ownsRow.lt (oints_own HOwn.out) ad.block (by rw [e]; rfl)
    have := HK1s.out
    omega)
  have HNg : Hid (g9 ≠ bl) := Lib.hid (by
    obtain ⟨g', c', cur, fz, e', hb', hf', hg', _⟩ := he9
    injection e' with e' _ _
    injection e' with e'
    injection e' with e' _ _
    subst e'
    intro e
    subst e
    have hB2 := hB
    unfold Blk at hB2
    rw [hg'] at hB2
    injection hB2 with hB2
    injection hB2 with _ _ h3
    exact hf' h3)
  have HWb : Hid (w.heap.size < w2.heap.size) := Lib.hid HK2.out.1.lt
  have HWg : Hid (g9 ≠ w.heap.size) := Lib.hid (by
    obtain ⟨g', c', cur, fz, e', hb', _⟩ := he9
    injection e' with e' _ _
    injection e' with e'
    injection e' with e' _ _
    subst e'
    have := HK2.out.1.lt
    omega)
  generalize β 11 = b11 at *
  subst ebl
  clear he hβ hB hb3 hD he9 e9
  obtain ⟨a0, a1, a2, a3, a4, a5⟩ := six HBl.out
  obtain ⟨f0, f1, f2, f3, f4, f5⟩ := six_fr HBl.out
  have hsz : (id.extract 0 last).size = last := by rw [ext_size id 0 last hle]; omega
  have HRes : Hid (∀ (W : World) (v0 v1 v2 v3 v4 v5 : Value), K1 w 66 #[.int .i64 0, .int .u8 0, .int .u8 0, .slice none 0 0, .string ⟨#[]⟩, .slice none 0 0] W → K1 w 66 #[v0, v1, v2, v3, v4, v5] (put6 W w.heap.size v0 v1 v2 v3 v4 v5)) := Lib.hid (fun W v0 v1 v2 v3 v4 v5 h => ⟨(repl6 h.1 v0 v1 v2 v3 v4 v5).here, by unfold put6; exact (((((h.2.setCell (by simp) _).setCell (by simp) _).setCell (by simp) _).setCell (by simp) _).setCell (by simp) _).setCell (by simp) _⟩)
  by_cases hm : markedB id = true
  · have hm2 := hm
    unfold markedB at hm2
    rw [Bool.and_eq_true, decide_eq_true_iff] at hm2
    obtain ⟨hs1, hmk⟩ := hm2
    have hl1 : 0 < last := by have := HLast.out; omega
    have hM : tkM id = byteAt id 0 := by unfold tkM; rw [if_pos hm]
    have hS : tkS id = id.extract 1 last := by unfold tkS; rw [if_pos hm, ← HLast.out]
    have hx2 : (id.extract 0 last).extract 1 (id.extract 0 last).size = id.extract 1 last := by
      have := ext_ext id
      rwa [← HLast.out] at this
    have hat := ext_at id last hl1 hle
    have HMS := Lib.hid (And.intro hM hS)
    rw [hmk] at HMk
    generalize id.extract 0 last = sp at *
    rw [hsz] at hx2
    have hps : 0 < sp.size := by omega
    have hi0 := byteAt_get sp 0 hps
    rw [hat] at hi0
    have hne2 : sp.toList.isEmpty = false := by
      have h : (sp.toList == (ByteArray.mk #[]).toList) = false := by rw [str_nil]; exact decide_eq_false (by omega)
      rw [show (ByteArray.mk #[]).toList = [] from by rw [ByteArray.toList_eq]] at h
      cases hq : sp.toList with
      | nil => rw [hq] at h; cases h
      | cons x xs => rfl
    have hps1 : 1 ≤ sp.size := hps
    clear hm hs1 hmk hM hS hat
    go_wp2_with fail
    refine (HMk.out _).mono ?_
    rintro e w4 ⟨rfl, rfl⟩
    go_upto_region 7 with fail
    have hb4 : Blk ((w3.setCell ⟨bl, 2, none⟩ (.int .u8 (byteAt id 0 : Nat))).setCell ⟨bl, 4, none⟩ (.string (id.extract 1 last))).drew bl 66 #[.int .i64 kind, .int .u8 (byteAt id last : Nat), .int .u8 (byteAt id 0 : Nat), .slice P (numsT ns).length pc, .string (id.extract 1 last), .slice (some ⟨g9, 0, none⟩) data.size c9] := (HBl.out.set_ 2 _).set_ 4 _
    have hk4 : K1 w 66 #[.int .i64 0, .int .u8 0, .int .u8 0, .slice none 0 0, .string ⟨#[]⟩, .slice none 0 0] ((w3.setCell ⟨bl, 2, none⟩ (.int .u8 (byteAt id 0 : Nat))).setCell ⟨bl, 4, none⟩ (.string (id.extract 1 last))).drew := ⟨Blk.far (Blk.far HK3.out.1 HNe.out _) HNe.out _, ((HK3.out.2.setCell (by have := HBlw.out; show _ ≤ bl; omega) _).setCell (by have := HBlw.out; show _ ≤ bl; omega) _).drew⟩
    have hP4 : RInts ((w3.setCell ⟨bl, 2, none⟩ (.int .u8 (byteAt id 0 : Nat))).setCell ⟨bl, 4, none⟩ (.string (id.extract 1 last))).drew P (numsT ns) := (HP3.out.store ⟨bl, 2, none⟩ (fun ad e => by have := HPb.out ad e; show ad.block ≠ bl; omega) _).store ⟨bl, 4, none⟩ (fun ad e => by have := HPb.out ad e; show ad.block ≠ bl; omega) _
    have hD4 : RByt ((w3.setCell ⟨bl, 2, none⟩ (.int .u8 (byteAt id 0 : Nat))).setCell ⟨bl, 4, none⟩ (.string (id.extract 1 last))).drew (some ⟨g9, 0, none⟩) (natL data.data.toList) := rbyt_far (rbyt_far HD3.out ⟨bl, 2, none⟩ HNg.out _) ⟨bl, 4, none⟩ HNg.out _
    go_region
    all_goals
      generalize ((w3.setCell ⟨bl, 2, none⟩ (.int .u8 (byteAt id 0 : Nat))).setCell ⟨bl, 4, none⟩ (.string (id.extract 1 last))).drew = W4 at *
      have HB4 := Lib.hid hb4; have HK4 := Lib.hid hk4; have HP4 := Lib.hid hP4; have HD4 := Lib.hid hD4
      clear hb4 hk4 hP4 hD4 a0 a1 a2 a3 a4 a5 f0 f1 f2 f3 f4 f5
      obtain ⟨a0, a1, a2, a3, a4, a5⟩ := six HB4.out
      obtain ⟨f0, f1, f2, f3, f4, f5⟩ := six_fr HK4.out.1
      obtain ⟨z0, z1, z2, z3, z4, z5⟩ := six HK4.out.1
      have HK5 := Lib.hid (HRes.out W4 (.int .i64 kind) (.int .u8 (byteAt id last : Nat)) (.int .u8 (byteAt id 0 : Nat)) (.slice P (numsT ns).length pc) (.string (id.extract 1 last)) (.slice (some ⟨g9, 0, none⟩) data.size c9) HK4.out)
      have HP5 : Hid (RInts (put6 W4 w.heap.size (.int .i64 kind) (.int .u8 (byteAt id last : Nat)) (.int .u8 (byteAt id 0 : Nat)) (.slice P (numsT ns).length pc) (.string (id.extract 1 last)) (.slice (some ⟨g9, 0, none⟩) data.size c9)) P (numsT ns)) := Lib.hid (rints_put HP4.out w.heap.size (fun ad e => by have := HPb.out ad e; have := HWb.out; omega) _ _ _ _ _ _)
      have HD5 : Hid (RByt (put6 W4 w.heap.size (.int .i64 kind) (.int .u8 (byteAt id last : Nat)) (.int .u8 (byteAt id 0 : Nat)) (.slice P (numsT ns).length pc) (.string (id.extract 1 last)) (.slice (some ⟨g9, 0, none⟩) data.size c9)) (some ⟨g9, 0, none⟩) (natL data.data.toList)) := Lib.hid (rbyt_put HD4.out w.heap.size HWg.out _ _ _ _ _ _)
      have hdl : (natL data.data.toList).length = data.size := by rw [natL_len, dlen]
      have HFin : Hid (Tkn (put6 W4 w.heap.size (.int .i64 kind) (.int .u8 (byteAt id last : Nat)) (.int .u8 (byteAt id 0 : Nat)) (.slice P (numsT ns).length pc) (.string (id.extract 1 last)) (.slice (some ⟨g9, 0, none⟩) data.size c9)) (.returned (.agg #[.int .i64 kind, .int .u8 (byteAt id last : Nat), .int .u8 (byteAt id 0 : Nat), .slice P (numsT ns).length pc, .string (id.extract 1 last), .slice (some ⟨g9, 0, none⟩) data.size c9])) kind (byteAt id last) (tkM id) (numsT ns) (tkS id) (natL data.data.toList)) := Lib.hid ⟨P, pc, some ⟨g9, 0, none⟩, c9, by rw [HMS.out.1, HMS.out.2]; unfold tkC; rw [hdl], HP5.out, HPc.out, HD5.out⟩
      clear hdl
      obtain ⟨e0, e1, e2, e3, e4, e5⟩ := six HK5.out.1
      unfold put6 at HFin HK5 e0 e1 e2 e3 e4 e5
      go_upto_region 8 with fail
      repeat go_step
      exact bodyPost_ret (v := .agg #[.int .i64 kind, .int .u8 (byteAt id last : Nat), .int .u8 (byteAt id 0 : Nat), .slice P (numsT ns).length pc, .string (id.extract 1 last), .slice (some ⟨g9, 0, none⟩) data.size c9]) (by simp [results, Tryz.results58, go_sem, e0, e1, e2, e3, e4, e5]) rfl ⟨HFin.out, HK5.out.2⟩
  · have hM : tkM id = 0 := by unfold tkM; rw [if_neg hm]
    have hS : tkS id = id.extract 0 last := by unfold tkS; rw [if_neg hm, ← HLast.out]
    by_cases hl0 : last = 0
    · have hem : (id.extract 0 last).toList.isEmpty = true := by
        have h : ((id.extract 0 last).toList == (ByteArray.mk #[]).toList) = true := by rw [str_nil]; exact decide_eq_true (by rw [hsz]; exact hl0)
        rw [show (ByteArray.mk #[]).toList = [] from by rw [ByteArray.toList_eq]] at h
        cases hq : (id.extract 0 last).toList with
        | nil => rfl
        | cons x xs => rw [hq] at h; cases h
      have HK5 := Lib.hid (HRes.out w3 (.int .i64 kind) (.int .u8 (byteAt id last : Nat)) (.int .u8 0) (.slice P (numsT ns).length pc) (.string (id.extract 0 last)) (.slice (some ⟨g9, 0, none⟩) data.size c9) HK3.out)
      have HP5 : Hid (RInts (put6 w3 w.heap.size (.int .i64 kind) (.int .u8 (byteAt id last : Nat)) (.int .u8 0) (.slice P (numsT ns).length pc) (.string (id.extract 0 last)) (.slice (some ⟨g9, 0, none⟩) data.size c9)) P (numsT ns)) := Lib.hid (rints_put HP3.out w.heap.size (fun ad e => by have := HPb.out ad e; have := HWb.out; omega) _ _ _ _ _ _)
      have HD5 : Hid (RByt (put6 w3 w.heap.size (.int .i64 kind) (.int .u8 (byteAt id last : Nat)) (.int .u8 0) (.slice P (numsT ns).length pc) (.string (id.extract 0 last)) (.slice (some ⟨g9, 0, none⟩) data.size c9)) (some ⟨g9, 0, none⟩) (natL data.data.toList)) := Lib.hid (rbyt_put HD3.out w.heap.size HWg.out _ _ _ _ _ _)
      have hdl : (natL data.data.toList).length = data.size := by rw [natL_len, dlen]
      have HFin : Hid (Tkn (put6 w3 w.heap.size (.int .i64 kind) (.int .u8 (byteAt id last : Nat)) (.int .u8 0) (.slice P (numsT ns).length pc) (.string (id.extract 0 last)) (.slice (some ⟨g9, 0, none⟩) data.size c9)) (.returned (.agg #[.int .i64 kind, .int .u8 (byteAt id last : Nat), .int .u8 0, .slice P (numsT ns).length pc, .string (id.extract 0 last), .slice (some ⟨g9, 0, none⟩) data.size c9])) kind (byteAt id last) (tkM id) (numsT ns) (tkS id) (natL data.data.toList)) := Lib.hid ⟨P, pc, some ⟨g9, 0, none⟩, c9, by rw [hM, hS]; unfold tkC; rw [hdl]; rfl, HP5.out, HPc.out, HD5.out⟩
      clear hdl f0 f1 f2 f3 f4 f5
      obtain ⟨f0, f1, f2, f3, f4, f5⟩ := six_fr HK3.out.1
      obtain ⟨z0, z1, z2, z3, z4, z5⟩ := six HK3.out.1
      obtain ⟨e0, e1, e2, e3, e4, e5⟩ := six HK5.out.1
      unfold put6 at HFin HK5 e0 e1 e2 e3 e4 e5
      clear hm hM hS hl0
      generalize id.extract 0 last = sp at *
      go_upto_region 8 with fail
      repeat go_step
      exact bodyPost_ret (v := .agg #[.int .i64 kind, .int .u8 (byteAt id last : Nat), .int .u8 0, .slice P (numsT ns).length pc, .string sp, .slice (some ⟨g9, 0, none⟩) data.size c9]) (by simp [results, Tryz.results58, go_sem, e0, e1, e2, e3, e4, e5]) rfl ⟨HFin.out, HK5.out.2⟩
    · have hne2 : (id.extract 0 last).toList.isEmpty = false := by
        have h : ((id.extract 0 last).toList == (ByteArray.mk #[]).toList) = false := by rw [str_nil]; exact decide_eq_false (by rw [hsz]; exact hl0)
        rw [show (ByteArray.mk #[]).toList = [] from by rw [ByteArray.toList_eq]] at h
        cases hq : (id.extract 0 last).toList with
        | nil => rw [hq] at h; cases h
        | cons x xs => rfl
      have hmk : markN (byteAt id 0) = false := by
        cases hq : markN (byteAt id 0)
        · rfl
        · exfalso
          apply hm
          unfold markedB
          rw [hq, decide_eq_true (by have := HLast.out; omega)]
          rfl
      rw [hmk] at HMk
      have hat := ext_at id last (by omega) hle
      have hps : 0 < (id.extract 0 last).size := by omega
      have hi0 := byteAt_get (id.extract 0 last) 0 hps
      rw [hat] at hi0
      have HK5 := Lib.hid (HRes.out w3 (.int .i64 kind) (.int .u8 (byteAt id last : Nat)) (.int .u8 0) (.slice P (numsT ns).length pc) (.string (id.extract 0 last)) (.slice (some ⟨g9, 0, none⟩) data.size c9) HK3.out)
      have HP5 : Hid (RInts (put6 w3 w.heap.size (.int .i64 kind) (.int .u8 (byteAt id last : Nat)) (.int .u8 0) (.slice P (numsT ns).length pc) (.string (id.extract 0 last)) (.slice (some ⟨g9, 0, none⟩) data.size c9)) P (numsT ns)) := Lib.hid (rints_put HP3.out w.heap.size (fun ad e => by have := HPb.out ad e; have := HWb.out; omega) _ _ _ _ _ _)
      have HD5 : Hid (RByt (put6 w3 w.heap.size (.int .i64 kind) (.int .u8 (byteAt id last : Nat)) (.int .u8 0) (.slice P (numsT ns).length pc) (.string (id.extract 0 last)) (.slice (some ⟨g9, 0, none⟩) data.size c9)) (some ⟨g9, 0, none⟩) (natL data.data.toList)) := Lib.hid (rbyt_put HD3.out w.heap.size HWg.out _ _ _ _ _ _)
      have hdl : (natL data.data.toList).length = data.size := by rw [natL_len, dlen]
      have HFin : Hid (Tkn (put6 w3 w.heap.size (.int .i64 kind) (.int .u8 (byteAt id last : Nat)) (.int .u8 0) (.slice P (numsT ns).length pc) (.string (id.extract 0 last)) (.slice (some ⟨g9, 0, none⟩) data.size c9)) (.returned (.agg #[.int .i64 kind, .int .u8 (byteAt id last : Nat), .int .u8 0, .slice P (numsT ns).length pc, .string (id.extract 0 last), .slice (some ⟨g9, 0, none⟩) data.size c9])) kind (byteAt id last) (tkM id) (numsT ns) (tkS id) (natL data.data.toList)) := Lib.hid ⟨P, pc, some ⟨g9, 0, none⟩, c9, by rw [hM, hS]; unfold tkC; rw [hdl]; rfl, HP5.out, HPc.out, HD5.out⟩
      clear hdl f0 f1 f2 f3 f4 f5
      obtain ⟨f0, f1, f2, f3, f4, f5⟩ := six_fr HK3.out.1
      obtain ⟨z0, z1, z2, z3, z4, z5⟩ := six HK3.out.1
      obtain ⟨e0, e1, e2, e3, e4, e5⟩ := six HK5.out.1
      unfold put6 at HFin HK5 e0 e1 e2 e3 e4 e5
      clear hm hM hS hl0 hmk hat
      generalize id.extract 0 last = sp at *
      go_wp2_with fail
      refine (HMk.out _).mono ?_
      rintro e w4 ⟨rfl, rfl⟩
      go_upto_region 8 with fail
      repeat go_step
      exact bodyPost_ret (v := .agg #[.int .i64 kind, .int .u8 (byteAt id last : Nat), .int .u8 0, .slice P (numsT ns).length pc, .string sp, .slice (some ⟨g9, 0, none⟩) data.size c9]) (by simp [results, Tryz.results58, go_sem, e0, e1, e2, e3, e4, e5]) rfl ⟨HFin.out, HK5.out.2⟩
end Go.Proofs.YtfnamfkjbkhgeaaGreatDoor

namespace Go.Proofs.YtfnamfkjbkhgeaaGreatDoor

open Go Go.RowKit

theorem obyt_mono {w : World} {b b' : Nat} {v : Value} {l : List Nat} (h : OByt w b v l) (hb : b' ≤ b) : OByt w b' v l := by
  refine ⟨h.1, ?_⟩
  rcases h.2 with h | ⟨g, cap, cur, hv, hg, r⟩
  · exact .inl h
  · exact .inr ⟨g, cap, cur, hv, Nat.le_trans hb hg, r⟩
/-- A token's bytes; nothing, if it can't be. -/
def wrtL (k : Int) (c m : Nat) (ps : List Int) (s : ByteArray) (dt : List Nat) (eight : Bool) : List Nat := if checkP k c m ps s dt = 0 then bytesL k c m ps s dt eight else []
/-- Bytes of its own that a call answers. -/
def Gives (w w' : World) (e : Ending) (l : List Nat) : Prop := ∃ v, e = .returned v ∧ OByt w' w.heap.size v l
set_option maxRecDepth 100000 in
set_option maxHeartbeats 4000000 in
theorem wrt_any (k : Int) (c m : Nat) (P : Option Addr) (ps : List Int) (pc : Nat) (s : ByteArray) (D : Option Addr) (dt : List Nat) (dc : Nat) (hc : c < 256) (hsz : s.size ≤ maxLen) (hp : ps.length ≤ maxLen) (hpc : ps.length ≤ pc) (hd : dt.length ≤ maxLen) (eight : Bool) (w : World) (ht : Ten w) (hr : RInts w P ps) (hb : RByt w D dt) :
    Calls Tryz.prog 57 #[.agg (tkC k (c : Int) (m : Int) P ps pc s D dt dc), .bool eight] w fun e w' => Gives w w' e (wrtL k c m ps s dt eight) ∧ Below w.heap.size w w' := by
  have HB := Lib.hid (fun W t h1 h2 => bytes_any k c m P ps pc s D dt dc hc hsz hp hpc hd eight W t h1 h2)
  have HK := Lib.hid (K1.start w 66 (tkC k (c : Int) (m : Int) P ps pc s D dt dc))
  have HT := Lib.hid (ht.next HK.out.2); have HR := Lib.hid (hr.next HK.out.2); have HD := Lib.hid (hb.next HK.out.2)
  unfold wrtL
  unfold BytesR at HB
  clear ht hr hb hc hsz hp hpc hd
  generalize checkP k c m ps s dt = q at *
  generalize bytesL k c m ps s dt eight = bl at *
  obtain ⟨X, hX⟩ : ∃ X, X = if q = 0 then bl else [] := ⟨_, rfl⟩
  rw [← hX]
  have HX := Lib.hid hX
  clear hX
  unfold tkC at *
  obtain ⟨a0, a1, a2, a3, a4, a5⟩ := six HK.out.1
  go_enter Tryz.func57, Tryz.ntmps57
  go_wp2_with fail
  refine (HB.out _ HT.out HR.out HD.out).mono ?_
  rintro e w1 ⟨hR, hb1⟩
  have HB1 := Lib.hid (HK.out.2.trans (hb1.mono HK.out.2.size)); have HS := Lib.hid HK.out.2.size
  clear hb1 a0 a1 a2 a3 a4 a5 HK
  rcases hR with ⟨hq, rfl⟩ | ⟨hq, v, rfl, hv⟩
  · have HE : Hid (X = []) := Lib.hid (by rw [HX.out, if_neg hq])
    clear hq
    go_wp2_with fail
    go_ret
    exact ⟨⟨_, rfl, by rw [HE.out]; exact obyt_nil _ _⟩, HB1.out⟩
  · have HE : Hid (X = bl) := Lib.hid (by rw [HX.out, if_pos hq])
    have HV := Lib.hid (obyt_mono hv (Nat.le_trans HS.out (Nat.le_succ _)))
    clear hq hv
    go_wp2_with fail
    go_ret
    exact ⟨⟨v, rfl, by rw [HE.out]; exact HV.out⟩, HB1.out⟩
theorem ba_empty {s : ByteArray} (h : s.size = 0) : s = ⟨#[]⟩ := by
  have := ByteArray.size_eq_zero_iff.1 h
  exact this
theorem wrt_none (dt : List Nat) (eight : Bool) : wrtL 0 0 0 [] ⟨#[]⟩ dt eight = [] := by
  have h : checkP 0 0 0 [] ⟨#[]⟩ dt = 1 := if_pos (Or.inl (by decide))
  unfold wrtL
  rw [h]
  rfl
/-- A token of an id. -/
theorem sequence_any (kind : Int) (id data : ByteArray) (A : Option Addr) (c : Nat) (ns : List Int) (hl : ns.length ≤ maxLen) (hc : ns.length ≤ c) (hi2 : id.size ≤ maxLen) (w : World) (ht : Ten w) (hr : RInts w A ns) :
    Calls Tryz.prog 58 #[.int .i64 kind, .string id, .string data, .slice A ns.length c] w fun e w' => (∃ (k : Int) (cc m : Nat) (ps : List Int) (s : ByteArray) (dt : List Nat), Tkn w' e k cc m ps s dt ∧ cc < 256 ∧ s.size ≤ id.size ∧ ps.length ≤ 30 ∧ dt.length ≤ data.size ∧ ∀ eight, wrtL k cc m ps s dt eight = repL kind id data ns eight) ∧ Below w.heap.size w w' := by
  by_cases h : id.size = 0
  · obtain rfl := ba_empty h
    refine (seq_none kind data _ w).mono fun e w' ⟨h1, h2⟩ => ⟨⟨0, 0, 0, [], ⟨#[]⟩, [], h1, by omega, by simp, by simp, by simp, fun eight => ?_⟩, h2⟩
    rw [wrt_none]
    rfl
  · refine (seq_some kind id data A c ns hl hc (by omega) hi2 w ht hr).mono fun e w' ⟨h1, h2⟩ => ⟨⟨kind, _, _, _, _, _, h1, byteAt_lt _ _, ?_, nums_len ns, by rw [natL_len, dlen]; exact Nat.le_refl _, fun eight => ?_⟩, h2⟩
    · unfold tkS; rw [ByteArray.size_extract]; omega
    · unfold repL
      rw [if_neg h]
      rfl

set_option maxRecDepth 100000 in
set_option maxHeartbeats 4000000 in
theorem dcs_any (eight : Bool) (id data : ByteArray) (A : Option Addr) (c : Nat) (ns : List Int) (hl : ns.length ≤ maxLen) (hc : ns.length ≤ c) (hi2 : id.size ≤ maxLen) (hd2 : data.size ≤ maxLen) (w : World) (ht : Ten w) (hr : RInts w A ns) :
    Calls Tryz.prog 20 #[.bool eight, .string id, .string data, .slice A ns.length c] w fun e w' => Gives w w' e (repL 5 id data ns eight) ∧ Below w.heap.size w w' := by
  have HS := Lib.hid (fun W t h => sequence_any 5 id data A c ns hl hc hi2 W t h)
  have HT := Lib.hid ht; have HR := Lib.hid hr
  have HW := Lib.hid @wrt_any
  have HI := Lib.hid (And.intro hi2 hd2)
  clear ht hr hl hc hi2 hd2
  generalize repL 5 id data ns = rl at *
  go_enter Tryz.func20, Tryz.ntmps20
  go_wp2_with fail
  refine (HS.out _ HT.out HR.out).mono ?_
  rintro e w1 ⟨⟨k, cc, m, ps, s, dt, ⟨P, pc, D, dc, rfl, hp, hpc, hd⟩, h1, h2, h3, h4, h5⟩, hb1⟩
  have HB1 := Lib.hid hb1; have HW1 := Lib.hid (HW.out k cc m P ps pc s D dt dc h1 (by have := HI.out; omega) (by unfold maxLen; omega) hpc (by have := HI.out; omega) eight w1 (HT.out.next hb1) hp hd)
  rw [h5] at HW1
  clear hb1 hp hd hpc h1 h2 h3 h4 h5
  unfold tkC at *
  go_wp2_with fail
  refine HW1.out.mono ?_
  rintro e w2 ⟨⟨v, rfl, hv⟩, hb2⟩
  have HB2 := Lib.hid (HB1.out.trans (hb2.mono HB1.out.size)); have HV := Lib.hid (obyt_mono hv HB1.out.size)
  clear hb2 hv
  go_wp2_with fail
  go_ret
  exact ⟨⟨v, rfl, HV.out⟩, HB2.out⟩
end Go.Proofs.YtfnamfkjbkhgeaaGreatDoor

namespace Go.Proofs.YtfnamfkjbkhgeaaGreatDoor

open Go Go.RowKit

theorem owns_far {w : World} {base size n : Nat} {e : TypeId} {v : Value} {xs : List Value} (h : w.ownsRow base e size v n xs) (g : Nat) (hne : v.ownBlock ≠ some g) (o : Nat) (u : Value) : (w.setCell ⟨g, o, none⟩ u).ownsRow base e size v n xs :=
  World.ownsRow.kept (row := some g) h ⟨rfl, rfl, rfl, by simp [World.setCell], fun k _ hk => Below.heap_setCell w _ u k (by simpa using hk)⟩ (.inr hne)


theorem rbyt_low {w w' : World} {A : Option Addr} {l : List Nat} {B : Nat} (h : RByt w A l) (hb : Below B w w') (hA : ∀ ad, A = some ad → ad.block < B) : RByt w' A l := by
  refine ⟨h.1, fun hn => ?_⟩
  obtain ⟨ad, e, hlt, hc⟩ := h.2 hn
  refine ⟨ad, e, Nat.lt_of_lt_of_le hlt hb.size, fun j v hv => ?_⟩
  rw [hb.cell (by rw [block_of_add]; exact hA ad e)]
  exact hc j v hv
theorem rbyt_store {w : World} {A : Option Addr} {l : List Nat} (h : RByt w A l) (p : Addr) (hA : ∀ ad, A = some ad → ad.block ≠ p.block) (u : Value) : RByt (w.setCell p u) A l := by
  refine ⟨h.1, fun hn => ?_⟩
  obtain ⟨ad, e, hb, hc⟩ := h.2 hn
  refine ⟨ad, e, by simpa [World.setCell] using hb, fun j v hv => ?_⟩
  rw [World.cell?_setCell_other w p _ u (fun e' => hA ad e (by rw [e', block_of_add]))]
  exact hc j v hv



theorem form3 {w : World} {base : Nat} {v : Value} {ns : List Int} (h : OInts w base v ns) : ∃ A n c, v = .slice A n c := by
  obtain ⟨A, c, e⟩ := h.form
  exact ⟨A, _, c, e⟩
theorem clip_ways (n : Int) : (decide (n < 0) = true ∧ clip65 n = 0) ∨ (decide (n < 0) = false ∧ decide (65535 < n) = true ∧ clip65 n = 65535) ∨ (decide (n < 0) = false ∧ decide (65535 < n) = false ∧ clip65 n = n) := by
  unfold clip65 clipP
  simp only [decide_eq_true_iff, decide_eq_false_iff_not]
  omega

end Go.Proofs.YtfnamfkjbkhgeaaGreatDoor

namespace Go.Proofs.YtfnamfkjbkhgeaaGreatDoor

open Go Go.RowKit

theorem gives_back {w w1 w2 : World} {e : Ending} {l : List Nat} (h : Gives w1 w2 e l ∧ Below w1.heap.size w1 w2) (hb : Below w.heap.size w w1) : ∃ v, e = .returned v ∧ OByt w2 w.heap.size v l ∧ Below w.heap.size w w2 := by
  obtain ⟨⟨v, rfl, hv⟩, h2⟩ := h
  exact ⟨v, rfl, obyt_mono hv hb.size, hb.trans (h2.mono hb.size)⟩
def toldP (n : Int) : Int := min n 65535 + 1
def moreP (n : Int) : Int := if 65535 ≤ n then 65535 else n + 1
theorem told_more (n : Int) : clip65 (toldP n) = clip65 (moreP n) := by
  unfold clip65 clipP toldP moreP
  split <;> omega






end Go.Proofs.YtfnamfkjbkhgeaaGreatDoor

namespace Go.Proofs.YtfnamfkjbkhgeaaGreatDoor

open Go Go.RowKit

/-- Some elements more, out of a new block. -/
theorem wpList_pushM {P : Program} {ops : Array Oper} {rest : List Oper} {o : Oper} {a : Act} {Q : Exit → Act → World → Prop} {W : World} (hgd : o.guard = none) (s x : Operand) (t : TypeId)
    (ho : o.op = .call { callee := .builtin .append, args := #[s, x], argTypes := #[t, t] })
    (base : Nat) (e : TypeId) (z : Value) (size bytes : Nat) (ht : P.underlying t = some (.slice e)) (hinfo : (P.info? e).map (fun i => (i.zero, i.size, i.bytes)) = some (some z, size, bytes)) (hzs : z.cells.size = size) (hsz : 0 < size)
    (v : Value) (n : Nat) (xs : List Value) (hs : a.eval s = v) (hown : W.ownsRow base e size v n xs)
    (us : List Value) (m : Nat) (hul : us.length = m * size) (hu : ∀ u ∈ us, u.oneCell' = true) (cs : Array Value) (hcs : cs = us.toArray) (T : TypeId) (g c : Nat) (hg : g = W.heap.size) (hx : a.eval x = .slice (some ⟨g, 0, none⟩) m c)
    (h63 : n + m ≤ maxLen) (hbytes : (n + m) * bytes ≤ 140737488355328) (hbase : base ≤ W.heap.size)
    (h : ∀ v' w', w'.ownsRow base e size v' (n + m) (xs ++ us) → W.grownBy w' v.ownBlock → Below base W w' → wpList P ops Q rest (a.put o.dst v') w') : wpList P ops Q (o :: rest) a (W.alloc (.cells cs T)) := by
  obtain ⟨i, hi, hz, hsize, hby⟩ := info_parts hinfo
  subst hcs
  have hB : Below W.heap.size W (W.alloc (.cells us.toArray T)) := (Below.refl _ _).alloc (Nat.le_refl _) _
  refine wpList_append_own _ hgd s x t ho base e i z size bytes ht hi hz hsize hby hzs hsz v n xs hs (hown.alloc _) ⟨g, 0, none⟩ m c us hx hul (fun j u' hj => ?_) hu h63 hbytes (Nat.le_trans hbase hB.size) (fun v' w' h2 h3 _ => h v' w' h2 (grown_own hB h3) (below_own hown hbase hB h3))
  subst hg
  have hadd : (⟨W.heap.size, 0, none⟩ : Addr).add j = ⟨W.heap.size, j, none⟩ := by unfold Addr.add; split <;> simp_all
  rw [hadd, (Blk.new W T _).cell j]
  simpa using hj

theorem repL_nums {kind : Int} {id data : ByteArray} {a b : List Int} (h : numsT a = numsT b) : repL kind id data a = repL kind id data b := by funext e; unfold repL; rw [h]
theorem size_le {s : ByteArray} {n : Nat} (h : s.size = n) (hn : n ≤ 1000) : s.size ≤ maxLen := by unfold maxLen; omega




def firstL (k : Int) : List Int := if k = 1 then [1, 2] else [60 + k, 1, 2, 7, 8, 9] ++ (if 3 ≤ k then [18, 21] else []) ++ (if 4 ≤ k then [28, 29] else []) ++ (if k = 5 then [42, 44] else [])
theorem clip_first (n : Int) : (n ≤ 1 ∧ clipP n 1 5 = 1) ∨ (n = 2 ∧ clipP n 1 5 = 2) ∨ (n = 3 ∧ clipP n 1 5 = 3) ∨ (n = 4 ∧ clipP n 1 5 = 4) ∨ (n = 5 ∧ clipP n 1 5 = 5) ∨ (5 < n ∧ clipP n 1 5 = 5) := by
  unfold clipP
  omega
theorem oints_cap {w : World} {base c : Nat} {A : Option Addr} {ns : List Int} (h : OInts w base (.slice A ns.length c) ns) : ns.length ≤ c := own_cap h


end Go.Proofs.YtfnamfkjbkhgeaaGreatDoor

namespace Go.Proofs.YtfnamfkjbkhgeaaGreatDoor
open Go Go.RowKit
set_option maxRecDepth 100000

theorem clip_in {n : Int} (h : 0 ≤ n ∧ n ≤ 65535) : clip65 n = n := by
  show clipP n 0 65535 = n
  unfold clipP
  omega
theorem out_in {ns : List Int} (h : ∀ n ∈ ns, 0 ≤ n ∧ n ≤ 65535) : ns.any outB = false := by
  rw [List.any_eq_false]
  intro n hn
  have := clip_in (h n hn)
  unfold clip65 at this
  unfold outB
  simp [this]
/-- The ids, each with its last byte and what is before it. -/
def setTab : List (ByteArray × Nat × ByteArray) := [(⟨#[109]⟩, 109, ⟨#[]⟩), (⟨#[114]⟩, 114, ⟨#[]⟩), (⟨#[115]⟩, 115, ⟨#[]⟩), (⟨#[34, 113]⟩, 113, ⟨#[34]⟩), (⟨#[34, 112]⟩, 112, ⟨#[34]⟩), (⟨#[42, 120]⟩, 120, ⟨#[42]⟩), (⟨#[116]⟩, 116, ⟨#[]⟩), (⟨#[36, 124]⟩, 124, ⟨#[36]⟩), (⟨#[36, 126]⟩, 126, ⟨#[36]⟩), (⟨#[36, 125]⟩, 125, ⟨#[36]⟩)]
theorem set_const : ∀ r ∈ setTab, natL r.1.data.toList = natL r.2.2.data.toList ++ [r.2.1] ∧ smallB [] r.2.2 [] = true ∧ (pureB 4 r.2.1 0 [] r.2.2 [] && (codedB 4 r.2.1 r.2.2 && writtenB 0 r.2.2 [])) = true ∧ ((natL r.1.data.toList).all fun n => decide (32 ≤ n) && decide (n ≤ 126)) = true ∧ r.1.size ≤ 2 ∧ r.2.2.size ≤ 1 ∧ r.2.1 < 256 := by
  intro r hr
  simp only [setTab, List.mem_cons, List.not_mem_nil, or_false] at hr
  rcases hr with rfl | rfl | rfl | rfl | rfl | rfl | rfl | rfl | rfl | rfl <;> decide +kernel
theorem set_check {r : ByteArray × Nat × ByteArray} (hr : r ∈ setTab) {ns : List Int} (hl : ns.length ≤ 30) (h : ∀ n ∈ ns, 0 ≤ n ∧ n ≤ 65535) : checkP 4 r.2.1 0 ns r.2.2 [] = 0 := by
  obtain ⟨_, hs0, hc, _⟩ := set_const r hr
  have hs : smallB ns r.2.2 [] = true := by
    unfold smallB at hs0 ⊢
    rw [out_in h, decide_eq_true hl]
    simpa using hs0
  have hp : pureB 4 r.2.1 0 ns r.2.2 [] = pureB 4 r.2.1 0 [] r.2.2 [] := rfl
  unfold checkP
  rw [if_neg (by decide), hs, hp, hc]
  rfl
theorem set_id {r : ByteArray × Nat × ByteArray} (hr : r ∈ setTab) : idP 4 r.2.1 0 r.2.2 = r.1 := by
  unfold idP
  rw [if_pos (by decide)]
  unfold signsL
  rw [if_pos rfl, fmt_nil]
  show bstr (natL r.2.2.data.toList ++ [r.2.1]) = r.1
  rw [← (set_const r hr).1]
  exact bstr_natL r.1
/-- The bytes of a setting. -/
def setS (ns : List Int) (id : ByteArray) : ByteArray := bytesOf (fmtL ns) ++ id
theorem set_nat (ns : List Int) (id : ByteArray) : natL (setS ns id).data.toList = natL (fmtL ns) ++ natL id.data.toList := by
  unfold setS
  rw [ByteArray.data_append, Array.toList_append]
  show List.map _ _ = _
  rw [List.map_append]
  rfl
theorem set_read {r : ByteArray × Nat × ByteArray} (hr : r ∈ setTab) {ns : List Int} (hl : ns.length ≤ 30) (h : ∀ n ∈ ns, 0 ≤ n ∧ n ≤ 65535) : feedL ps0 (27 :: 91 :: natL (setS ns r.1).data.toList) = (ps0, [⟨4, r.2.1, 0, ns, r.2.2, []⟩]) := by
  have hb : 27 :: 91 :: natL (setS ns r.1).data.toList = bytesL 4 r.2.1 0 ns r.2.2 [] false := by
    rw [set_nat, (set_const r hr).1]
    unfold bytesL
    rw [if_neg (by decide), if_neg (by decide), if_pos (by decide), if_pos rfl]
    unfold signsL
    rw [if_pos rfl]
    show _ = [27, 91] ++ _ ++ []
    simp
  rw [hb, feed_tok (set_check hr hl h) (by simp) false]
theorem set_size {r : ByteArray × Nat × ByteArray} (hr : r ∈ setTab) (ns : List Int) : (setS ns r.1).size ≤ 182 := by
  have h1 := fmt_len ns
  have h2 := (set_const r hr).2.2.2.2.1
  have h3 : (setS ns r.1).data.toList.length = (fmtL ns).length + r.1.data.toList.length := by
    have := congrArg List.length (set_nat ns r.1)
    simpa [natL] using this
  rw [dlen, dlen] at h3
  omega
theorem set_data {r : ByteArray × Nat × ByteArray} (hr : r ∈ setTab) (ns : List Int) : (natL (setS ns r.1).data.toList).any noDataB = false := by
  rw [List.any_eq_false]
  intro n hn
  have hin : 32 ≤ n ∧ n ≤ 126 := by
    rw [set_nat] at hn
    rcases List.mem_append.1 hn with hn | hn
    · have := fmt_dig ns n hn; omega
    · have := List.all_eq_true.1 (set_const r hr).2.2.2.1 n hn
      simpa using this
  unfold noDataB
  have h1 : amongB n 32 126 = true := by unfold amongB; simp [hin.1, hin.2]
  rw [h1]
  simp
/-- What is told of a setting, read again. -/
theorem set_told {r : ByteArray × Nat × ByteArray} (hr : r ∈ setTab) (ns : List Int) : repL 5 ⟨#[36, 114]⟩ (setS ns r.1) [1] false = bytesL 5 114 0 [1] ⟨#[36]⟩ (natL (setS ns r.1).data.toList) false ∧ checkP 5 114 0 [1] ⟨#[36]⟩ (natL (setS ns r.1).data.toList) = 0 := by
  have hlen : (natL (setS ns r.1).data.toList).length ≤ 4096 := by
    show (List.map _ _).length ≤ _
    rw [List.length_map, dlen]
    have := set_size hr ns
    omega
  have hc : checkP 5 114 0 [1] ⟨#[36]⟩ (natL (setS ns r.1).data.toList) = 0 := by
    unfold checkP
    have hs : smallB [1] ⟨#[36]⟩ (natL (setS ns r.1).data.toList) = true := by
      unfold smallB
      rw [decide_eq_true hlen, show ([1] : List Int).any outB = false by decide +kernel]
      decide +kernel
    have hw : writtenB 0 ⟨#[36]⟩ (natL (setS ns r.1).data.toList) = true := by
      unfold writtenB
      rw [set_data hr ns]
      decide +kernel
    rw [if_neg (by decide), hs, hw, show pureB 5 114 0 [1] ⟨#[36]⟩ (natL (setS ns r.1).data.toList) = true from rfl, show codedB 5 114 ⟨#[36]⟩ = true by decide +kernel]
    rfl
  refine ⟨?_, hc⟩
  unfold repL
  have e1 : byteAt ⟨#[36, 114]⟩ ((ByteArray.mk #[36, 114]).size - 1) = 114 := by decide +kernel
  have e2 : tkM ⟨#[36, 114]⟩ = 0 := by decide +kernel
  have e3 : tkS ⟨#[36, 114]⟩ = ⟨#[36]⟩ := by kernel_rfl
  have e4 : numsT [1] = [1] := by decide +kernel
  rw [if_neg (by decide), e1, e2, e3, e4, if_pos hc]
theorem stNat_lt (s : ByteArray) : ∀ n ∈ natL s.data.toList, n < 256 := fun n hn => by
  obtain ⟨x, _, rfl⟩ := List.mem_map.1 hn
  exact UInt8.toNat_lt x
theorem set_again {r : ByteArray × Nat × ByteArray} (hr : r ∈ setTab) (ns : List Int) : feedL ps0 (repL 5 ⟨#[36, 114]⟩ (setS ns r.1) [1] false) = (ps0, [⟨5, 114, 0, [1], ⟨#[36]⟩, natL (setS ns r.1).data.toList⟩]) := by
  rw [(set_told hr ns).1, feed_tok (set_told hr ns).2 (stNat_lt _) false]
theorem rep_len (k : Int) (id data : ByteArray) (ns : List Int) (e : Bool) : (repL k id data ns e).length ≤ 4290 := by
  unfold repL
  split
  · simp
  · split
    · rename_i h
      have hcd : byteAt id (id.size - 1) < 256 := byteAt_lt _ _
      exact bys_len (t := ⟨k, _, _, _, _, _⟩) ⟨hcd, h, stNat_lt _⟩ e
    · simp
theorem rep_lt (k : Int) (id data : ByteArray) (ns : List Int) (e : Bool) : ∀ n ∈ repL k id data ns e, n < 256 := by
  intro n hn
  unfold repL at hn
  split at hn
  · cases hn
  · split at hn
    · rename_i h
      have hcd : byteAt id (id.size - 1) < 256 := byteAt_lt _ _
      exact bys_lt (t := ⟨k, _, _, _, _, _⟩) ⟨hcd, h, stNat_lt _⟩ e n hn
    · cases hn
/-- One token of a list of one's own, with its bytes. -/
theorem one_tokB {W : World} {base n : Nat} {A : Option Addr} {t : Tok} (h : OTks W base (.slice A 1 n) [t]) : ∃ g P p D d, A = some ⟨g, 0, none⟩ ∧ RByt W D t.dt ∧
    (W.cell? ⟨g, 0, none⟩ = some (.int .i64 t.kd) ∧ W.cell? ⟨g, 1, none⟩ = some (.int .u8 (t.cd : Int)) ∧ W.cell? ⟨g, 2, none⟩ = some (.int .u8 (t.mr : Int)) ∧ W.cell? ⟨g, 3, none⟩ = some (.slice P t.ps.length p) ∧ W.cell? ⟨g, 4, none⟩ = some (.string t.it) ∧ W.cell? ⟨g, 5, none⟩ = some (.slice D t.dt.length d)) := by
  obtain ⟨xs, h1, h2⟩ := h
  obtain ⟨g, cap, e, _⟩ := h1.form (by simp)
  cases e
  match xs, h2 with
  | [x], ⟨⟨P, p, D, d, e1, q1, q2⟩, _⟩ =>
    cases e1
    have c := fun j hj => h1.cellAt j hj
    exact ⟨g, P, p, D, d, rfl, OByt.reads q2, ⟨c 0 (by decide), c 1 (by decide), c 2 (by decide), c 3 (by decide), c 4 (by decide), c 5 (by decide)⟩⟩
/-- A text turned into bytes of its own. -/
theorem strF_by {B : Nat} {s : ByteArray} {g cap : Nat} {W : World} (h : StrF B s.size (Lib.strCells s) (.slice (some ⟨g, 0, none⟩) s.size cap) W) : RByt W (some ⟨g, 0, none⟩) (natL s.data.toList) := by
  refine ⟨by simp, fun _ => ⟨⟨g, 0, none⟩, rfl, ?_, fun j u hu => str_cell h j u (by rw [strCells_nat]; exact hu)⟩⟩
  obtain ⟨g', c', cur, fz, e', _, _, hg, _⟩ := h
  injection e' with e' _ _
  injection e' with e'
  injection e' with e' _ _
  subst e'
  rcases Nat.lt_or_ge g W.heap.size with h | h
  · exact h
  · rw [Array.getElem?_eq_none h] at hg; cases hg
theorem wpList_conv_str {ops : Array Oper} {rest : List Oper} {o : Oper} {a : Act} {w : World} {Q : Exit → Act → World → Prop} (hg : o.guard = none) (x : Operand) (ho : o.op = .convert 9 63 x) (s : ByteArray) (hx : a.eval x = .string s)
    (hk : ∀ g cap w', RByt w' (some ⟨g, 0, none⟩) (natL s.data.toList) → Below w.heap.size w w' → wpList Tryz.prog ops Q rest (a.put o.dst (.slice (some ⟨g, 0, none⟩) (natL s.data.toList).length cap)) w') : wpList Tryz.prog ops Q (o :: rest) a w := by
  obtain ⟨u, w', hr, ⟨g, cap, rfl⟩, hf, hb⟩ := str_made w.heap.size s w (Nat.le_refl _)
  have hl : (natL s.data.toList).length = s.size := by
    show (List.map _ _).length = _
    rw [List.length_map, dlen]
  have h := hk g cap w' (strF_by hf) hb
  rw [hl] at h
  exact Great.wpList_runTo hg o.dst rfl _ _ (exec_convert x _ _ ho hx hr) h
theorem csi_nat (s : ByteArray) : natL ((⟨#[27, 91]⟩ : ByteArray) ++ s).data.toList = 27 :: 91 :: natL s.data.toList := by
  rw [ByteArray.data_append, Array.toList_append]
  rfl
end Go.Proofs.YtfnamfkjbkhgeaaGreatDoor

namespace Go.Proofs.YtfnamfkjbkhgeaaGreatDoor
open Go Go.RowKit
set_option maxRecDepth 100000

theorem par_good : ∀ k, k < 32 → ((parK ((k : Nat) : Int) 5).all fun n => decide (0 ≤ n) && decide (n ≤ 65535)) = true ∧ (parK ((k : Nat) : Int) 5).length ≤ 30 ∧ parK ((k : Nat) : Int) 5 ≠ [] := by decide +kernel
theorem set_good {x : Co} {H W it il ib ir : Int} (h : FrOk x.f H W it il ib ir) {r : ByteArray × Nat × ByteArray} (hr : r ∈ setTab) : ∃ ns, stgL (clnP x H W it il ib ir) r.1.data.toList = some ns ∧ ns ≠ [] ∧ ns.length ≤ 10 ∧ ∀ n ∈ ns, 0 ≤ n ∧ n ≤ 65535 := by
  have hH := h.hH; have hW := h.hW; have hi := h.hi; have hj := h.hj
  simp only [setTab, List.mem_cons, List.not_mem_nil, or_false] at hr
  have b01 : ∀ b : Bool, 0 ≤ (b.toNat : Int) ∧ (b.toNat : Int) ≤ 1 := fun b => by cases b <;> decide
  have n01 : ∀ b : Bool, 0 ≤ neg b ∧ neg b ≤ 1 := fun b => by cases b <;> decide
  have c1 : ∀ v : Int, 1 ≤ clipP v 1 5 ∧ clipP v 1 5 ≤ 5 := fun v => by unfold clipP; omega
  have c2 : ∀ v : Int, 0 ≤ clipP v 0 2 ∧ clipP v 0 2 ≤ 2 := fun v => by unfold clipP; omega
  rcases hr with rfl | rfl | rfl | rfl | rfl | rfl | rfl | rfl | rfl | rfl
  · refine ⟨parK (x.K.rd % 32) 5, by simp [stgL, clnP], ?_⟩
    obtain ⟨k, hk, hk2⟩ : ∃ k : Nat, x.K.rd % 32 = k ∧ k < 32 := ⟨(x.K.rd % 32).toNat, by omega, by omega⟩
    rw [hk]
    obtain ⟨p1, p2, p3⟩ := par_good k hk2
    refine ⟨p3, ?_, fun n hn => ?_⟩
    · have := parK_len (k : Int) 5; omega
    · have := List.all_eq_true.1 p1 n hn
      simpa using this
  · exact ⟨[it + 1, ib], by simp [stgL, clnP], by simp, by simp, fun n hn => by simp at hn; omega⟩
  · exact ⟨[il + 1, ir], by simp [stgL, clnP], by simp, by simp, fun n hn => by simp at hn; omega⟩
  · exact ⟨[(x.K.kp.toNat : Int)], by simp [stgL, clnP], by simp, by simp, fun n hn => by have := b01 x.K.kp; simp at hn; omega⟩
  · exact ⟨[60 + clipP x.lv 1 5, neg x.eg], by simp [stgL, clnP], by simp, by simp, fun n hn => by have := c1 x.lv; have := n01 x.eg; simp at hn; omega⟩
  · exact ⟨[1 + neg x.st], by simp [stgL, clnP], by simp, by simp, fun n hn => by have := n01 x.st; simp at hn; omega⟩
  · exact ⟨[H], by simp [stgL, clnP], by simp, by simp, fun n hn => by simp at hn; omega⟩
  · exact ⟨[W], by simp [stgL, clnP], by simp, by simp, fun n hn => by simp at hn; omega⟩
  · exact ⟨[clipP x.su 0 2], by simp [stgL, clnP], by simp, by simp, fun n hn => by have := c2 x.su; simp at hn; omega⟩
  · exact ⟨[(x.bl.toNat : Int)], by simp [stgL, clnP], by simp, by simp, fun n hn => by have := b01 x.bl; simp at hn; omega⟩
/-- What the program says of a setting of a clean core. -/
theorem set_val {x : Co} {H W it il ib ir : Int} (h : FrOk x.f H W it il ib ir) {r : ByteArray × Nat × ByteArray} (hr : r ∈ setTab) : ∃ ns, stgV (clnP x H W it il ib ir) r.1 = .tuple #[.string (setS ns r.1), .bool true] ∧ ns ≠ [] ∧ ns.length ≤ 10 ∧ ∀ n ∈ ns, 0 ≤ n ∧ n ≤ 65535 := by
  obtain ⟨ns, h1, h2⟩ := set_good h hr
  refine ⟨ns, ?_, h2⟩
  unfold stgV
  rw [h1]
  rfl
end Go.Proofs.YtfnamfkjbkhgeaaGreatDoor
