/-
  What is answered as a sequence, plainly: a token of an id; its bytes. The walk of a mark.
  The walks of a token of an id, of its bytes, of sequences.
  The walks of a token's bytes, and of sequences and strings.
  The walks of the reference's sequences.
  The walks of the program's replies of numbers, and of the reference's.
  The walks of places, modes and the primary attributes, of both sides.
  The walk of hexadecimal digits.
  The walks of a character of G3 and of a checksum, of both sides.
  What is answered is never nothing; the fixed fact.
  The fixed fact of the reply's laws.
-/
import Derived.Test.YtnbbepkkedhhgaaGreatDoorTokY
import Derived.Test.YtnbbepkkedhhgaaGreatDoorParV
import Derived.Test.YtnbbepkkedhhgaaGreatDoorParP
import Derived.Laws.Strings2
import Derived.Deep.AppendLies
namespace Go.Proofs.YtnbbepkkedhhgaaGreatDoor

open Go Go.RowKit

/-- A byte of a text, as a number. -/
def byteAt (s : ByteArray) (k : Nat) : Nat := (s.data.toList.getD k 0).toNat
theorem byteAt_lt (s : ByteArray) (k : Nat) : byteAt s k < 256 := by unfold byteAt; exact UInt8.toNat_lt _
theorem byteAt_get (s : ByteArray) (k : Nat) (hk : k < s.size) : s[k].toNat = byteAt s k := by
  unfold byteAt
  rw [List.getD_eq_getElem?_getD, List.getElem?_eq_getElem (by rw [dlen]; exact hk), Option.getD_some, dat s k hk]
def markN (c : Nat) : Bool := decide (60 ≤ c) && decide (c ≤ 63)
def markedB (s : ByteArray) : Bool := decide (1 < s.size) && markN (byteAt s 0)
/-- The parts of a token of an id. -/
def tkM (s : ByteArray) : Nat := if markedB s then byteAt s 0 else 0
def tkS (s : ByteArray) : ByteArray := s.extract (if markedB s then 1 else 0) (s.size - 1)
def numsT (ns : List Int) : List Int := (ns.take 30).map clip65
/-- The bytes of a sequence; nothing, if there is none such. -/
def repL (kind : Int) (id data : ByteArray) (ns : List Int) (eight : Bool) : List Nat :=
  if id.size = 0 then []
  else if checkP kind (byteAt id (id.size - 1)) (tkM id) (numsT ns) (tkS id) (natL data.data.toList) = 0 then bytesL kind (byteAt id (id.size - 1)) (tkM id) (numsT ns) (tkS id) (natL data.data.toList) eight
  else []

/-- Bytes of a text, as a letter. -/
def SbP (n : Nat) (u : Value) : Prop := ∃ g cap, u = .slice (some ⟨g, 0, none⟩) n cap
/-- Parts of parts of a text. -/
theorem ext_ext (s : ByteArray) : (s.extract 0 (s.size - 1)).extract 1 (s.extract 0 (s.size - 1)).size = s.extract 1 (s.size - 1) := by
  rw [ByteArray.extract_extract, ByteArray.size_extract]
  try (congr 1 <;> omega)
theorem ext_size (s : ByteArray) (a b : Nat) (h : b ≤ s.size) : (s.extract a b).size = b - a := by rw [ByteArray.size_extract]; omega
theorem ext_at (s : ByteArray) (b : Nat) (h : 0 < b) (hb : b ≤ s.size) : byteAt (s.extract 0 b) 0 = byteAt s 0 := by
  rw [← byteAt_get _ 0 (by rw [ext_size s 0 b hb]; omega), ← byteAt_get s 0 (by omega)]
  rw [ByteArray.getElem_extract]
  try simp
theorem nums_len (ns : List Int) : (numsT ns).length ≤ 30 := by unfold numsT; simp; omega
theorem fmt_parse (ns : List Int) : parseV (bytesOf (fmtL ns)).data.toList = (numsT ns, 0) := by
  obtain ⟨h1, h2⟩ := fmt_back ns
  have e : (bytesOf (fmtL ns)).data.toList = fmtL ns := rfl
  rw [e, parseV_yes h1, h2]
  rfl
end Go.Proofs.YtnbbepkkedhhgaaGreatDoor

namespace Go.Proofs.YtnbbepkkedhhgaaGreatDoor

open Go Go.RowKit

theorem str_stab2 (ks : Kinds) (wr : World) (n : Nat) (xs : List Value) (h : 5 ∉ boxes ks) : ∀ v w w', Kept ks wr w w' → StrF wr.heap.size n xs v w → StrF wr.heap.size n xs v w' := by
  rintro v w w' hk ⟨g, cap, cur, fz, e, hb, hf, hg, ht⟩
  have hlt : g < w.heap.size := by
    rcases Nat.lt_or_ge g w.heap.size with h | h
    · exact h
    · rw [Array.getElem?_eq_none h] at hg; cases hg
  exact ⟨g, cap, cur, fz, e, hb, hf, (hk.block g hlt hb (fun cs T fr e2 => by
    rw [hg] at e2
    injection e2 with e2
    injection e2 with _ e3 _
    rw [← e3]; exact h)).trans hg, ht⟩
theorem own_cap {w : World} {base size n c : Nat} {e : TypeId} {A : Option Addr} {xs : List Value} (h : w.ownsRow base e size (.slice A n c) n xs) : n ≤ c := by
  rcases h.2 with ⟨hv, hn⟩ | ⟨g, cap, _, hv, _, _, hle, _⟩
  · omega
  · simp only [Value.slice.injEq] at hv
    omega
theorem rbyt_far {w : World} {g : Nat} {l : List Nat} (h : RByt w (some ⟨g, 0, none⟩) l) (p : Addr) (hne : g ≠ p.block) (u : Value) : RByt (w.setCell p u) (some ⟨g, 0, none⟩) l := by
  refine ⟨h.1, fun hn => ?_⟩
  obtain ⟨ad, e, hb, hc⟩ := h.2 hn
  refine ⟨ad, e, by simpa [World.setCell] using hb, fun j v hv => ?_⟩
  have e2 : ad = ⟨g, 0, none⟩ := (Option.some.inj e).symm
  rw [World.cell?_setCell_other w p _ u (fun e' => hne (by rw [e', block_of_add, e2]))]
  exact hc j v hv
theorem rints_put {w : World} {A : Option Addr} {ns : List Int} (h : RInts w A ns) (g : Nat) (hne : ∀ ad, A = some ad → ad.block ≠ g) (v0 v1 v2 v3 v4 v5 : Value) : RInts (put6 w g v0 v1 v2 v3 v4 v5) A ns :=
  (((((h.store ⟨g, 0, none⟩ hne v0).store ⟨g, 1, none⟩ hne v1).store ⟨g, 2, none⟩ hne v2).store ⟨g, 3, none⟩ hne v3).store ⟨g, 4, none⟩ hne v4).store ⟨g, 5, none⟩ hne v5
theorem rbyt_put {w : World} {b : Nat} {l : List Nat} (h : RByt w (some ⟨b, 0, none⟩) l) (g : Nat) (hne : b ≠ g) (v0 v1 v2 v3 v4 v5 : Value) : RByt (put6 w g v0 v1 v2 v3 v4 v5) (some ⟨b, 0, none⟩) l :=
  rbyt_far (rbyt_far (rbyt_far (rbyt_far (rbyt_far (rbyt_far h ⟨g, 0, none⟩ hne v0) ⟨g, 1, none⟩ hne v1) ⟨g, 2, none⟩ hne v2) ⟨g, 3, none⟩ hne v3) ⟨g, 4, none⟩ hne v4) ⟨g, 5, none⟩ hne v5
/-- A token that a call answers: its parts, in memory. -/
def Tkn (W : World) (e : Ending) (kind : Int) (c m : Nat) (ps : List Int) (s : ByteArray) (dt : List Nat) : Prop := ∃ P pc D dc, e = .returned (.agg (tkC kind (c : Int) (m : Int) P ps pc s D dt dc)) ∧ RInts W P ps ∧ ps.length ≤ pc ∧ RByt W D dt
def zero6 : Array Value := #[.int .i64 0, .int .u8 0, .int .u8 0, .slice none 0 0, .string ⟨#[]⟩, .slice none 0 0]


end Go.Proofs.YtnbbepkkedhhgaaGreatDoor

namespace Go.Proofs.YtnbbepkkedhhgaaGreatDoor

open Go Go.RowKit

theorem obyt_mono {w : World} {b b' : Nat} {v : Value} {l : List Nat} (h : OByt w b v l) (hb : b' ≤ b) : OByt w b' v l := by
  refine ⟨h.1, ?_⟩
  rcases h.2 with h | ⟨g, cap, cur, hv, hg, r⟩
  · exact .inl h
  · exact .inr ⟨g, cap, cur, hv, Nat.le_trans hb hg, r⟩
/-- A token's bytes; nothing, if it can't be. -/
def wrtL (k : Int) (c m : Nat) (ps : List Int) (s : ByteArray) (dt : List Nat) (eight : Bool) : List Nat := if checkP k c m ps s dt = 0 then bytesL k c m ps s dt eight else []
/-- Bytes of its own that a call answers. -/
def Gives (w w' : World) (e : Ending) (l : List Nat) : Prop := ∃ v, e = .returned v ∧ OByt w' w.heap.size v l

theorem ba_empty {s : ByteArray} (h : s.size = 0) : s = ⟨#[]⟩ := by
  have := ByteArray.size_eq_zero_iff.1 h
  exact this
theorem wrt_none (dt : List Nat) (eight : Bool) : wrtL 0 0 0 [] ⟨#[]⟩ dt eight = [] := by
  have h : checkP 0 0 0 [] ⟨#[]⟩ dt = 1 := if_pos (Or.inl (by decide))
  unfold wrtL
  rw [h]
  rfl



end Go.Proofs.YtnbbepkkedhhgaaGreatDoor

namespace Go.Proofs.YtnbbepkkedhhgaaGreatDoor

open Go Go.RowKit

theorem owns_far {w : World} {base size n : Nat} {e : TypeId} {v : Value} {xs : List Value} (h : w.ownsRow base e size v n xs) (g : Nat) (hne : v.ownBlock ≠ some g) (o : Nat) (u : Value) : (w.setCell ⟨g, o, none⟩ u).ownsRow base e size v n xs :=
  World.ownsRow.kept (row := some g) h ⟨rfl, rfl, rfl, by simp [World.setCell], fun k _ hk => Below.heap_setCell w _ u k (by simpa using hk)⟩ (.inr hne)


theorem rbyt_low {w w' : World} {A : Option Addr} {l : List Nat} {B : Nat} (h : RByt w A l) (hb : Below B w w') (hA : ∀ ad, A = some ad → ad.block < B) : RByt w' A l := by
  refine ⟨h.1, fun hn => ?_⟩
  obtain ⟨ad, e, hlt, hc⟩ := h.2 hn
  refine ⟨ad, e, Nat.lt_of_lt_of_le hlt hb.size, fun j v hv => ?_⟩
  rw [hb.cell (by rw [block_of_add]; exact hA ad e)]
  exact hc j v hv
theorem rbyt_store {w : World} {A : Option Addr} {l : List Nat} (h : RByt w A l) (p : Addr) (hA : ∀ ad, A = some ad → ad.block ≠ p.block) (u : Value) : RByt (w.setCell p u) A l := by
  refine ⟨h.1, fun hn => ?_⟩
  obtain ⟨ad, e, hb, hc⟩ := h.2 hn
  refine ⟨ad, e, by simpa [World.setCell] using hb, fun j v hv => ?_⟩
  rw [World.cell?_setCell_other w p _ u (fun e' => hA ad e (by rw [e', block_of_add]))]
  exact hc j v hv



theorem form3 {w : World} {base : Nat} {v : Value} {ns : List Int} (h : OInts w base v ns) : ∃ A n c, v = .slice A n c := by
  obtain ⟨A, c, e⟩ := h.form
  exact ⟨A, _, c, e⟩
theorem clip_ways (n : Int) : (decide (n < 0) = true ∧ clip65 n = 0) ∨ (decide (n < 0) = false ∧ decide (65535 < n) = true ∧ clip65 n = 65535) ∨ (decide (n < 0) = false ∧ decide (65535 < n) = false ∧ clip65 n = n) := by
  unfold clip65 clipP
  simp only [decide_eq_true_iff, decide_eq_false_iff_not]
  omega

end Go.Proofs.YtnbbepkkedhhgaaGreatDoor

namespace Go.Proofs.YtnbbepkkedhhgaaGreatDoor

open Go Go.RowKit

theorem gives_back {w w1 w2 : World} {e : Ending} {l : List Nat} (h : Gives w1 w2 e l ∧ Below w1.heap.size w1 w2) (hb : Below w.heap.size w w1) : ∃ v, e = .returned v ∧ OByt w2 w.heap.size v l ∧ Below w.heap.size w w2 := by
  obtain ⟨⟨v, rfl, hv⟩, h2⟩ := h
  exact ⟨v, rfl, obyt_mono hv hb.size, hb.trans (h2.mono hb.size)⟩
def toldP (n : Int) : Int := min n 65535 + 1
def moreP (n : Int) : Int := if 65535 ≤ n then 65535 else n + 1
theorem told_more (n : Int) : clip65 (toldP n) = clip65 (moreP n) := by
  unfold clip65 clipP toldP moreP
  split <;> omega






end Go.Proofs.YtnbbepkkedhhgaaGreatDoor

namespace Go.Proofs.YtnbbepkkedhhgaaGreatDoor

open Go Go.RowKit

/-- Some elements more, out of a new block. -/
theorem wpList_pushM {P : Program} {ops : Array Oper} {rest : List Oper} {o : Oper} {a : Act} {Q : Exit → Act → World → Prop} {W : World} (hgd : o.guard = none) (s x : Operand) (t : TypeId)
    (ho : o.op = .call { callee := .builtin .append, args := #[s, x], argTypes := #[t, t] })
    (base : Nat) (e : TypeId) (z : Value) (size bytes : Nat) (ht : P.underlying t = some (.slice e)) (hinfo : (P.info? e).map (fun i => (i.zero, i.size, i.bytes)) = some (some z, size, bytes)) (hzs : z.cells.size = size) (hsz : 0 < size)
    (v : Value) (n : Nat) (xs : List Value) (hs : a.eval s = v) (hown : W.ownsRow base e size v n xs)
    (us : List Value) (m : Nat) (hul : us.length = m * size) (hu : ∀ u ∈ us, u.oneCell' = true) (cs : Array Value) (hcs : cs = us.toArray) (T : TypeId) (g c : Nat) (hg : g = W.heap.size) (hx : a.eval x = .slice (some ⟨g, 0, none⟩) m c)
    (h63 : n + m ≤ maxLen) (hbytes : (n + m) * bytes ≤ 140737488355328) (hbase : base ≤ W.heap.size)
    (h : ∀ v' w', w'.ownsRow base e size v' (n + m) (xs ++ us) → W.grownBy w' v.ownBlock → Below base W w' → wpList P ops Q rest (a.put o.dst v') w') : wpList P ops Q (o :: rest) a (W.alloc (.cells cs T)) := by
  obtain ⟨i, hi, hz, hsize, hby⟩ := info_parts hinfo
  subst hcs
  have hB : Below W.heap.size W (W.alloc (.cells us.toArray T)) := (Below.refl _ _).alloc (Nat.le_refl _) _
  refine wpList_append_own _ hgd s x t ho base e i z size bytes ht hi hz hsize hby hzs hsz v n xs hs (hown.alloc _) ⟨g, 0, none⟩ m c us hx hul (fun j u' hj => ?_) hu h63 hbytes (Nat.le_trans hbase hB.size) (fun v' w' h2 h3 _ => h v' w' h2 (grown_own hB h3) (below_own hown hbase hB h3))
  subst hg
  have hadd : (⟨W.heap.size, 0, none⟩ : Addr).add j = ⟨W.heap.size, j, none⟩ := by unfold Addr.add; split <;> simp_all
  rw [hadd, (Blk.new W T _).cell j]
  simpa using hj

theorem repL_nums {kind : Int} {id data : ByteArray} {a b : List Int} (h : numsT a = numsT b) : repL kind id data a = repL kind id data b := by funext e; unfold repL; rw [h]
theorem size_le {s : ByteArray} {n : Nat} (h : s.size = n) (hn : n ≤ 1000) : s.size ≤ maxLen := by unfold maxLen; omega




def firstL (k : Int) : List Int := if k = 1 then [1, 2] else [60 + k, 1, 2, 7, 8, 9] ++ (if 3 ≤ k then [18, 21] else []) ++ (if 4 ≤ k then [28, 29] else []) ++ (if k = 5 then [42, 44] else [])
theorem clip_first (n : Int) : (n ≤ 1 ∧ clipP n 1 5 = 1) ∨ (n = 2 ∧ clipP n 1 5 = 2) ∨ (n = 3 ∧ clipP n 1 5 = 3) ∨ (n = 4 ∧ clipP n 1 5 = 4) ∨ (n = 5 ∧ clipP n 1 5 = 5) ∨ (5 < n ∧ clipP n 1 5 = 5) := by
  unfold clipP
  omega
theorem oints_cap {w : World} {base c : Nat} {A : Option Addr} {ns : List Int} (h : OInts w base (.slice A ns.length c) ns) : ns.length ≤ c := own_cap h


end Go.Proofs.YtnbbepkkedhhgaaGreatDoor

namespace Go.Proofs.YtnbbepkkedhhgaaGreatDoor

open Go Go.RowKit

/-- A digit; the digits of some bytes. -/
def hdN (n : Nat) : Nat := if n < 10 then 48 + n else 55 + n
def hexL (l : List Nat) : List Nat := l.flatMap fun x => [hdN (x / 16), hdN (x % 16)]
theorem hex_snoc (l : List Nat) (k : Nat) (hk : k < l.length) : hexL (l.take (k + 1)) = hexL (l.take k) ++ [hdN (l[k] / 16), hdN (l[k] % 16)] := by
  unfold hexL
  rw [take_snoc l k hk, List.flatMap_append]
  simp
theorem hex_len (l : List Nat) : (hexL l).length = 2 * l.length := by
  unfold hexL
  induction l with
  | nil => rfl
  | cons a l ih => rw [List.flatMap_cons, List.length_append, ih]; simp; omega
theorem and15 : ∀ x : Nat, x < 256 → bits BinOp.and IntKind.u8 (x : Int) 15 = ((x % 16 : Nat) : Int) := by decide +kernel
def dgB : ByteArray := ⟨#[48, 49, 50, 51, 52, 53, 54, 55, 56, 57, 65, 66, 67, 68, 69, 70]⟩
theorem dig_all : ∀ n : Nat, (h : n < 16) → (dgB[n]'h).toNat = hdN n := by decide +kernel
theorem dig_at (q : Int) (h0 : 0 ≤ q) (h1 : q < 16) : ((⟨#[48, 49, 50, 51, 52, 53, 54, 55, 56, 57, 65, 66, 67, 68, 69, 70]⟩ : ByteArray)[q.toNat]'(by show q.toNat < 16; omega)).toNat = hdN q.toNat := dig_all q.toNat (by omega)

end Go.Proofs.YtnbbepkkedhhgaaGreatDoor

namespace Go.Proofs.YtnbbepkkedhhgaaGreatDoor

open Go Go.RowKit

theorem tmod65 (s : Int) : (s.tmod 65536 < 0 ∧ s.tmod 65536 + 65536 = s % 65536) ∨ (0 ≤ s.tmod 65536 ∧ s.tmod 65536 = s % 65536) := by
  rcases Int.le_total 0 s with h | h
  · rw [Int.tmod_eq_emod_of_nonneg h]
    omega
  · obtain ⟨m, rfl⟩ : ∃ m, s = -m := ⟨-s, by omega⟩
    rw [Int.neg_tmod, Int.tmod_eq_emod_of_nonneg (by omega)]
    omega
/-- The data of a checksum. -/
def sumL (n : Int) : List Nat := hexL [(n % 65536).toNat / 256, (n % 65536).toNat % 256]
def sumN (n : Int) : Nat := (n % 65536).toNat
theorem sum_four (n : Int) : sumL n = [hdN (sumN n / 4096), hdN (sumN n / 256 % 16), hdN (sumN n / 16 % 16), hdN (sumN n % 16)] := by
  unfold sumL sumN hexL
  generalize (n % 65536).toNat = m
  simp only [List.flatMap_cons, List.flatMap_nil, List.cons_append, List.nil_append]
  rw [show m / 256 / 16 = m / 4096 from by omega, show m % 256 / 16 = m / 16 % 16 from by omega, show m % 256 % 16 = m % 16 from by omega]
theorem sumN_lt (n : Int) : sumN n < 65536 := by unfold sumN; omega
set_option maxRecDepth 100000 in
theorem refHex_any (n : Nat) (hn : n < 16) (w : World) :
    Calls Tryz.prog 74 #[.int .i64 (n : Int)] w fun e w' => e = .returned (.int .u8 (hdN n : Nat)) ∧ w = w' := by
  by_cases h : n < 10
  · have d : decide ((n : Int) < 10) = true := by simp; omega
    obtain ⟨y, hy⟩ : ∃ y : Nat, y = hdN n := ⟨_, rfl⟩
    have hw : IntKind.i64.wrap (48 + (n : Int)) = (y : Int) := (IntWalk.i64_in _ (by omega)).trans (by rw [hy]; unfold hdN; rw [if_pos h]; omega)
    have hu : IntKind.u8.wrap (y : Int) = (y : Int) := by rw [IntKind.wrap_u8]; have : y < 256 := (by rw [hy]; unfold hdN; split <;> omega); omega
    rw [← hy]
    clear h hn hy
    go_enter Tryz.func74, Tryz.ntmps74
    go_wp2_with fail
    go_ret
    exact ⟨rfl, rfl⟩
  · have d : decide ((n : Int) < 10) = false := by simp; omega
    obtain ⟨y, hy⟩ : ∃ y : Nat, y = hdN n := ⟨_, rfl⟩
    have hw0 : IntKind.i64.wrap (65 + (n : Int)) = 65 + (n : Int) := IntWalk.i64_in _ (by omega)
    have hw : IntKind.i64.wrap (65 + (n : Int) - 10) = (y : Int) := (IntWalk.i64_in _ (by omega)).trans (by rw [hy]; unfold hdN; rw [if_neg h]; omega)
    have hu : IntKind.u8.wrap (y : Int) = (y : Int) := by rw [IntKind.wrap_u8]; have : y < 256 := (by rw [hy]; unfold hdN; split <;> omega); omega
    rw [← hy]
    clear h hn hy
    go_enter Tryz.func74, Tryz.ntmps74
    go_wp2_with fail
    go_ret
    exact ⟨rfl, rfl⟩
theorem bytes_size (l : List Nat) : (bstr l).size = l.length := bstr_size l


theorem single_bytes (eight : Bool) : wrtL 3 79 0 [] ⟨#[]⟩ [] eight = if eight then [143] else [27, 79] := by cases eight <;> decide +kernel

end Go.Proofs.YtnbbepkkedhhgaaGreatDoor

namespace Go.Proofs.YtnbbepkkedhhgaaGreatDoor

open Go Go.RowKit

theorem nums_in (ns : List Int) : (numsT ns).any outB = false := by
  rw [List.any_eq_false]
  intro x hx
  unfold numsT at hx
  obtain ⟨n, _, rfl⟩ := List.mem_map.1 hx
  unfold outB clip65
  have : clipP (clipP n 0 65535) 0 65535 = clipP n 0 65535 := by unfold clipP; omega
  rw [this]
  simp
theorem small_nums {s : ByteArray} {dt : List Nat} (ns : List Int) (hs : s.size ≤ 3) (hd : dt.length ≤ 4096) : smallB (numsT ns) s dt = true := by
  unfold smallB
  rw [nums_in]
  have := nums_len ns
  simp [hs, hd, this]
theorem chk_nums4 {c m : Nat} {s : ByteArray} (ns : List Int) (hs : s.size ≤ 3) (h : (codedB 4 c s && writtenB m s []) = true) : checkP 4 c m (numsT ns) s [] = 0 := by
  have hp : pureB 4 c m (numsT ns) s [] = true := by
    unfold pureB
    rw [if_neg (by omega), if_neg (by omega), if_pos rfl]
    decide +kernel
  unfold checkP
  rw [if_neg (by omega), if_neg (by rw [small_nums ns hs (by simp)]; simp), if_neg (by rw [hp, h]; simp)]
theorem chk_nums5 {c m : Nat} {s : ByteArray} {dt : List Nat} (ns : List Int) (hs : s.size ≤ 3) (hd : dt.length ≤ 4096) (h : (codedB 5 c s && writtenB m s dt) = true) : checkP 5 c m (numsT ns) s dt = 0 := by
  have hp : pureB 5 c m (numsT ns) s dt = true := by
    unfold pureB
    rw [if_neg (by omega), if_neg (by omega), if_neg (by omega), if_pos rfl]
  unfold checkP
  rw [if_neg (by omega), if_neg (by rw [small_nums ns hs hd]; simp), if_neg (by rw [hp, h]; simp)]
theorem lead_ne (c : Nat) (eight : Bool) : leadL c eight ≠ [] := by unfold leadL; split <;> simp
theorem repL_ne4 (id : ByteArray) (ns : List Int) (eight : Bool) (h0 : id.size ≠ 0) (hs : (tkS id).size ≤ 3) (h : (codedB 4 (byteAt id (id.size - 1)) (tkS id) && writtenB (tkM id) (tkS id) []) = true) : repL 4 id ⟨#[]⟩ ns eight ≠ [] := by
  unfold repL
  have e0 : natL (ByteArray.mk #[]).data.toList = [] := rfl
  rw [if_neg h0, e0, if_pos (chk_nums4 ns hs h)]
  unfold bytesL
  rw [if_neg (by omega), if_neg (by omega)]
  intro e
  exact lead_ne _ _ (List.append_eq_nil_iff.1 (List.append_eq_nil_iff.1 e).1).1
theorem repL_ne5 (id data : ByteArray) (ns : List Int) (eight : Bool) (h0 : id.size ≠ 0) (hs : (tkS id).size ≤ 3) (hd : (natL data.data.toList).length ≤ 4096) (h : (codedB 5 (byteAt id (id.size - 1)) (tkS id) && writtenB (tkM id) (tkS id) (natL data.data.toList)) = true) : repL 5 id data ns eight ≠ [] := by
  unfold repL
  rw [if_neg h0, if_pos (chk_nums5 ns hs hd h)]
  unfold bytesL
  rw [if_neg (by omega), if_neg (by omega)]
  intro e
  exact lead_ne _ _ (List.append_eq_nil_iff.1 (List.append_eq_nil_iff.1 e).1).1
theorem ne_c (ns : List Int) (eight : Bool) : repL 4 ⟨#[63, 99]⟩ ⟨#[]⟩ ns eight ≠ [] := repL_ne4 _ ns eight (by decide) (by decide) (by decide +kernel)
theorem ne_c2 (ns : List Int) (eight : Bool) : repL 4 ⟨#[62, 99]⟩ ⟨#[]⟩ ns eight ≠ [] := repL_ne4 _ ns eight (by decide) (by decide) (by decide +kernel)
theorem ne_r (ns : List Int) (eight : Bool) : repL 4 ⟨#[82]⟩ ⟨#[]⟩ ns eight ≠ [] := repL_ne4 _ ns eight (by decide) (by decide) (by decide +kernel)
theorem ne_qr (ns : List Int) (eight : Bool) : repL 4 ⟨#[63, 82]⟩ ⟨#[]⟩ ns eight ≠ [] := repL_ne4 _ ns eight (by decide) (by decide) (by decide +kernel)
theorem ne_y (ns : List Int) (eight : Bool) : repL 4 ⟨#[36, 121]⟩ ⟨#[]⟩ ns eight ≠ [] := repL_ne4 _ ns eight (by decide) (by decide) (by decide +kernel)
theorem ne_qy (ns : List Int) (eight : Bool) : repL 4 ⟨#[63, 36, 121]⟩ ⟨#[]⟩ ns eight ≠ [] := repL_ne4 _ ns eight (by decide) (by decide) (by decide +kernel)
theorem ne_u (ns : List Int) (eight : Bool) : repL 5 ⟨#[33, 124]⟩ ⟨#[48, 48, 48, 48, 48, 48, 48, 48]⟩ ns eight ≠ [] := repL_ne5 _ _ ns eight (by decide) (by decide) (by decide) (by decide +kernel)
theorem hd_data : ∀ d : Nat, d < 16 → noDataB (hdN d) = false ∧ hdN d < 256 := by decide +kernel
theorem natL_bstr {l : List Nat} (h : ∀ n ∈ l, n < 256) : natL (bstr l).data.toList = l := by
  rw [bstr_list]
  unfold natL
  rw [List.map_map]
  conv => rhs; rw [← List.map_id l]
  exact List.map_congr_left fun n hn => by simp [Nat.mod_eq_of_lt (h n hn)]
theorem sum_data (n : Int) : natL (bstr (sumL n)).data.toList = sumL n ∧ (sumL n).any noDataB = false ∧ (sumL n).length = 4 := by
  have hlt := sumN_lt n
  rw [sum_four]
  have h1 := hd_data (sumN n / 4096) (by omega)
  have h2 := hd_data (sumN n / 256 % 16) (by omega)
  have h3 := hd_data (sumN n / 16 % 16) (by omega)
  have h4 := hd_data (sumN n % 16) (by omega)
  refine ⟨natL_bstr ?_, ?_, rfl⟩
  · intro x hx
    simp only [List.mem_cons, List.not_mem_nil, or_false] at hx
    rcases hx with rfl | rfl | rfl | rfl
    · exact h1.2
    · exact h2.2
    · exact h3.2
    · exact h4.2
  · simp [h1.1, h2.1, h3.1, h4.1]
theorem ne_sum (n : Int) (ns : List Int) (eight : Bool) : repL 5 ⟨#[33, 126]⟩ (bstr (sumL n)) ns eight ≠ [] := by
  obtain ⟨h1, h2, h3⟩ := sum_data n
  refine repL_ne5 _ _ ns eight (by decide) (by decide) (by rw [h1, h3]; omega) ?_
  rw [h1]
  have e : tkS ⟨#[33, 126]⟩ = ⟨#[33]⟩ := by decide +kernel
  unfold writtenB
  rw [h2, e]
  decide +kernel
theorem fix_a : bstr (repL 4 ⟨#[63, 36, 121]⟩ ⟨#[]⟩ [7, 1] false) = ⟨#[27, 91, 63, 55, 59, 49, 36, 121]⟩ := by decide +kernel
theorem fix_b : bstr (repL 4 ⟨#[82]⟩ ⟨#[]⟩ [toldP 0, toldP 0] true) = ⟨#[155, 49, 59, 49, 82]⟩ := by decide +kernel
theorem fix_c : bstr (repL 5 ⟨#[33, 126]⟩ (bstr (sumL 255)) [3] false) = ⟨#[27, 80, 51, 33, 126, 48, 48, 70, 70, 27, 92]⟩ := by decide +kernel
end Go.Proofs.YtnbbepkkedhhgaaGreatDoor

namespace Go.Proofs.YtnbbepkkedhhgaaGreatDoor

open Go Go.RowKit

/-- What a call gave, as a text. -/
theorem gives_text {w w1 w2 : World} {e : Ending} {l : List Nat} {s : ByteArray} (hs : bstr l = s) (h : Gives w1 w2 e l ∧ Below w1.heap.size w1 w2) (hb : Below w.heap.size w w1) :
    ∃ A n, e = .returned (.slice A l.length n) ∧ (∀ W, Below w2.heap.size w2 W → (convert 59 9 (.slice A l.length n)).run Tryz.prog W = .ok (.string s) W) ∧ Below w.heap.size w w2 := by
  obtain ⟨v, rfl, hv, h2⟩ := gives_back h hb
  obtain ⟨A, n, rfl⟩ := OByt.form hv
  refine ⟨A, n, rfl, fun W hW => ?_, h2⟩
  rw [← hs]
  exact conv_by (OByt.reads (hv.next hW)) n

end Go.Proofs.YtnbbepkkedhhgaaGreatDoor
