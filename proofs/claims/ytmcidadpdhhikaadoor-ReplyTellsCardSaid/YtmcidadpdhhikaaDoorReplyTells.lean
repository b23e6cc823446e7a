/-
  ReplyTells holds, whatever the input: the card of the statement, with the library's three tables tied to the program's text.
-/
import Derived.Test.YtmcidadpdhhikaaDoorCards
import Derived.Test.YtmcidadpdhhikaaDoorTie
import Derived.Test.YtmcidadpdhhikaaDoorFrameP
import Derived.Test.YtmcidadpdhhikaaDoorRepJ
namespace Go.Proofs.YtmcidadpdhhikaaDoor.replyTells
open Go.ChangeShapes Go.WideShapes Go.ChangeAt Go.RowKit
open Go.ChangeMaps (open_string)

/-- Bytes that a value reads as. -/
def Rd (l : List Nat) (u : Value) (W : World) : Prop := ∃ A n, u = .slice A l.length n ∧ RByt W A l
/-- What stands from call to call. -/
structure RT (w : World) (ps : List (Value × List Nat)) (W : World) : Prop where
  below : Below w.heap.size w W
  ten : Ten W
  all : ∀ x ∈ ps, Rd x.2 x.1 W
theorem RT.next {w W W' : World} {ps : List (Value × List Nat)} (h : RT w ps W) (hb : Below W.heap.size W W') : RT w ps W' :=
  ⟨h.below.trans (hb.mono h.below.size), h.ten.next hb, fun x hx => let ⟨A, n, e, r⟩ := h.all x hx; ⟨A, n, e, r.next hb⟩⟩
theorem RT.step {w W W' : World} {ps : List (Value × List Nat)} {e : Ending} {l : List Nat} (h : RT w ps W) (g : Gives W W' e l ∧ Below W.heap.size W W') :
    ∃ A n, e = .returned (.slice A l.length n) ∧ RT w ((.slice A l.length n, l) :: ps) W' := by
  obtain ⟨⟨v, rfl, hv⟩, hb⟩ := g
  obtain ⟨A, n, rfl⟩ := OByt.form hv
  refine ⟨A, n, rfl, (h.next hb).below, (h.next hb).ten, fun x hx => ?_⟩
  rcases List.mem_cons.1 hx with rfl | hx
  · exact ⟨A, n, rfl, OByt.reads hv⟩
  · exact (h.next hb).all x hx
theorem RT.at_ {w W : World} {ps : List (Value × List Nat)} {A : Option Addr} {n : Nat} {l : List Nat} (h : RT w ps W) (hm : (Value.slice A l.length n, l) ∈ ps) : RByt W A l := by
  obtain ⟨A2, n2, e, r⟩ := h.all _ hm
  simp only [Value.slice.injEq] at e
  rw [e.1]
  exact r
set_option maxRecDepth 100000 in
set_option maxHeartbeats 16000000 in
theorem walk (eight : Bool) (a : Int) (ha : -9223372036854775808 ≤ a ∧ a ≤ 9223372036854775807) (b : Int) (hb : -9223372036854775808 ≤ b ∧ b ≤ 9223372036854775807) (w : World) (ht : Ten w) :
    Calls Tryd.prog 3 #[.bool eight, .int .i64 a, .int .i64 b] w fun e w' => e = .returned (.bool true) ∧ Below w.heap.size w w' := by
  obtain ⟨ha1, ha2⟩ := ha
  obtain ⟨hb1, hb2⟩ := hb
  have HAw := Lib.hid (fun W t => repAwake_any W t)
  have HT0 : Hid (RT w [] w) := Lib.hid ⟨Below.refl _ _, ht, fun x hx => by cases hx⟩
  obtain ⟨c, hc⟩ : ∃ c : Nat, c = (a % 256).toNat := ⟨_, rfl⟩
  have hwc : IntKind.u8.wrap a = (c : Int) := by rw [IntKind.wrap_u8]; omega
  have HSi := Lib.hid (fun W t => repSingle_any eight c W t)
  have H0 := Lib.hid (fun W t => repFirst_any eight a W t)
  have H1 := Lib.hid (fun W => refFirst_any eight a W)
  have H2 := Lib.hid (fun W t => repSecond_any eight W t)
  have H3 := Lib.hid (fun W A (r : RInts W A [64, 1, 0]) => refCsi_any eight ⟨#[62, 99]⟩ A 3 [64, 1, 0] (by simp [maxLen]) (size_le (n := 2) rfl (by decide)) W r)
  have H4 := Lib.hid (fun W t => repThird_any eight W t)
  have H5 := Lib.hid (fun W => refDcs_any eight ⟨#[33, 124]⟩ ⟨#[48, 48, 48, 48, 48, 48, 48, 48]⟩ none 0 [] (by simp [maxLen]) (size_le (n := 2) rfl (by decide)) (size_le (n := 8) rfl (by decide)) W (rints_nil W))
  have H6 := Lib.hid (fun W t => repPlace_any eight a b (-1) ha1 ha2 hb1 hb2 (by omega) (by omega) W t)
  have H7 := Lib.hid (fun W => refPlace_any eight a b (-1) ha1 ha2 hb1 hb2 (by omega) (by omega) W)
  have H8 := Lib.hid (fun W t => repPlace_any eight a b a ha1 ha2 hb1 hb2 ha1 ha2 W t)
  have H9 := Lib.hid (fun W => refPlace_any eight a b a ha1 ha2 hb1 hb2 ha1 ha2 W)
  have H10 := Lib.hid (fun W t => repMode_any eight true a b W t)
  have H11 := Lib.hid (fun W => refMode_any eight true a b W)
  have H12 := Lib.hid (fun W t => repMode_any eight false a b W t)
  have H13 := Lib.hid (fun W => refMode_any eight false a b W)
  have H14 := Lib.hid (fun W t => repSum_any eight a b W t)
  have H15 := Lib.hid (fun W => refSum_any eight a b W)
  rw [if_pos (by omega)] at H6 H7
  rw [if_pos rfl] at H10 H11
  rw [if_neg (by simp)] at H12 H13
  have N1 : repL 4 ⟨#[63, 99]⟩ ⟨#[]⟩ (firstL (clipP a 1 5)) eight ≠ [] := ne_c _ _
  have N2 : repL 4 ⟨#[62, 99]⟩ ⟨#[]⟩ [64, 1, 0] eight ≠ [] := ne_c2 _ _
  have N3 : repL 5 ⟨#[33, 124]⟩ ⟨#[48, 48, 48, 48, 48, 48, 48, 48]⟩ [] eight ≠ [] := ne_u _ _
  have N4 : repL 4 ⟨#[82]⟩ ⟨#[]⟩ [toldP a, toldP b] eight ≠ [] := ne_r _ _
  have N5 : (if a < 0 then repL 4 ⟨#[82]⟩ ⟨#[]⟩ [toldP a, toldP b] eight else repL 4 ⟨#[63, 82]⟩ ⟨#[]⟩ [toldP a, toldP b, toldP a] eight) ≠ [] := by split; exact ne_r _ _; exact ne_qr _ _
  have N6 : repL 4 ⟨#[63, 36, 121]⟩ ⟨#[]⟩ [a, b] eight ≠ [] := ne_qy _ _
  have N7 : repL 4 ⟨#[36, 121]⟩ ⟨#[]⟩ [a, b] eight ≠ [] := ne_y _ _
  have N8 : repL 5 ⟨#[33, 126]⟩ (bstr (sumL b)) [a] eight ≠ [] := ne_sum _ _ _
  generalize (if a < 0 then repL 4 ⟨#[82]⟩ ⟨#[]⟩ [toldP a, toldP b] eight else repL 4 ⟨#[63, 82]⟩ ⟨#[]⟩ [toldP a, toldP b, toldP a] eight) = l5 at *
  generalize repL 4 ⟨#[63, 99]⟩ ⟨#[]⟩ (firstL (clipP a 1 5)) eight = l1 at *
  generalize repL 4 ⟨#[62, 99]⟩ ⟨#[]⟩ [64, 1, 0] eight = l2 at *
  generalize repL 5 ⟨#[33, 124]⟩ ⟨#[48, 48, 48, 48, 48, 48, 48, 48]⟩ [] eight = l3 at *
  generalize repL 4 ⟨#[82]⟩ ⟨#[]⟩ [toldP a, toldP b] eight = l4 at *
  generalize repL 4 ⟨#[63, 36, 121]⟩ ⟨#[]⟩ [a, b] eight = l6 at *
  generalize repL 4 ⟨#[36, 121]⟩ ⟨#[]⟩ [a, b] eight = l7 at *
  generalize repL 5 ⟨#[33, 126]⟩ (bstr (sumL b)) [a] eight = l8 at *
  have HN : Hid (∀ l ∈ [l1, l2, l3, l4, l5, l6, l7, l8], l ≠ []) := Lib.hid (by
    intro l hl
    simp only [List.mem_cons, List.not_mem_nil, or_false] at hl
    rcases hl with rfl | rfl | rfl | rfl | rfl | rfl | rfl | rfl <;> assumption)
  clear N1 N2 N3 N4 N5 N6 N7 N8 ha1 ha2 hb1 hb2 hc ht
  go_enter Tryd.func3, Tryd.ntmps3
  go_wp2_with fail
  refine (HAw.out _ HT0.out.ten).mono ?_
  rintro e w0 ⟨rfl, hb⟩
  have HR0 := Lib.hid (HT0.out.next hb)
  clear hb HT0 HAw
  go_wp2_with fail
  refine (H0.out _ HR0.out.ten).mono ?_
  rintro e w1 h
  obtain ⟨A0, n0, rfl, hr⟩ := HR0.out.step h
  have HR1 := Lib.hid hr
  clear h hr HR0 H0
  go_wp2_with fail
  refine (H1.out _).mono ?_
  rintro e w2 h
  obtain ⟨A1, n1, rfl, hr⟩ := HR1.out.step h
  have HR2 := Lib.hid hr
  clear h hr HR1 H1
  go_wp2_with fail
  refine (H2.out _ HR2.out.ten).mono ?_
  rintro e w3 h
  obtain ⟨A2, n2, rfl, hr⟩ := HR2.out.step h
  have HR3 := Lib.hid hr
  clear h hr HR2 H2
  go_wp2_with fail
  have hA := (Below.refl w3.heap.size w3).alloc (Nat.le_refl _) (.cells #[.int .i64 64, .int .i64 1, .int .i64 0] 3)
  have HRa := Lib.hid (HR3.out.next hA)
  refine (H3.out _ _ (rints_new w3 3 [64, 1, 0] #[.int .i64 64, .int .i64 1, .int .i64 0] rfl _ rfl)).mono ?_
  rintro e w4 h
  obtain ⟨A3, n3, rfl, hr⟩ := HRa.out.step h
  have HR4 := Lib.hid hr
  clear h hr hA HRa HR3 H3
  go_wp2_with fail
  refine (H4.out _ HR4.out.ten).mono ?_
  rintro e w5 h
  obtain ⟨A4, n4, rfl, hr⟩ := HR4.out.step h
  have HR5 := Lib.hid hr
  clear h hr HR4 H4
  go_wp2_with fail
  refine (H5.out _).mono ?_
  rintro e w6 h
  obtain ⟨A5, n5, rfl, hr⟩ := HR5.out.step h
  have HR6 := Lib.hid hr
  clear h hr HR5 H5
  go_wp2_with fail
  refine (H6.out _ HR6.out.ten).mono ?_
  rintro e w7 h
  obtain ⟨A6, n6, rfl, hr⟩ := HR6.out.step h
  have HR7 := Lib.hid hr
  clear h hr HR6 H6
  go_wp2_with fail
  refine (H7.out _).mono ?_
  rintro e w8 h
  obtain ⟨A7, n7, rfl, hr⟩ := HR7.out.step h
  have HR8 := Lib.hid hr
  clear h hr HR7 H7
  go_wp2_with fail
  refine (H8.out _ HR8.out.ten).mono ?_
  rintro e w9 h
  obtain ⟨A8, n8, rfl, hr⟩ := HR8.out.step h
  have HR9 := Lib.hid hr
  clear h hr HR8 H8
  go_wp2_with fail
  refine (H9.out _).mono ?_
  rintro e w10 h
  obtain ⟨A9, n9, rfl, hr⟩ := HR9.out.step h
  have HR10 := Lib.hid hr
  clear h hr HR9 H9
  go_wp2_with fail
  refine (H10.out _ HR10.out.ten).mono ?_
  rintro e w11 h
  obtain ⟨A10, n10, rfl, hr⟩ := HR10.out.step h
  have HR11 := Lib.hid hr
  clear h hr HR10 H10
  go_wp2_with fail
  refine (H11.out _).mono ?_
  rintro e w12 h
  obtain ⟨A11, n11, rfl, hr⟩ := HR11.out.step h
  have HR12 := Lib.hid hr
  clear h hr HR11 H11
  go_wp2_with fail
  refine (H12.out _ HR12.out.ten).mono ?_
  rintro e w13 h
  obtain ⟨A12, n12, rfl, hr⟩ := HR12.out.step h
  have HR13 := Lib.hid hr
  clear h hr HR12 H12
  go_wp2_with fail
  refine (H13.out _).mono ?_
  rintro e w14 h
  obtain ⟨A13, n13, rfl, hr⟩ := HR13.out.step h
  have HR14 := Lib.hid hr
  clear h hr HR13 H13
  go_wp2_with fail
  refine (H14.out _ HR14.out.ten).mono ?_
  rintro e w15 h
  obtain ⟨A14, n14, rfl, hr⟩ := HR14.out.step h
  have HR15 := Lib.hid hr
  clear h hr HR14 H14
  go_wp2_with fail
  refine (H15.out _).mono ?_
  rintro e w16 h
  obtain ⟨A15, n15, rfl, hr⟩ := HR15.out.step h
  have HR16 := Lib.hid hr
  clear h hr HR15 H15
  go_upto_region 4 with fail
  have hA := (Below.refl w16.heap.size w16).alloc (Nat.le_refl _) (.cells #[.slice A0 l1.length n0, .slice A1 l1.length n1, .slice A2 l2.length n2, .slice A3 l2.length n3, .slice A4 l3.length n4, .slice A5 l3.length n5, .slice A6 l4.length n6, .slice A7 l4.length n7, .slice A8 l5.length n8, .slice A9 l5.length n9, .slice A10 l6.length n10, .slice A11 l6.length n11, .slice A12 l7.length n12, .slice A13 l7.length n13, .slice A14 l8.length n14, .slice A15 l8.length n15] 25)
  have HP : Hid (∀ k : Nat, k < 8 → ∃ X1 p1 X2 p2 l, (#[.slice A0 l1.length n0, .slice A1 l1.length n1, .slice A2 l2.length n2, .slice A3 l2.length n3, .slice A4 l3.length n4, .slice A5 l3.length n5, .slice A6 l4.length n6, .slice A7 l4.length n7, .slice A8 l5.length n8, .slice A9 l5.length n9, .slice A10 l6.length n10, .slice A11 l6.length n11, .slice A12 l7.length n12, .slice A13 l7.length n13, .slice A14 l8.length n14, .slice A15 l8.length n15] : Array Value)[2 * k]? = some (.slice X1 l.length p1) ∧ (#[.slice A0 l1.length n0, .slice A1 l1.length n1, .slice A2 l2.length n2, .slice A3 l2.length n3, .slice A4 l3.length n4, .slice A5 l3.length n5, .slice A6 l4.length n6, .slice A7 l4.length n7, .slice A8 l5.length n8, .slice A9 l5.length n9, .slice A10 l6.length n10, .slice A11 l6.length n11, .slice A12 l7.length n12, .slice A13 l7.length n13, .slice A14 l8.length n14, .slice A15 l8.length n15] : Array Value)[2 * k + 1]? = some (.slice X2 l.length p2) ∧ RByt (w16.alloc (.cells #[.slice A0 l1.length n0, .slice A1 l1.length n1, .slice A2 l2.length n2, .slice A3 l2.length n3, .slice A4 l3.length n4, .slice A5 l3.length n5, .slice A6 l4.length n6, .slice A7 l4.length n7, .slice A8 l5.length n8, .slice A9 l5.length n9, .slice A10 l6.length n10, .slice A11 l6.length n11, .slice A12 l7.length n12, .slice A13 l7.length n13, .slice A14 l8.length n14, .slice A15 l8.length n15] 25)) X1 l ∧ RByt (w16.alloc (.cells #[.slice A0 l1.length n0, .slice A1 l1.length n1, .slice A2 l2.length n2, .slice A3 l2.length n3, .slice A4 l3.length n4, .slice A5 l3.length n5, .slice A6 l4.length n6, .slice A7 l4.length n7, .slice A8 l5.length n8, .slice A9 l5.length n9, .slice A10 l6.length n10, .slice A11 l6.length n11, .slice A12 l7.length n12, .slice A13 l7.length n13, .slice A14 l8.length n14, .slice A15 l8.length n15] 25)) X2 l ∧ l ≠ []) := Lib.hid (by
    intro k hk
    have h := HR16.out.next hA
    have hn := HN.out
    match k, hk with
    | 0, _ => exact ⟨A0, n0, A1, n1, l1, rfl, rfl, h.at_ (n := n0) (by repeat (first | exact List.mem_cons_self | apply List.mem_cons_of_mem)), h.at_ (n := n1) (by repeat (first | exact List.mem_cons_self | apply List.mem_cons_of_mem)), hn l1 (by repeat (first | exact List.mem_cons_self | apply List.mem_cons_of_mem))⟩
    | 1, _ => exact ⟨A2, n2, A3, n3, l2, rfl, rfl, h.at_ (n := n2) (by repeat (first | exact List.mem_cons_self | apply List.mem_cons_of_mem)), h.at_ (n := n3) (by repeat (first | exact List.mem_cons_self | apply List.mem_cons_of_mem)), hn l2 (by repeat (first | exact List.mem_cons_self | apply List.mem_cons_of_mem))⟩
    | 2, _ => exact ⟨A4, n4, A5, n5, l3, rfl, rfl, h.at_ (n := n4) (by repeat (first | exact List.mem_cons_self | apply List.mem_cons_of_mem)), h.at_ (n := n5) (by repeat (first | exact List.mem_cons_self | apply List.mem_cons_of_mem)), hn l3 (by repeat (first | exact List.mem_cons_self | apply List.mem_cons_of_mem))⟩
    | 3, _ => exact ⟨A6, n6, A7, n7, l4, rfl, rfl, h.at_ (n := n6) (by repeat (first | exact List.mem_cons_self | apply List.mem_cons_of_mem)), h.at_ (n := n7) (by repeat (first | exact List.mem_cons_self | apply List.mem_cons_of_mem)), hn l4 (by repeat (first | exact List.mem_cons_self | apply List.mem_cons_of_mem))⟩
    | 4, _ => exact ⟨A8, n8, A9, n9, l5, rfl, rfl, h.at_ (n := n8) (by repeat (first | exact List.mem_cons_self | apply List.mem_cons_of_mem)), h.at_ (n := n9) (by repeat (first | exact List.mem_cons_self | apply List.mem_cons_of_mem)), hn l5 (by repeat (first | exact List.mem_cons_self | apply List.mem_cons_of_mem))⟩
    | 5, _ => exact ⟨A10, n10, A11, n11, l6, rfl, rfl, h.at_ (n := n10) (by repeat (first | exact List.mem_cons_self | apply List.mem_cons_of_mem)), h.at_ (n := n11) (by repeat (first | exact List.mem_cons_self | apply List.mem_cons_of_mem)), hn l6 (by repeat (first | exact List.mem_cons_self | apply List.mem_cons_of_mem))⟩
    | 6, _ => exact ⟨A12, n12, A13, n13, l7, rfl, rfl, h.at_ (n := n12) (by repeat (first | exact List.mem_cons_self | apply List.mem_cons_of_mem)), h.at_ (n := n13) (by repeat (first | exact List.mem_cons_self | apply List.mem_cons_of_mem)), hn l7 (by repeat (first | exact List.mem_cons_self | apply List.mem_cons_of_mem))⟩
    | 7, _ => exact ⟨A14, n14, A15, n15, l8, rfl, rfl, h.at_ (n := n14) (by repeat (first | exact List.mem_cons_self | apply List.mem_cons_of_mem)), h.at_ (n := n15) (by repeat (first | exact List.mem_cons_self | apply List.mem_cons_of_mem)), hn l8 (by repeat (first | exact List.mem_cons_self | apply List.mem_cons_of_mem))⟩
    | k + 8, hk => omega)
  have HG := Lib.hid (Blk.new w16 25 #[.slice A0 l1.length n0, .slice A1 l1.length n1, .slice A2 l2.length n2, .slice A3 l2.length n3, .slice A4 l3.length n4, .slice A5 l3.length n5, .slice A6 l4.length n6, .slice A7 l4.length n7, .slice A8 l5.length n8, .slice A9 l5.length n9, .slice A10 l6.length n10, .slice A11 l6.length n11, .slice A12 l7.length n12, .slice A13 l7.length n13, .slice A14 l8.length n14, .slice A15 l8.length n15])
  have HRf : Hid (RT w [] (w16.alloc (.cells #[.slice A0 l1.length n0, .slice A1 l1.length n1, .slice A2 l2.length n2, .slice A3 l2.length n3, .slice A4 l3.length n4, .slice A5 l3.length n5, .slice A6 l4.length n6, .slice A7 l4.length n7, .slice A8 l5.length n8, .slice A9 l5.length n9, .slice A10 l6.length n10, .slice A11 l6.length n11, .slice A12 l7.length n12, .slice A13 l7.length n13, .slice A14 l8.length n14, .slice A15 l8.length n15] 25))) := Lib.hid ⟨(HR16.out.next hA).below, (HR16.out.next hA).ten, fun x hx => by cases hx⟩
  clear HR16 HN hA
  generalize hC : (#[.slice A0 l1.length n0, .slice A1 l1.length n1, .slice A2 l2.length n2, .slice A3 l2.length n3, .slice A4 l3.length n4, .slice A5 l3.length n5, .slice A6 l4.length n6, .slice A7 l4.length n7, .slice A8 l5.length n8, .slice A9 l5.length n9, .slice A10 l6.length n10, .slice A11 l6.length n11, .slice A12 l7.length n12, .slice A13 l7.length n13, .slice A14 l8.length n14, .slice A15 l8.length n15] : Array Value) = C at *
  clear hC
  generalize w16.alloc (.cells C 25) = W at *
  generalize w16.heap.size = g at *
  go_loopw [79] (fun i wr => ∃ k : Nat, k ≤ 8 ∧ i = .int .i64 k ∧ Below W.heap.size W wr) (fun i _ => 8 - (intOf i).toNat)
  case atStart => exact ⟨0, by omega, rfl, Below.refl _ _⟩
  case round =>
    obtain ⟨k, hk, rfl, hbr⟩ := hrel
    have HBr := Lib.hid hbr
    clear hbr
    by_cases hgo : k < 8
    · obtain ⟨B1, m1, B2, m2, l, hc1, hc2, r1, r2, hne⟩ := HP.out k hgo
      have HX := Lib.hid (And.intro (r1.next HBr.out) (r2.next HBr.out))
      have hbk := HG.out.next HBr.out
      rw [Nat.mul_comm 2 k] at hc1 hc2
      have d0 := (hbk.cell (k * 2)).trans hc1
      have d1 := (hbk.cell (k * 2 + 1)).trans hc2
      clear hc1 hc2 r1 r2 hbk
      have hwk : IntKind.i64.wrap ((k : Int) + 1) = (k : Int) + 1 := IntWalk.i64_in _ (by omega)
      have hlt : decide ((k : Int) < 8) = true := by simp; omega
      go_upto_region 6 with fail
      clear d0 d1
      have hA := (Below.refl wr.heap.size wr).alloc (Nat.le_refl _) (.cells #[.slice B1 l.length m1, .slice B2 l.length m2] 25)
      have hx1 := conv_by (HX.out.1.next hA) m1
      have hx2 := conv_by (HX.out.2.next hA) m2
      have e0 : (wr.alloc (.cells #[.slice B1 l.length m1, .slice B2 l.length m2] 25)).cell? ⟨wr.heap.size, 0, none⟩ = some (.slice B1 l.length m1) := (Blk.new wr 25 #[.slice B1 l.length m1, .slice B2 l.length m2]).cell 0
      have e1 : (wr.alloc (.cells #[.slice B1 l.length m1, .slice B2 l.length m2] 25)).cell? ⟨wr.heap.size, 1, none⟩ = some (.slice B2 l.length m2) := (Blk.new wr 25 #[.slice B1 l.length m1, .slice B2 l.length m2]).cell 1
      have hz : ((l.length : Int) == 0) = false := by
        rw [beq_eq_false_iff_ne]
        have : l.length ≠ 0 := fun e => hne (List.length_eq_zero_iff.1 e)
        omega
      have HBn := Lib.hid (HBr.out.trans (hA.mono HBr.out.size))
      clear hA
      generalize wr.alloc (.cells #[.slice B1 l.length m1, .slice B2 l.length m2] 25) = W2 at *
      go_wp2_with fail
      go_roundw
      case rel => exact ⟨k + 1, by omega, by first | rfl | go_num, HBn.out⟩
      case measure => simp [intOf]; omega
    · have hd : decide ((k : Int) < 8) = false := by simp; omega
      clear hgo
      go_wp2_with fail
      refine (HSi.out _ (HRf.out.next HBr.out).ten).mono ?_
      rintro e w20 h
      have hr0 : RT w [] wr := HRf.out.next HBr.out
      obtain ⟨As, ns, rfl, hrs⟩ := hr0.step h
      have HRs := Lib.hid (hrs.at_ (n := ns) List.mem_cons_self)
      have HBs := Lib.hid hrs.below
      clear h hr0 hrs
      cases eight
      · rw [show (if false = true then [143] else [27, 79]) ++ [c] = [27, 79, c] from rfl] at HRs
        have hcv : (convert 23 9 (.slice As 3 ns)).run Tryd.prog w20 = .ok (.string (bstr [27, 79, c])) w20 := conv_by HRs.out ns
        have hO : OByt (w20.alloc (.cells #[.int .u8 27, .int .u8 79, .int .u8 (c : Int)] 5)) w20.heap.size (.slice (some ⟨w20.heap.size, 0, none⟩) [27, 79, c].length 3) [27, 79, c] := World.ownsRow_lit w20 #[.int .u8 27, .int .u8 79, .int .u8 (c : Int)] 3 (Nat.le_refl _) (by unfold maxLen; omega) rfl
        have hcv2 : (convert 23 9 (.slice (some ⟨w20.heap.size, 0, none⟩) 3 3)).run Tryd.prog (w20.alloc (.cells #[.int .u8 27, .int .u8 79, .int .u8 (c : Int)] 5)) = .ok (.string (bstr [27, 79, c])) (w20.alloc (.cells #[.int .u8 27, .int .u8 79, .int .u8 (c : Int)] 5)) := conv_by (OByt.reads hO) 3
        have HBz := Lib.hid (HBs.out.alloc HBs.out.size (.cells #[.int .u8 27, .int .u8 79, .int .u8 (c : Int)] 5))
        clear hO
        generalize bstr [27, 79, c] = s at *
        go_wp2_with fail
        go_ret
        exact ⟨rfl, HBz.out⟩
      · rw [show (if true = true then [143] else [27, 79]) ++ [c] = [143, c] from rfl] at HRs
        have hcv : (convert 23 9 (.slice As 2 ns)).run Tryd.prog w20 = .ok (.string (bstr [143, c])) w20 := conv_by HRs.out ns
        have hO : OByt (w20.alloc (.cells #[.int .u8 143, .int .u8 (c : Int)] 5)) w20.heap.size (.slice (some ⟨w20.heap.size, 0, none⟩) [143, c].length 2) [143, c] := World.ownsRow_lit w20 #[.int .u8 143, .int .u8 (c : Int)] 2 (Nat.le_refl _) (by unfold maxLen; omega) rfl
        have hcv2 : (convert 23 9 (.slice (some ⟨w20.heap.size, 0, none⟩) 2 2)).run Tryd.prog (w20.alloc (.cells #[.int .u8 143, .int .u8 (c : Int)] 5)) = .ok (.string (bstr [143, c])) (w20.alloc (.cells #[.int .u8 143, .int .u8 (c : Int)] 5)) := conv_by (OByt.reads hO) 2
        have HBz := Lib.hid (HBs.out.alloc HBs.out.size (.cells #[.int .u8 143, .int .u8 (c : Int)] 5))
        clear hO
        generalize bstr [143, c] = s at *
        go_wp2_with fail
        go_ret
        exact ⟨rfl, HBz.out⟩

set_option maxRecDepth 100000 in
/-- What the walk gives, for every argument and every world that holds the table. -/
theorem contract (H : Type) (enc : TypeId × Value → H) (W : World) (base : Nat) (args : Array Value) (ds gs : List (DataW H)) (before : List MemPlace)
    (hval : ∀ (j : Nat) t v, Tryd.f3.params[j]? = some t → args[j]? = some v → Value.okWide Tryd.prog W .any base t v)
    (hW : DataW.Whole enc Tryd.prog Tryd.f3.params.toList Rows.replyTellsSpec.vars false W args.toList ds gs before) (hL : laidMetH Tryd.prog Rows.replyTellsRow.laid W)
    (hreach : (DataW.weightsEach Tryd.prog (Tryd.f3.params.toList ++ []) (ds ++ gs)).all (· ≤ reachBytes) = true) :
    Calls Tryd.prog 3 args W fun e W' => ∃ v, e = .returned v ∧ Rows.replyTellsSpec.post enc Tryd.prog Tryd.f3 false true false false W args v W' := by
  have hW' := hW
  have ht := ten_of hL
  have hlts : ∀ x ∈ before, x.block < W.heap.size := fun x hx => hW'.lt x hx
  obtain ⟨p, q, hA0, hV, rfl, hfz, hnd⟩ := hW
  have hA : DataW.TrodAll enc Tryd.prog W 0 (fun _ => true) true Tryd.f3.params.toList args.toList ds p := hA0
  rw [Tryd.params3] at hA hval hreach
  obtain ⟨v0, vs0, d0, ds0, pp0, qq0, hargs, rfl, rfl, h0, rr0⟩ := trodAll_cons hA
  obtain ⟨v1, vs1, d1, ds1, pp1, qq1, rfl, rfl, rfl, h1, rr1⟩ := trodAll_cons rr0
  obtain ⟨v2, vs2, d2, ds2, pp2, qq2, rfl, rfl, rfl, h2, rr2⟩ := trodAll_cons rr1
  obtain ⟨rfl, rfl, rfl⟩ := trodAll_nil rr2
  obtain rfl : args = #[v0, v1, v2] := by cases args; simp_all
  obtain ⟨rfl, rfl⟩ := trodVars_none hV
  obtain ⟨a0, rfl, rfl, rfl⟩ := open_bool Tryd.underlying4 (hval 0 4 v0 rfl rfl) h0
  obtain ⟨a1, rfl, rfl, rfl, w1⟩ := open_int Tryd.underlying3 (hval 1 3 v1 rfl rfl) h1
  have lo1 := bounds_i64 w1
  obtain ⟨a2, rfl, rfl, rfl, w2⟩ := open_int Tryd.underlying3 (hval 2 3 v2 rfl rfl) h2
  have lo2 := bounds_i64 w2
  clear hA0
  refine (walk a0 a1 lo1 a2 lo2 W ht).mono fun e W' ⟨he, hb⟩ => ?_
  subst he
  exact ⟨_, rfl, post_law laidOut (by kernel_rfl) (by kernel_rfl) rfl hW' rfl hb⟩

set_option maxRecDepth 100000 in
theorem laid_met (os : Os) : laidMet Tryd.prog Rows.replyTellsRow.laid ((laidWorld os).forCall (fun _ _ => 0) ⟨#[], #[Value.bool false, Value.int .i64 0, Value.int .i64 0], []⟩).memory :=
  laidMet_of_run' 8 (by kernel_rfl) (by kernel_rfl)
set_option maxRecDepth 100000 in
theorem reads (os : Os) {H : Type} (enc : TypeId × Value → H) : ∃ places, DataW.whole enc Tryd.prog ((laidWorld os).forCall (fun _ _ => 0) ⟨#[], #[Value.bool false, Value.int .i64 0, Value.int .i64 0], []⟩).memory Tryd.f3.params.toList Rows.replyTellsSpec.vars false (#[Value.bool false, Value.int .i64 0, Value.int .i64 0] : Array Value).toList 8 = some ([.lit (.bool false), .lit (.int .i64 0), .lit (.int .i64 0)], [], places) :=
  ⟨[], by kernel_rfl⟩

set_option maxRecDepth 100000 in
theorem lifted (os : Os) (started : os.Started) (H : Type) (enc : TypeId × Value → H) (F : Stop.Interp) :
    ReturnsInHanded {} Tryd.checked os 3 .any ((OpenSpec.ofChange Rows.replyTellsSpec).preRow enc Tryd.prog Tryd.f3 Rows.replyTellsRow.domain false Rows.replyTellsRow.laid) (((OpenSpec.ofChange Rows.replyTellsSpec).at F).post enc Tryd.prog Tryd.f3 false true false false) := by
  obtain ⟨places, hx⟩ := reads os enc
  refine returnsInHanded_of_row (C := Tryd.checked) (s := OpenSpec.ofChange Rows.replyTellsSpec) own started (by kernel_rfl) Tryd.func3
    (witness_row_at (enc := enc) (C := Tryd.checked) false (laidWorld os) #[Value.bool false, Value.int .i64 0, Value.int .i64 0] rfl (by kernel_rfl) (by kernel_rfl) (by kernel_rfl)
      (OpenSpec.preRow_of_cond 8 hx (by kernel_rfl) (fun k hk => by cases hk) (by kernel_rfl) (laid_met os))) ?_
  intro W base args ds gs before hval hW _ _ hreach hL _ _
  exact contract H enc W base args ds gs before hval hW hL hreach

theorem said : Rows.ReplyTellsSaid :=
  OpenClaim.holds_of_cond 3 Tryd.f3 rfl rfl rfl rfl rfl rfl rfl ⟨rfl, rfl, rfl, rfl, rfl⟩ rfl rfl rfl rfl rfl (by kernel_rfl) Tryd.func3 (by kernel_rfl)
    (of_decide_eq_true (by kernel_rfl)) (by unfold Func.isWrapper; first | (rw [if_pos (by decide +kernel)]; kernel_rfl) | (rw [if_neg (by decide +kernel)]; exact ⟨rfl, rfl⟩))
    (fun os started H enc _ F => by rw [OpenClaim.pre_eq_preRow]; exact lifted os started H enc F)

theorem plain (f : FuncId) (fn : Func) (hf : Tryd.pinned.checked.prog.funcNamed "phosphor/phosphorlaw18.ReplyTells" = some f) (hfn : Tryd.pinned.checked.prog.funcs[f]? = some fn) :
    true = Tryd.pinned.checked.prog.looks [] ∧ ∀ (j : Nat) t, fn.params[j]? = some t → Tryd.pinned.checked.prog.wantsStandIn t = false := by
  obtain rfl : f = 3 := Option.some.inj ((show Tryd.prog.funcNamed "phosphor/phosphorlaw18.ReplyTells" = some 3 by kernel_rfl).symm.trans hf) |>.symm
  obtain rfl : fn = Tryd.f3 := (Option.some.inj (Tryd.func3.symm.trans hfn)).symm
  refine ⟨by kernel_rfl, fun j t ht => ?_⟩
  rw [Tryd.params3] at ht
  have hm : t ∈ [4, 3, 3] := by simpa using Array.mem_of_getElem? ht
  have hall : ([4, 3, 3].all fun u => !Tryd.prog.wantsStandIn u) = true := by kernel_rfl
  exact (show Tryd.prog.wantsStandIn t = false by simpa using List.all_eq_true.1 hall t hm)

/-- The card. -/
theorem card : Rows.ReplyTellsCardSaid :=
  Claim7.holds_tied_plain_at .later [] _ _ _ _ said (fun _ h => by cases h) (by kernel_rfl) (fun _ h => by cases h) replyTells_row_tie rfl ⟨rfl, rfl⟩ (by kernel_rfl) rfl plain (by kernel_rfl)
#print axioms card
end Go.Proofs.YtmcidadpdhhikaaDoor.replyTells
