/-
  Cursors: a deed of both.
-/
import Derived.Test.YtilfhilebdkmkaaCurQa
import Derived.Test.YtilfhilebdkmkaaCurQb
import Derived.Test.YtilfhilebdkmkaaCurQc
import Derived.Test.YtilfhilebdkmkaaCurKU
import Derived.Test.YtilfhilebdkmkaaCurKD
import Derived.Test.YtilfhilebdkmkaaCurKL
import Derived.Test.YtilfhilebdkmkaaCurKR
import Derived.Test.YtilfhilebdkmkaaCurL
namespace Go.Proofs.Ytilfhilebdkmkaa
open Go Go.RowKit

theorem do_any {f : Fr} {H W it il ib ir : Int} (h : FrOk f H W it il ib ir) (r c : Int) (wp : Bool) (K : CK) (r2 c2 : Int) (wp2 : Bool) (K2 : CK) (k n m : Int) (hn : -9223372036854775808 ≤ n ∧ n ≤ 9223372036854775807) (w : World) :
    Calls Try.prog 19 #[uV r c wp K, uV r2 c2 wp2 K2, fV f, .agg #[.int .i64 k, .int .i64 n, .int .i64 m]] w fun e w' =>
      e = .returned (.tuple #[uV (doR H it ib K.og k n r) (doC W il ir K.og k n m c) (doW k n c wp) K, uV (doR H it ib K2.og k n r2) (doC W il ir K2.og k n m c2) (doW k n c2 wp2) K2]) ∧ Below w.heap.size w w' := by
  by_cases h1 : k = 1
  · subst h1; exact do1_any f r c wp K r2 c2 wp2 K2 n m _ _ _ _ _ _ (fun V => up_any h r c wp K n V) (fun V => moveUp_any h r2 c2 wp2 K2 n V) w
  by_cases h2 : k = 2
  · subst h2; exact do2_any f r c wp K r2 c2 wp2 K2 n m _ _ _ _ _ _ (fun V => down_any h r c wp K n V) (fun V => moveDown_any h r2 c2 wp2 K2 n V) w
  by_cases h3 : k = 3
  · subst h3; exact do3_any f r c wp K r2 c2 wp2 K2 n m _ _ _ _ _ _ (fun V => left_any h r c wp K n V) (fun V => moveLeft_any h r2 c2 wp2 K2 n V) w
  by_cases h4 : k = 4
  · subst h4; exact do4_any f r c wp K r2 c2 wp2 K2 n m _ _ _ _ _ _ (fun V => right_any h r c wp K n V) (fun V => moveRight_any h r2 c2 wp2 K2 n V) w
  by_cases h5 : k = 5
  · subst h5; exact do5_any f r c wp K r2 c2 wp2 K2 n m _ _ _ _ _ _ (fun V => to_any h r c wp K n m V) (fun V => refToB_any h r2 c2 wp2 K2 n m V) w
  by_cases h6 : k = 6
  · subst h6; exact do6_any f r c wp K r2 c2 wp2 K2 n m _ _ _ _ _ _ (fun V => toRow_any h r c wp K n V) (fun V => refToR_any h r2 c2 wp2 K2 n 0 V) w
  by_cases h7 : k = 7
  · subst h7; exact do7_any f r c wp K r2 c2 wp2 K2 n m _ _ _ _ _ _ (fun V => toCol_any h r c wp K n V) (fun V => refToC_any h r2 c2 wp2 K2 0 n V) w
  by_cases h8 : k = 8
  · subst h8; exact do8_any f r c wp K r2 c2 wp2 K2 n m _ _ _ _ _ _ (fun V => return_any h r c wp K V) (fun V => refReturn_any h r2 c2 wp2 K2 V) w
  have e1 : ∀ r, doR H it ib K.og k n r = r := fun r => by unfold doR; rw [if_neg h1, if_neg h2, if_neg h3, if_neg h4, if_neg h5, if_neg h6, if_neg h7, if_neg h8]
  have e1' : ∀ r, doR H it ib K2.og k n r = r := fun r => by unfold doR; rw [if_neg h1, if_neg h2, if_neg h3, if_neg h4, if_neg h5, if_neg h6, if_neg h7, if_neg h8]
  have e2 : ∀ c, doC W il ir K.og k n m c = fitC c n := fun c => by unfold doC; rw [if_neg h1, if_neg h2, if_neg h3, if_neg h4, if_neg h5, if_neg h6, if_neg h7, if_neg h8]
  have e2' : ∀ c, doC W il ir K2.og k n m c = fitC c n := fun c => by unfold doC; rw [if_neg h1, if_neg h2, if_neg h3, if_neg h4, if_neg h5, if_neg h6, if_neg h7, if_neg h8]
  have e3 : ∀ c wp, doW k n c wp = fitW c n wp := fun c wp => by unfold doW; rw [if_neg h1, if_neg h2, if_neg h3, if_neg h4, if_neg h5, if_neg h6, if_neg h7, if_neg h8]
  rw [e1, e1', e2, e2', e3, e3]
  exact do9_any f r c wp K r2 c2 wp2 K2 k n m (by simpa using h1) (by simpa using h2) (by simpa using h3) (by simpa using h4) (by simpa using h5) (by simpa using h6) (by simpa using h7) (by simpa using h8) _ _ _ _ _ _ (fun V => fit_any r c wp K n hn V) (fun V => refFit_any r2 c2 wp2 K2 n hn V) w
end Go.Proofs.Ytilfhilebdkmkaa
