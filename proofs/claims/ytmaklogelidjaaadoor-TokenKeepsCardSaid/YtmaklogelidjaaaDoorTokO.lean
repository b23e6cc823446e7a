/-
  Tokens: what the reference's check answers.
-/
import Derived.Test.YtmaklogelidjaaaDoorTokN
namespace Go.Proofs.YtmaklogelidjaaaDoor

open Go Go.RowKit

def rngB (n : Int) : Bool := !decide (n < 0) && !decide (65535 < n)
def pick8 (bK bS qr qi qd qc bM bL : Bool) : Int := if bK then 1 else if bS then 2 else if !qr then 2 else if !qi then 3 else if !qd then 3 else if !qc then 3 else if bM then 3 else if bL then 3 else 0
def lateB (k : Int) (m : Nat) (ps : List Int) (s : ByteArray) (dt : List Nat) : Bool :=
  (!((k == 4) || (k == 5)) && ((m != 0) || decide (0 < ps.length))) || ((!((k == 4) || (k == 5)) && ((k != 3) && !(decide (s.size = 0)))) || (decide (k < 5) && decide (0 < dt.length)))
def refChkP (k : Int) (c m : Nat) (ps : List Int) (s : ByteArray) (dt : List Nat) : Int :=
  pick8 (decide (k < 1) || decide (9 < k)) (decide (3 < s.size) || (decide (30 < ps.length) || decide (4096 < dt.length))) (ps.all rngB) (s.data.toList.all interB) (dt.all dataB) (codeQ k c s) ((m != 0) && (decide (m < 60) || decide (63 < m))) (lateB k m ps s dt)
theorem allR_step {ps : List Int} {j : Nat} (hj : j < ps.length) (h : (ps.take j).all rngB = true) : (rngB ps[j] = true → (ps.take (j + 1)).all rngB = true) ∧ (rngB ps[j] = false → ps.all rngB = false) := by
  constructor
  · intro hi
    rw [take_snoc _ j hj, List.all_append, h]
    simp [hi]
  · intro hi
    rcases he : ps.all rngB with _ | _
    · rfl
    · have := List.all_eq_true.1 he _ (List.getElem_mem hj)
      rw [hi] at this
      cases this
theorem allD_step {ps : List Nat} {j : Nat} (hj : j < ps.length) (h : (ps.take j).all dataB = true) : (dataB ps[j] = true → (ps.take (j + 1)).all dataB = true) ∧ (dataB ps[j] = false → ps.all dataB = false) := by
  constructor
  · intro hi
    rw [take_snoc _ j hj, List.all_append, h]
    simp [hi]
  · intro hi
    rcases he : ps.all dataB with _ | _
    · rfl
    · have := List.all_eq_true.1 he _ (List.getElem_mem hj)
      rw [hi] at this
      cases this
theorem lt_lit (a n : Nat) : decide ((a : Int) < (n : Int)) = decide (a < n) := by simp
set_option maxRecDepth 100000 in
set_option maxHeartbeats 32000000 in
theorem refCheck_any (k : Int) (c m : Nat) (P : Option Addr) (ps : List Int) (pc : Nat) (s : ByteArray) (D : Option Addr) (dt : List Nat) (dc : Nat) (hsz : s.size ≤ maxLen) (hp : ps.length ≤ maxLen) (hd : dt.length ≤ maxLen) (w : World) (hr : RInts w P ps) (hb : RByt w D dt) :
    Calls Tryd.prog 8 #[.agg (tkC k (c : Int) (m : Int) P ps pc s D dt dc)] w fun e w' => e = .returned (.int .i64 (refChkP k c m ps s dt)) ∧ Below w.heap.size w w' := by
  have HCo := Lib.hid (fun W => refCode_any k c m P ps pc s D dt dc W)
  have HDa := Lib.hid (fun n W => refData_any n W)
  have HR := Lib.hid hr; have HD := Lib.hid hb
  have HK := Lib.hid (K1.start w 25 (tkC k (c : Int) (m : Int) P ps pc s D dt dc))
  have HR1 := Lib.hid (fun j hj h => allR_step (ps := ps) (j := j) hj h)
  have HS1 := Lib.hid (fun j hj h => all_step (s := s) (k := j) hj h); have HS2 := Lib.hid (fun h => all_end (s := s) h)
  have HD1 := Lib.hid (fun j hj h => allD_step (ps := dt) (j := j) hj h)
  have s3 : decide ((3 : Int) < (s.size : Int)) = decide (3 < s.size) := lt_lit 3 _
  have s30 : decide ((30 : Int) < (ps.length : Int)) = decide (30 < ps.length) := lt_lit 30 _
  have s40 : decide ((4096 : Int) < (dt.length : Int)) = decide (4096 < dt.length) := lt_lit 4096 _
  have m60 : decide ((m : Int) < 60) = decide (m < 60) := lt_lit m 60
  have m63 : decide ((63 : Int) < (m : Int)) = decide (63 < m) := lt_lit 63 m
  have m0 : ((m : Int) != 0) = (m != 0) := by rw [Bool.eq_iff_iff, bne_iff_ne, bne_iff_ne]; omega
  have p0 : decide ((0 : Int) < (ps.length : Int)) = decide (0 < ps.length) := lt_lit 0 _
  have d0 : decide ((0 : Int) < (dt.length : Int)) = decide (0 < dt.length) := lt_lit 0 _
  have z0 : s.toList.isEmpty = decide (s.size = 0) := by rw [ByteArray.toList_eq, ← dlen]; cases s.data.toList <;> simp
  have z1 : (s.toList == []) = decide (s.size = 0) := by rw [ByteArray.toList_eq, ← dlen]; cases s.data.toList <;> simp
  clear hr hb
  unfold maxLen at hsz hp hd
  unfold refChkP lateB
  unfold tkC at *
  have HqR : Hid (ps.all rngB = true → ps.all rngB = true) := Lib.hid id
  generalize hqr : ps.all rngB = qr at *
  generalize hqi : s.data.toList.all interB = qi at *
  generalize hqd : dt.all dataB = qd at *
  generalize codeQ k c s = qc at *
  generalize decide (3 < s.size) = v3 at *
  generalize decide (30 < ps.length) = v30 at *
  generalize decide (4096 < dt.length) = v40 at *
  generalize decide (m < 60) = w60 at *
  generalize decide (63 < m) = w63 at *
  generalize (m != 0) = wm at *
  generalize hvp : decide (0 < ps.length) = vp at *
  generalize hvd : decide (0 < dt.length) = vd at *
  generalize decide (s.size = 0) = vs at *
  generalize hk4 : (k == 4) = x4 at *
  generalize hk5 : (k == 5) = x5 at *
  generalize hk3 : (k != 3) = x3 at *
  generalize hl5 : decide (k < 5) = y5 at *
  generalize hl1 : decide (k < 1) = y1 at *
  generalize hl9 : decide (9 < k) = y9 at *
  have HqrE := Lib.hid hqr; have HqiE := Lib.hid hqi; have HqdE := Lib.hid hqd
  clear hqr hqi hqd HqR
  rcases y1 with _ | _
  case true =>
    go_enter Tryd.func8, Tryd.ntmps8
    go_upto_region 1 with fail
    generalize w.alloc (.cells #[.int .i64 k, .int .u8 (c : Int), .int .u8 (m : Int), .slice P ps.length pc, .string s, .slice D dt.length dc] 25) = w1 at *
    obtain ⟨a0, a1, a2, a3, a4, a5⟩ := six HK.out.1
    go_wp2_with fail
    go_ret
    exact ⟨rfl, HK.out.2⟩
  rcases y9 with _ | _
  case true =>
    go_enter Tryd.func8, Tryd.ntmps8
    go_upto_region 1 with fail
    generalize w.alloc (.cells #[.int .i64 k, .int .u8 (c : Int), .int .u8 (m : Int), .slice P ps.length pc, .string s, .slice D dt.length dc] 25) = w1 at *
    obtain ⟨a0, a1, a2, a3, a4, a5⟩ := six HK.out.1
    go_wp2_with fail
    go_ret
    exact ⟨rfl, HK.out.2⟩
  rcases v3 with _ | _
  case true =>
    go_enter Tryd.func8, Tryd.ntmps8
    go_upto_region 1 with fail
    generalize w.alloc (.cells #[.int .i64 k, .int .u8 (c : Int), .int .u8 (m : Int), .slice P ps.length pc, .string s, .slice D dt.length dc] 25) = w1 at *
    obtain ⟨a0, a1, a2, a3, a4, a5⟩ := six HK.out.1
    go_wp2_with fail
    go_ret
    exact ⟨rfl, HK.out.2⟩
  rcases v30 with _ | _
  case true =>
    go_enter Tryd.func8, Tryd.ntmps8
    go_upto_region 1 with fail
    generalize w.alloc (.cells #[.int .i64 k, .int .u8 (c : Int), .int .u8 (m : Int), .slice P ps.length pc, .string s, .slice D dt.length dc] 25) = w1 at *
    obtain ⟨a0, a1, a2, a3, a4, a5⟩ := six HK.out.1
    go_wp2_with fail
    go_ret
    exact ⟨rfl, HK.out.2⟩
  rcases v40 with _ | _
  case true =>
    go_enter Tryd.func8, Tryd.ntmps8
    go_upto_region 1 with fail
    generalize w.alloc (.cells #[.int .i64 k, .int .u8 (c : Int), .int .u8 (m : Int), .slice P ps.length pc, .string s, .slice D dt.length dc] 25) = w1 at *
    obtain ⟨a0, a1, a2, a3, a4, a5⟩ := six HK.out.1
    go_wp2_with fail
    go_ret
    exact ⟨rfl, HK.out.2⟩
  go_enter Tryd.func8, Tryd.ntmps8
  go_upto_region 1 with fail
  generalize w.alloc (.cells #[.int .i64 k, .int .u8 (c : Int), .int .u8 (m : Int), .slice P ps.length pc, .string s, .slice D dt.length dc] 25) = w1 at *
  obtain ⟨a0, a1, a2, a3, a4, a5⟩ := six HK.out.1
  go_wp2_with fail
  go_loopw [3] (fun i wr => ∃ j : Nat, j ≤ ps.length ∧ i = .int .i64 j ∧ (ps.take j).all rngB = true ∧ w1 = wr) (fun i _ => ps.length - (intOf i).toNat)
  case atStart => exact ⟨0, by omega, rfl, rfl, rfl⟩
  case round =>
    obtain ⟨j, hj, rfl, hall, rfl⟩ := hrel
    have HAll := Lib.hid hall
    clear hall
    by_cases hlt : j < ps.length
    · obtain ⟨ad, rfl, _, hc⟩ := (HR.out.next HK.out.2).at_ hlt
      obtain ⟨y1, y2⟩ := HR1.out j hlt HAll.out
      unfold rngB at y1 y2
      generalize ps[j] = x at *
      rcases hx1 : decide (x < 0) with _ | _
      · rcases hx2 : decide (65535 < x) with _ | _
        · have HN := Lib.hid (y1 (by rw [hx1, hx2]; rfl))
          clear y1 y2
          go_wp2_with fail
          go_roundw
          case rel => exact ⟨j + 1, by omega, by go_num, HN.out, trivial⟩
          case measure => simp [intOf]; omega
        · have HE := Lib.hid (y2 (by rw [hx1, hx2]; rfl))
          clear y1 y2
          go_wp2_with fail
          go_ret
          exact ⟨by rw [HE.out]; rfl, HK.out.2⟩
      · have HE := Lib.hid (y2 (by rw [hx1]; rfl))
        clear y1 y2
        go_wp2_with fail
        go_ret
        exact ⟨by rw [HE.out]; rfl, HK.out.2⟩
    · obtain rfl : j = ps.length := by omega
      have HEr : Hid (qr = true) := Lib.hid (by have := HAll.out; rw [List.take_length] at this; rw [← HqrE.out]; exact this)
      clear HAll HR1
      go_wp2_with fail
      go_loopw [4] (fun i wr => ∃ j : Nat, j ≤ s.size ∧ i = .int .i64 j ∧ (s.data.toList.take j).all interB = true ∧ w1 = wr) (fun i _ => s.size - (intOf i).toNat)
      case atStart => exact ⟨0, by omega, rfl, rfl, rfl⟩
      case round =>
        obtain ⟨j, hj, rfl, hall, rfl⟩ := hrel
        have HAll := Lib.hid hall
        clear hall
        by_cases hlt : j < s.size
        · obtain ⟨y1, y2⟩ := HS1.out j hlt HAll.out
          have e32 : decide ((s[j].toNat : Int) < 32) = decide (s[j].toNat < 32) := lt_lit _ 32
          have e47 : decide ((47 : Int) < (s[j].toNat : Int)) = decide (47 < s[j].toNat) := lt_lit 47 _
          by_cases hi : interB s[j] = true
          · have HN := Lib.hid (y1 hi)
            have g1 : decide (s[j].toNat < 32) = false := by unfold interB amongB at hi; simp at hi ⊢; omega
            have g2 : decide (47 < s[j].toNat) = false := by unfold interB amongB at hi; simp at hi ⊢; omega
            rw [g1] at e32
            rw [g2] at e47
            clear y1 y2 hi g1 g2
            go_wp2_with fail
            go_roundw
            case rel => exact ⟨j + 1, by omega, by go_num, HN.out, trivial⟩
            case measure => simp [intOf]; omega
          · have HE := Lib.hid (y2 (by simpa using hi))
            by_cases g1 : s[j].toNat < 32
            · rw [decide_eq_true g1] at e32
              clear y1 y2 hi g1
              go_wp2_with fail
              go_ret
              exact ⟨by rw [HEr.out, HE.out]; rfl, HK.out.2⟩
            · have g2 : decide (47 < s[j].toNat) = true := by unfold interB amongB at hi; simp at hi ⊢; omega
              rw [decide_eq_false g1] at e32
              rw [g2] at e47
              clear y1 y2 hi g1 g2
              go_wp2_with fail
              go_ret
              exact ⟨by rw [HEr.out, HE.out]; rfl, HK.out.2⟩
        · obtain rfl : j = s.size := by omega
          have HEi : Hid (qi = true) := Lib.hid (HS2.out HAll.out)
          clear HAll HS1 HS2
          go_wp2_with fail
          go_loopw [5] (fun i wr => ∃ j : Nat, j ≤ dt.length ∧ i = .int .i64 j ∧ (dt.take j).all dataB = true ∧ w1 = wr) (fun i _ => dt.length - (intOf i).toNat)
          case atStart => exact ⟨0, by omega, rfl, rfl, rfl⟩
          case round =>
            obtain ⟨j, hj, rfl, hall, rfl⟩ := hrel
            have HAll := Lib.hid hall
            clear hall
            by_cases hlt : j < dt.length
            · obtain ⟨ad, rfl, _, hc⟩ := (HD.out.next HK.out.2).at_ hlt
              obtain ⟨y1, y2⟩ := HD1.out j hlt HAll.out
              have HX := Lib.hid (fun W => HDa.out dt[j] W)
              generalize dt[j] = x at *
              rcases hx : dataB x with _ | _
              · have HE := Lib.hid (y2 hx)
                rw [hx] at HX
                clear y1 y2 hx
                go_wp2_with fail
                refine (HX.out _).mono ?_
                rintro e w2 ⟨rfl, rfl⟩
                go_wp2_with fail
                go_ret
                exact ⟨by rw [HEr.out, HEi.out, HE.out]; rfl, HK.out.2⟩
              · have HN := Lib.hid (y1 hx)
                rw [hx] at HX
                clear y1 y2 hx
                go_wp2_with fail
                refine (HX.out _).mono ?_
                rintro e w2 ⟨rfl, rfl⟩
                go_wp2_with fail
                go_roundw
                case rel => exact ⟨j + 1, by omega, by go_num, HN.out, trivial⟩
                case measure => simp [intOf]; omega
            · obtain rfl : j = dt.length := by omega
              have HEd : Hid (qd = true) := Lib.hid (by have := HAll.out; rw [List.take_length] at this; rw [← HqdE.out]; exact this)
              clear HAll HD1 HqrE HqiE HqdE
              go_wp2_with fail
              refine (HCo.out _).mono ?_
              rintro e w2 ⟨rfl, hb2⟩
              have HK2 := Lib.hid (HK.out.next hb2)
              clear hb2 a0 a1 a2 a3 a4 a5 HCo hj hlt
              obtain ⟨a0, a1, a2, a3, a4, a5⟩ := six HK2.out.1
              rcases qc with _ | _
              · go_wp2_with fail
                go_ret
                exact ⟨by rw [HEr.out, HEi.out, HEd.out]; rfl, HK2.out.2⟩
              · rcases wm with _ | _
                · skip
                  rcases x4 with _ | _
                  · rcases x5 with _ | _
                    · rcases vp with _ | _
                      · rcases x3 with _ | _
                        · rcases y5 with _ | _
                          · skip
                            first | have hP := of_decide_eq_false hvp | have hP := of_decide_eq_true hvp | skip
                            first | have hD := of_decide_eq_false hvd | have hD := of_decide_eq_true hvd | skip
                            go_wp2_with fail
                            go_ret
                            exact ⟨by rw [HEr.out, HEi.out, HEd.out]; rfl, HK2.out.2⟩
                          · rcases vd with _ | _
                            all_goals
                              first | have hP := of_decide_eq_false hvp | have hP := of_decide_eq_true hvp | skip
                              first | have hD := of_decide_eq_false hvd | have hD := of_decide_eq_true hvd | skip
                              go_wp2_with fail
                              go_ret
                              exact ⟨by rw [HEr.out, HEi.out, HEd.out]; rfl, HK2.out.2⟩
                        · rcases vs with _ | _
                          · skip
                            first | have hP := of_decide_eq_false hvp | have hP := of_decide_eq_true hvp | skip
                            first | have hD := of_decide_eq_false hvd | have hD := of_decide_eq_true hvd | skip
                            go_wp2_with fail
                            go_ret
                            exact ⟨by rw [HEr.out, HEi.out, HEd.out]; rfl, HK2.out.2⟩
                          · rcases y5 with _ | _
                            · skip
                              first | have hP := of_decide_eq_false hvp | have hP := of_decide_eq_true hvp | skip
                              first | have hD := of_decide_eq_false hvd | have hD := of_decide_eq_true hvd | skip
                              go_wp2_with fail
                              go_ret
                              exact ⟨by rw [HEr.out, HEi.out, HEd.out]; rfl, HK2.out.2⟩
                            · rcases vd with _ | _
                              all_goals
                                first | have hP := of_decide_eq_false hvp | have hP := of_decide_eq_true hvp | skip
                                first | have hD := of_decide_eq_false hvd | have hD := of_decide_eq_true hvd | skip
                                go_wp2_with fail
                                go_ret
                                exact ⟨by rw [HEr.out, HEi.out, HEd.out]; rfl, HK2.out.2⟩
                      · skip
                        first | have hP := of_decide_eq_false hvp | have hP := of_decide_eq_true hvp | skip
                        first | have hD := of_decide_eq_false hvd | have hD := of_decide_eq_true hvd | skip
                        go_wp2_with fail
                        go_ret
                        exact ⟨by rw [HEr.out, HEi.out, HEd.out]; rfl, HK2.out.2⟩
                    · rcases y5 with _ | _
                      · skip
                        first | have hP := of_decide_eq_false hvp | have hP := of_decide_eq_true hvp | skip
                        first | have hD := of_decide_eq_false hvd | have hD := of_decide_eq_true hvd | skip
                        go_wp2_with fail
                        go_ret
                        exact ⟨by rw [HEr.out, HEi.out, HEd.out]; rfl, HK2.out.2⟩
                      · rcases vd with _ | _
                        all_goals
                          first | have hP := of_decide_eq_false hvp | have hP := of_decide_eq_true hvp | skip
                          first | have hD := of_decide_eq_false hvd | have hD := of_decide_eq_true hvd | skip
                          go_wp2_with fail
                          go_ret
                          exact ⟨by rw [HEr.out, HEi.out, HEd.out]; rfl, HK2.out.2⟩
                  · rcases y5 with _ | _
                    · skip
                      first | have hP := of_decide_eq_false hvp | have hP := of_decide_eq_true hvp | skip
                      first | have hD := of_decide_eq_false hvd | have hD := of_decide_eq_true hvd | skip
                      go_wp2_with fail
                      go_ret
                      exact ⟨by rw [HEr.out, HEi.out, HEd.out]; rfl, HK2.out.2⟩
                    · rcases vd with _ | _
                      all_goals
                        first | have hP := of_decide_eq_false hvp | have hP := of_decide_eq_true hvp | skip
                        first | have hD := of_decide_eq_false hvd | have hD := of_decide_eq_true hvd | skip
                        go_wp2_with fail
                        go_ret
                        exact ⟨by rw [HEr.out, HEi.out, HEd.out]; rfl, HK2.out.2⟩
                · rcases w60 with _ | _
                  · rcases w63 with _ | _
                    · skip
                      rcases x4 with _ | _
                      · rcases x5 with _ | _
                        · skip
                          first | have hP := of_decide_eq_false hvp | have hP := of_decide_eq_true hvp | skip
                          first | have hD := of_decide_eq_false hvd | have hD := of_decide_eq_true hvd | skip
                          go_wp2_with fail
                          go_ret
                          exact ⟨by rw [HEr.out, HEi.out, HEd.out]; rfl, HK2.out.2⟩
                        · rcases y5 with _ | _
                          · skip
                            first | have hP := of_decide_eq_false hvp | have hP := of_decide_eq_true hvp | skip
                            first | have hD := of_decide_eq_false hvd | have hD := of_decide_eq_true hvd | skip
                            go_wp2_with fail
                            go_ret
                            exact ⟨by rw [HEr.out, HEi.out, HEd.out]; rfl, HK2.out.2⟩
                          · rcases vd with _ | _
                            all_goals
                              first | have hP := of_decide_eq_false hvp | have hP := of_decide_eq_true hvp | skip
                              first | have hD := of_decide_eq_false hvd | have hD := of_decide_eq_true hvd | skip
                              go_wp2_with fail
                              go_ret
                              exact ⟨by rw [HEr.out, HEi.out, HEd.out]; rfl, HK2.out.2⟩
                      · rcases y5 with _ | _
                        · skip
                          first | have hP := of_decide_eq_false hvp | have hP := of_decide_eq_true hvp | skip
                          first | have hD := of_decide_eq_false hvd | have hD := of_decide_eq_true hvd | skip
                          go_wp2_with fail
                          go_ret
                          exact ⟨by rw [HEr.out, HEi.out, HEd.out]; rfl, HK2.out.2⟩
                        · rcases vd with _ | _
                          all_goals
                            first | have hP := of_decide_eq_false hvp | have hP := of_decide_eq_true hvp | skip
                            first | have hD := of_decide_eq_false hvd | have hD := of_decide_eq_true hvd | skip
                            go_wp2_with fail
                            go_ret
                            exact ⟨by rw [HEr.out, HEi.out, HEd.out]; rfl, HK2.out.2⟩
                    · skip
                      first | have hP := of_decide_eq_false hvp | have hP := of_decide_eq_true hvp | skip
                      first | have hD := of_decide_eq_false hvd | have hD := of_decide_eq_true hvd | skip
                      go_wp2_with fail
                      go_ret
                      exact ⟨by rw [HEr.out, HEi.out, HEd.out]; rfl, HK2.out.2⟩
                  · skip
                    first | have hP := of_decide_eq_false hvp | have hP := of_decide_eq_true hvp | skip
                    first | have hD := of_decide_eq_false hvd | have hD := of_decide_eq_true hvd | skip
                    go_wp2_with fail
                    go_ret
                    exact ⟨by rw [HEr.out, HEi.out, HEd.out]; rfl, HK2.out.2⟩
end Go.Proofs.YtmaklogelidjaaaDoor
