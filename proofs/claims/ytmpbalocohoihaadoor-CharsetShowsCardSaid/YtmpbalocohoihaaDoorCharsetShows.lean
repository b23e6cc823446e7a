/-
  CharsetShows holds, whatever the input: the card of the statement, with the table of the sets' faces tied to the program's text.
-/
import Derived.Test.YtmpbalocohoihaaDoorCards
import Derived.Test.YtmpbalocohoihaaDoorTie
import Derived.Test.YtmpbalocohoihaaDoorFrameV
import Derived.Test.YtmpbalocohoihaaDoorChsJ
namespace Go.Proofs.YtmpbalocohoihaaDoor.charsetShows
open Go.ChangeShapes Go.WideShapes Go.ChangeAt Go.RowKit
open Go.ChangeMaps (open_string)

def shOk (k c : Nat) : Bool := ((gP k c != 0) == (decide (1 ≤ k) && (decide (32 ≤ c) && (decide (c < 127) || wideP k)))) && (decide (0 ≤ gP k c) && (decide (gP k c ≤ 65535) && (decide (k = 0) || (decide (c ≠ 32) || (wideP k || (gP k c == 32))))))
theorem sh_ok : ((List.range 18).all fun k => (List.range 128).all fun c => shOk k c) = true := by decide +kernel
theorem shows_all (k : Nat) (hk : k < 18) (c : Nat) (hc : c < 128) : ((gP k c != 0) = (decide (1 ≤ k) && (decide (32 ≤ c) && (decide (c < 127) || wideP k)))) ∧ 0 ≤ gP k c ∧ gP k c ≤ 65535 ∧ (1 ≤ k → c = 32 → wideP k = false → gP k c = 32) := by
  have h := List.all_eq_true.1 (List.all_eq_true.1 sh_ok k (by simpa using hk)) c (by simpa using hc)
  unfold shOk at h
  rw [Bool.and_eq_true, Bool.and_eq_true, Bool.and_eq_true] at h
  obtain ⟨h1, h2, h3, h4⟩ := h
  refine ⟨by simpa using h1, by simpa using h2, by simpa using h3, fun a b d => ?_⟩
  subst b
  rw [d] at h4
  have h0 : decide (k = 0) = false := by simp; omega
  rw [h0] at h4
  simpa using h4
set_option maxRecDepth 100000 in
set_option maxHeartbeats 8000000 in
theorem walk (x : Int) (w : World) (ht : Faces w) :
    Calls Tryd.prog 7 #[.int .i64 x] w fun e w' => e = .returned (.bool true) ∧ Below w.heap.size w w' := by
  have HAw := Lib.hid (fun W t => awake_any W t)
  have HI := Lib.hid (fun W t => id_any x W t)
  have HT := Lib.hid ht
  clear ht
  have HG : Hid (∀ (c : Nat), c < 128 → ∀ W, Faces W → Calls Tryd.prog 13 #[.int .i64 x, .int .u8 c] W fun e w' => e = .returned (.int .i32 (gP (setN x) c)) ∧ Below W.heap.size W w') := Lib.hid (fun c hc W t => by
    have := glyph_any x c (by omega) W t
    rwa [Nat.mod_eq_of_lt hc] at this)
  have HS := Lib.hid (shows_all (setN x) (setN_lt x))
  have hset : (decide (1 ≤ x) = false ∧ setN x = 0) ∨ (decide (1 ≤ x) = true ∧ decide (x ≤ 17) = false ∧ setN x = 0) ∨ (decide (1 ≤ x) = true ∧ decide (x ≤ 17) = true ∧ decide (1 ≤ setN x) = true) := by
    by_cases h : 1 ≤ x ∧ x ≤ 17
    · obtain ⟨e, h1, h2⟩ := setN_in x h
      exact .inr (.inr ⟨by simp; omega, by simp; omega, by simpa using h1⟩)
    · rw [setN_out x h]
      by_cases h1 : 1 ≤ x
      · exact .inr (.inl ⟨by simpa using h1, by simp; omega, rfl⟩)
      · exact .inl ⟨by simpa using h1, rfl⟩
  generalize setN x = k at *
  rcases hset with ⟨g1, rfl⟩ | ⟨g1, g2, rfl⟩ | ⟨g1, g2, hk1⟩
  · go_enter Tryd.func7, Tryd.ntmps7
    go_wp2_with fail
    refine (HAw.out _ HT.out).mono ?_
    rintro e w1 ⟨rfl, hb1⟩
    have HT1 := Lib.hid (HT.out.next hb1); have HB1 := Lib.hid hb1
    clear hb1
    go_wp2_with fail
    refine (HI.out _ HT1.out).mono ?_
    rintro e w2 ⟨rfl, hb2⟩
    have HT2 := Lib.hid (HT1.out.next hb2); have HB2 := Lib.hid (HB1.out.trans (hb2.mono HB1.out.size))
    clear hb2
    go_wp2_with fail
    go_loopw [6] (fun i wr => ∃ c : Nat, c ≤ 128 ∧ i = .int .i64 c ∧ Faces wr ∧ Below w.heap.size w wr) (fun i _ => 128 - (intOf i).toNat)
    case atStart => exact ⟨0, by omega, rfl, HT2.out, HB2.out⟩
    case round =>
      obtain ⟨c, hc2, rfl, hf, hb⟩ := hrel
      have HF := Lib.hid hf; have HB := Lib.hid hb
      clear hf hb
      by_cases hlt : c < 128
      · have HGc := Lib.hid (HG.out c hlt)
        obtain ⟨s1, s2, s3, s4⟩ := HS.out c hlt
        have hd : decide ((c : Int) < 128) = true := by simp; omega
        have hwu : IntKind.u8.wrap (c : Int) = c := by simp [IntKind.wrap, IntKind.signed, IntKind.bits]; omega
        have hw1 : IntKind.i64.wrap ((c : Int) + 1) = (c : Int) + 1 := IntWalk.i64_in _ (by omega)
        have g3 : decide (gP 0 c < 0) = false := by simp; omega
        have g4 : decide (65535 < gP 0 c) = false := by simp; omega
        rw [show (decide (1 ≤ 0) && (decide (32 ≤ c) && (decide (c < 127) || wideP 0))) = false from rfl] at s1
        clear s2 s3 s4
        generalize gP 0 c = g at *
        go_wp2_with fail
        refine (HGc.out _ HF.out).mono ?_
        rintro e w3 ⟨rfl, hb3⟩
        have HF3 := Lib.hid (HF.out.next hb3); have HB3 := Lib.hid (HB.out.trans (hb3.mono HB.out.size))
        clear hb3
        go_wp2_with fail
        go_roundw
        case rel => exact ⟨c + 1, by omega, by first | rfl | go_num, HF3.out, HB3.out⟩
        case measure => simp [intOf]; omega
      · obtain rfl : c = 128 := by omega
        go_wp2_with fail
        go_ret
        exact ⟨rfl, HB.out⟩
  · go_enter Tryd.func7, Tryd.ntmps7
    go_wp2_with fail
    refine (HAw.out _ HT.out).mono ?_
    rintro e w1 ⟨rfl, hb1⟩
    have HT1 := Lib.hid (HT.out.next hb1); have HB1 := Lib.hid hb1
    clear hb1
    go_wp2_with fail
    refine (HI.out _ HT1.out).mono ?_
    rintro e w2 ⟨rfl, hb2⟩
    have HT2 := Lib.hid (HT1.out.next hb2); have HB2 := Lib.hid (HB1.out.trans (hb2.mono HB1.out.size))
    clear hb2
    go_wp2_with fail
    go_loopw [6] (fun i wr => ∃ c : Nat, c ≤ 128 ∧ i = .int .i64 c ∧ Faces wr ∧ Below w.heap.size w wr) (fun i _ => 128 - (intOf i).toNat)
    case atStart => exact ⟨0, by omega, rfl, HT2.out, HB2.out⟩
    case round =>
      obtain ⟨c, hc2, rfl, hf, hb⟩ := hrel
      have HF := Lib.hid hf; have HB := Lib.hid hb
      clear hf hb
      by_cases hlt : c < 128
      · have HGc := Lib.hid (HG.out c hlt)
        obtain ⟨s1, s2, s3, s4⟩ := HS.out c hlt
        have hd : decide ((c : Int) < 128) = true := by simp; omega
        have hwu : IntKind.u8.wrap (c : Int) = c := by simp [IntKind.wrap, IntKind.signed, IntKind.bits]; omega
        have hw1 : IntKind.i64.wrap ((c : Int) + 1) = (c : Int) + 1 := IntWalk.i64_in _ (by omega)
        have g3 : decide (gP 0 c < 0) = false := by simp; omega
        have g4 : decide (65535 < gP 0 c) = false := by simp; omega
        rw [show (decide (1 ≤ 0) && (decide (32 ≤ c) && (decide (c < 127) || wideP 0))) = false from rfl] at s1
        clear s2 s3 s4
        generalize gP 0 c = g at *
        go_wp2_with fail
        refine (HGc.out _ HF.out).mono ?_
        rintro e w3 ⟨rfl, hb3⟩
        have HF3 := Lib.hid (HF.out.next hb3); have HB3 := Lib.hid (HB.out.trans (hb3.mono HB.out.size))
        clear hb3
        go_wp2_with fail
        go_roundw
        case rel => exact ⟨c + 1, by omega, by first | rfl | go_num, HF3.out, HB3.out⟩
        case measure => simp [intOf]; omega
      · obtain rfl : c = 128 := by omega
        go_wp2_with fail
        go_ret
        exact ⟨rfl, HB.out⟩
  · rcases hwd : wideP k with _ | _
    · rw [hwd] at HI HS
      go_enter Tryd.func7, Tryd.ntmps7
      go_wp2_with fail
      refine (HAw.out _ HT.out).mono ?_
      rintro e w1 ⟨rfl, hb1⟩
      have HT1 := Lib.hid (HT.out.next hb1); have HB1 := Lib.hid hb1
      clear hb1
      go_wp2_with fail
      refine (HI.out _ HT1.out).mono ?_
      rintro e w2 ⟨rfl, hb2⟩
      have HT2 := Lib.hid (HT1.out.next hb2); have HB2 := Lib.hid (HB1.out.trans (hb2.mono HB1.out.size))
      clear hb2
      go_wp2_with fail
      go_loopw [6] (fun i wr => ∃ c : Nat, c ≤ 128 ∧ i = .int .i64 c ∧ Faces wr ∧ Below w.heap.size w wr) (fun i _ => 128 - (intOf i).toNat)
      case atStart => exact ⟨0, by omega, rfl, HT2.out, HB2.out⟩
      case round =>
        obtain ⟨c, hc2, rfl, hf, hb⟩ := hrel
        have HF := Lib.hid hf; have HB := Lib.hid hb
        clear hf hb
        by_cases hlt : c < 128
        · have HGc := Lib.hid (HG.out c hlt)
          obtain ⟨s1, s2, s3, s4⟩ := HS.out c hlt
          have hd : decide ((c : Int) < 128) = true := by simp; omega
          have hwu : IntKind.u8.wrap (c : Int) = c := by simp [IntKind.wrap, IntKind.signed, IntKind.bits]; omega
          have hw1 : IntKind.i64.wrap ((c : Int) + 1) = (c : Int) + 1 := IntWalk.i64_in _ (by omega)
          have g3 : decide (gP k c < 0) = false := by simp; omega
          have g4 : decide (65535 < gP k c) = false := by simp; omega
          by_cases h1 : c < 32
          · have q1 : decide (32 ≤ (c : Int)) = false := by simp; omega
            have q2 : decide ((c : Int) < 127) = true := by simp; omega
            have q3 : ((c : Int) == 32) = false := by rw [beq_eq_false_iff_ne]; omega
            rw [hk1, show decide (32 ≤ c) = false from by simp; omega, show decide (c < 127) = true from by simp; omega] at s1
            replace s1 : (gP k c != 0) = false := s1
            clear s2 s3 s4
            generalize gP k c = g at *
            go_wp2_with fail
            refine (HGc.out _ HF.out).mono ?_
            rintro e w3 ⟨rfl, hb3⟩
            have HF3 := Lib.hid (HF.out.next hb3); have HB3 := Lib.hid (HB.out.trans (hb3.mono HB.out.size))
            clear hb3
            go_wp2_with fail
            go_roundw
            case rel => exact ⟨c + 1, by omega, by first | rfl | go_num, HF3.out, HB3.out⟩
            case measure => simp [intOf]; omega
          · by_cases h2 : c = 32
            · subst h2
              rw [hk1] at s1
              have s7 : (gP k 32 != 0) = true := s1
              have s5 := s4 (by simpa using hk1) (by first | rfl | trivial) (by first | rfl | trivial)
              have s6 : (gP k 32 != 32) = false := by rw [s5]; rfl
              clear s1 s2 s3 s4 s5
              generalize gP k 32 = g at *
              go_wp2_with fail
              refine (HGc.out _ HF.out).mono ?_
              rintro e w3 ⟨rfl, hb3⟩
              have HF3 := Lib.hid (HF.out.next hb3); have HB3 := Lib.hid (HB.out.trans (hb3.mono HB.out.size))
              clear hb3
              go_wp2_with fail
              go_roundw
              case rel => exact ⟨33, by omega, rfl, HF3.out, HB3.out⟩
              case measure => simp [intOf]
            · by_cases h3 : c < 127
              · have q1 : decide (32 ≤ (c : Int)) = true := by simp; omega
                have q2 : decide ((c : Int) < 127) = true := by simp; omega
                have q3 : ((c : Int) == 32) = false := by rw [beq_eq_false_iff_ne]; omega
                rw [hk1, show decide (32 ≤ c) = true from by simp; omega, show decide (c < 127) = true from by simp; omega] at s1
                replace s1 : (gP k c != 0) = true := s1
                clear s2 s3 s4
                generalize gP k c = g at *
                go_wp2_with fail
                refine (HGc.out _ HF.out).mono ?_
                rintro e w3 ⟨rfl, hb3⟩
                have HF3 := Lib.hid (HF.out.next hb3); have HB3 := Lib.hid (HB.out.trans (hb3.mono HB.out.size))
                clear hb3
                go_wp2_with fail
                go_roundw
                case rel => exact ⟨c + 1, by omega, by first | rfl | go_num, HF3.out, HB3.out⟩
                case measure => simp [intOf]; omega
              · have q1 : decide (32 ≤ (c : Int)) = true := by simp; omega
                have q2 : decide ((c : Int) < 127) = false := by simp; omega
                have q3 : ((c : Int) == 32) = false := by rw [beq_eq_false_iff_ne]; omega
                rw [hk1, show decide (32 ≤ c) = true from by simp; omega, show decide (c < 127) = false from by simp; omega] at s1
                replace s1 : (gP k c != 0) = false := s1
                clear s2 s3 s4
                generalize gP k c = g at *
                go_wp2_with fail
                refine (HGc.out _ HF.out).mono ?_
                rintro e w3 ⟨rfl, hb3⟩
                have HF3 := Lib.hid (HF.out.next hb3); have HB3 := Lib.hid (HB.out.trans (hb3.mono HB.out.size))
                clear hb3
                go_wp2_with fail
                go_roundw
                case rel => exact ⟨c + 1, by omega, by first | rfl | go_num, HF3.out, HB3.out⟩
                case measure => simp [intOf]; omega
        · obtain rfl : c = 128 := by omega
          go_wp2_with fail
          go_ret
          exact ⟨rfl, HB.out⟩
    · rw [hwd] at HI HS
      go_enter Tryd.func7, Tryd.ntmps7
      go_wp2_with fail
      refine (HAw.out _ HT.out).mono ?_
      rintro e w1 ⟨rfl, hb1⟩
      have HT1 := Lib.hid (HT.out.next hb1); have HB1 := Lib.hid hb1
      clear hb1
      go_wp2_with fail
      refine (HI.out _ HT1.out).mono ?_
      rintro e w2 ⟨rfl, hb2⟩
      have HT2 := Lib.hid (HT1.out.next hb2); have HB2 := Lib.hid (HB1.out.trans (hb2.mono HB1.out.size))
      clear hb2
      go_wp2_with fail
      go_loopw [6] (fun i wr => ∃ c : Nat, c ≤ 128 ∧ i = .int .i64 c ∧ Faces wr ∧ Below w.heap.size w wr) (fun i _ => 128 - (intOf i).toNat)
      case atStart => exact ⟨0, by omega, rfl, HT2.out, HB2.out⟩
      case round =>
        obtain ⟨c, hc2, rfl, hf, hb⟩ := hrel
        have HF := Lib.hid hf; have HB := Lib.hid hb
        clear hf hb
        by_cases hlt : c < 128
        · have HGc := Lib.hid (HG.out c hlt)
          obtain ⟨s1, s2, s3, s4⟩ := HS.out c hlt
          have hd : decide ((c : Int) < 128) = true := by simp; omega
          have hwu : IntKind.u8.wrap (c : Int) = c := by simp [IntKind.wrap, IntKind.signed, IntKind.bits]; omega
          have hw1 : IntKind.i64.wrap ((c : Int) + 1) = (c : Int) + 1 := IntWalk.i64_in _ (by omega)
          have g3 : decide (gP k c < 0) = false := by simp; omega
          have g4 : decide (65535 < gP k c) = false := by simp; omega
          by_cases h1 : c < 32
          · have q1 : decide (32 ≤ (c : Int)) = false := by simp; omega
            have q2 : decide ((c : Int) < 127) = true := by simp; omega
            have q3 : ((c : Int) == 32) = false := by rw [beq_eq_false_iff_ne]; omega
            rw [hk1, show decide (32 ≤ c) = false from by simp; omega, show decide (c < 127) = true from by simp; omega] at s1
            replace s1 : (gP k c != 0) = false := s1
            clear s2 s3 s4
            generalize gP k c = g at *
            go_wp2_with fail
            refine (HGc.out _ HF.out).mono ?_
            rintro e w3 ⟨rfl, hb3⟩
            have HF3 := Lib.hid (HF.out.next hb3); have HB3 := Lib.hid (HB.out.trans (hb3.mono HB.out.size))
            clear hb3
            go_wp2_with fail
            go_roundw
            case rel => exact ⟨c + 1, by omega, by first | rfl | go_num, HF3.out, HB3.out⟩
            case measure => simp [intOf]; omega
          · by_cases h2 : c = 32
            · subst h2
              rw [hk1] at s1
              have s7 : (gP k 32 != 0) = true := s1
              clear s1 s2 s3 s4
              generalize gP k 32 = g at *
              go_wp2_with fail
              refine (HGc.out _ HF.out).mono ?_
              rintro e w3 ⟨rfl, hb3⟩
              have HF3 := Lib.hid (HF.out.next hb3); have HB3 := Lib.hid (HB.out.trans (hb3.mono HB.out.size))
              clear hb3
              go_wp2_with fail
              go_roundw
              case rel => exact ⟨33, by omega, rfl, HF3.out, HB3.out⟩
              case measure => simp [intOf]
            · by_cases h3 : c < 127
              · have q1 : decide (32 ≤ (c : Int)) = true := by simp; omega
                have q2 : decide ((c : Int) < 127) = true := by simp; omega
                have q3 : ((c : Int) == 32) = false := by rw [beq_eq_false_iff_ne]; omega
                rw [hk1, show decide (32 ≤ c) = true from by simp; omega, show decide (c < 127) = true from by simp; omega] at s1
                replace s1 : (gP k c != 0) = true := s1
                clear s2 s3 s4
                generalize gP k c = g at *
                go_wp2_with fail
                refine (HGc.out _ HF.out).mono ?_
                rintro e w3 ⟨rfl, hb3⟩
                have HF3 := Lib.hid (HF.out.next hb3); have HB3 := Lib.hid (HB.out.trans (hb3.mono HB.out.size))
                clear hb3
                go_wp2_with fail
                go_roundw
                case rel => exact ⟨c + 1, by omega, by first | rfl | go_num, HF3.out, HB3.out⟩
                case measure => simp [intOf]; omega
              · have q1 : decide (32 ≤ (c : Int)) = true := by simp; omega
                have q2 : decide ((c : Int) < 127) = false := by simp; omega
                have q3 : ((c : Int) == 32) = false := by rw [beq_eq_false_iff_ne]; omega
                rw [hk1, show decide (32 ≤ c) = true from by simp; omega, show decide (c < 127) = false from by simp; omega] at s1
                replace s1 : (gP k c != 0) = true := s1
                clear s2 s3 s4
                generalize gP k c = g at *
                go_wp2_with fail
                refine (HGc.out _ HF.out).mono ?_
                rintro e w3 ⟨rfl, hb3⟩
                have HF3 := Lib.hid (HF.out.next hb3); have HB3 := Lib.hid (HB.out.trans (hb3.mono HB.out.size))
                clear hb3
                go_wp2_with fail
                go_roundw
                case rel => exact ⟨c + 1, by omega, by first | rfl | go_num, HF3.out, HB3.out⟩
                case measure => simp [intOf]; omega
        · obtain rfl : c = 128 := by omega
          go_wp2_with fail
          go_ret
          exact ⟨rfl, HB.out⟩

set_option maxRecDepth 100000 in
/-- What the walk gives, for every argument and every world that holds the table. -/
theorem contract (H : Type) (enc : TypeId × Value → H) (W : World) (base : Nat) (args : Array Value) (ds gs : List (DataW H)) (before : List MemPlace)
    (hval : ∀ (j : Nat) t v, Tryd.f7.params[j]? = some t → args[j]? = some v → Value.okWide Tryd.prog W .any base t v)
    (hW : DataW.Whole enc Tryd.prog Tryd.f7.params.toList Rows.charsetShowsSpec.vars false W args.toList ds gs before) (hL : laidMetH Tryd.prog Rows.charsetShowsRow.laid W)
    (hreach : (DataW.weightsEach Tryd.prog (Tryd.f7.params.toList ++ []) (ds ++ gs)).all (· ≤ reachBytes) = true) :
    Calls Tryd.prog 7 args W fun e W' => ∃ v, e = .returned v ∧ Rows.charsetShowsSpec.post enc Tryd.prog Tryd.f7 false true false false W args v W' := by
  have hW' := hW
  have ht := facesA hL
  have hlts : ∀ x ∈ before, x.block < W.heap.size := fun x hx => hW'.lt x hx
  obtain ⟨p, q, hA0, hV, rfl, hfz, hnd⟩ := hW
  have hA : DataW.TrodAll enc Tryd.prog W 0 (fun _ => true) true Tryd.f7.params.toList args.toList ds p := hA0
  rw [Tryd.params7] at hA hval hreach
  obtain ⟨v0, vs0, d0, ds0, pp0, qq0, hargs, rfl, rfl, h0, rr0⟩ := trodAll_cons hA
  obtain ⟨rfl, rfl, rfl⟩ := trodAll_nil rr0
  obtain rfl : args = #[v0] := by cases args; simp_all
  obtain ⟨rfl, rfl⟩ := trodVars_none hV
  obtain ⟨a0, rfl, rfl, rfl, w0⟩ := open_int Tryd.underlying3 (hval 0 3 v0 rfl rfl) h0
  clear hA0
  refine (walk a0 W ht).mono fun e W' ⟨he, hb⟩ => ?_
  subst he
  exact ⟨_, rfl, post_law laidOut (by kernel_rfl) (by kernel_rfl) rfl hW' rfl hb⟩

set_option maxRecDepth 100000 in
theorem laid_met (os : Os) : laidMet Tryd.prog Rows.charsetShowsRow.laid ((laidWorld os).forCall (fun _ _ => 0) ⟨#[], #[Value.int .i64 0], []⟩).memory :=
  laidMet_of_run' 8 (by kernel_rfl) (by kernel_rfl)
set_option maxRecDepth 100000 in
theorem reads (os : Os) {H : Type} (enc : TypeId × Value → H) : ∃ places, DataW.whole enc Tryd.prog ((laidWorld os).forCall (fun _ _ => 0) ⟨#[], #[Value.int .i64 0], []⟩).memory Tryd.f7.params.toList Rows.charsetShowsSpec.vars false (#[Value.int .i64 0] : Array Value).toList 8 = some ([.lit (.int .i64 0)], [], places) :=
  ⟨[], by kernel_rfl⟩

set_option maxRecDepth 100000 in
theorem lifted (os : Os) (started : os.Started) (H : Type) (enc : TypeId × Value → H) (F : Stop.Interp) :
    ReturnsInHanded {} Tryd.checked os 7 .any ((OpenSpec.ofChange Rows.charsetShowsSpec).preRow enc Tryd.prog Tryd.f7 Rows.charsetShowsRow.domain false Rows.charsetShowsRow.laid) (((OpenSpec.ofChange Rows.charsetShowsSpec).at F).post enc Tryd.prog Tryd.f7 false true false false) := by
  obtain ⟨places, hx⟩ := reads os enc
  refine returnsInHanded_of_row (C := Tryd.checked) (s := OpenSpec.ofChange Rows.charsetShowsSpec) own started (by kernel_rfl) Tryd.func7
    (witness_row_at (enc := enc) (C := Tryd.checked) false (laidWorld os) #[Value.int .i64 0] rfl (by kernel_rfl) (by kernel_rfl) (by kernel_rfl)
      (OpenSpec.preRow_of_cond 8 hx (by kernel_rfl) (fun k hk => by cases hk) (by kernel_rfl) (laid_met os))) ?_
  intro W base args ds gs before hval hW _ _ hreach hL _ _
  exact contract H enc W base args ds gs before hval hW hL hreach

theorem said : Rows.CharsetShowsSaid :=
  OpenClaim.holds_of_cond 7 Tryd.f7 rfl rfl rfl rfl rfl rfl rfl ⟨rfl, rfl, rfl, rfl, rfl⟩ rfl rfl rfl rfl rfl (by kernel_rfl) Tryd.func7 (by kernel_rfl)
    (of_decide_eq_true (by kernel_rfl)) (by unfold Func.isWrapper; first | (rw [if_pos (by decide +kernel)]; kernel_rfl) | (rw [if_neg (by decide +kernel)]; exact ⟨rfl, rfl⟩))
    (fun os started H enc _ F => by rw [OpenClaim.pre_eq_preRow]; exact lifted os started H enc F)

theorem plain (f : FuncId) (fn : Func) (hf : Tryd.pinned.checked.prog.funcNamed "phosphor/phosphorlaw09.CharsetShows" = some f) (hfn : Tryd.pinned.checked.prog.funcs[f]? = some fn) :
    false = Tryd.pinned.checked.prog.looks [] ∧ ∀ (j : Nat) t, fn.params[j]? = some t → Tryd.pinned.checked.prog.wantsStandIn t = false := by
  obtain rfl : f = 7 := Option.some.inj ((show Tryd.prog.funcNamed "phosphor/phosphorlaw09.CharsetShows" = some 7 by kernel_rfl).symm.trans hf) |>.symm
  obtain rfl : fn = Tryd.f7 := (Option.some.inj (Tryd.func7.symm.trans hfn)).symm
  refine ⟨by kernel_rfl, fun j t ht => ?_⟩
  rw [Tryd.params7] at ht
  have hm : t ∈ [3] := by simpa using Array.mem_of_getElem? ht
  have hall : ([3].all fun u => !Tryd.prog.wantsStandIn u) = true := by kernel_rfl
  exact (show Tryd.prog.wantsStandIn t = false by simpa using List.all_eq_true.1 hall t hm)

/-- The card. -/
theorem card : Rows.CharsetShowsCardSaid :=
  Claim7.holds_tied_plain_at .later [] _ _ _ _ said (fun _ h => by cases h) (by kernel_rfl) (fun _ h => by cases h) charsetShows_row_tie rfl ⟨rfl, rfl⟩ (by kernel_rfl) rfl plain (by kernel_rfl)
#print axioms card
end Go.Proofs.YtmpbalocohoihaaDoor.charsetShows
