/- Laws that the statements of this seat lean on, part 10 (DF DG MathG6 Law RK RM RN RW R1 R2 R3 R4 R5 R6 R7 R8 R16 RS FO FB6 LayP LayT LT MathJ PB FP6 MK ML LF LG PC LO PF SB6 PD PE RL5 MathM6 SC6 SD6 EN6 CF6 CK6 FC6 FD6 FT6 DG6 FG6 SB SC ED EW Enc8 EE): each a contract of a function, or a plain fact; conditions stand at each. -/
import Derived.BigQuiet
import Derived.Deep.AppendLies
import Derived.Deep.CutBlock
import Derived.Deep.CutRange
import Derived.Deep.DeepCutAuto
import Derived.Deep.QuietTactic
import Derived.Deep.RegionHeld3
import Derived.Deep.RegionLaw
import Derived.Laws.AppendOwnNone
import Derived.Laws.BitsLemmas
import Derived.Laws.BytesArg
import Derived.Laws.IdiomStrings
import Derived.Lib.AppendIntMem
import Derived.Lib.AppendStr
import Derived.Lib.Bytealg
import Derived.Lib.IndexMore
import Derived.Lib.ItoaNum
import Derived.Lib.LaidTab
import Derived.Lib.SlTrimSet
import Derived.Lib.Slices
import Derived.Lib.Strings
import Derived.Lib.Walk
import Derived.MakeChecks
import Derived.Maps.AppendAt
import Derived.Maps.Own
import Derived.Maps.OwnOps
import Derived.Maps.OwnSet
import Derived.Maps.Views
import Derived.ProofKit
import Derived.Shelf.Small.Strs
import Derived.Shelf.Strconv.Clone
import Derived.Shelf.Strconv.Itoa3
import Derived.Shelf.Strings.Prefix
import Derived.Shelf.Strings.Shaped
import Derived.Shelf.Strings.SlTrimAscii
import Derived.Stop.LaidErr
import Derived.WalkKit
import Derived.WalkSmall
import Derived.Test.YtaiinjfnkmidbaaGreatDoorProg
import Derived.Test.YtaiinjfnkmidbaaGreatDoorRows
import Derived.Test.YtaiinjfnkmidbaaGreatDoorX9
namespace Go.Proofs.YtaiinjfnkmidbaaGreatDoor
open Go.RowKit
set_option linter.unusedVariables false

theorem bl_inj {r : ByteArray} {xs : List Int} (h : bl r = xs) : r = strOfNums xs := by rw [← h, str_bl]
/-- A state in memory. -/
structure Sc (B : Nat) (e : Int) (r : ByteArray) (t : M.St) (w : World) : Prop where
  c0 : w.cell? ⟨B, 0, none⟩ = some (.int .i64 e)
  c1 : w.cell? ⟨B, 1, none⟩ = some (.string r)
  c2 : w.cell? ⟨B, 2, none⟩ = some (.int .i64 t.1)
  c3 : w.cell? ⟨B, 3, none⟩ = some (.bool t.2.1)
  c4 : w.cell? ⟨B, 4, none⟩ = some (.bool t.2.2)
  f0 : w.frozen? ⟨B, 0, none⟩ = false
  f1 : w.frozen? ⟨B, 1, none⟩ = false
  f2 : w.frozen? ⟨B, 2, none⟩ = false
  f3 : w.frozen? ⟨B, 3, none⟩ = false
  f4 : w.frozen? ⟨B, 4, none⟩ = false
theorem re_b : M.RE 1 M.st0 (bl ⟨#[]⟩ ++ bl s1) = ([97], M.st0, [226, 130]) := by decide +kernel
theorem te_b : (M.TE 1 M.st0 (bl s4 ++ bl s2)).1 = [8364, 65533] := by decide +kernel
theorem de_b : M.decE 7 (bl s3) = [65533] := by decide +kernel
theorem ck_b : chk 1 s4 M.st0 = 0 := by decide +kernel

set_option maxHeartbeats 3000000 in
set_option maxRecDepth 100000 in
theorem begunT_any (w : World) : Calls Tryz.prog 39 #[] w fun e w' => e = .returned (.bool true) ∧ Below w.heap.size w w' := by
  go_enter Tryz.func39, Tryz.ntmps39
  go_wp2_with fail
  refine (open_yes 1 _ (by omega)).mono ?_
  rintro e w1 ⟨rfl, hb1⟩
  have HB1 := hide hb1
  clear hb1
  unfold sv M.st0
  go_wp2_with fail
  refine (feed_more 1 ⟨#[]⟩ M.st0 s1 _ (by omega) ⟨by decide +kernel, by decide⟩ (M.Ok_st0 1) (by decide)).mono ?_
  rintro e w2 ⟨v2, r2, t2, L2, rfl, hI2, hb2, h1, -⟩
  obtain ⟨e1, e2, e3⟩ := h1 rfl
  rw [re_b] at e1 e2 e3
  have e2' : r2 = s4 := bl_inj e2
  subst e1 e2' e3
  obtain ⟨a2, c2, hs2⟩ := owns_shape hI2
  subst hs2
  have HI2 := hide (Ints.of_owns hI2)
  have HO2 := hide ((Sc.new w1 1 ⟨#[]⟩ M.st0).on hb2)
  have HB2 := hide (bstep (unhide HB1) (bstep (balloc w1 (.cells #[.int .i64 1, .string ⟨#[]⟩, .int .i64 0, .bool false, .bool false] 23)) hb2))
  clear hI2 hb2 h1 e2 HB1
  unfold sv M.st0 s4
  go_wp2_with fail
  refine (feed_last 1 s4 M.st0 s2 _ (by omega) ⟨by decide +kernel, by decide⟩ (M.Ok_st0 1) (by decide)).mono ?_
  rintro e w3 ⟨v3, r3, t3, L3, rfl, hI3, hb3, -, h1⟩
  obtain ⟨e1, e2, e3⟩ := h1 rfl
  rw [te_b] at e1
  subst e1 e2 e3
  obtain ⟨a3, c3, hs3⟩ := owns_shape hI3
  subst hs3
  have hst := bstep (balloc w2 (.cells #[.int .i64 1, .string s4, .int .i64 0, .bool false, .bool false] 23)) hb3
  have HI3 := hide (Ints.of_owns hI3)
  have HT3 := hide ((Sc.new w2 1 s4 M.st0).on hb3)
  have HO3 := hide ((unhide HO2).on hst)
  have HI23 := hide ((unhide HI2).below hst)
  have HB3 := hide (bstep (unhide HB2) hst)
  clear hI3 hb3 h1 hst HO2 HI2 HB2
  unfold sv M.st0
  go_wp2_with fail
  refine (sdecode_any 7 s3 _ (by omega) (by decide)).mono ?_
  rintro e w4 ⟨v4, rfl, hI4, hb4⟩
  rw [de_b] at hI4
  obtain ⟨a4, c4, hs4, -⟩ := id hI4
  subst hs4
  have hst := bstep (balloc w3 (.cells #[.int .i64 1, .string ⟨#[]⟩, .int .i64 0, .bool false, .bool false] 23)) hb4
  have HI4 := hide hI4
  have HU4 := hide ((Sc.new w3 1 ⟨#[]⟩ M.st0).on hb4)
  have HT4 := hide ((unhide HT3).on hst)
  have HO4 := hide ((unhide HO3).on hst)
  have HI24 := hide ((unhide HI23).below hst)
  have HI34 := hide ((unhide HI3).below hst)
  have HB4 := hide (bstep (unhide HB3) hst)
  clear hI4 hb4 hst HT3 HO3 HI23 HI3 HB3
  obtain ⟨p0, p1, p2, p3, p4, -, -, -, -, -⟩ := unhide HT4
  have hp := (unhide HT4).lt
  unfold M.st0 at p2 p3 p4
  unfold s4 at p1
  go_wp2_with fail
  refine (check_any 1 s4 M.st0 _ (by decide)).mono ?_
  rintro e w5 ⟨rfl, hb5⟩
  rw [ck_b]
  have HI45 := hide ((unhide HI4).below hb5)
  have HU5 := hide ((unhide HU4).on hb5)
  have HT5 := hide ((unhide HT4).on hb5)
  have HO5 := hide ((unhide HO4).on hb5)
  have HI25 := hide ((unhide HI24).below hb5)
  have HI35 := hide ((unhide HI34).below hb5)
  have HB5 := hide (bstep (unhide HB4) hb5)
  clear hb5 p0 p1 p2 p3 p4 hp HU4 HT4 HO4 HI24 HI34 HB4 HI4
  go_wp2_with fail
  refine (same_any _ ((unhide HI25).below (balloc _ _)) (one_int _ _)).mono ?_
  rintro e w6 ⟨rfl, hb6⟩
  rw [show ([97] == ([97] : List Int)) = true from by decide]
  have hst := bstep (balloc w5 (.cells #[.int .i64 97] 3)) hb6
  have HI46 := hide ((unhide HI45).below hst)
  have HU6 := hide ((unhide HU5).on hst)
  have HT6 := hide ((unhide HT5).on hst)
  have HO6 := hide ((unhide HO5).on hst)
  have HI36 := hide ((unhide HI35).below hst)
  have HB6 := hide (bstep (unhide HB5) hst)
  clear hb6 hst HU5 HT5 HO5 HI25 HI35 HB5 HI45
  obtain ⟨p0, p1, p2, p3, p4, -, -, -, -, -⟩ := unhide HT6
  have hp := (unhide HT6).lt
  unfold s4 at p1
  go_wp2_with fail
  refine (same_any _ ((unhide HI36).below (balloc _ _)) (two_ints _ _ _)).mono ?_
  rintro e w7 ⟨rfl, hb7⟩
  rw [show ([8364, 65533] == ([8364, 65533] : List Int)) = true from by decide]
  have hst := bstep (balloc w6 (.cells #[.int .i64 8364, .int .i64 65533] 3)) hb7
  have HI47 := hide ((unhide HI46).below hst)
  have HU7 := hide ((unhide HU6).on hst)
  have HO7 := hide ((unhide HO6).on hst)
  have HB7 := hide (bstep (unhide HB6) hst)
  clear hb7 hst HU6 HT6 HO6 HI36 HB6 HI46 p0 p1 p2 p3 p4 hp
  obtain ⟨p0, p1, p2, p3, p4, -, -, -, -, -⟩ := unhide HU7
  have hp := (unhide HU7).lt
  obtain ⟨q0, q1, q2, q3, q4, -, -, -, -, -⟩ := unhide HO7
  have hq := (unhide HO7).lt
  unfold M.st0 at p2 p3 p4 q2 q3 q4
  go_wp2_with fail
  refine (same_any _ ((unhide HI47).below (balloc _ _)) (one_int _ _)).mono ?_
  rintro e w8 ⟨rfl, hb8⟩
  rw [show ([65533] == ([65533] : List Int)) = true from by decide]
  have HB8 := hide (bstep (unhide HB7) (bstep (balloc w7 (.cells #[.int .i64 65533] 3)) hb8))
  clear hb8
  go_wp2_with fail
  go_ret
  exact ⟨rfl, unhide HB8⟩
end Go.Proofs.YtaiinjfnkmidbaaGreatDoor

namespace Go.Proofs.YtaiinjfnkmidbaaGreatDoor
open Go.RowKit
set_option linter.unusedVariables false

end Go.Proofs.YtaiinjfnkmidbaaGreatDoor

namespace Go.Proofs.YtaiinjfnkmidbaaGreatDoor
open Go.RowKit
set_option linter.unusedVariables false

/-- A front. -/
structure Fr where
  L : ByteArray
  enc : Int
  why : Int
  W : ByteArray
  e : Int
  r : ByteArray
  t : M.St
end Go.Proofs.YtaiinjfnkmidbaaGreatDoor

namespace Go.Proofs.YtaiinjfnkmidbaaGreatDoor
open Go.RowKit
set_option linter.unusedVariables false

set_option maxHeartbeats 400000 in
set_option maxRecDepth 100000 in
theorem isScalar_any (n : Int) (w : World) : Calls Tryz.prog 80 #[.int .i64 n] w fun e w' => e = .returned (.bool (M.sclr n)) ∧ w' = w := by
  have HS : Hid (M.sclr n = ((decide (0 ≤ n) && decide (n ≤ 55295)) || (decide (57344 ≤ n) && decide (n ≤ 1114111)))) := by
    show M.sclr n = _
    rw [Bool.eq_iff_iff]; simp [M.sclr]; omega
  by_cases h : 0 ≤ n ∧ n ≤ 55295
  · have hd : (decide (0 ≤ n) && decide (n ≤ 55295)) = true := by simp; omega
    go_enter Tryz.func80, Tryz.ntmps80
    go_wp2_with (go_at_call 51; refine (between_any _ _ _ _).mono ?_; rintro e w1 ⟨rfl, hw⟩; replace hw := hw.symm; subst hw)
    go_ret
    exact ⟨ret_bool (by rw [unhide HS, hd]; simp), rfl⟩
  · have hd : (decide (0 ≤ n) && decide (n ≤ 55295)) = false := by simp; omega
    go_enter Tryz.func80, Tryz.ntmps80
    go_wp2_with (go_at_call 51; refine (between_any _ _ _ _).mono ?_; rintro e w1 ⟨rfl, hw⟩; replace hw := hw.symm; subst hw)
    go_ret
    exact ⟨ret_bool (by rw [unhide HS, hd]; simp), rfl⟩
set_option maxHeartbeats 400000 in
set_option maxRecDepth 100000 in
theorem check_many (ao : Option Addr) (len cap : Nat) (w : World) (h : 3000 < len) (hm : len ≤ maxLen) :
    Calls Tryz.prog 33 #[.slice ao len cap] w fun e w' => e = .returned (.int .i64 2) ∧ w' = w := by
  unfold maxLen at hm
  go_enter Tryz.func33, Tryz.ntmps33
  go_wp2
  go_ret
  exact ⟨rfl, rfl⟩
/-- What CheckPoints answers of at most 3000 integers. -/
def chkRes (xs : List Int) : Value := if xs.all M.sclr then .int .i64 0 else .int .i64 3
theorem chkRes_yes {xs : List Int} (h : xs.all M.sclr = true) : chkRes xs = .int .i64 0 := by unfold chkRes; rw [if_pos h]
theorem chkRes_no {xs : List Int} (h : xs.all M.sclr = false) : chkRes xs = .int .i64 3 := by unfold chkRes; rw [if_neg (by simp [h])]
set_option maxHeartbeats 400000 in
set_option maxRecDepth 100000 in
theorem check_none (ao : Option Addr) (cap : Nat) (w : World) : Calls Tryz.prog 33 #[.slice ao 0 cap] w fun e w' => e = .returned (.int .i64 0) ∧ w' = w := by
  go_enter Tryz.func33, Tryz.ntmps33
  go_wp2
  refine wp_loop_rounds 1 ?_
  rw [rounds_succ]
  go_wp2
  go_ret
  exact ⟨rfl, rfl⟩
set_option maxHeartbeats 400000 in
set_option maxRecDepth 100000 in
theorem check_some (b off cap : Nat) (xs : List Int) (w : World) (h0 : xs ≠ []) (h : xs.length ≤ 3000) (hc : ∀ i, i < xs.length → w.cell? ⟨b, off + i, none⟩ = some (.int .i64 (xs.getD i 0))) :
    Calls Tryz.prog 33 #[.slice (some ⟨b, off, none⟩) xs.length cap] w fun e w' => e = .returned (chkRes xs) ∧ w' = w := by
  have hlen : 0 < xs.length := List.length_pos_iff.2 h0
  have HC := hide hc
  clear hc h0
  go_enter Tryz.func33, Tryz.ntmps33
  go_wp2_with fail
  go_loop [3] (fun i => ∃ k : Nat, k ≤ xs.length ∧ i = .int .i64 k ∧ Hid ((xs.take k).all M.sclr = true)) (fun i => xs.length - (intOf i).toNat)
  case atStart => exact ⟨0, by omega, rfl, rfl⟩
  case round =>
    obtain ⟨k, hk, rfl, HA⟩ := hrel
    by_cases hlt : k < xs.length
    · have hcell := unhide HC k hlt
      obtain ⟨p, HP⟩ : ∃ p, Hid (xs.getD k 0 = p) := ⟨_, rfl⟩
      rw [unhide HP] at hcell
      obtain ⟨q, HQ⟩ : ∃ q, Hid (M.sclr p = q) := ⟨_, rfl⟩
      go_wp2_with fail
      refine (isScalar_any _ _).mono ?_
      rintro e w1 ⟨rfl, hw⟩
      replace hw := hw.symm
      subst hw
      rw [unhide HQ]
      cases q
      · go_wp2_with fail
        go_ret
        have : xs.all M.sclr = false := by
          rw [List.all_eq_false]
          refine ⟨xs.getD k 0, ?_, by rw [unhide HP, unhide HQ]; simp⟩
          simp [hlt]
        refine ⟨?_, rfl⟩
        rw [chkRes_no this]; rfl
      · have HA' : Hid ((xs.take (k + 1)).all M.sclr = true) := by
          show (xs.take (k + 1)).all M.sclr = true
          rw [take_snoc xs k hlt, List.all_append, unhide HA, unhide HP]
          simpa using unhide HQ
        go_wp2_with fail
        go_round
        case rel => exact ⟨k + 1, by omega, by go_num, HA'⟩
        case measure => simp [intOf]; omega
    · go_wp2_with fail
      go_ret
      have := unhide HA
      rw [List.take_of_length_le (by omega)] at this
      refine ⟨?_, rfl⟩
      rw [chkRes_yes this]; rfl
theorem pcheck_any {v : Value} {xs : List Int} (w : World) (hx : Ints w v xs) (h : xs.length ≤ 3000) :
    Calls Tryz.prog 33 #[v] w fun e w' => e = .returned (chkRes xs) ∧ w' = w := by
  obtain ⟨ao, cap, rfl, hm, -, hx⟩ := hx
  by_cases h0 : xs = []
  · subst h0; exact check_none ao cap w
  · rcases hx with hx | ⟨b, off, rfl, hc⟩
    · exact absurd hx h0
    · exact check_some b off cap xs w h0 h hc
end Go.Proofs.YtaiinjfnkmidbaaGreatDoor

namespace Go.Proofs.YtaiinjfnkmidbaaGreatDoor
open Go.RowKit
set_option linter.unusedVariables false

/-- What kanaByte answers. -/
def kbv (g n : Int) : Int := if M.hasK g n then M.kby g n else -1
theorem kbv_hit {g n : Int} {k : Nat} (hk : k < 128) (h : ∀ j, j < k → M.kis g n j = false) (hh : M.kis g n k = true) : kbv g n = k := by
  have hf : (List.range 128).find? (M.kis g n) = some k := by
    rw [List.find?_range_eq_some]
    refine ⟨hh, by simpa using hk, fun j hj => by simpa using h j hj⟩
  have ha : M.hasK g n = true := by
    unfold M.hasK; rw [List.any_eq_true]; exact ⟨k, by simpa using hk, hh⟩
  unfold kbv M.kby
  rw [ha, hf]; rfl
theorem kbv_miss {g n : Int} (h : ∀ j, j < 128 → M.kis g n j = false) : kbv g n = -1 := by
  have ha : M.hasK g n = false := by
    unfold M.hasK; rw [List.any_eq_false]
    intro x hx; simpa using h x (by simpa using hx)
  unfold kbv; rw [ha]; rfl
theorem kbv_yes {g n : Int} (h : M.hasK g n = true) : kbv g n = M.kby g n ∧ 0 ≤ kbv g n ∧ kbv g n < 128 := by
  obtain ⟨c, h1, h2, _⟩ := M.kby_spec h
  have e : kbv g n = M.kby g n := by unfold kbv; rw [h]; rfl
  exact ⟨e, by omega, by omega⟩
theorem kbv_no {g n : Int} (h : M.hasK g n = false) : kbv g n = -1 := by unfold kbv; rw [h]; rfl
theorem kis_cases (g n : Int) (k : Nat) : M.kis g n k = (k != 27 && M.ksn g k == n && n != 65533) := rfl

set_option maxHeartbeats 800000 in
set_option maxRecDepth 100000 in
theorem kanaByte_any (g n : Int) (hg : M.Sg g) (w : World) :
    Calls Tryz.prog 141 #[.int .i64 g, .int .i64 n] w fun e w' => e = .returned (.int .i64 (kbv g n)) ∧ w' = w := by
  go_enter Tryz.func141, Tryz.ntmps141
  go_wp2_with fail
  go_loop [5] (fun i => ∃ k : Nat, k ≤ 128 ∧ i = .int .i64 k ∧ Hid (∀ j, j < k → M.kis g n j = false)) (fun i => 128 - (intOf i).toNat)
  case atStart => exact ⟨0, by omega, rfl, hide (fun j hj => by omega)⟩
  case round =>
    obtain ⟨k, hk, rfl, HN⟩ := hrel
    by_cases hlt : k < 128
    · have hsg := fun w => kanaSign_any g (k : Int) hg (by omega) (by omega) w
      have HC := hide (kis_cases g n k)
      have HS : Hid (M.kis g n k = false → ∀ j, j < k + 1 → M.kis g n j = false) := hide (fun h j hj => by
        by_cases e : j = k
        · rw [e]; exact h
        · exact unhide HN j (by omega))
      have HH : Hid (M.kis g n k = true → kbv g n = k) := hide (fun h => kbv_hit hlt (unhide HN) h)
      obtain ⟨x, hx⟩ : ∃ x, M.ksn g (k : Int) = x := ⟨_, rfl⟩
      rw [hx] at hsg HC
      clear HN hx
      by_cases h27 : k = 27
      · have HF : Hid (M.kis g n k = false) := hide (by rw [unhide HC, h27]; rfl)
        have e1 : ((k : Int) != 27) = false := by rw [h27]; rfl
        clear hsg h27
        go_wp2_with fail
        go_round
        case rel => exact ⟨k + 1, by omega, by go_num, hide (unhide HS (unhide HF))⟩
        case measure => simp [intOf]; omega
      · have e1 : ((k : Int) != 27) = true := by simp; omega
        have e1' : (k != 27) = true := by simp; omega
        rw [e1'] at HC
        by_cases hxn : x = n
        · subst hxn
          by_cases hb : x = 65533
          · have HF : Hid (M.kis g x k = false) := hide (by rw [unhide HC, hb]; rfl)
            have e2 : (x != 65533) = false := by rw [hb]; rfl
            clear e1' hb
            go_wp2_with fail
            refine (hsg _).mono ?_
            rintro e w1 ⟨rfl, hw⟩
            replace hw := hw.symm
            subst hw
            clear hsg
            go_wp2_with fail
            go_round
            case rel => exact ⟨k + 1, by omega, by go_num, hide (unhide HS (unhide HF))⟩
            case measure => simp [intOf]; omega
          · have e2 : (x != 65533) = true := by simpa using hb
            have HF : Hid (M.kis g x k = true) := hide (by rw [unhide HC, e2]; simp)
            have HR := hide (unhide HH (unhide HF))
            clear e1' hb HF HC HS HH
            go_wp2_with fail
            refine (hsg _).mono ?_
            rintro e w1 ⟨rfl, hw⟩
            replace hw := hw.symm
            subst hw
            clear hsg
            go_wp2_with fail
            go_ret
            exact ⟨ret_int (unhide HR).symm, rfl⟩
        · have e2 : (x == n) = false := by simpa using hxn
          have HF : Hid (M.kis g n k = false) := hide (by rw [unhide HC, e2]; rfl)
          clear e1' hxn
          go_wp2_with fail
          refine (hsg _).mono ?_
          rintro e w1 ⟨rfl, hw⟩
          replace hw := hw.symm
          subst hw
          clear hsg
          go_wp2_with fail
          go_round
          case rel => exact ⟨k + 1, by omega, by go_num, hide (unhide HS (unhide HF))⟩
          case measure => simp [intOf]; omega
    · have e : k = 128 := by omega
      subst e
      have HR := hide (kbv_miss (unhide HN))
      clear HN
      go_wp2_with fail
      go_ret
      exact ⟨ret_int (unhide HR).symm, rfl⟩

theorem kbv_pos (g n : Int) : decide (0 ≤ kbv g n) = M.hasK g n := by
  cases h : M.hasK g n
  · rw [kbv_no h]; rfl
  · exact decide_eq_true (kbv_yes h).2.1
set_option maxHeartbeats 800000 in
set_option maxRecDepth 100000 in
theorem hasKana_any (n : Int) (w : World) :
    Calls Tryz.prog 139 #[.int .i64 n] w fun e w' => e = .returned (.bool (M.anyK n)) ∧ w' = w := by
  have k0 := fun w => kanaByte_any 0 n (.inl rfl) w
  have k1 := fun w => kanaByte_any 1 n (.inr (.inl rfl)) w
  have k2 := fun w => kanaByte_any 2 n (.inr (.inr rfl)) w
  have HA : Hid (M.anyK n = (decide (0 ≤ kbv 0 n) || decide (0 ≤ kbv 1 n) || decide (0 ≤ kbv 2 n))) := hide (by rw [kbv_pos, kbv_pos, kbv_pos]; rfl)
  generalize kbv 0 n = a0 at *
  generalize kbv 1 n = a1 at *
  generalize kbv 2 n = a2 at *
  have fin3' : ∀ q : Bool, (decide (0 ≤ a0) || decide (0 ≤ a1) || decide (0 ≤ a2)) = q → M.anyK n = q := fun q hq => by rw [unhide HA]; exact hq
  have HF := hide fin3'
  clear fin3' HA
  by_cases h0 : 0 ≤ a0
  · have HR := hide (unhide HF true (by simp [h0]))
    clear HF
    go_enter Tryz.func139, Tryz.ntmps139
    go_wp2_with fail
    refine (k0 _).mono ?_
    rintro e w1 ⟨rfl, hw⟩
    replace hw := hw.symm
    subst hw
    go_wp2_with fail
    go_ret
    exact ⟨ret_bool (unhide HR).symm, rfl⟩
  · by_cases h1 : 0 ≤ a1
    · have HR := hide (unhide HF true (by simp [h1]))
      clear HF
      go_enter Tryz.func139, Tryz.ntmps139
      go_wp2_with fail
      refine (k0 _).mono ?_
      rintro e w1 ⟨rfl, hw⟩
      replace hw := hw.symm
      subst hw
      go_wp2_with fail
      refine (k1 _).mono ?_
      rintro e w1 ⟨rfl, hw⟩
      replace hw := hw.symm
      subst hw
      go_wp2_with fail
      go_ret
      exact ⟨ret_bool (unhide HR).symm, rfl⟩
    · have HR := hide (unhide HF (decide (0 ≤ a2)) (by simp [h0, h1]))
      clear HF
      go_enter Tryz.func139, Tryz.ntmps139
      go_wp2_with fail
      refine (k0 _).mono ?_
      rintro e w1 ⟨rfl, hw⟩
      replace hw := hw.symm
      subst hw
      go_wp2_with fail
      refine (k1 _).mono ?_
      rintro e w1 ⟨rfl, hw⟩
      replace hw := hw.symm
      subst hw
      go_wp2_with fail
      refine (k2 _).mono ?_
      rintro e w1 ⟨rfl, hw⟩
      replace hw := hw.symm
      subst hw
      go_wp2_with fail
      go_ret
      refine ⟨?_, rfl⟩
      rw [unhide HR]
      exact ret_bool (by simp; omega)
end Go.Proofs.YtaiinjfnkmidbaaGreatDoor

namespace Go.Proofs.YtaiinjfnkmidbaaGreatDoor
open Go.RowKit
set_option linter.unusedVariables false

/-- How signs are shifted, in memory. -/
structure Pc (B : Nat) (g : Int) (fr : Bool) (w : World) : Prop where
  c0 : w.cell? ⟨B, 0, none⟩ = some (.int .i64 g)
  c1 : w.cell? ⟨B, 1, none⟩ = some (.bool fr)
  f0 : w.frozen? ⟨B, 0, none⟩ = false
  f1 : w.frozen? ⟨B, 1, none⟩ = false
end Go.Proofs.YtaiinjfnkmidbaaGreatDoor

namespace Go.Proofs.YtaiinjfnkmidbaaGreatDoor
open Go.RowKit
set_option linter.unusedVariables false

end Go.Proofs.YtaiinjfnkmidbaaGreatDoor

namespace Go.Proofs.YtaiinjfnkmidbaaGreatDoor
open Go.RowKit
set_option linter.unusedVariables false

end Go.Proofs.YtaiinjfnkmidbaaGreatDoor

namespace Go.Proofs.YtaiinjfnkmidbaaGreatDoor.M

end Go.Proofs.YtaiinjfnkmidbaaGreatDoor.M

namespace Go.Proofs.YtaiinjfnkmidbaaGreatDoor.M
end Go.Proofs.YtaiinjfnkmidbaaGreatDoor.M

namespace Go.Proofs.YtaiinjfnkmidbaaGreatDoor.M

end Go.Proofs.YtaiinjfnkmidbaaGreatDoor.M

namespace Go.Proofs.YtaiinjfnkmidbaaGreatDoor

end Go.Proofs.YtaiinjfnkmidbaaGreatDoor

namespace Go.Proofs.YtaiinjfnkmidbaaGreatDoor
open Go.RowKit
set_option linter.unusedVariables false

end Go.Proofs.YtaiinjfnkmidbaaGreatDoor

namespace Go.Proofs.YtaiinjfnkmidbaaGreatDoor
open Go.RowKit
set_option linter.unusedVariables false

end Go.Proofs.YtaiinjfnkmidbaaGreatDoor

namespace Go.Proofs.YtaiinjfnkmidbaaGreatDoor

end Go.Proofs.YtaiinjfnkmidbaaGreatDoor

namespace Go.Proofs.YtaiinjfnkmidbaaGreatDoor
open Go.RowKit
set_option linter.unusedVariables false

end Go.Proofs.YtaiinjfnkmidbaaGreatDoor

namespace Go.Proofs.YtaiinjfnkmidbaaGreatDoor
open Go.RowKit
set_option linter.unusedVariables false

end Go.Proofs.YtaiinjfnkmidbaaGreatDoor

namespace Go.Proofs.YtaiinjfnkmidbaaGreatDoor
open Go.RowKit
set_option linter.unusedVariables false

end Go.Proofs.YtaiinjfnkmidbaaGreatDoor

namespace Go.Proofs.YtaiinjfnkmidbaaGreatDoor
open Go.RowKit
set_option linter.unusedVariables false

end Go.Proofs.YtaiinjfnkmidbaaGreatDoor

namespace Go.Proofs.YtaiinjfnkmidbaaGreatDoor

end Go.Proofs.YtaiinjfnkmidbaaGreatDoor

namespace Go.Proofs.YtaiinjfnkmidbaaGreatDoor

end Go.Proofs.YtaiinjfnkmidbaaGreatDoor

namespace Go.Proofs.YtaiinjfnkmidbaaGreatDoor

end Go.Proofs.YtaiinjfnkmidbaaGreatDoor

namespace Go.Proofs.YtaiinjfnkmidbaaGreatDoor
open Go.RowKit
set_option linter.unusedVariables false

end Go.Proofs.YtaiinjfnkmidbaaGreatDoor

namespace Go.Proofs.YtaiinjfnkmidbaaGreatDoor
open Go.RowKit
set_option linter.unusedVariables false

end Go.Proofs.YtaiinjfnkmidbaaGreatDoor

namespace Go.Proofs.YtaiinjfnkmidbaaGreatDoor
set_option linter.unusedVariables false

end Go.Proofs.YtaiinjfnkmidbaaGreatDoor

namespace Go.Proofs.YtaiinjfnkmidbaaGreatDoor

end Go.Proofs.YtaiinjfnkmidbaaGreatDoor

namespace Go.Proofs.YtaiinjfnkmidbaaGreatDoor.M

structure Steps {σ : Type} (f : σ → List Int → Option (List Int × Nat × σ)) : Prop where
  size : ∀ s l o k s', f s l = some (o, k, s') → 1 ≤ k ∧ k ≤ l.length
  stay : ∀ s l t r, f s l = some r → f s (l ++ t) = some r

section
variable {σ : Type} {f : σ → List Int → Option (List Int × Nat × σ)} (hf : Steps f)
include hf

end

section
variable {σ : Type} {f : σ → List Int → Option (List Int × Nat × σ)}
end
end Go.Proofs.YtaiinjfnkmidbaaGreatDoor.M

namespace Go.Proofs.YtaiinjfnkmidbaaGreatDoor.M

end Go.Proofs.YtaiinjfnkmidbaaGreatDoor.M

namespace Go.Proofs.YtaiinjfnkmidbaaGreatDoor.M

end Go.Proofs.YtaiinjfnkmidbaaGreatDoor.M

namespace Go.Proofs.YtaiinjfnkmidbaaGreatDoor.M

end Go.Proofs.YtaiinjfnkmidbaaGreatDoor.M

namespace Go.Proofs.YtaiinjfnkmidbaaGreatDoor.M

/-! ### encoding -/
/-! ### two by two -/
/-! ### parts -/
end Go.Proofs.YtaiinjfnkmidbaaGreatDoor.M

namespace Go.Proofs.YtaiinjfnkmidbaaGreatDoor.M

end Go.Proofs.YtaiinjfnkmidbaaGreatDoor.M

namespace Go.Proofs.YtaiinjfnkmidbaaGreatDoor.M

end Go.Proofs.YtaiinjfnkmidbaaGreatDoor.M

namespace Go.Proofs.YtaiinjfnkmidbaaGreatDoor.M

/-! ### encoding -/
/-! ### plain signs -/
/-! ### escapes behind escapes -/
end Go.Proofs.YtaiinjfnkmidbaaGreatDoor.M

namespace Go.Proofs.YtaiinjfnkmidbaaGreatDoor.M

structure Whole {σ : Type} (f : σ → List Int → Option (List Int × Nat × σ)) (g : σ → List Int → List Int × Nat × σ) : Prop where
  size : ∀ s l, l ≠ [] → 1 ≤ (g s l).2.1 ∧ (g s l).2.1 ≤ l.length
  take : ∀ s l o k s' n, f s l = some (o, k, s') → k ≤ n → n ≤ l.length → (n = k ∨ ∃ o2 k2 s2, f s' (l.drop k) = some (o2, k2, s2) ∧ k + k2 ≤ n) → g s (l.take n) = (o, k, s')
  all : ∀ s l o k s', f s l = some (o, k, s') → g s l = (o, k, s')

section
variable {σ : Type} {f : σ → List Int → Option (List Int × Nat × σ)} {g : σ → List Int → List Int × Nat × σ}
end

/-! ### the encodings -/
end Go.Proofs.YtaiinjfnkmidbaaGreatDoor.M

namespace Go.Proofs.YtaiinjfnkmidbaaGreatDoor.M

section
variable {σ τ : Type} (get : τ → σ) (put : τ → σ → τ)
variable {get put} {f : σ → List Int → Option (List Int × Nat × σ)} {g : σ → List Int → List Int × Nat × σ}
end

/-! ### what waits -/
end Go.Proofs.YtaiinjfnkmidbaaGreatDoor.M

namespace Go.Proofs.YtaiinjfnkmidbaaGreatDoor.M

end Go.Proofs.YtaiinjfnkmidbaaGreatDoor.M

namespace Go.Proofs.YtaiinjfnkmidbaaGreatDoor
open Go.RowKit
set_option linter.unusedVariables false

end Go.Proofs.YtaiinjfnkmidbaaGreatDoor

namespace Go.Proofs.YtaiinjfnkmidbaaGreatDoor
open Go.RowKit
set_option linter.unusedVariables false

end Go.Proofs.YtaiinjfnkmidbaaGreatDoor

namespace Go.Proofs.YtaiinjfnkmidbaaGreatDoor
open Go.RowKit
set_option linter.unusedVariables false

/-- A teller's cells: its signs, whether an escape stood just ahead, the slice of what it has told. -/
structure Tc (D : Nat) (g : Int) (fr : Bool) (v : Value) (w : World) : Prop where
  c0 : w.cell? ⟨D, 0, none⟩ = some (.int .i64 g)
  c1 : w.cell? ⟨D, 1, none⟩ = some (.bool fr)
  c2 : w.cell? ⟨D, 2, none⟩ = some v
  f0 : w.frozen? ⟨D, 0, none⟩ = false
  f1 : w.frozen? ⟨D, 1, none⟩ = false
  f2 : w.frozen? ⟨D, 2, none⟩ = false
end Go.Proofs.YtaiinjfnkmidbaaGreatDoor

namespace Go.Proofs.YtaiinjfnkmidbaaGreatDoor
open Go.RowKit
set_option linter.unusedVariables false

end Go.Proofs.YtaiinjfnkmidbaaGreatDoor

namespace Go.Proofs.YtaiinjfnkmidbaaGreatDoor
open Go.RowKit
set_option linter.unusedVariables false

end Go.Proofs.YtaiinjfnkmidbaaGreatDoor

namespace Go.Proofs.YtaiinjfnkmidbaaGreatDoor
open Go.RowKit
set_option linter.unusedVariables false

end Go.Proofs.YtaiinjfnkmidbaaGreatDoor

namespace Go.Proofs.YtaiinjfnkmidbaaGreatDoor
open Go.RowKit
set_option linter.unusedVariables false

namespace M
end M
end Go.Proofs.YtaiinjfnkmidbaaGreatDoor

namespace Go.Proofs.YtaiinjfnkmidbaaGreatDoor
open Go.RowKit
set_option linter.unusedVariables false


namespace M
end M

end Go.Proofs.YtaiinjfnkmidbaaGreatDoor

namespace Go.Proofs.YtaiinjfnkmidbaaGreatDoor
open Go.RowKit
set_option linter.unusedVariables false

end Go.Proofs.YtaiinjfnkmidbaaGreatDoor

namespace Go.Proofs.YtaiinjfnkmidbaaGreatDoor
open Go.RowKit
set_option linter.unusedVariables false

end Go.Proofs.YtaiinjfnkmidbaaGreatDoor

namespace Go.Proofs.YtaiinjfnkmidbaaGreatDoor
open Go.RowKit
set_option linter.unusedVariables false

end Go.Proofs.YtaiinjfnkmidbaaGreatDoor

namespace Go.Proofs.YtaiinjfnkmidbaaGreatDoor
open Go.RowKit
set_option linter.unusedVariables false

end Go.Proofs.YtaiinjfnkmidbaaGreatDoor

namespace Go.Proofs
open Go.Shelf
end Go.Proofs
namespace Go.Proofs.YtaiinjfnkmidbaaGreatDoor
open Go.RowKit
set_option linter.unusedVariables false

end Go.Proofs.YtaiinjfnkmidbaaGreatDoor

namespace Go.Proofs.YtaiinjfnkmidbaaGreatDoor
open Go.RowKit
set_option linter.unusedVariables false

/-- A decoder's cells: its encoding, what waits, signs, whether an escape stood just ahead, whether it has stopped, the slice of what it has told. -/
structure Dc (D : Nat) (e : Int) (r : ByteArray) (g : Int) (fr st : Bool) (v : Value) (w : World) : Prop where
  c0 : w.cell? ⟨D, 0, none⟩ = some (.int .i64 e)
  c1 : w.cell? ⟨D, 1, none⟩ = some (.string r)
  c2 : w.cell? ⟨D, 2, none⟩ = some (.int .i64 g)
  c3 : w.cell? ⟨D, 3, none⟩ = some (.bool fr)
  c4 : w.cell? ⟨D, 4, none⟩ = some (.bool st)
  c5 : w.cell? ⟨D, 5, none⟩ = some v
  f0 : w.frozen? ⟨D, 0, none⟩ = false
  f1 : w.frozen? ⟨D, 1, none⟩ = false
  f2 : w.frozen? ⟨D, 2, none⟩ = false
  f3 : w.frozen? ⟨D, 3, none⟩ = false
  f4 : w.frozen? ⟨D, 4, none⟩ = false
  f5 : w.frozen? ⟨D, 5, none⟩ = false
end Go.Proofs.YtaiinjfnkmidbaaGreatDoor

namespace Go.Proofs.YtaiinjfnkmidbaaGreatDoor
open Go.RowKit
set_option linter.unusedVariables false

end Go.Proofs.YtaiinjfnkmidbaaGreatDoor

namespace Go.Proofs.YtaiinjfnkmidbaaGreatDoor
open Go.RowKit
set_option linter.unusedVariables false

end Go.Proofs.YtaiinjfnkmidbaaGreatDoor

namespace Go.Proofs.YtaiinjfnkmidbaaGreatDoor
open Go.RowKit
set_option linter.unusedVariables false

end Go.Proofs.YtaiinjfnkmidbaaGreatDoor

namespace Go.Proofs.YtaiinjfnkmidbaaGreatDoor
open Go.RowKit
set_option linter.unusedVariables false

end Go.Proofs.YtaiinjfnkmidbaaGreatDoor

namespace Go.Proofs.YtaiinjfnkmidbaaGreatDoor
open Go.RowKit
set_option linter.unusedVariables false

/-- The cells of a state that is answered. -/
structure Rc (B : Nat) (w : World) : Prop where
  b0 : w.cell? ⟨B, 0, none⟩ = some (.int .i64 0)
  b1 : w.cell? ⟨B, 1, none⟩ = some (.string ⟨#[]⟩)
  b2 : w.cell? ⟨B, 2, none⟩ = some (.int .i64 0)
  b3 : w.cell? ⟨B, 3, none⟩ = some (.bool false)
  b4 : w.cell? ⟨B, 4, none⟩ = some (.bool false)
  g0 : w.frozen? ⟨B, 0, none⟩ = false
  g1 : w.frozen? ⟨B, 1, none⟩ = false
  g2 : w.frozen? ⟨B, 2, none⟩ = false
  g3 : w.frozen? ⟨B, 3, none⟩ = false
  g4 : w.frozen? ⟨B, 4, none⟩ = false
end Go.Proofs.YtaiinjfnkmidbaaGreatDoor

namespace Go.Proofs.YtaiinjfnkmidbaaGreatDoor
open Go.RowKit
set_option linter.unusedVariables false

/-- A state in memory. -/
structure Sc (B : Nat) (e : Int) (r : ByteArray) (t : M.St) (w : World) : Prop where
  c0 : w.cell? ⟨B, 0, none⟩ = some (.int .i64 e)
  c1 : w.cell? ⟨B, 1, none⟩ = some (.string r)
  c2 : w.cell? ⟨B, 2, none⟩ = some (.int .i64 t.1)
  c3 : w.cell? ⟨B, 3, none⟩ = some (.bool t.2.1)
  c4 : w.cell? ⟨B, 4, none⟩ = some (.bool t.2.2)
  f0 : w.frozen? ⟨B, 0, none⟩ = false
  f1 : w.frozen? ⟨B, 1, none⟩ = false
  f2 : w.frozen? ⟨B, 2, none⟩ = false
  f3 : w.frozen? ⟨B, 3, none⟩ = false
  f4 : w.frozen? ⟨B, 4, none⟩ = false
end Go.Proofs.YtaiinjfnkmidbaaGreatDoor

namespace Go.Proofs.YtaiinjfnkmidbaaGreatDoor
open Go.RowKit
set_option linter.unusedVariables false

end Go.Proofs.YtaiinjfnkmidbaaGreatDoor

namespace Go.Proofs.YtaiinjfnkmidbaaGreatDoor
open Go.RowKit
set_option linter.unusedVariables false

/-- A front. -/
structure Fr where
  L : ByteArray
  enc : Int
  why : Int
  W : ByteArray
  e : Int
  r : ByteArray
  t : M.St
end Go.Proofs.YtaiinjfnkmidbaaGreatDoor

namespace Go.Proofs.YtaiinjfnkmidbaaGreatDoor
open Go.RowKit
set_option linter.unusedVariables false

namespace M
end M

end Go.Proofs.YtaiinjfnkmidbaaGreatDoor

namespace Go.Proofs.YtaiinjfnkmidbaaGreatDoor
open Go.RowKit
set_option linter.unusedVariables false

end Go.Proofs.YtaiinjfnkmidbaaGreatDoor

namespace Go.Proofs.YtaiinjfnkmidbaaGreatDoor
open Go.RowKit
set_option linter.unusedVariables false

end Go.Proofs.YtaiinjfnkmidbaaGreatDoor

namespace Go.Proofs.YtaiinjfnkmidbaaGreatDoor
open Go.RowKit
set_option linter.unusedVariables false

end Go.Proofs.YtaiinjfnkmidbaaGreatDoor

namespace Go.Proofs.YtaiinjfnkmidbaaGreatDoor
open Go.RowKit
set_option linter.unusedVariables false

end Go.Proofs.YtaiinjfnkmidbaaGreatDoor

namespace Go.Proofs.YtaiinjfnkmidbaaGreatDoor
open Go.RowKit
set_option linter.unusedVariables false

/-- How signs are shifted, in memory. -/
structure Pc (B : Nat) (g : Int) (fr : Bool) (w : World) : Prop where
  c0 : w.cell? ⟨B, 0, none⟩ = some (.int .i64 g)
  c1 : w.cell? ⟨B, 1, none⟩ = some (.bool fr)
  f0 : w.frozen? ⟨B, 0, none⟩ = false
  f1 : w.frozen? ⟨B, 1, none⟩ = false
end Go.Proofs.YtaiinjfnkmidbaaGreatDoor

namespace Go.Proofs.YtaiinjfnkmidbaaGreatDoor
open Go.RowKit
set_option linter.unusedVariables false

end Go.Proofs.YtaiinjfnkmidbaaGreatDoor

namespace Go.Proofs.YtaiinjfnkmidbaaGreatDoor
open Go.RowKit
set_option linter.unusedVariables false

end Go.Proofs.YtaiinjfnkmidbaaGreatDoor

namespace Go.Proofs.YtaiinjfnkmidbaaGreatDoor.M

end Go.Proofs.YtaiinjfnkmidbaaGreatDoor.M

namespace Go.Proofs.YtaiinjfnkmidbaaGreatDoor
open Go.RowKit
set_option linter.unusedVariables false

end Go.Proofs.YtaiinjfnkmidbaaGreatDoor

namespace Go.Proofs.YtaiinjfnkmidbaaGreatDoor
open Go.RowKit
set_option linter.unusedVariables false

end Go.Proofs.YtaiinjfnkmidbaaGreatDoor

namespace Go.Proofs.YtaiinjfnkmidbaaGreatDoor
open Go.RowKit
set_option linter.unusedVariables false

end Go.Proofs.YtaiinjfnkmidbaaGreatDoor

namespace Go.Proofs.YtaiinjfnkmidbaaGreatDoor
open Go.RowKit Go.Maps
set_option linter.unusedVariables false

end Go.Proofs.YtaiinjfnkmidbaaGreatDoor

namespace Go.Proofs.YtaiinjfnkmidbaaGreatDoor
open Go.RowKit
set_option linter.unusedVariables false

end Go.Proofs.YtaiinjfnkmidbaaGreatDoor

namespace Go.Proofs.YtaiinjfnkmidbaaGreatDoor
open Go.RowKit
set_option linter.unusedVariables false

/-- A front in memory. -/
structure Fb (B : Nat) (f : Fr) (w : World) : Prop where
  c0 : w.cell? ⟨B, 0, none⟩ = some (.string f.L)
  c1 : w.cell? ⟨B, 1, none⟩ = some (.int .i64 f.enc)
  c2 : w.cell? ⟨B, 2, none⟩ = some (.int .i64 f.why)
  c3 : w.cell? ⟨B, 3, none⟩ = some (.string f.W)
  c4 : w.cell? ⟨B, 4, none⟩ = some (.int .i64 f.e)
  c5 : w.cell? ⟨B, 5, none⟩ = some (.string f.r)
  c6 : w.cell? ⟨B, 6, none⟩ = some (.int .i64 f.t.1)
  c7 : w.cell? ⟨B, 7, none⟩ = some (.bool f.t.2.1)
  c8 : w.cell? ⟨B, 8, none⟩ = some (.bool f.t.2.2)
  f0 : w.frozen? ⟨B, 0, none⟩ = false
  f1 : w.frozen? ⟨B, 1, none⟩ = false
  f2 : w.frozen? ⟨B, 2, none⟩ = false
  f3 : w.frozen? ⟨B, 3, none⟩ = false
  f4 : w.frozen? ⟨B, 4, none⟩ = false
  f5 : w.frozen? ⟨B, 5, none⟩ = false
  f6 : w.frozen? ⟨B, 6, none⟩ = false
  f7 : w.frozen? ⟨B, 7, none⟩ = false
  f8 : w.frozen? ⟨B, 8, none⟩ = false
end Go.Proofs.YtaiinjfnkmidbaaGreatDoor

namespace Go.Proofs
open Go.Shelf
end Go.Proofs

namespace Go.Proofs
open Go.Shelf
end Go.Proofs

namespace Go.Proofs.YtaiinjfnkmidbaaGreatDoor
open Go.RowKit
set_option linter.unusedVariables false

end Go.Proofs.YtaiinjfnkmidbaaGreatDoor

namespace Go.Proofs.YtaiinjfnkmidbaaGreatDoor
open Go.RowKit

end Go.Proofs.YtaiinjfnkmidbaaGreatDoor

namespace Go.Proofs.YtaiinjfnkmidbaaGreatDoor
open Go.RowKit
set_option linter.unusedVariables false

end Go.Proofs.YtaiinjfnkmidbaaGreatDoor

namespace Go.Proofs.YtaiinjfnkmidbaaGreatDoor
open Go.RowKit
set_option linter.unusedVariables false

def DcSays : Prop := ∀ (L s : ByteArray) (w : World), L.size ≤ 3000 → s.size ≤ 3000 → Mx w → Calls Tryz.prog 23 #[.string L, .string s] w fun e w' => ∃ v, e = .returned (.tuple #[v, .int .i64 (chI L (bl s)).1, .int .i64 (chI L (bl s)).2.1, .int .i64 0]) ∧ w'.ownsRow w.heap.size 3 1 v (whI L (bl s)).length ((whI L (bl s)).map (Value.int .i64)) ∧ Below w.heap.size w w'
def DcErrs : Prop := ∀ (L s : ByteArray) (w : World), L.size ≤ maxLen → s.size ≤ maxLen → (3000 < L.size ∨ 3000 < s.size) → Mx w → Calls Tryz.prog 23 #[.string L, .string s] w fun e w' => ∃ v, e = .returned (.tuple #[v, .int .i64 0, .int .i64 0, .int .i64 2]) ∧ Ints w' v [] ∧ Below w.heap.size w w'

end Go.Proofs.YtaiinjfnkmidbaaGreatDoor

namespace Go.Proofs.YtaiinjfnkmidbaaGreatDoor
open Go.RowKit
set_option linter.unusedVariables false

set_option maxHeartbeats 400000 in
set_option maxRecDepth 100000 in
theorem putIs (n : Int) (B : Nat) (m : Int) (a : ByteArray) (w : World) (hm : (m, a) ∈ mks) (hc : w.cell? ⟨B, 0, none⟩ = some (.int .i64 n)) :
    Calls Tryz.prog 122 #[.agg #[.int .i64 m, .string a], .pointer (some ⟨B, 0, none⟩)] w fun e w'' => e = .returned (.bool (m == n)) ∧ Below w.heap.size w w'' := by
  have hl := World.block_lt_of_cell? w _ hc
  simp only at hl
  go_enter Tryz.func122, Tryz.ntmps122
  go_wp2
  go_ret
  exact ⟨rfl, balloc _ _⟩

theorem fmk_put (n : Int) : bl (fmk (fun x => x.1 == n) mks).2 = M.mkL n ∧ (fmk (fun x => x.1 == n) mks).2.size ≤ 3 := by
  unfold M.mkL mks fmk fmk fmk fmk
  by_cases h1 : n = 1
  · subst h1; decide
  · by_cases h2 : n = 2
    · subst h2; decide
    · by_cases h3 : n = 3
      · subst h3; decide
      · have e1 : ((1 : Int) == n) = false := by simp; omega
        have e2 : ((3 : Int) == n) = false := by simp; omega
        have e3 : ((2 : Int) == n) = false := by simp; omega
        simp only [e1, e2, e3, h1, h2, h3]
        decide
end Go.Proofs.YtaiinjfnkmidbaaGreatDoor

namespace Go.Proofs.YtaiinjfnkmidbaaGreatDoor
open Go.RowKit
set_option linter.unusedVariables false

theorem enterPut : ∀ args w, (callFunc 122 args).run Tryz.prog w = .ok (.enter 122 args) w := enters_of Tryz.func122 (by kernel_rfl) rfl

set_option maxHeartbeats 400000 in
set_option maxRecDepth 100000 in
theorem putIn (r1 : Int) (r2 s : ByteArray) (B : Nat) (w : World) (hs : s.size ≤ 3000) (hr : r2.size ≤ 3) (hc0 : w.cell? ⟨B, 0, none⟩ = some (.int .i64 r1)) (hc1 : w.cell? ⟨B, 1, none⟩ = some (.string r2)) :
    Calls Tryz.prog 124 #[.string s, .pointer (some ⟨B, 0, none⟩)] w fun e w' => e = .returned (.string (r2 ++ s)) ∧ Below w.heap.size w w' := by
  have hl := World.block_lt_of_cell? w _ hc1
  simp only at hl
  have H := fun w => clone_any (r2 ++ s) w (by rw [ByteArray.size_append]; omega)
  go_enter Tryz.func124, Tryz.ntmps124
  go_wp2_with fail
  refine (H _).mono ?_
  rintro e w1 ⟨rfl, hb⟩
  have HB := hide hb
  clear hb
  go_wp2_with fail
  go_ret
  exact ⟨rfl, unhide HB⟩

set_option maxHeartbeats 800000 in
set_option maxRecDepth 100000 in
theorem Put_any (n : Int) (s : ByteArray) (w : World) (hn : 1 ≤ n ∧ n ≤ 7) (hs : s.size ≤ 3000) :
    Calls Tryz.prog 61 #[.int .i64 n, .string s] w fun e w' => ∃ t, e = .returned (.tuple #[.string t, .int .i64 0]) ∧ bl t = M.mkL n ++ bl s ∧ Below w.heap.size w w' := by
  have HN := hide (fun w => Name_yes n w hn)
  generalize nameI n = nam at HN
  have HE := hide (fmk_put n)
  have HF := hide (fun (w : World) (B : Nat) (hc : w.cell? ⟨B, 0, none⟩ = some (.int .i64 n)) => firstM 122 (fun x => x.1 == n) B (.int .i64 n) w hc enterPut (fun m a w' h1 h2 => putIs n _ m a w' h1 h2))
  generalize fmk (fun x => x.1 == n) mks = r at *
  obtain ⟨r1, r2⟩ := r
  simp only at HE HF
  clear hn
  go_enter Tryz.func61, Tryz.ntmps61
  go_wp2_with fail
  refine (unhide HN _).mono ?_
  rintro e w1 ⟨rfl, hb1⟩
  have hz1 := hb1.size
  simp only [World.size_alloc] at hz1
  have hcs : w1.cell? ⟨w.heap.size, 0, none⟩ = some (.int .i64 n) := by rw [hb1.cell (p := ⟨w.heap.size, 0, none⟩) (by simp)]; simp
  have HB1 := hide (bstep (balloc w (.cells #[.int .i64 n] 3)) hb1)
  clear hb1 HN
  go_wp2_with fail
  refine (unhide HF _ _ hcs).mono ?_
  rintro e w4 ⟨rfl, hb4⟩
  have hf0 := @mfield_0
  have hf1 := @mfield_1
  have hz4 := hb4.size
  have HB4 := hide (bstep (unhide HB1) hb4)
  clear hb4
  have hr3 := (unhide HE).2
  go_wp2_with (first | (go_at_call 124; refine (putIn r1 r2 s _ _ hs hr3 (by simp) (by simp)).mono ?_; rintro e w5 ⟨rfl, hb5⟩; have HB5 := hide hb5; clear hb5) | (go_at_call 123; go_in))
  go_ret2
  refine ⟨_, rfl, ?_, bstep (bstep (unhide HB4) (balloc _ _)) (unhide HB5)⟩
  rw [bl_app, (unhide HE).1]

end Go.Proofs.YtaiinjfnkmidbaaGreatDoor

namespace Go.Proofs.YtaiinjfnkmidbaaGreatDoor
open Go.RowKit
set_option linter.unusedVariables false

end Go.Proofs.YtaiinjfnkmidbaaGreatDoor

namespace Go.Proofs.YtaiinjfnkmidbaaGreatDoor
open Go.RowKit
set_option linter.unusedVariables false

end Go.Proofs.YtaiinjfnkmidbaaGreatDoor

namespace Go.Proofs.YtaiinjfnkmidbaaGreatDoor
open Go.RowKit
set_option linter.unusedVariables false

end Go.Proofs.YtaiinjfnkmidbaaGreatDoor

namespace Go.Proofs.YtaiinjfnkmidbaaGreatDoor
open Go.RowKit
set_option linter.unusedVariables false

end Go.Proofs.YtaiinjfnkmidbaaGreatDoor

namespace Go.Proofs.YtaiinjfnkmidbaaGreatDoor
open Go.RowKit
set_option linter.unusedVariables false

end Go.Proofs.YtaiinjfnkmidbaaGreatDoor

namespace Go.Proofs.YtaiinjfnkmidbaaGreatDoor
open Go.RowKit
set_option linter.unusedVariables false

end Go.Proofs.YtaiinjfnkmidbaaGreatDoor

namespace Go.Proofs.YtaiinjfnkmidbaaGreatDoor
open Go.RowKit
set_option linter.unusedVariables false

end Go.Proofs.YtaiinjfnkmidbaaGreatDoor

namespace Go.Proofs.YtaiinjfnkmidbaaGreatDoor
open Go.RowKit
set_option linter.unusedVariables false

end Go.Proofs.YtaiinjfnkmidbaaGreatDoor

namespace Go.Proofs.YtaiinjfnkmidbaaGreatDoor
open Go.RowKit
set_option linter.unusedVariables false

end Go.Proofs.YtaiinjfnkmidbaaGreatDoor

namespace Go.Proofs.YtaiinjfnkmidbaaGreatDoor
open Go.RowKit

end Go.Proofs.YtaiinjfnkmidbaaGreatDoor

namespace Go.Proofs.YtaiinjfnkmidbaaGreatDoor
open Go.RowKit
set_option linter.unusedVariables false

end Go.Proofs.YtaiinjfnkmidbaaGreatDoor

namespace Go.Proofs.YtaiinjfnkmidbaaGreatDoor
open Go.RowKit
set_option linter.unusedVariables false

end Go.Proofs.YtaiinjfnkmidbaaGreatDoor

namespace Go.Proofs.YtaiinjfnkmidbaaGreatDoor
open Go.RowKit
set_option linter.unusedVariables false

end Go.Proofs.YtaiinjfnkmidbaaGreatDoor

namespace Go.Proofs.YtaiinjfnkmidbaaGreatDoor
open Go.RowKit
set_option linter.unusedVariables false

end Go.Proofs.YtaiinjfnkmidbaaGreatDoor

namespace Go.Proofs.YtaiinjfnkmidbaaGreatDoor.M

end Go.Proofs.YtaiinjfnkmidbaaGreatDoor.M

namespace Go.Proofs.YtaiinjfnkmidbaaGreatDoor
open Go.RowKit
set_option linter.unusedVariables false

end Go.Proofs.YtaiinjfnkmidbaaGreatDoor

namespace Go.Proofs.YtaiinjfnkmidbaaGreatDoor
open Go.RowKit
set_option linter.unusedVariables false

end Go.Proofs.YtaiinjfnkmidbaaGreatDoor

namespace Go.Proofs.YtaiinjfnkmidbaaGreatDoor
open Go.RowKit Go.Maps
set_option linter.unusedVariables false

theorem law3 : Keyed Tryz.prog 3 := int_keyed Tryz.underlying3
theorem zero5 (w : World) : (zeroValue 5).run Tryz.prog w = .ok (.int .u8 0) w := by kernel_rfl

theorem Dk_map (user : Bool) : ∀ k, IsMap (Dk user k)
  | 0 => isMap_empty
  | k + 1 => (Dk_map user k).put _ _
theorem lit_ne {a b : Int} (h : a ≠ b) : (Lit.int .i64 a) ≠ .int .i64 b := fun e => h (by injection e)

theorem Dk_has (user : Bool) (n : Int) : ∀ k, Maps.has (Dk user k) (.int .i64 n) = (List.range k).any (fun c => M.pt user (c : Nat) == n)
  | 0 => by simp [Dk, Maps.has]
  | k + 1 => by
    rw [List.range_succ, List.any_append, ← Dk_has user n k]
    by_cases h : M.pt user k = n
    · subst h
      rw [Dk, has_put_same (Dk_map user k) (by trivial)]
      simp
    · rw [Dk, has_put_other (lit_ne (fun e => h e.symm))]
      simp [h]

theorem Dk_at (user : Bool) {j : Nat} : ∀ k, j < k → k ≤ 256 → (Dk user k).atKey (.int .i64 (M.pt user j)) (.lit (.int .u8 0)) = .lit (.int .u8 j)
  | 0, h, _ => by omega
  | k + 1, h, hk => by
    by_cases e : j = k
    · subst e
      rw [Dk, atKey_put_same (Dk_map user j) (by trivial)]
    · rw [Dk, atKey_put_other (lit_ne (fun e' => e (M.pt_inj user (by omega) (by omega) e')))]
      exact Dk_at user k (by omega) (by omega)

theorem D_has (user : Bool) (n : Int) : Maps.has (Dk user 256) (.int .i64 n) = M.hasB user n := Dk_has user n 256
theorem D_at (user : Bool) {n : Int} (h : M.hasB user n = true) : (Dk user 256).atKey (.int .i64 n) (.lit (.int .u8 0)) = .lit (.int .u8 (M.bof user n)) := by
  obtain ⟨k, hk, e, hp⟩ := M.bof_spec user h
  rw [e, ← hp]
  exact Dk_at user 256 hk (by omega)

set_option maxHeartbeats 400000 in
set_option maxRecDepth 100000 in
theorem bytesOf_any (user : Bool) (w : World) : Calls Tryz.prog 228 #[.bool user] w fun e w' => e = .returned (.map (some w.heap.size)) ∧ IsB user w' w.heap.size ∧ Below w.heap.size w w' := by
  have hmm : ∀ w : World, (Instr.makeMap 206 (some (.int .i64 256))).run Tryz.prog w = .ok (.map (some w.heap.size)) (w.alloc (.map #[] 0)) := fun w => rfl
  go_enter Tryz.func228, Tryz.ntmps228
  go_wp2_with fail
  refine (pointsOf_any user _).mono ?_
  rintro e w1 ⟨v1, rfl, hI1, hb1⟩
  obtain ⟨ao1, cap1, hsh1, -, -, hc1⟩ := hI1
  subst hsh1
  rw [M.tblOf_len]
  rw [M.tblOf_len] at hc1
  obtain ⟨b, off, rfl, hcc⟩ : ∃ b off, ao1 = some ⟨b, off, none⟩ ∧ ∀ i, i < 256 → w1.cell? ⟨b, off + i, none⟩ = some (.int .i64 ((M.tblOf user 256).getD i 0)) := by
    rcases hc1 with h | h
    · have := congrArg List.length h; rw [M.tblOf_len] at this; simp at this
    · exact h
  have hmap : w1.heap[w.heap.size]? = some (.map #[] 0) := (hb1.block _ (by simp)).trans (heap_alloc_new _ _)
  have hne : b ≠ w.heap.size := by
    intro e
    have := hcc 0 (by omega)
    rw [e] at this
    simp [World.cell?, hmap] at this
  have hown0 : w1.ownsMap Tryz.prog 3 (plainElem (H := Unit) Tryz.prog 5) w.heap.size 0 (Dk user 0) := by
    obtain ⟨es, clock, h1, h2⟩ := World.ownsMap_made (H := Unit) w Tryz.prog 3 (plainElem (H := Unit) Tryz.prog 5)
    exact ⟨es, clock, (hb1.block _ (by simp)).trans h1, h2⟩
  have hbl : b < w1.heap.size := World.block_lt_of_cell? w1 _ (hcc 0 (by omega))
  have HI : Hid (w1.ownsMap Tryz.prog 3 (plainElem (H := Unit) Tryz.prog 5) w.heap.size 0 (Dk user 0) ∧ (∀ i, i < 256 → w1.cell? ⟨b, off + i, none⟩ = some (.int .i64 ((M.tblOf user 256).getD i 0))) ∧ Below w.heap.size w w1) := hide ⟨hown0, hcc, bstep (balloc _ _) hb1⟩
  clear hc1 hcc hown0 hmap hb1
  go_wp2_with fail
  go_loopw [10] (fun i wr => ∃ k : Nat, k ≤ 256 ∧ i = .int .i64 k ∧ Hid (wr.ownsMap Tryz.prog 3 (plainElem (H := Unit) Tryz.prog 5) w.heap.size k (Dk user k) ∧ (∀ i, i < 256 → wr.cell? ⟨b, off + i, none⟩ = some (.int .i64 ((M.tblOf user 256).getD i 0))) ∧ Below w.heap.size w wr)) (fun i _ => 256 - (intOf i).toNat)
  case atStart => exact ⟨0, by omega, rfl, HI⟩
  case round =>
    obtain ⟨k, hk, rfl, HJ⟩ := hrel
    clear HI
    obtain ⟨hown, hcl, hbw⟩ := unhide HJ
    by_cases hlt : k < 256
    · have hcell := hcl k hlt
      rw [M.tblOf_get user hlt] at hcell
      have hpb := M.pt_bd user hlt
      have HS : Hid (Dk user (k + 1) = (Dk user k).put (.int .i64 (M.pt user k)) (.lit (.int .u8 k))) := hide rfl
      have hkey : keyOf Tryz.prog 3 (.int .i64 (M.pt user k)) = some (.int .i64 (M.pt user k)) := keyOf_int_mk Tryz.underlying3 (WalkArith.wf_i64 (by omega))
      have hwf : (Lit.int .u8 (k : Int)).wf = true := WalkArith.wf_u8 (by omega)
      obtain ⟨p, HP⟩ : ∃ p, Hid (M.pt user (k : Int) = p) := ⟨_, rfl⟩
      rw [unhide HP] at hcell hpb hkey HS
      have hbr : b < wr.heap.size := World.block_lt_of_cell? wr _ hcell
      have HCL := hide hcl
      have HBW := hide hbw
      clear hcl hbw
      go_wp2_with (at_mapUpdate; refine wpList_mapUpdate_own _ rfl _ _ _ 206 rfl 3 5 law3 Tryz.underlying206 _ w.heap.size k _ rfl hown (by unfold maxLen; omega) _ _ _ rfl rfl hkey _ [] (plainElem_int Tryz.underlying5 hwf) ?_)
      intro w2 hown2 hgrow
      have HK : Hid (w2.ownsMap Tryz.prog 3 (plainElem (H := Unit) Tryz.prog 5) w.heap.size (k + 1) (Dk user (k + 1)) ∧ (∀ i, i < 256 → w2.cell? ⟨b, off + i, none⟩ = some (.int .i64 ((M.tblOf user 256).getD i 0))) ∧ Below w.heap.size w w2) := by
        refine hide ⟨by rw [unhide HS]; exact hown2, fun i hi => ?_, (unhide HBW).grown hgrow (unhide HBW).size (fun j hj => by cases hj; exact Nat.le_refl _)⟩
        rw [← unhide HCL i hi]
        have := hgrow.block b hbr (fun e => hne (by injection e))
        simp only [World.cell?, this]
      clear hown hown2 hgrow
      go_wp2_with fail
      go_roundw
      case rel => exact ⟨k + 1, by omega, by go_num, HK⟩
      case measure => simp [intOf]; omega
    · have ek : k = 256 := by omega
      subst ek
      go_wp2_with fail
      go_ret
      exact ⟨rfl, hown, hbw⟩

theorem lit_inj {a b : Int} (h : (DataW.lit (.int .u8 a) : DataW Unit) = .lit (.int .u8 b)) : b = a := by
  injection h with e
  injection e with _ e
  exact e.symm

end Go.Proofs.YtaiinjfnkmidbaaGreatDoor

namespace Go.Proofs.YtaiinjfnkmidbaaGreatDoor
open Go.RowKit Go.Maps
set_option linter.unusedVariables false

/-- What Encode answers of at most 3000 integers. -/
def encResS (user : Bool) (xs : List Int) : Value := if xs.all (M.hasB user) then .tuple #[.string (strOfNums (M.encS user xs)), .int .i64 0] else .tuple #[.string ⟨#[]⟩, .int .i64 5]
theorem encResS_yes {user : Bool} {xs : List Int} (h : xs.all (M.hasB user) = true) : encResS user xs = .tuple #[.string (strOfNums (M.encS user xs)), .int .i64 0] := by unfold encResS; rw [if_pos h]
theorem encResS_no {user : Bool} {xs : List Int} (h : xs.all (M.hasB user) = false) : encResS user xs = .tuple #[.string ⟨#[]⟩, .int .i64 5] := by unfold encResS; rw [if_neg (by simp [h])]

set_option maxHeartbeats 400000 in
set_option maxRecDepth 100000 in
theorem encodeS_any (user : Bool) {v : Value} {xs : List Int} (w : World) (hx : Ints w v xs) (hwf : ∀ n ∈ xs, (Lit.int .i64 n).wf = true) (h : xs.length ≤ 3000) :
    Calls Tryz.prog 208 #[.bool user, v] w fun e w' => e = .returned (encResS user xs) ∧ Below w.heap.size w w' := by
  obtain ⟨ao, cap, rfl, hm, -, hc⟩ := id hx
  obtain ⟨i0, hi, hz0, hz1, hz2⟩ := info_parts info5
  clear hx
  have HC := hide hc
  have HWF := hide hwf
  clear hc hwf
  go_enter Tryz.func208, Tryz.ntmps208
  go_wp2_with fail
  refine (bytesOf_any user _).mono ?_
  rintro e w1 ⟨rfl, hB1, hb1⟩
  have hlt1 := hB1.lt
  have HB1 := hide hB1
  have HI : Hid (InTS user xs w1 w1 0 (.slice none 0 0)) := hide ⟨World.ownsRow_nil _ _ _ _, Below.refl _ _, by simp⟩
  have HBW := hide hb1
  clear hB1 hb1
  go_wp2_with fail
  go_loopw [7, 19] (fun v i wr => ∃ k : Nat, k ≤ xs.length ∧ i = .int .i64 k ∧ InTS user xs w1 wr k v) (fun _ i _ => xs.length - (intOf i).toNat)
  case atStart => exact ⟨0, by omega, rfl, unhide HI⟩
  case round =>
    obtain ⟨k, hk, rfl, hI⟩ := hrel
    clear HI
    have hz := hI.2.1.size
    have hl : Hid ((M.encS user (xs.take k)).length = k) := hide (by rw [M.encS_len, List.length_take]; omega)
    by_cases hlt : k < xs.length
    · obtain ⟨b, off, rfl, hc⟩ : ∃ b off, ao = some ⟨b, off, none⟩ ∧ ∀ i, i < xs.length → w.cell? ⟨b, off + i, none⟩ = some (.int .i64 (xs.getD i 0)) := by
        rcases unhide HC with h | h
        · subst h; simp at hlt
        · exact h
      have hcell : wr.cell? ⟨b, off + k, none⟩ = some (.int .i64 (xs.getD k 0)) := ((bstep (unhide HBW) hI.2.1).cell (p := ⟨b, off + k, none⟩) (World.block_lt_of_cell? w _ (hc k hlt))).trans (hc k hlt)
      have hbr : b < wr.heap.size := World.block_lt_of_cell? wr _ hcell
      have hpw := unhide HWF (xs.getD k 0) (by simp [hlt])
      obtain ⟨p, HP⟩ : ∃ p, Hid (xs.getD k 0 = p) := ⟨_, rfl⟩
      rw [unhide HP] at hcell hpw
      have hkey : keyOf Tryz.prog 3 (.int .i64 p) = some (.int .i64 p) := keyOf_int_mk Tryz.underlying3 hpw
      have hown : wr.ownsMap Tryz.prog 3 (plainElem (H := Unit) Tryz.prog 5) w.heap.size 256 (Dk user 256) := (unhide HB1).below hI.2.1 hlt1
      obtain ⟨q, HQ⟩ : ∃ q, Hid (M.hasB user p = q) := ⟨_, rfl⟩
      have hq : Maps.has (Dk user 256) (.int .i64 p) = q := (D_has user p).trans (unhide HQ)
      obtain ⟨ao2, cap2, hsh⟩ := owns_shape hI.1
      subst hsh
      clear hc hpw
      cases q
      · go_wp2_with (at_lookup; refine wpList_lookup_own_ok_int _ rfl _ _ 206 rfl 3 5 .u8 law3 Tryz.underlying206 Tryz.underlying5 (zero5 _) w.heap.size 256 _ rfl hown _ _ rfl hkey ?_; intro c hat hwc)
        go_ret2
        refine ⟨?_, bstep (unhide HBW) hI.2.1⟩
        have : xs.all (M.hasB user) = false := by
          rw [List.all_eq_false]
          refine ⟨xs.getD k 0, by simp [hlt], by rw [unhide HP, unhide HQ]; simp⟩
        rw [encResS_no this]; rfl
      · have hbd := M.bof_bd user (unhide HQ)
        have HAT := hide (D_at user (unhide HQ))
        obtain ⟨B, HB⟩ : ∃ B, Hid (M.bof user p = B) := ⟨_, rfl⟩
        rw [unhide HB] at hbd HAT
        have hI' := hI.1
        go_wp2_with (first | (at_lookup; refine wpList_lookup_own_ok_int _ rfl _ _ 206 rfl 3 5 .u8 law3 Tryz.underlying206 Tryz.underlying5 (zero5 _) w.heap.size 256 _ rfl hown _ _ rfl hkey ?_; intro c hat hwc; have hcB : c = B := lit_inj ((unhide HAT).symm.trans hat); subst hcB; clear hat hwc) | (at_builtin; refine wpList_append_own _ rfl (.tmp 31) (.tmp 33) 151 rfl w1.heap.size 5 i0 (.int .u8 0) 1 1 Tryz.underlying151 hi hz0 hz1 hz2 rfl (by decide) _ _ _ rfl (hI'.alloc _) ⟨wr.heap.size, 0, none⟩ 1 1 [.int .u8 c] rfl rfl ?c1 ?c2 ?c3 ?c4 ?c5 ?_))
        case c1 =>
          intro j u hj
          match j, hj with
          | 0, hj => simp at hj; subst hj; simp [Addr.add]
        case c2 => intro u hu; simp at hu; subst hu; rfl
        case c3 => have := unhide hl; unfold maxLen; omega
        case c4 => have := unhide hl; omega
        case c5 => simp; omega
        intro v' w2 hown' hgrow _
        obtain ⟨ao', cap', rfl⟩ := owns_shape hown'
        have HJ : Hid (InTS user xs w1 w2 (k + 1) (.slice ao' ((M.encS user (xs.take k)).length + 1) cap')) := hide (hI.step hlt (unhide HP) (unhide HQ) (unhide HB) (by simpa using hown') (((Below.refl _ _).alloc hz _).grown hgrow (by simp; omega) (fun j hj => by have := hI'.lt j hj; omega)))
        clear hI hI' hown hown' hgrow
        go_wp2_with fail
        go_roundw
        case rel => exact ⟨k + 1, by omega, by go_num, by simpa using unhide HJ⟩
        case measure => simp [intOf]; omega
    · have ek : k = xs.length := by omega
      have hcv := conv_owned hI.1
      obtain ⟨o1, o2, o3⟩ := hI
      have hb := hide (bstep (unhide HBW) o2)
      have et : xs.take k = xs := List.take_of_length_le (by omega)
      rw [et] at hcv o1 o3
      obtain ⟨ao2, cap2, hsh⟩ := owns_shape o1
      subst hsh
      have HA := hide o3
      clear o1 o2 o3 et hl
      go_wp2_with fail
      go_ret2
      refine ⟨?_, unhide hb⟩
      rw [encResS_yes (unhide HA)]; rfl
end Go.Proofs.YtaiinjfnkmidbaaGreatDoor

namespace Go.Proofs.YtaiinjfnkmidbaaGreatDoor
open Go.RowKit
set_option linter.unusedVariables false

set_option maxHeartbeats 400000 in
set_option maxRecDepth 100000 in
theorem bytesOfK_any (v : Value) (xs : List Int) (w : World) (hI : Ints w v xs) (hlen : xs.length ≤ 30000) (hgi : ∀ n ∈ xs, Gi n) (ha : xs.all M.anyK = true) :
    Calls Tryz.prog 160 #[.int .i64 6, v] w fun e w' => e = .returned (.string (strOfNums (M.kenc xs))) ∧ Below w.heap.size w w' := by
  have H := hide (write_any v xs w hI hlen hgi)
  rw [wrote_yes ha] at H
  obtain ⟨ao, cap, rfl, -, -, -⟩ := hI
  clear hgi ha
  go_enter Tryz.func160, Tryz.ntmps160
  go_wp2_with fail
  refine (unhide H).mono ?_
  rintro e w1 ⟨rfl, hb⟩
  have HB := hide hb
  clear hb H
  go_wp2_with fail
  go_ret
  exact ⟨rfl, unhide HB⟩

/-- What a round of bytesOf's loop knows. -/
def InO (user : Bool) (xs : List Int) (w wr : World) (k : Nat) (v : Value) : Prop :=
  wr.ownsRow w.heap.size 5 1 v (M.encS user (xs.take k)).length ((M.encS user (xs.take k)).map (Value.int .u8)) ∧ Below w.heap.size w wr

set_option maxHeartbeats 800000 in
set_option maxRecDepth 100000 in
theorem bytesOfS_any (user : Bool) (n : Int) (hn : n = if user then 5 else 4) (base : Nat) (v : Value) (xs : List Int) (w : World) (hown : w.ownsRow base 3 1 v xs.length (xs.map (Value.int .i64))) (hlen : xs.length ≤ 30000) (hwf : ∀ n ∈ xs, (Lit.int .i64 n).wf = true) (ha : xs.all (M.hasB user) = true) :
    Calls Tryz.prog 160 #[.int .i64 n, v] w fun e w' => e = .returned (.string (strOfNums (M.encS user xs))) ∧ Below w.heap.size w w' := by
  have hcl : xs.length ≠ 0 → ∃ g cap, v = .slice (some ⟨g, 0, none⟩) xs.length cap ∧ xs.length ≤ cap ∧ ∀ i, i < xs.length → w.cell? ⟨g, i, none⟩ = some (.int .i64 (xs.getD i 0)) := by
    intro h0
    rcases hown.2 with ⟨_, h⟩ | ⟨g, cap, cur, hv, _, hg, hnc, _⟩
    · exact absurd h h0
    · refine ⟨g, cap, hv, hnc, ?_⟩
      obtain ⟨ao, cap', h1, _, _, h2⟩ := Ints.of_owns hown
      rw [hv] at h1
      cases h1
      rcases h2 with rfl | ⟨b, off, h2, h3⟩
      · simp at h0
      · cases h2
        intro i hi
        have := h3 i hi
        rwa [Nat.zero_add] at this
  obtain ⟨ao, cap, rfl⟩ := owns_shape hown
  have HC := hide hcl
  have HW := hide hwf
  have HA := hide ha
  have h6 : (n == 6) = false := by subst hn; cases user <;> rfl
  have h5 : (n == 5) = user := by subst hn; cases user <;> rfl
  have HI : Hid (InO user xs w w 0 (.slice none 0 0)) := hide ⟨World.ownsRow_nil _ _ _ _, Below.refl _ _⟩
  clear hcl hwf ha hown hn
  go_enter Tryz.func160, Tryz.ntmps160
  go_wp2_with fail
  go_loopw [7, 8] (fun v i wr => ∃ k : Nat, k ≤ xs.length + 3000 ∧ i = .int .i64 k ∧ InO user xs w wr k v) (fun _ i _ => xs.length + 3000 - (intOf i).toNat)
  case atStart => exact ⟨0, by omega, rfl, unhide HI⟩
  case round =>
    obtain ⟨k, hk, rfl, hI⟩ := hrel
    clear HI
    have hz := hI.2.size
    obtain ⟨av, capv, hsh⟩ := owns_shape hI.1
    subst hsh
    by_cases hlt : k < xs.length
    · obtain ⟨g, cap', hv, hnc, hcs⟩ := unhide HC (by omega)
      cases hv
      obtain ⟨m, hm⟩ : ∃ m : Nat, m = min (k + 3000) xs.length := ⟨_, rfl⟩
      have hmin : min ((k : Int) + 3000) (xs.length : Int) = (m : Int) := by rw [hm]; omega
      have hmc : m ≤ cap := by omega
      have hkm : k ≤ m := by omega
      have hkc : ¬ (cap = k) := by omega
      have HM := hide hm
      have HIs : Hid (Ints wr (.slice (some ⟨g, k, none⟩) (m - k) (cap - k)) ((xs.drop k).take 3000)) := hide (by
        refine ⟨some ⟨g, k, none⟩, cap - k, ?_, ?_, (fun h => by cases h), .inr ⟨g, k, rfl, fun i hi => ?_⟩⟩
        · rw [List.length_take, List.length_drop]; congr 1; omega
        · rw [List.length_take, List.length_drop]; unfold maxLen; omega
        · rw [List.length_take, List.length_drop] at hi
          have hk1 := hcs (k + i) (by omega)
          rw [hI.2.cell (p := ⟨g, k + i, none⟩) (World.block_lt_of_cell? w _ hk1), hk1]
          congr 2
          rw [List.getD_eq_getElem?_getD, List.getD_eq_getElem?_getD, List.getElem?_take, if_pos (by omega), List.getElem?_drop])
      have HAl : Hid (((xs.drop k).take 3000).all (M.hasB user) = true) := hide (by
        rw [List.all_eq_true]
        intro x hx
        exact List.all_eq_true.1 (unhide HA) x (List.mem_of_mem_drop (List.mem_of_mem_take hx)))
      have HE := hide (encodeS_any user wr (unhide HIs) (fun n hn => unhide HW n (List.mem_of_mem_drop (List.mem_of_mem_take hn))) (by rw [List.length_take]; omega))
      rw [encResS_yes (unhide HAl)] at HE
      have HT : Hid (M.encS user (xs.take (k + 3000)) = M.encS user (xs.take k) ++ M.encS user ((xs.drop k).take 3000)) := hide (by
        rw [List.take_add]; unfold M.encS; rw [List.map_append])
      have HBy : Hid (∀ x ∈ M.encS user ((xs.drop k).take 3000), 0 ≤ x ∧ x ≤ 255) := hide (M.encS_byt user _ (unhide HAl))
      have hl1 : Hid ((M.encS user (xs.take k)).length ≤ 30000) := hide (by rw [M.encS_len, List.length_take]; omega)
      have hl2 : Hid ((M.encS user ((xs.drop k).take 3000)).length ≤ 3000) := hide (by rw [M.encS_len, List.length_take]; omega)
      have HO := hide hI.1
      have HB := hide hI.2
      clear hI hcs hm HIs HAl
      generalize M.encS user ((xs.drop k).take 3000) = ms at *
      generalize M.encS user (xs.take k) = ns at *
      have hl1' := unhide hl1
      have hl2' := unhide hl2
      go_wp2_with fail
      refine (unhide HE).mono ?_
      rintro e w1 ⟨rfl, hb1⟩
      have hz1 := hb1.size
      have HB1 := hide hb1
      have HO1 := hide (owns_below (unhide HO) hb1)
      clear hb1 HE HO
      go_wp2_with (at_builtin; refine append_str rfl (.tmp 39) (.tmp 40) rfl w.heap.size _ ns rfl (unhide HO1) ms (unhide HBy) rfl (by omega) (by omega) ?_)
      intro ao2 cap2 w2 ho2 hb2
      have HJ : Hid (InO user xs w w2 (k + 3000) (.slice ao2 (ns ++ ms).length cap2)) := hide ⟨by rw [unhide HT]; simpa using ho2, (bstep (unhide HB) (unhide HB1)).trans hb2⟩
      clear ho2 hb2
      go_wp2_with fail
      go_roundw
      case rel => exact ⟨k + 3000, by omega, by go_num, by simpa using unhide HJ⟩
      case measure => simp [intOf]; omega
    · have HT : Hid (xs.take k = xs) := hide (List.take_of_length_le (by omega))
      unfold InO at hI
      rw [unhide HT] at hI ⊢
      have hcv := conv_owned hI.1
      have HB := hide hI.2
      clear hI
      go_wp2_with fail
      go_ret
      exact ⟨rfl, unhide HB⟩
end Go.Proofs.YtaiinjfnkmidbaaGreatDoor

namespace Go.Proofs.YtaiinjfnkmidbaaGreatDoor
open Go.RowKit
set_option linter.unusedVariables false

/-- What write answers. -/
def resW (n mode : Int) (xs : List Int) : Value := if mode = 1 ∨ xs.all (M.hasE n) = true then .tuple #[.string (strOfNums (M.encB n (M.ptsE n xs))), .int .i64 0] else .tuple #[.string ⟨#[]⟩, .int .i64 5]
theorem resW_yes {n mode : Int} {xs : List Int} (h : mode = 1 ∨ xs.all (M.hasE n) = true) : resW n mode xs = .tuple #[.string (strOfNums (M.encB n (M.ptsE n xs))), .int .i64 0] := by unfold resW; rw [if_pos h]
theorem resW_no {n mode : Int} {xs : List Int} (hm : mode = 0) (h : xs.all (M.hasE n) = false) : resW n mode xs = .tuple #[.string ⟨#[]⟩, .int .i64 5] := by
  unfold resW; rw [if_neg (by rw [hm, h]; simp)]
theorem wf_sclr {p : Int} (h : M.sclr p = true) : (Lit.int .i64 p).wf = true := by
  have := M.sclr_bd h
  have e1 : IntKind.i64.min = -9223372036854775808 := by decide
  have e2 : IntKind.i64.max = 9223372036854775807 := by decide
  simp [Lit.wf, e1, e2]
  omega
theorem sclr_all {xs : List Int} (h : xs.all M.sclr = true) : ∀ n ∈ xs, M.sclr n = true := List.all_eq_true.1 h
theorem pts_few {n : Int} {xs : List Int} (h : xs.all M.sclr = true) (hl : xs.length ≤ 3000) : (M.ptsE n xs).length ≤ 30000 := by have := M.ptsE_len n xs h; omega
theorem all_take {xs : List Int} {f : Int → Bool} (h : xs.all f = true) (k : Nat) : (xs.take k).all f = true := by
  rw [List.all_eq_true] at *
  intro x hx
  exact h x (List.mem_of_mem_take hx)
theorem all_upto {xs : List Int} {f : Int → Bool} {k : Nat} (h : (xs.take k).all f = true) (hk : k < xs.length) {p : Int} (hp : xs.getD k 0 = p) (hf : f p = true) : (xs.take (k + 1)).all f = true := by
  rw [take_getD hk hp, List.all_append, h]; simp [hf]

set_option maxHeartbeats 1600000 in
set_option maxRecDepth 100000 in
theorem writeS_any (user : Bool) (n : Int) (hn : n = if user then 5 else 4) (mode : Int) (hmode : mode = 0 ∨ mode = 1) (v : Value) (xs : List Int) (w : World) (hT : Tb w) (hI : Ints w v xs) (hlen : xs.length ≤ 3000) (hs : xs.all M.sclr = true) :
    Calls Tryz.prog 98 #[.int .i64 n, .int .i64 mode, v] w fun e w' => e = .returned (resW n mode xs) ∧ Below w.heap.size w w' := by
  obtain ⟨ao, cap, rfl, -, -, hc⟩ := hI
  have HC := hide hc
  have HS := hide hs
  have HT := hide hT
  have HM := hide hmode
  have HK := hide (fun w => knownS_any user n hn w)
  have HH0 : Hid (∀ p, M.hasE n p = M.hasB user p) := hide (fun p => by rw [hn]; exact M.hasS user p)
  have HB0 : Hid (∀ l, M.encB n l = M.encS user l) := hide (fun l => by rw [hn]; exact M.encB_S user l)
  have HN0 := hide hn
  clear hn
  clear hc hs hT hmode
  go_enter Tryz.func98, Tryz.ntmps98
  go_wp2_with fail
  refine (unhide HK _).mono ?_
  rintro e w1 ⟨B, rfl, hP, hb1⟩
  have HB1 := hide hb1
  have HP1 := hide hP
  clear hb1 hP
  go_wp2_with fail
  go_loopw [18] (fun i wr => ∃ k : Nat, k ≤ xs.length ∧ i = .int .i64 k ∧ InX n mode xs w1 wr k) (fun i _ => xs.length - (intOf i).toNat)
  case atStart => exact ⟨0, by omega, rfl, InX.start _ _ _ _⟩
  case round =>
    obtain ⟨k, hk, rfl, ⟨vv, hA⟩, hB, hM⟩ := hrel
    have hz := hB.size
    have HBW := hide (bstep (unhide HB1) hB)
    have HA := hide hA
    have HB := hide hB
    have HMo := hide hM
    have HPK : Hid ((M.ptsE n (xs.take k)).length ≤ 30000) := hide (pts_few (all_take (unhide HS) k) (by rw [List.length_take]; omega))
    clear hA hB hM
    by_cases hlt : k < xs.length
    · obtain ⟨b, off, rfl, hc⟩ : ∃ b off, ao = some ⟨b, off, none⟩ ∧ ∀ i, i < xs.length → w.cell? ⟨b, off + i, none⟩ = some (.int .i64 (xs.getD i 0)) := by
        rcases unhide HC with h | h
        · subst h; simp at hlt
        · exact h
      have hcell : wr.cell? ⟨b, off + k, none⟩ = some (.int .i64 (xs.getD k 0)) := ((unhide HBW).cell (p := ⟨b, off + k, none⟩) (World.block_lt_of_cell? w _ (hc k hlt))).trans (hc k hlt)
      have hbr : b < wr.heap.size := World.block_lt_of_cell? wr _ hcell
      have HSp : Hid (M.sclr (xs.getD k 0) = true) := hide (sclr_all (unhide HS) _ (by simp [hlt]))
      obtain ⟨p, HP⟩ : ∃ p, Hid (xs.getD k 0 = p) := ⟨_, hide rfl⟩
      rw [unhide HP] at hcell HSp
      clear hc
      have HH := hide (by have := hasS_any user B p wr ((unhide HP1).below (unhide HB)); rw [← unhide HH0] at this; exact this)
      cases hq : M.hasE n p
      · rw [hq] at HH
        rcases unhide HM with hm0 | hm1
        · subst hm0
          have HW : Hid (resW n 0 xs = .tuple #[.string ⟨#[]⟩, .int .i64 5]) := hide (resW_no rfl (all_no hlt (unhide HP) hq))
          clear hq
          go_wp2_with fail
          refine (unhide HH).mono ?_
          rintro e w2 ⟨rfl, hw⟩
          have HB2 : Hid (Below wr.heap.size wr w2) := hide (by rw [hw]; exact Below.refl _ _)
          clear hw HH
          go_wp2_with fail
          go_ret2
          refine ⟨?_, bstep (unhide HBW) (unhide HB2)⟩
          rw [unhide HW]; rfl
        · subst hm1
          have HE : Hid (M.ptsE n (xs.take (k + 1)) = M.ptsE n (xs.take k) ++ M.tld p) := hide (by rw [take_getD hlt (unhide HP), M.ptsE_snoc, M.ptE_no hq])
          clear hq
          go_wp2_with fail
          refine (unhide HH).mono ?_
          rintro e w2 ⟨rfl, hw⟩
          have HB2 : Hid (Below wr.heap.size wr w2) := hide (by rw [hw]; exact Below.refl _ _)
          clear hw HH
          go_wp2_with fail
          refine (putNumber_any w1.heap.size p vv _ _ ((unhide HT).below (bstep (unhide HBW) (unhide HB2))) (unhide HSp) ((unhide HA).below (unhide HB2)) (unhide HPK)).mono ?_
          rintro e w3 ⟨rfl, v3, hA3, hB3⟩
          have HI : Hid (InX n 1 xs w1 w3 (k + 1)) := hide ⟨⟨v3, by rw [unhide HE]; exact hA3⟩, (bstep (unhide HB) (unhide HB2)).trans hB3, fun h => by cases h⟩
          clear hA3 hB3
          go_wp2_with fail
          go_roundw
          case rel => exact ⟨k + 1, by omega, by go_num, unhide HI⟩
          case measure => simp [intOf]; omega
      · rw [hq] at HH
        have HE : Hid (M.ptsE n (xs.take (k + 1)) = M.ptsE n (xs.take k) ++ [p]) := hide (by rw [take_getD hlt (unhide HP), M.ptsE_snoc, M.ptE_yes hq])
        have HM1 : Hid (mode = 0 → (xs.take (k + 1)).all (M.hasE n) = true) := hide (fun h => all_upto (unhide HMo h) hlt (unhide HP) hq)
        clear hq
        go_wp2_with fail
        refine (unhide HH).mono ?_
        rintro e w2 ⟨rfl, hw⟩
        have HB2 : Hid (Below wr.heap.size wr w2) := hide (by rw [hw]; exact Below.refl _ _)
        clear hw HH
        go_wp2_with fail
        refine (push_any w1.heap.size p vv _ _ ((unhide HA).below (unhide HB2)) (by have := unhide HPK; omega)).mono ?_
        rintro e w3 ⟨rfl, v3, hA3, hB3, -⟩
        have HI : Hid (InX n mode xs w1 w3 (k + 1)) := hide ⟨⟨v3, by rw [unhide HE]; exact hA3⟩, (bstep (unhide HB) (unhide HB2)).trans hB3, unhide HM1⟩
        clear hA3 hB3
        go_wp2_with fail
        go_roundw
        case rel => exact ⟨k + 1, by omega, by go_num, unhide HI⟩
        case measure => simp [intOf]; omega
    · have et : xs.take k = xs := List.take_of_length_le (by omega)
      rw [et] at HA HMo
      have HR : Hid (resW n mode xs = .tuple #[.string (strOfNums (M.encB n (M.ptsE n xs))), .int .i64 0]) := hide (resW_yes (by
        rcases unhide HM with h | h
        · exact .inr (unhide HMo h)
        · exact .inl h))
      have HSP := hide (sclr_all (M.ptsE_sclr n xs (unhide HS)))
      have hcv := cell_of_one (unhide HA).1
      have hlw : w1.heap.size < wr.heap.size := by have := (unhide HA).2.2; omega
      have HO := hide (unhide HA).2.1
      have HAll : Hid ((M.ptsE n xs).all (M.hasB user) = true) := hide (by have := M.ptsE_has n xs; rwa [show M.hasE n = M.hasB user from funext (unhide HH0)] at this)
      have HBO := hide (bytesOfS_any user n (unhide HN0) _ vv _ wr (unhide HO) (pts_few (unhide HS) hlen) (fun m hm => wf_sclr (unhide HSP m hm)) (unhide HAll))
      rw [← unhide HB0] at HBO
      obtain ⟨av, capv, hsh⟩ := owns_shape (unhide HO)
      subst hsh
      clear et
      go_wp2_with fail
      refine (unhide HBO).mono ?_
      rintro e w5 ⟨rfl, hb5⟩
      have HB5 := hide (bstep (unhide HBW) hb5)
      clear hb5
      go_wp2_with fail
      go_ret2
      refine ⟨?_, unhide HB5⟩
      rw [unhide HR]; rfl

set_option maxHeartbeats 1600000 in
set_option maxRecDepth 100000 in
theorem writeK_any  (mode : Int) (hmode : mode = 0 ∨ mode = 1) (v : Value) (xs : List Int) (w : World) (hT : Tb w) (hI : Ints w v xs) (hlen : xs.length ≤ 3000) (hs : xs.all M.sclr = true) :
    Calls Tryz.prog 98 #[.int .i64 6, .int .i64 mode, v] w fun e w' => e = .returned (resW 6 mode xs) ∧ Below w.heap.size w w' := by
  obtain ⟨ao, cap, rfl, -, -, hc⟩ := hI
  have HC := hide hc
  have HS := hide hs
  have HT := hide hT
  have HM := hide hmode
  have HK := hide (fun w => knownK_any w)
  clear hc hs hT hmode
  go_enter Tryz.func98, Tryz.ntmps98
  go_wp2_with fail
  refine (unhide HK _).mono ?_
  rintro e w1 ⟨rfl, hw⟩
  have HB1 : Hid (Below w.heap.size w w1) := hide (by rw [hw]; exact Below.refl _ _)
  clear hw
  go_wp2_with fail
  go_loopw [18] (fun i wr => ∃ k : Nat, k ≤ xs.length ∧ i = .int .i64 k ∧ InX 6 mode xs w1 wr k) (fun i _ => xs.length - (intOf i).toNat)
  case atStart => exact ⟨0, by omega, rfl, InX.start _ _ _ _⟩
  case round =>
    obtain ⟨k, hk, rfl, ⟨vv, hA⟩, hB, hM⟩ := hrel
    have hz := hB.size
    have HBW := hide (bstep (unhide HB1) hB)
    have HA := hide hA
    have HB := hide hB
    have HMo := hide hM
    have HPK : Hid ((M.ptsE 6 (xs.take k)).length ≤ 30000) := hide (pts_few (all_take (unhide HS) k) (by rw [List.length_take]; omega))
    clear hA hB hM
    by_cases hlt : k < xs.length
    · obtain ⟨b, off, rfl, hc⟩ : ∃ b off, ao = some ⟨b, off, none⟩ ∧ ∀ i, i < xs.length → w.cell? ⟨b, off + i, none⟩ = some (.int .i64 (xs.getD i 0)) := by
        rcases unhide HC with h | h
        · subst h; simp at hlt
        · exact h
      have hcell : wr.cell? ⟨b, off + k, none⟩ = some (.int .i64 (xs.getD k 0)) := ((unhide HBW).cell (p := ⟨b, off + k, none⟩) (World.block_lt_of_cell? w _ (hc k hlt))).trans (hc k hlt)
      have hbr : b < wr.heap.size := World.block_lt_of_cell? wr _ hcell
      have HSp : Hid (M.sclr (xs.getD k 0) = true) := hide (sclr_all (unhide HS) _ (by simp [hlt]))
      obtain ⟨p, HP⟩ : ∃ p, Hid (xs.getD k 0 = p) := ⟨_, hide rfl⟩
      rw [unhide HP] at hcell HSp
      clear hc
      have HH := hide (by have := hasK_any p wr (Gi_of (unhide HSp)); rw [← M.hasE_six] at this; exact this)
      cases hq : M.hasE 6 p
      · rw [hq] at HH
        rcases unhide HM with hm0 | hm1
        · subst hm0
          have HW : Hid (resW 6 0 xs = .tuple #[.string ⟨#[]⟩, .int .i64 5]) := hide (resW_no rfl (all_no hlt (unhide HP) hq))
          clear hq
          go_wp2_with fail
          refine (unhide HH).mono ?_
          rintro e w2 ⟨rfl, hb2⟩
          have HB2 := hide hb2
          clear hb2 HH
          go_wp2_with fail
          go_ret2
          refine ⟨?_, bstep (unhide HBW) (unhide HB2)⟩
          rw [unhide HW]; rfl
        · subst hm1
          have HE : Hid (M.ptsE 6 (xs.take (k + 1)) = M.ptsE 6 (xs.take k) ++ M.tld p) := hide (by rw [take_getD hlt (unhide HP), M.ptsE_snoc, M.ptE_no hq])
          clear hq
          go_wp2_with fail
          refine (unhide HH).mono ?_
          rintro e w2 ⟨rfl, hb2⟩
          have HB2 := hide hb2
          clear hb2 HH
          go_wp2_with fail
          refine (putNumber_any w1.heap.size p vv _ _ ((unhide HT).below (bstep (unhide HBW) (unhide HB2))) (unhide HSp) ((unhide HA).below (unhide HB2)) (unhide HPK)).mono ?_
          rintro e w3 ⟨rfl, v3, hA3, hB3⟩
          have HI : Hid (InX 6 1 xs w1 w3 (k + 1)) := hide ⟨⟨v3, by rw [unhide HE]; exact hA3⟩, (bstep (unhide HB) (unhide HB2)).trans hB3, fun h => by cases h⟩
          clear hA3 hB3
          go_wp2_with fail
          go_roundw
          case rel => exact ⟨k + 1, by omega, by go_num, unhide HI⟩
          case measure => simp [intOf]; omega
      · rw [hq] at HH
        have HE : Hid (M.ptsE 6 (xs.take (k + 1)) = M.ptsE 6 (xs.take k) ++ [p]) := hide (by rw [take_getD hlt (unhide HP), M.ptsE_snoc, M.ptE_yes hq])
        have HM1 : Hid (mode = 0 → (xs.take (k + 1)).all (M.hasE 6) = true) := hide (fun h => all_upto (unhide HMo h) hlt (unhide HP) hq)
        clear hq
        go_wp2_with fail
        refine (unhide HH).mono ?_
        rintro e w2 ⟨rfl, hb2⟩
        have HB2 := hide hb2
        clear hb2 HH
        go_wp2_with fail
        refine (push_any w1.heap.size p vv _ _ ((unhide HA).below (unhide HB2)) (by have := unhide HPK; omega)).mono ?_
        rintro e w3 ⟨rfl, v3, hA3, hB3, -⟩
        have HI : Hid (InX 6 mode xs w1 w3 (k + 1)) := hide ⟨⟨v3, by rw [unhide HE]; exact hA3⟩, (bstep (unhide HB) (unhide HB2)).trans hB3, unhide HM1⟩
        clear hA3 hB3
        go_wp2_with fail
        go_roundw
        case rel => exact ⟨k + 1, by omega, by go_num, unhide HI⟩
        case measure => simp [intOf]; omega
    · have et : xs.take k = xs := List.take_of_length_le (by omega)
      rw [et] at HA HMo
      have HR : Hid (resW 6 mode xs = .tuple #[.string (strOfNums (M.encB 6 (M.ptsE 6 xs))), .int .i64 0]) := hide (resW_yes (by
        rcases unhide HM with h | h
        · exact .inr (unhide HMo h)
        · exact .inl h))
      have HSP := hide (sclr_all (M.ptsE_sclr 6 xs (unhide HS)))
      have hcv := cell_of_one (unhide HA).1
      have hlw : w1.heap.size < wr.heap.size := by have := (unhide HA).2.2; omega
      have HO := hide (unhide HA).2.1
      have HAll : Hid ((M.ptsE 6 xs).all M.anyK = true) := hide (M.ptsE_has 6 xs)
      have HBO := hide (bytesOfK_any vv _ wr (Ints.of_owns (unhide HO)) (pts_few (unhide HS) hlen) (fun m hm => Gi_of (unhide HSP m hm)) (unhide HAll))
      rw [← M.encB_6] at HBO
      obtain ⟨av, capv, hsh⟩ := owns_shape (unhide HO)
      subst hsh
      clear et
      go_wp2_with fail
      refine (unhide HBO).mono ?_
      rintro e w5 ⟨rfl, hb5⟩
      have HB5 := hide (bstep (unhide HBW) hb5)
      clear hb5
      go_wp2_with fail
      go_ret2
      refine ⟨?_, unhide HB5⟩
      rw [unhide HR]; rfl
end Go.Proofs.YtaiinjfnkmidbaaGreatDoor

namespace Go.Proofs.YtaiinjfnkmidbaaGreatDoor
open Go.RowKit
set_option linter.unusedVariables false

set_option maxHeartbeats 400000 in
set_option maxRecDepth 100000 in
theorem scalar_any (n : Int) (w : World) : Calls Tryz.prog 136 #[.int .i64 n] w fun e w' => e = .returned (.bool (M.sclr n)) ∧ w' = w := by
  rcases (show n < 0 ∨ 1114111 < n ∨ (0 ≤ n ∧ n < 55296) ∨ (57343 < n ∧ n ≤ 1114111) ∨ (55296 ≤ n ∧ n ≤ 57343) from by omega) with h | h | ⟨h, h'⟩ | ⟨h, h'⟩ | ⟨h, h'⟩
  all_goals
    have HS : ∃ b, Hid (M.sclr n = b) := ⟨_, rfl⟩
    obtain ⟨b, HS⟩ := HS
  all_goals (rw [unhide HS])
  · have hb : b = false := by rw [← unhide HS]; simp [M.sclr]; omega
    subst hb
    go_enter Tryz.func136, Tryz.ntmps136
    go_wp2
    go_ret
    exact ⟨rfl, rfl⟩
  · have hb : b = false := by rw [← unhide HS]; simp [M.sclr]; omega
    subst hb
    have h0 : 0 ≤ n := by omega
    go_enter Tryz.func136, Tryz.ntmps136
    go_wp2
    go_ret
    exact ⟨rfl, rfl⟩
  · have hb : b = true := by rw [← unhide HS]; simp [M.sclr]; omega
    subst hb
    go_enter Tryz.func136, Tryz.ntmps136
    go_wp2
    go_ret
    exact ⟨rfl, rfl⟩
  · have hb : b = true := by rw [← unhide HS]; simp [M.sclr]; omega
    subst hb
    have h0 : 0 ≤ n := by omega
    go_enter Tryz.func136, Tryz.ntmps136
    go_wp2
    go_ret
    exact ⟨rfl, rfl⟩
  · have hb : b = false := by rw [← unhide HS]; simp [M.sclr]; omega
    subst hb
    have h0 : 0 ≤ n := by omega
    go_enter Tryz.func136, Tryz.ntmps136
    go_wp2
    go_ret
    exact ⟨ret_bool (by simp; omega), rfl⟩
set_option maxHeartbeats 400000 in
set_option maxRecDepth 100000 in
theorem further_any (n : Int) (w : World) (h0 : 0 ≤ n) (h1 : n < 4294967296) : Calls Tryz.prog 192 #[.int .i64 n] w fun e w' => e = .returned (.int .u8 (128 + n % 64)) ∧ w' = w := by
  have HA := and63 n h0 (by omega)
  have HO := or_at 6 128 (n % 64) (by omega) (by omega) (by omega) (by omega) (by omega) (by omega)
  go_enter Tryz.func192, Tryz.ntmps192
  go_wp2
  go_ret
  exact ⟨ret_int (by omega), rfl⟩
set_option maxHeartbeats 400000 in
set_option maxRecDepth 100000 in
theorem put_1 (base : Nat) (n : Int) (v : Value) (xs : List Int) (w : World) (hbase : base ≤ w.heap.size) (hown : w.ownsRow base 5 1 v xs.length (xs.map (Value.int .u8))) (hl : xs.length ≤ 12000)
    (h0 : 0 ≤ n) (h1 : n < 128) :
    Calls Tryz.prog 137 #[v, .int .i64 n] w fun e w' => ∃ v', e = .returned v' ∧ w'.ownsRow base 5 1 v' (xs ++ M.enc1 n).length ((xs ++ M.enc1 n).map (Value.int .u8)) ∧ Below base w w' := by
  obtain ⟨i0, hi, hz0, hz1, hz2⟩ := info_parts info5
  have HE : Hid (M.enc1 n = [n]) := by show M.enc1 n = _; unfold M.enc1; rw [if_pos h1]
  go_enter Tryz.func137, Tryz.ntmps137
  go_wp2_with (at_builtin; refine wpList_append_own _ rfl (.tmp 8) (.tmp 11) 151 rfl base 5 i0 (.int .u8 0) 1 1 Tryz.underlying151 hi hz0 hz1 hz2 rfl (by decide) _ _ _ rfl (hown.alloc _) ⟨w.heap.size, 0, none⟩ 1 1 [.int .u8 n] rfl rfl ?c1 ?c2 ?c3 ?c4 ?c5 ?_)
  case c1 =>
    intro j u hj
    match j, hj with
    | 0, hj => simp at hj; subst hj; simp [Addr.add]
  case c2 => intro u hu; simp at hu; subst hu; rfl
  case c3 => unfold maxLen; omega
  case c4 => omega
  case c5 => simp; omega
  intro v' w1 hown' hgrow _
  obtain ⟨ao', cap', rfl⟩ := owns_shape hown'
  have R2 := hide hown'
  have R3 := hide (((Below.refl base w).alloc hbase _).grown hgrow (by simp; omega) (fun k hk => by have := hown.lt k hk; omega))
  clear hown hown' hgrow
  go_wp2_with fail
  go_ret
  refine ⟨_, rfl, ?_, unhide R3⟩
  rw [unhide HE]
  simpa using unhide R2
set_option maxHeartbeats 400000 in
set_option maxRecDepth 100000 in
theorem put_2 (base : Nat) (n : Int) (v : Value) (xs : List Int) (w : World) (hbase : base ≤ w.heap.size) (hown : w.ownsRow base 5 1 v xs.length (xs.map (Value.int .u8))) (hl : xs.length ≤ 12000)
    (h0 : 128 ≤ n) (h1 : n < 2048) :
    Calls Tryz.prog 137 #[v, .int .i64 n] w fun e w' => ∃ v', e = .returned v' ∧ w'.ownsRow base 5 1 v' (xs ++ M.enc1 n).length ((xs ++ M.enc1 n).map (Value.int .u8)) ∧ Below base w w' := by
  obtain ⟨i0, hi, hz0, hz1, hz2⟩ := info_parts info5
  have HE : Hid (M.enc1 n = [192 + n / 64, 128 + n % 64]) := by show M.enc1 n = _; unfold M.enc1; rw [if_neg (by omega), if_pos (by omega)]
  have HO := or_at 5 192 (n / 64) (by omega) (by omega) (by omega) (by omega) (by omega) (by omega)
  go_enter Tryz.func137, Tryz.ntmps137
  go_wp2_with (first | (go_at_call 192; refine (further_any _ _ (by omega) (by omega)).mono ?_; rintro e w1 ⟨rfl, hw⟩; replace hw := hw.symm; subst hw) | (at_builtin; refine wpList_append_own _ rfl (.tmp 16) (.tmp 23) 151 rfl base 5 i0 (.int .u8 0) 1 1 Tryz.underlying151 hi hz0 hz1 hz2 rfl (by decide) _ _ _ rfl (hown.alloc _) ⟨w.heap.size, 0, none⟩ 2 2 [.int .u8 (192 + n / 64), .int .u8 (128 + n % 64)] rfl rfl ?c1 ?c2 ?c3 ?c4 ?c5 ?_))
  case c1 =>
    intro j u hj
    match j, hj with
    | 0, hj => simp at hj; subst hj; simp [Addr.add]
    | 1, hj => simp at hj; subst hj; simp [Addr.add]
  case c2 => intro u hu; simp at hu; rcases hu with rfl | rfl <;> rfl
  case c3 => unfold maxLen; omega
  case c4 => omega
  case c5 => simp; omega
  intro v' w1 hown' hgrow _
  obtain ⟨ao', cap', rfl⟩ := owns_shape hown'
  have R2 := hide hown'
  have R3 := hide (((Below.refl base w).alloc hbase _).grown hgrow (by simp; omega) (fun k hk => by have := hown.lt k hk; omega))
  clear hown hown' hgrow
  go_wp2_with fail
  go_ret
  refine ⟨_, rfl, ?_, unhide R3⟩
  rw [unhide HE]
  simpa using unhide R2
set_option maxHeartbeats 400000 in
set_option maxRecDepth 100000 in
theorem put_3 (base : Nat) (n : Int) (v : Value) (xs : List Int) (w : World) (hbase : base ≤ w.heap.size) (hown : w.ownsRow base 5 1 v xs.length (xs.map (Value.int .u8))) (hl : xs.length ≤ 12000)
    (h0 : 2048 ≤ n) (h1 : n < 65536) :
    Calls Tryz.prog 137 #[v, .int .i64 n] w fun e w' => ∃ v', e = .returned v' ∧ w'.ownsRow base 5 1 v' (xs ++ M.enc1 n).length ((xs ++ M.enc1 n).map (Value.int .u8)) ∧ Below base w w' := by
  obtain ⟨i0, hi, hz0, hz1, hz2⟩ := info_parts info5
  have HE : Hid (M.enc1 n = [224 + n / 4096, 128 + n / 64 % 64, 128 + n % 64]) := by show M.enc1 n = _; unfold M.enc1; rw [if_neg (by omega), if_neg (by omega), if_pos (by omega)]
  have HO := or_at 4 224 (n / 4096) (by omega) (by omega) (by omega) (by omega) (by omega) (by omega)
  go_enter Tryz.func137, Tryz.ntmps137
  go_wp2_with (first | (go_at_call 192; refine (further_any _ _ (by omega) (by omega)).mono ?_; rintro e w1 ⟨rfl, hw⟩; replace hw := hw.symm; subst hw) | (at_builtin; refine wpList_append_own _ rfl (.tmp 28) (.tmp 38) 151 rfl base 5 i0 (.int .u8 0) 1 1 Tryz.underlying151 hi hz0 hz1 hz2 rfl (by decide) _ _ _ rfl (hown.alloc _) ⟨w.heap.size, 0, none⟩ 3 3 [.int .u8 (224 + n / 4096), .int .u8 (128 + n / 64 % 64), .int .u8 (128 + n % 64)] rfl rfl ?c1 ?c2 ?c3 ?c4 ?c5 ?_))
  case c1 =>
    intro j u hj
    match j, hj with
    | 0, hj => simp at hj; subst hj; simp [Addr.add]
    | 1, hj => simp at hj; subst hj; simp [Addr.add]
    | 2, hj => simp at hj; subst hj; simp [Addr.add]
  case c2 => intro u hu; simp at hu; rcases hu with rfl | rfl | rfl <;> rfl
  case c3 => unfold maxLen; omega
  case c4 => omega
  case c5 => simp; omega
  intro v' w1 hown' hgrow _
  obtain ⟨ao', cap', rfl⟩ := owns_shape hown'
  have R2 := hide hown'
  have R3 := hide (((Below.refl base w).alloc hbase _).grown hgrow (by simp; omega) (fun k hk => by have := hown.lt k hk; omega))
  clear hown hown' hgrow
  go_wp2_with fail
  go_ret
  refine ⟨_, rfl, ?_, unhide R3⟩
  rw [unhide HE]
  simpa using unhide R2
set_option maxHeartbeats 400000 in
set_option maxRecDepth 100000 in
theorem put_4 (base : Nat) (n : Int) (v : Value) (xs : List Int) (w : World) (hbase : base ≤ w.heap.size) (hown : w.ownsRow base 5 1 v xs.length (xs.map (Value.int .u8))) (hl : xs.length ≤ 12000)
    (h0 : 65536 ≤ n) (h1 : n ≤ 1114111) :
    Calls Tryz.prog 137 #[v, .int .i64 n] w fun e w' => ∃ v', e = .returned v' ∧ w'.ownsRow base 5 1 v' (xs ++ M.enc1 n).length ((xs ++ M.enc1 n).map (Value.int .u8)) ∧ Below base w w' := by
  obtain ⟨i0, hi, hz0, hz1, hz2⟩ := info_parts info5
  have HE : Hid (M.enc1 n = [240 + n / 262144, 128 + n / 4096 % 64, 128 + n / 64 % 64, 128 + n % 64]) := by show M.enc1 n = _; unfold M.enc1; rw [if_neg (by omega), if_neg (by omega), if_neg (by omega)]
  have HO := or_at 3 240 (n / 262144) (by omega) (by omega) (by omega) (by omega) (by omega) (by omega)
  go_enter Tryz.func137, Tryz.ntmps137
  go_wp2_with (first | (go_at_call 192; refine (further_any _ _ (by omega) (by omega)).mono ?_; rintro e w1 ⟨rfl, hw⟩; replace hw := hw.symm; subst hw) | (at_builtin; refine wpList_append_own _ rfl (.tmp 40) (.tmp 53) 151 rfl base 5 i0 (.int .u8 0) 1 1 Tryz.underlying151 hi hz0 hz1 hz2 rfl (by decide) _ _ _ rfl (hown.alloc _) ⟨w.heap.size, 0, none⟩ 4 4 [.int .u8 (240 + n / 262144), .int .u8 (128 + n / 4096 % 64), .int .u8 (128 + n / 64 % 64), .int .u8 (128 + n % 64)] rfl rfl ?c1 ?c2 ?c3 ?c4 ?c5 ?_))
  case c1 =>
    intro j u hj
    match j, hj with
    | 0, hj => simp at hj; subst hj; simp [Addr.add]
    | 1, hj => simp at hj; subst hj; simp [Addr.add]
    | 2, hj => simp at hj; subst hj; simp [Addr.add]
    | 3, hj => simp at hj; subst hj; simp [Addr.add]
  case c2 => intro u hu; simp at hu; rcases hu with rfl | rfl | rfl | rfl <;> rfl
  case c3 => unfold maxLen; omega
  case c4 => omega
  case c5 => simp; omega
  intro v' w1 hown' hgrow _
  obtain ⟨ao', cap', rfl⟩ := owns_shape hown'
  have R2 := hide hown'
  have R3 := hide (((Below.refl base w).alloc hbase _).grown hgrow (by simp; omega) (fun k hk => by have := hown.lt k hk; omega))
  clear hown hown' hgrow
  go_wp2_with fail
  go_ret
  refine ⟨_, rfl, ?_, unhide R3⟩
  rw [unhide HE]
  simpa using unhide R2
theorem put_any (base : Nat) (n : Int) (v : Value) (xs : List Int) (w : World) (hbase : base ≤ w.heap.size) (hown : w.ownsRow base 5 1 v xs.length (xs.map (Value.int .u8))) (hl : xs.length ≤ 12000)
    (h : M.sclr n = true) :
    Calls Tryz.prog 137 #[v, .int .i64 n] w fun e w' => ∃ v', e = .returned v' ∧ w'.ownsRow base 5 1 v' (xs ++ M.enc1 n).length ((xs ++ M.enc1 n).map (Value.int .u8)) ∧ Below base w w' := by
  have h' : 0 ≤ n ∧ n ≤ 1114111 := by simp [M.sclr] at h; omega
  rcases (show n < 128 ∨ (128 ≤ n ∧ n < 2048) ∨ (2048 ≤ n ∧ n < 65536) ∨ 65536 ≤ n from by omega) with g | ⟨g, g'⟩ | ⟨g, g'⟩ | g
  · exact put_1 base n v xs w hbase hown hl h'.1 g
  · exact put_2 base n v xs w hbase hown hl g g'
  · exact put_3 base n v xs w hbase hown hl g g'
  · exact put_4 base n v xs w hbase hown hl g h'.2
/-- What Encode answers of at most 3000 integers. -/
def encRes (xs : List Int) : Value := if xs.all M.sclr then .tuple #[.string (strOfNums (M.enc xs)), .int .i64 0] else .tuple #[.string ⟨#[]⟩, .int .i64 3]
theorem encRes_yes {xs : List Int} (h : xs.all M.sclr = true) : encRes xs = .tuple #[.string (strOfNums (M.enc xs)), .int .i64 0] := by unfold encRes; rw [if_pos h]
theorem encRes_no {xs : List Int} (h : xs.all M.sclr = false) : encRes xs = .tuple #[.string ⟨#[]⟩, .int .i64 3] := by unfold encRes; rw [if_neg (by simp [h])]
set_option maxHeartbeats 400000 in
set_option maxRecDepth 100000 in
theorem encode_many (ao : Option Addr) (len cap : Nat) (w : World) (h : 3000 < len) (hm : len ≤ maxLen) :
    Calls Tryz.prog 79 #[.slice ao len cap] w fun e w' => e = .returned (.tuple #[.string ⟨#[]⟩, .int .i64 2]) ∧ w' = w := by
  unfold maxLen at hm
  go_enter Tryz.func79, Tryz.ntmps79
  go_wp2
  go_ret2
  exact ⟨rfl, rfl⟩
set_option maxHeartbeats 400000 in
set_option maxRecDepth 100000 in
theorem encode_none (ao : Option Addr) (cap : Nat) (w : World) :
    Calls Tryz.prog 79 #[.slice ao 0 cap] w fun e w' => e = .returned (.tuple #[.string (strOfNums []), .int .i64 0]) ∧ w' = w := by
  have hc := conv_owned (xs := []) (World.ownsRow_nil w 0 5 1)
  go_enter Tryz.func79, Tryz.ntmps79
  go_wp2
  refine wp_loop_rounds 1 ?_
  rw [rounds_succ]
  go_wp2
  go_ret2
  exact ⟨rfl, rfl⟩
set_option maxHeartbeats 400000 in
set_option maxRecDepth 100000 in
theorem encode_some (b off cap : Nat) (xs : List Int) (w : World) (h0 : xs ≠ []) (h : xs.length ≤ 3000) (hc : ∀ i, i < xs.length → w.cell? ⟨b, off + i, none⟩ = some (.int .i64 (xs.getD i 0))) :
    Calls Tryz.prog 79 #[.slice (some ⟨b, off, none⟩) xs.length cap] w fun e w' => Below w.heap.size w w' ∧
      e = .returned (encRes xs) := by
  have hlen : 0 < xs.length := List.length_pos_iff.2 h0
  have hbl : b < w.heap.size := World.block_lt_of_cell? w _ (hc 0 hlen)
  have HC := hide hc
  have HI : InE xs w w 0 (.slice none 0 0) := ⟨World.ownsRow_nil _ _ _ _, Below.refl _ _, by simp⟩
  clear hc h0
  go_enter Tryz.func79, Tryz.ntmps79
  go_wp2_with fail
  go_loopw [4, 12] (fun v i wr => ∃ k : Nat, k ≤ xs.length ∧ i = .int .i64 k ∧ InE xs w wr k v) (fun _ i _ => xs.length - (intOf i).toNat)
  case atStart => exact ⟨0, by omega, rfl, HI⟩
  case round =>
    obtain ⟨k, hk, rfl, hI⟩ := hrel
    clear HI
    by_cases hlt : k < xs.length
    · have hcell : wr.cell? ⟨b, off + k, none⟩ = some (.int .i64 (xs.getD k 0)) := (hI.2.1.cell (p := ⟨b, off + k, none⟩) hbl).trans (unhide HC k hlt)
      obtain ⟨p, HP⟩ : ∃ p, Hid (xs.getD k 0 = p) := ⟨_, rfl⟩
      rw [unhide HP] at hcell
      obtain ⟨q, HQ⟩ : ∃ q, Hid (M.sclr p = q) := ⟨_, rfl⟩
      go_wp2_with fail
      refine (scalar_any _ _).mono ?_
      rintro e w1 ⟨rfl, hw⟩
      replace hw := hw.symm
      subst hw
      rw [unhide HQ]
      cases q
      · go_wp2_with fail
        go_ret2
        refine ⟨hI.2.1, ?_⟩
        have : xs.all M.sclr = false := by
          rw [List.all_eq_false]
          refine ⟨xs.getD k 0, ?_, by rw [unhide HP, unhide HQ]; simp⟩
          simp [hlt]
        rw [encRes_no this]; rfl
      · have hz := hI.2.1.size
        have hel := M.enc_len (xs.take k)
        have htl := List.length_take_le k xs
        go_wp2_with fail
        refine (put_any w.heap.size p _ (M.enc (xs.take k)) _ hz hI.1 (by omega) (unhide HQ)).mono ?_
        rintro e w2 ⟨v2, rfl, ho2, hb2⟩
        have HI := InE.step hI hlt (by rw [unhide HP]; exact unhide HQ) (by rw [unhide HP]; exact ho2) hb2
        obtain ⟨ao2, cap2, rfl⟩ := owns_shape ho2
        clear hI ho2 hb2
        go_wp2_with fail
        go_roundw
        case rel => exact ⟨k + 1, by omega, by go_num, by rw [List.length_append] at HI; exact HI⟩
        case measure => simp [intOf]; omega
    · have ek : k = xs.length := by omega
      have hcv := conv_owned hI.1
      obtain ⟨o1, o2, o3⟩ := hI
      have hb := hide o2
      subst ek
      rw [List.take_length] at hcv o1 o3
      obtain ⟨ao2, cap2, hsh⟩ := owns_shape o1
      subst hsh
      have HA := hide o3
      clear o1 o2 o3
      go_wp2_with fail
      go_ret2
      refine ⟨unhide hb, ?_⟩
      rw [encRes_yes (unhide HA)]; rfl
theorem encode_any {v : Value} {xs : List Int} (w : World) (hx : Ints w v xs) (h : xs.length ≤ 3000) :
    Calls Tryz.prog 79 #[v] w fun e w' => Below w.heap.size w w' ∧ e = .returned (encRes xs) := by
  obtain ⟨ao, cap, rfl, hm, -, hx⟩ := hx
  by_cases h0 : xs = []
  · subst h0
    refine (encode_none ao cap w).mono ?_
    rintro e w' ⟨rfl, rfl⟩
    exact ⟨Below.refl _ _, rfl⟩
  · rcases hx with hx | ⟨b, off, rfl, hc⟩
    · exact absurd hx h0
    · exact encode_some b off cap xs w h0 h hc
end Go.Proofs.YtaiinjfnkmidbaaGreatDoor

namespace Go.Proofs.YtaiinjfnkmidbaaGreatDoor
open Go.RowKit
set_option linter.unusedVariables false

set_option maxHeartbeats 400000 in
set_option maxRecDepth 100000 in
theorem Output_no (n : Int) (w : World) (hn : ¬ (1 ≤ n ∧ n ≤ 7)) : Calls Tryz.prog 41 #[.int .i64 n] w fun e w' => e = .returned (.tuple #[.int .i64 0, .int .i64 6]) ∧ Below w.heap.size w w' := by
  have HN := hide (fun w => Name_no n w hn)
  clear hn
  go_enter Tryz.func41, Tryz.ntmps41
  go_wp2_with fail
  refine (unhide HN _).mono ?_
  rintro e w1 ⟨rfl, hb1⟩
  have HB1 := hide hb1
  clear hb1 HN
  go_wp2_with fail
  go_ret2
  exact ⟨rfl, unhide HB1⟩
set_option maxHeartbeats 800000 in
set_option maxRecDepth 100000 in
theorem Output_yes (n : Int) (w : World) (hn : 1 ≤ n ∧ n ≤ 7) : Calls Tryz.prog 41 #[.int .i64 n] w fun e w' => e = .returned (.tuple #[.int .i64 (M.outE n), .int .i64 0]) ∧ Below w.heap.size w w' := by
  have HN := hide (fun w => Name_yes n w hn)
  generalize nameI n = nam at HN
  rcases (show n = 1 ∨ n = 2 ∨ n = 3 ∨ n = 4 ∨ n = 5 ∨ n = 6 ∨ n = 7 from by omega) with rfl | rfl | rfl | rfl | rfl | rfl | rfl
  all_goals
    clear hn
    go_enter Tryz.func41, Tryz.ntmps41
    go_wp2_with fail
    refine (unhide HN _).mono ?_
    rintro e w1 ⟨rfl, hb1⟩
    have HB1 := hide hb1
    clear hb1 HN
    go_wp2_with fail
    go_ret2
    exact ⟨rfl, unhide HB1⟩

set_option maxHeartbeats 1600000 in
set_option maxRecDepth 100000 in
theorem Has_yes (n p : Int) (w : World) (hn : 1 ≤ n ∧ n ≤ 7) (hp : M.sclr p = true) : Calls Tryz.prog 40 #[.int .i64 n, .int .i64 p] w fun e w' => e = .returned (.tuple #[.bool (M.hasE n p), .int .i64 0]) ∧ Below w.heap.size w w' := by
  have HN := hide (fun w => Output_yes n w hn)
  have HE := hide (fun w : World => encode_any (w.alloc (.cells #[.int .i64 p] 3)) (one_int w p) (by simp))
  rw [encRes_yes (by simp [hp])] at HE
  generalize strOfNums (M.enc [p]) = es at HE
  have HP := hide hp
  rw [← M.hasE_out]
  rcases M.outE_bd hn with ho | ho | ho | ho
  · rw [ho] at HN ⊢
    clear hn ho hp
    have HK := hide (fun w => knownU_any w)
    go_enter Tryz.func40, Tryz.ntmps40
    go_wp2_with fail
    refine (unhide HN _).mono ?_
    rintro e w1 ⟨rfl, hb1⟩
    have HB1 := hide hb1
    clear hb1 HN
    go_wp2_with fail
    refine (unhide HE _).mono ?_
    rintro e w2 ⟨hb2, rfl⟩
    have HB2 := hide (bstep (bstep (unhide HB1) (balloc _ _)) hb2)
    clear hb2 HE
    go_wp2_with fail
    refine (unhide HK _).mono ?_
    rintro e w3 ⟨rfl, hw⟩
    replace hw := hw.symm
    subst hw
    go_wp2_with fail
    refine (hasU_any p _).mono ?_
    rintro e w3 ⟨rfl, hw⟩
    replace hw := hw.symm
    subst hw
    go_wp2_with fail
    go_ret2
    exact ⟨rfl, unhide HB2⟩
  · rw [ho] at HN ⊢
    clear hn ho hp
    have HK := hide (fun w => knownS_any false 4 rfl w)
    rw [M.hasE_four]
    go_enter Tryz.func40, Tryz.ntmps40
    go_wp2_with fail
    refine (unhide HN _).mono ?_
    rintro e w1 ⟨rfl, hb1⟩
    have HB1 := hide hb1
    clear hb1 HN
    go_wp2_with fail
    refine (unhide HE _).mono ?_
    rintro e w2 ⟨hb2, rfl⟩
    have HB2 := hide (bstep (bstep (unhide HB1) (balloc _ _)) hb2)
    clear hb2 HE
    go_wp2_with fail
    refine (unhide HK _).mono ?_
    rintro e w3 ⟨B, rfl, hP, hb3⟩
    have HB3 := hide (bstep (unhide HB2) hb3)
    have HPt := hide hP
    clear hb3 hP
    go_wp2_with fail
    refine (hasS_any false B p _ (unhide HPt)).mono ?_
    rintro e w4 ⟨rfl, hw⟩
    replace hw := hw.symm
    subst hw
    go_wp2_with fail
    go_ret2
    exact ⟨rfl, unhide HB3⟩
  · rw [ho] at HN ⊢
    clear hn ho hp
    have HK := hide (fun w => knownS_any true 5 rfl w)
    rw [M.hasE_five]
    go_enter Tryz.func40, Tryz.ntmps40
    go_wp2_with fail
    refine (unhide HN _).mono ?_
    rintro e w1 ⟨rfl, hb1⟩
    have HB1 := hide hb1
    clear hb1 HN
    go_wp2_with fail
    refine (unhide HE _).mono ?_
    rintro e w2 ⟨hb2, rfl⟩
    have HB2 := hide (bstep (bstep (unhide HB1) (balloc _ _)) hb2)
    clear hb2 HE
    go_wp2_with fail
    refine (unhide HK _).mono ?_
    rintro e w3 ⟨B, rfl, hP, hb3⟩
    have HB3 := hide (bstep (unhide HB2) hb3)
    have HPt := hide hP
    clear hb3 hP
    go_wp2_with fail
    refine (hasS_any true B p _ (unhide HPt)).mono ?_
    rintro e w4 ⟨rfl, hw⟩
    replace hw := hw.symm
    subst hw
    go_wp2_with fail
    go_ret2
    exact ⟨rfl, unhide HB3⟩
  · rw [ho] at HN ⊢
    clear hn ho hp
    have HK := hide (fun w => knownK_any w)
    rw [M.hasE_six]
    go_enter Tryz.func40, Tryz.ntmps40
    go_wp2_with fail
    refine (unhide HN _).mono ?_
    rintro e w1 ⟨rfl, hb1⟩
    have HB1 := hide hb1
    clear hb1 HN
    go_wp2_with fail
    refine (unhide HE _).mono ?_
    rintro e w2 ⟨hb2, rfl⟩
    have HB2 := hide (bstep (bstep (unhide HB1) (balloc _ _)) hb2)
    clear hb2 HE
    go_wp2_with fail
    refine (unhide HK _).mono ?_
    rintro e w3 ⟨rfl, hw⟩
    replace hw := hw.symm
    subst hw
    go_wp2_with fail
    refine (hasK_any p _ (Gi_of (unhide HP))).mono ?_
    rintro e w4 ⟨rfl, hb4⟩
    have HB4 := hide (bstep (unhide HB2) hb4)
    clear hb4
    go_wp2_with fail
    go_ret2
    exact ⟨rfl, unhide HB4⟩

set_option maxHeartbeats 400000 in
set_option maxRecDepth 100000 in
theorem Enc_kind (n mode : Int) (ao : Option Addr) (len cap : Nat) (w : World) (hn : ¬ (1 ≤ n ∧ n ≤ 7)) : Calls Tryz.prog 44 #[.int .i64 n, .int .i64 mode, .slice ao len cap] w fun e w' => e = .returned (.tuple #[.string ⟨#[]⟩, .int .i64 6]) ∧ Below w.heap.size w w' := by
  have HN := hide (fun w => Output_no n w hn)
  clear hn
  go_enter Tryz.func44, Tryz.ntmps44
  go_wp2_with fail
  refine (unhide HN _).mono ?_
  rintro e w1 ⟨rfl, hb1⟩
  have HB1 := hide hb1
  clear hb1 HN
  go_wp2_with fail
  go_ret2
  exact ⟨rfl, unhide HB1⟩
theorem resW_one {n mode : Int} {xs : List Int} (h : M.outE n = 1) : resW n mode xs = .tuple #[.string (strOfNums (M.enc xs)), .int .i64 0] := by
  rw [resW_yes (.inr (List.all_eq_true.2 fun x _ => M.hasE_one h x)), M.ptsE_one h, ← M.encB_out, h, M.encB_1]
set_option maxHeartbeats 1600000 in
set_option maxRecDepth 100000 in
theorem Enc_ok (n mode : Int) {v : Value} {xs : List Int} (w : World) (hT : Tb w) (hn : 1 ≤ n ∧ n ≤ 7) (hm : mode = 0 ∨ mode = 1) (hI : Ints w v xs) (hl : xs.length ≤ 3000) (hs : xs.all M.sclr = true) : Calls Tryz.prog 44 #[.int .i64 n, .int .i64 mode, v] w fun e w' => e = .returned (resW n mode xs) ∧ Below w.heap.size w w' := by
  have HN := hide (fun w => Output_yes n w hn)
  have HE := hide (fun (w' : World) (hb : Below w.heap.size w w') => encode_any w' (hI.below hb) hl)
  rw [encRes_yes hs] at HE
  have m01 : (mode == 0) = false → (mode == 1) = true := by rcases hm with rfl | rfl <;> simp
  have HM := hide hm
  by_cases ho : M.outE n = 1
  · rw [resW_one ho]
    rw [ho] at HN
    generalize strOfNums (M.enc xs) = es at *
    obtain ⟨ao, cap, rfl, -, -, -⟩ := hI
    clear hn hs ho m01
    rcases hm with rfl | rfl
    all_goals
      go_enter Tryz.func44, Tryz.ntmps44
      go_wp2_with fail
      refine (unhide HN _).mono ?_
      rintro e w1 ⟨rfl, hb1⟩
      have HB1 := hide hb1
      clear hb1 HN
      go_wp2_with fail
      refine (unhide HE _ (unhide HB1)).mono ?_
      rintro e w2 ⟨hb2, rfl⟩
      have HB2 := hide (bstep (unhide HB1) hb2)
      clear hb2 HE
      go_wp2_with fail
      go_ret2
      exact ⟨rfl, unhide HB2⟩
  · have HW : Hid (∀ w', Below w.heap.size w w' → Calls Tryz.prog 98 #[.int .i64 (M.outE n), .int .i64 mode, v] w' fun e w'' => e = .returned (resW n mode xs) ∧ Below w'.heap.size w' w'') := hide (fun w' hb => by
      have e : M.outE n = n := by unfold M.outE at ho ⊢; split at ho <;> simp_all
      rw [e] at ho ⊢
      rcases M.outE_bd hn with h | h | h | h
      · rw [e] at h; exact absurd h ho
      · rw [e] at h; exact writeS_any false n (by simpa using h) mode hm v xs w' (hT.below hb) (hI.below hb) hl hs
      · rw [e] at h; exact writeS_any true n (by simpa using h) mode hm v xs w' (hT.below hb) (hI.below hb) hl hs
      · rw [e] at h; subst h; exact writeK_any mode hm v xs w' (hT.below hb) (hI.below hb) hl hs)
    have ho' : (M.outE n == 1) = false := by simpa using ho
    have HV : Hid (resW n mode xs = .tuple #[.string (strOfNums (M.encB n (M.ptsE n xs))), .int .i64 0] ∨ resW n mode xs = .tuple #[.string ⟨#[]⟩, .int .i64 5]) := hide (by unfold resW; split <;> simp)
    generalize strOfNums (M.enc xs) = es at *
    generalize M.outE n = o at *
    obtain ⟨r, HR⟩ : ∃ r, Hid (resW n mode xs = r) := ⟨_, hide rfl⟩
    rw [unhide HR] at HW HV ⊢
    generalize strOfNums (M.encB n (M.ptsE n xs)) = bs at *
    obtain ⟨ao, cap, rfl, -, -, -⟩ := hI
    clear hn hs ho m01 HR hT
    rcases unhide HV with rfl | rfl <;> rcases hm with rfl | rfl
    all_goals
      clear HV
      go_enter Tryz.func44, Tryz.ntmps44
      go_wp2_with fail
      refine (unhide HN _).mono ?_
      rintro e w1 ⟨rfl, hb1⟩
      have HB1 := hide hb1
      clear hb1 HN
      go_wp2_with fail
      refine (unhide HE _ (unhide HB1)).mono ?_
      rintro e w2 ⟨hb2, rfl⟩
      have HB2 := hide (bstep (unhide HB1) hb2)
      clear hb2 HE
      go_wp2_with fail
      refine (unhide HW _ (unhide HB2)).mono ?_
      rintro e w3 ⟨rfl, hb3⟩
      have HB3 := hide (bstep (unhide HB2) hb3)
      clear hb3 HW
      go_wp2_with fail
      go_ret2
      exact ⟨rfl, unhide HB3⟩
end Go.Proofs.YtaiinjfnkmidbaaGreatDoor

namespace Go.Proofs.YtaiinjfnkmidbaaGreatDoor
open Go.RowKit
set_option linter.unusedVariables false

end Go.Proofs.YtaiinjfnkmidbaaGreatDoor

namespace Go.Proofs.YtaiinjfnkmidbaaGreatDoor
open Go.RowKit
set_option linter.unusedVariables false

end Go.Proofs.YtaiinjfnkmidbaaGreatDoor

namespace Go.Proofs.YtaiinjfnkmidbaaGreatDoor
open Go.RowKit
set_option linter.unusedVariables false

theorem mkB_bl (n : Int) : bl (mkB n) = M.mkL n := by
  unfold mkB M.mkL
  split
  · decide
  · split
    · decide
    · split <;> decide
end Go.Proofs.YtaiinjfnkmidbaaGreatDoor

namespace Go.Proofs.YtaiinjfnkmidbaaGreatDoor
open Go.RowKit
set_option linter.unusedVariables false

theorem sc_bad : M.sclr 65533 = true := by decide
theorem ut_bd (big : Bool) {a b : Int} (ha : 0 ≤ a ∧ a ≤ 255) (hb : 0 ≤ b ∧ b ≤ 255) : 0 ≤ M.ut big a b ∧ M.ut big a b ≤ 65535 := by
  unfold M.ut
  cases big <;> simp <;> omega
theorem aln_sclr {u : Int} (h : 0 ≤ u ∧ u ≤ 65535) (hf : M.fst16 u = false) : M.sclr (M.aln u) = true := by
  unfold M.aln
  by_cases hs : M.snd16 u = true
  · rw [if_pos hs]; exact sc_bad
  · rw [if_neg hs]
    unfold M.fst16 at hf
    unfold M.snd16 at hs
    unfold M.sclr
    simp only [decide_eq_true_eq, decide_eq_false_iff_not] at *
    omega
theorem nx16_sclr (big : Bool) (l : List Int) (h : ∀ x ∈ l, 0 ≤ x ∧ x ≤ 255) : M.sclr (M.nx16 big l).1 = true := by
  match l, h with
  | [], _ => exact sc_bad
  | [_], _ => exact sc_bad
  | [a, b], h =>
    have hu := ut_bd big (h a (by simp)) (h b (by simp))
    cases hf : M.fst16 (M.ut big a b)
    · simp only [M.nx16, hf, Bool.false_eq_true, if_false]; exact aln_sclr hu hf
    · simp only [M.nx16, hf, if_true]; exact sc_bad
  | [a, b, c], h =>
    have hu := ut_bd big (h a (by simp)) (h b (by simp))
    cases hf : M.fst16 (M.ut big a b)
    · simp only [M.nx16, hf, Bool.false_eq_true, if_false]; exact aln_sclr hu hf
    · simp only [M.nx16, hf, if_true]; exact sc_bad
  | a :: b :: c :: d :: t, h =>
    have hu := ut_bd big (h a (by simp)) (h b (by simp))
    have hv := ut_bd big (h c (by simp)) (h d (by simp))
    cases hf : M.fst16 (M.ut big a b)
    · simp only [M.nx16, hf, Bool.false_eq_true, if_false]; exact aln_sclr hu hf
    · cases hg : M.snd16 (M.ut big c d)
      · simp only [M.nx16, hf, hg, if_true, Bool.false_eq_true, if_false]; exact sc_bad
      · simp only [M.nx16, hf, hg, if_true]
        unfold M.fst16 at hf
        unfold M.snd16 at hg
        unfold M.sclr
        simp only [decide_eq_true_eq] at *
        omega
theorem dec16_sclr (big : Bool) : ∀ (n : Nat) (l : List Int), l.length ≤ n → (∀ x ∈ l, 0 ≤ x ∧ x ≤ 255) → (M.dec16 big l).all M.sclr = true
  | 0, l, hn, h => by
    have : l = [] := List.eq_nil_of_length_eq_zero (by omega)
    subst this; rfl
  | n + 1, l, hn, h => by
    by_cases hl : l = []
    · subst hl; rfl
    · have hz := M.nx16_size big l hl
      rw [M.dec16_step big hl, List.all_cons, nx16_sclr big l h, dec16_sclr big n _ (by rw [List.length_drop]; omega) (fun x hx => h x (List.mem_of_mem_drop hx))]
      rfl
theorem pt_sclr (user : Bool) {c : Int} (h : 0 ≤ c ∧ c ≤ 255) : M.sclr (M.pt user c) = true := by
  have H : ∀ (u : Bool) (k : Fin 256), M.sclr (M.pt u ((k.val : Nat) : Int)) = true := by decide +kernel
  have := H user ⟨c.toNat, by omega⟩
  rwa [show ((c.toNat : Nat) : Int) = c from by omega] at this
theorem decS_sclr (user : Bool) (l : List Int) (h : ∀ x ∈ l, 0 ≤ x ∧ x ≤ 255) : (M.decS user l).all M.sclr = true := by
  rw [List.all_eq_true]
  intro x hx
  unfold M.decS at hx
  obtain ⟨c, hc, rfl⟩ := List.mem_map.1 hx
  exact pt_sclr user (h c hc)
theorem kpt_sclr (g : Int) {c : Int} (h : 0 ≤ c ∧ c ≤ 255) : M.sclr (M.kpt g c) = true := by
  unfold M.kpt
  split
  · exact sc_bad
  · unfold M.ksn
    split
    · split
      · unfold M.sclr; simp only [decide_eq_true_eq]; omega
      · exact sc_bad
    · split
      · exact sc_bad
      · split
        · decide
        · split
          · decide
          · unfold M.sclr; simp only [decide_eq_true_eq]; omega
theorem gk_sclr (s : Int × Bool) (l : List Int) (hl : l ≠ []) (h : ∀ x ∈ l, 0 ≤ x ∧ x ≤ 255) : (M.gk s l).1.all M.sclr = true := by
  unfold M.gk
  split
  · unfold M.bads; split <;> rfl
  · cases l with
    | nil => exact absurd rfl hl
    | cons c t =>
      show (M.sclr (M.kpt s.1 c) && true) = true
      rw [kpt_sclr s.1 (h c (by simp))]; rfl
theorem totk_sclr : ∀ (n : Nat) (s : Int × Bool) (l : List Int), l.length ≤ n → (∀ x ∈ l, 0 ≤ x ∧ x ≤ 255) → (M.Tot M.gk s l).1.all M.sclr = true
  | 0, s, l, hn, h => by
    have : l = [] := List.eq_nil_of_length_eq_zero (by omega)
    subst this; rw [M.Tot_nil]; rfl
  | n + 1, s, l, hn, h => by
    by_cases hl : l = []
    · subst hl; rw [M.Tot_nil]; rfl
    · have hz := M.gk_size s l hl
      rw [M.Tot_step (fun s l hl => M.gk_size s l hl) hl (show M.gk s l = ((M.gk s l).1, (M.gk s l).2.1, (M.gk s l).2.2) from rfl)]
      show ((M.gk s l).1 ++ _).all M.sclr = true
      rw [List.all_append, gk_sclr s l hl h, totk_sclr n _ _ (by rw [List.length_drop]; omega) (fun x hx => h x (List.mem_of_mem_drop hx))]
      rfl
theorem decE_sclr {e : Int} (he : 1 ≤ e ∧ e ≤ 7) (l : List Int) (h : ∀ x ∈ l, 0 ≤ x ∧ x ≤ 255) : (M.decE e l).all M.sclr = true := by
  unfold M.decE
  obtain rfl | rfl | rfl | rfl | rfl | rfl | rfl := M.seven he
  · rw [M.TE_8]; exact M.dec_sclr l h
  · rw [show (2 : Int) = (if false then 3 else 2) from rfl, M.TE_16 false]; exact dec16_sclr false _ l (Nat.le_refl _) h
  · rw [show (3 : Int) = (if true then 3 else 2) from rfl, M.TE_16 true]; exact dec16_sclr true _ l (Nat.le_refl _) h
  · rw [show (4 : Int) = (if false then 5 else 4) from rfl, M.TE_S false]; exact decS_sclr false l h
  · rw [show (5 : Int) = (if true then 5 else 4) from rfl, M.TE_S true]; exact decS_sclr true l h
  · rw [M.TE_K]; exact totk_sclr _ _ l (Nat.le_refl _) h
  · rw [M.TE_X]; dsimp only; split <;> rfl
theorem whI_sclr (L s : ByteArray) : (whI L (bl s)).all M.sclr = true :=
  decE_sclr (chI_bd L (bl s)).1 _ (fun x hx => bl_byt s x (List.mem_of_mem_drop hx))
theorem whI_few (L s : ByteArray) : (whI L (bl s)).length ≤ s.size := by
  have h := M.TE_few (chI L (bl s)).1 _ M.st0 ((bl s).drop (chI L (bl s)).2.2.toNat) (Nat.le_refl _)
  rw [List.length_drop, bl_len] at h
  unfold whI M.decE
  omega
/-- What is recoded. -/
def rcB (L : ByteArray) (l : List Int) (n : Int) : ByteArray := mkB (M.outE n) ++ strOfNums (M.encB n (M.ptsE n (whI L l)))
end Go.Proofs.YtaiinjfnkmidbaaGreatDoor

namespace Go.Proofs.YtaiinjfnkmidbaaGreatDoor
open Go.RowKit
set_option linter.unusedVariables false

theorem digs_b : M.digs 12354 = [49, 50, 51, 53, 52] := by
  rw [M.digs_hi (by decide), M.digs_hi (by decide), M.digs_hi (by decide), M.digs_hi (by decide), M.digs_lo (by decide)]
  decide
theorem res_b : resW 4 1 [8364, 12354] = .tuple #[.string ⟨#[128, 38, 35, 49, 50, 51, 53, 52, 59]⟩, .int .i64 0] := by
  have h1 : M.hasE 4 8364 = true := by decide +kernel
  have h2 : M.hasE 4 12354 = false := by decide +kernel
  have e : M.ptsE 4 [8364, 12354] = [8364, 38, 35, 49, 50, 51, 53, 52, 59] := by
    show M.ptE 4 8364 ++ (M.ptE 4 12354 ++ []) = _
    rw [M.ptE_yes h1, M.ptE_no h2]
    unfold M.tld
    rw [show (12354 : Int).toNat = 12354 from rfl, digs_b]
    rfl
  rw [resW_yes (.inl rfl), e]
  have : strOfNums (M.encB 4 [8364, 38, 35, 49, 50, 51, 53, 52, 59]) = ⟨#[128, 38, 35, 49, 50, 51, 53, 52, 59]⟩ := by decide +kernel
  rw [this]
theorem res_c : resW 4 0 [12354] = .tuple #[.string ⟨#[]⟩, .int .i64 5] := resW_no rfl (by decide +kernel)

set_option maxHeartbeats 800000 in
set_option maxRecDepth 100000 in
theorem encoderBegun_any (w : World) (hT : Tb w) : Calls Tryz.prog 38 #[] w fun e w' => e = .returned (.bool true) ∧ Below w.heap.size w w' := by
  have o1 := hide (fun w => Output_yes 3 w (by decide))
  rw [show M.outE 3 = 1 from rfl] at o1
  have a1 := hide (fun w => Has_yes 4 8364 w (by decide) (by decide))
  rw [show M.hasE 4 8364 = true from by decide +kernel] at a1
  have a2 := hide (fun w => Has_yes 6 8364 w (by decide) (by decide))
  rw [show M.hasE 6 8364 = false from by decide +kernel] at a2
  have e1 := hide (fun (w' : World) (hb : Below w.heap.size w w') => Enc_ok 4 1 (w'.alloc (.cells #[.int .i64 8364, .int .i64 12354] 3)) (hT.below (bstep hb (balloc _ _))) (by decide) (.inr rfl) (two_ints w' 8364 12354) (by decide) (by decide))
  rw [res_b] at e1
  have e2 := hide (fun (w' : World) (hb : Below w.heap.size w w') => Enc_ok 4 0 (w'.alloc (.cells #[.int .i64 12354] 3)) (hT.below (bstep hb (balloc _ _))) (by decide) (.inl rfl) (one_int w' 12354) (by decide) (by decide))
  rw [res_c] at e2
  clear hT
  go_enter Tryz.func38, Tryz.ntmps38
  go_wp2_with fail
  refine (unhide o1 _).mono ?_
  rintro e w1 ⟨rfl, hb1⟩
  have HB1 := hide hb1
  clear hb1 o1
  go_wp2_with fail
  refine (unhide a1 _).mono ?_
  rintro e w2 ⟨rfl, hb2⟩
  have HB2 := hide (bstep (unhide HB1) hb2)
  clear hb2 a1
  go_wp2_with fail
  refine (unhide a2 _).mono ?_
  rintro e w3 ⟨rfl, hb3⟩
  have HB3 := hide (bstep (unhide HB2) hb3)
  clear hb3 a2
  go_wp2_with fail
  refine (unhide e1 _ (unhide HB3)).mono ?_
  rintro e w4 ⟨rfl, hb4⟩
  have HB4 := hide (bstep (bstep (unhide HB3) (balloc _ _)) hb4)
  clear hb4 e1
  go_wp2_with fail
  refine (unhide e2 _ (unhide HB4)).mono ?_
  rintro e w5 ⟨rfl, hb5⟩
  have HB5 := hide (bstep (bstep (unhide HB4) (balloc _ _)) hb5)
  clear hb5 e2
  go_wp2_with fail
  go_ret
  exact ⟨rfl, unhide HB5⟩
end Go.Proofs.YtaiinjfnkmidbaaGreatDoor

namespace Go.Proofs.YtaiinjfnkmidbaaGreatDoor
open Go.RowKit
set_option linter.unusedVariables false

/-- How many are Bad, and how many far. -/
def cntB (xs : List Int) : Nat := (xs.filter (fun x => x == 65533)).length
def cntF (xs : List Int) : Nat := (xs.filter (fun x => decide (127 < x))).length
def RcSays : Prop := ∀ (L s : ByteArray) (n : Int) (w : World), L.size ≤ 3000 → s.size ≤ 3000 → 1 ≤ n ∧ n ≤ 7 → Mx w → Tb w → Calls Tryz.prog 31 #[.string L, .string s, .int .i64 n] w fun e w' => e = .returned (.tuple #[.string (rcB L (bl s) n), .int .i64 0]) ∧ Below w.heap.size w w'
def CtSays : Prop := ∀ (v : Value) (xs : List Int) (w : World), Ints w v xs → xs.length ≤ 3000 → xs.all M.sclr = true → Calls Tryz.prog 32 #[v] w fun e w' => e = .returned (.tuple #[.int .i64 (cntB xs : Int), .int .i64 (cntF xs : Int), .int .i64 0]) ∧ Below w.heap.size w w'
def CtErrs : Prop := ∀ (v : Value) (xs : List Int) (w : World), Ints w v xs → (3000 < xs.length ∨ xs.all M.sclr = false) → Calls Tryz.prog 32 #[v] w fun e w' => e = .returned (.tuple #[.int .i64 0, .int .i64 0, .int .i64 (if 3000 < xs.length then 2 else 3)]) ∧ Below w.heap.size w w'

theorem tb_c1 : chI ⟨#[]⟩ (bl ⟨#[255, 254, 97, 0]⟩) = (2, 1, 2) := by decide +kernel
theorem tb_w1 : whI ⟨#[]⟩ (bl ⟨#[255, 254, 97, 0]⟩) = [97] := by decide +kernel
theorem tb_w2 : whI u8N (bl ⟨#[226, 130, 172]⟩) = [8364] := by decide +kernel
theorem tb_r : rcB u8N (bl ⟨#[226, 130, 172]⟩) 6 = ⟨#[38, 35, 56, 51, 54, 52, 59]⟩ := by
  unfold rcB
  rw [tb_w2]
  have h : M.encB 6 (M.ptsE 6 [8364]) = [38, 35, 56, 51, 54, 52, 59] := by
    rw [show M.ptsE 6 [8364] = [38, 35, 56, 51, 54, 52, 59] from by
      unfold M.ptsE
      simp
      decide +kernel]
    decide +kernel
  rw [h]
  decide +kernel
theorem tb_b : cntB [97, 65533, 228] = 1 := by decide
theorem tb_f : cntF [97, 65533, 228] = 2 := by decide
set_option maxHeartbeats 1600000 in
set_option maxRecDepth 100000 in
theorem begunX_any (hD : DcSays) (hR : RcSays) (hC : CtSays) (w : World) (hM : Mx w) (hT : Tb w) : Calls Tryz.prog 22 #[] w fun e w' => e = .returned (.bool true) ∧ Below w.heap.size w w' := by
  have HM := hide hM
  have HT := hide hT
  have s1 := fun w h => hD ⟨#[]⟩ ⟨#[255, 254, 97, 0]⟩ w (by decide) (by decide) h
  rw [tb_c1, tb_w1] at s1
  have s2 := fun w h h' => hR u8N ⟨#[226, 130, 172]⟩ 6 w (by decide) (by decide) (by decide) h h'
  rw [tb_r] at s2
  have s3 := fun (w : World) (v : Value) (h : Ints w v [97, 65533, 228]) => hC v [97, 65533, 228] w h (by decide) (by decide)
  rw [tb_b, tb_f] at s3
  have S1 := hide s1
  have S2 := hide s2
  have S3 := hide s3
  dsimp only [u8N] at S2
  dsimp only at S1
  clear hD hR hC hM hT s1 s2 s3
  go_enter Tryz.func22, Tryz.ntmps22
  go_wp2_with fail
  refine (unhide S1 _ (unhide HM)).mono ?_
  rintro e w1 ⟨v1, rfl, ho1, hb1⟩
  obtain ⟨ao1, cap1, hsh1⟩ := owns_shape ho1
  subst hsh1
  have I1 := hide (Ints.of_owns ho1)
  have HB1 := hide hb1
  clear hb1 S1 ho1
  go_wp2_with fail
  refine (unhide S2 _ ((unhide HM).below (unhide HB1)) ((unhide HT).below (unhide HB1))).mono ?_
  rintro e w2 ⟨rfl, hb2⟩
  have I2 := hide ((unhide I1).below hb2)
  have HB2 := hide (bstep (unhide HB1) hb2)
  clear hb2 S2 HB1 I1
  go_wp2_with fail
  refine (unhide S3 _ _ (three_ints _ _ _ _)).mono ?_
  rintro e w3 ⟨rfl, hb3⟩
  have I3 := hide (((unhide I2).below (balloc _ _)).below hb3)
  have HB3 := hide (bstep (bstep (unhide HB2) (balloc _ _)) hb3)
  clear hb3 S3 HB2 I2
  go_wp2_with fail
  refine (same_any _ ((unhide I3).below (balloc _ _)) (one_int _ _)).mono ?_
  rintro e w4 ⟨rfl, hb4⟩
  rw [show (([97] : List Int) == [97]) = true from rfl]
  have HB4 := hide (bstep (bstep (unhide HB3) (balloc _ _)) hb4)
  clear hb4 HB3 I3
  go_wp2_with fail
  go_ret
  exact ⟨rfl, unhide HB4⟩
end Go.Proofs.YtaiinjfnkmidbaaGreatDoor

namespace Go.Proofs.YtaiinjfnkmidbaaGreatDoor
open Go.RowKit
set_option linter.unusedVariables false

theorem cntB_app (xs ys : List Int) : cntB (xs ++ ys) = cntB xs + cntB ys := by simp [cntB]
theorem cntF_app (xs ys : List Int) : cntF (xs ++ ys) = cntF xs + cntF ys := by simp [cntF]
theorem cntB_le (xs : List Int) : cntB xs ≤ cntF xs := by
  induction xs with
  | nil => exact Nat.le_refl _
  | cons x t ih =>
    unfold cntB cntF at *
    rw [List.filter_cons, List.filter_cons]
    by_cases h1 : x = 65533
    · subst h1; simp; exact ih
    · have e1 : (x == 65533) = false := by simpa using h1
      rw [e1]
      simp only [Bool.false_eq_true, if_false]
      split
      · simp; omega
      · exact ih
theorem cntF_le (xs : List Int) : cntF xs ≤ xs.length := List.length_filter_le _ _
theorem encB_any {n : Int} (hn : 1 ≤ n ∧ n ≤ 7) {xs : List Int} (h : xs.all M.sclr = true) (hl : xs.length ≤ 3000) : (strOfNums (M.encB n (M.ptsE n xs))).size ≤ 200000 := by
  have h1 := pts_few (n := n) h hl
  generalize M.ptsE n xs = ys at *
  rw [strOfNums_size]
  rcases (show (n = 4 ∨ n = 5) ∨ n = 6 ∨ (n ≠ 4 ∧ n ≠ 5 ∧ n ≠ 6) from by omega) with (h | h) | h | ⟨h4, h5, h6⟩
  · subst h; show (M.encS false _).length ≤ _; rw [M.encS_len]; omega
  · subst h; show (M.encS true _).length ≤ _; rw [M.encS_len]; omega
  · subst h; show (M.kenc _).length ≤ _; have := M.kenc_len ys; omega
  · have e : M.encB n ys = M.enc ys := by unfold M.encB; rw [if_neg h4, if_neg h5, if_neg h6]
    rw [e]; have := M.enc_len ys; omega
theorem ints_at {w : World} {ao : Option Addr} {n c : Nat} {xs : List Int} (h : Ints w (.slice ao n c) xs) (h0 : 0 < xs.length) : ∃ b off, ao = some ⟨b, off, none⟩ ∧ ∀ i, i < xs.length → w.cell? ⟨b, off + i, none⟩ = some (.int .i64 (xs.getD i 0)) := by
  obtain ⟨a, cap, he, _, _, h⟩ := h
  cases he
  rcases h with h | h
  · subst h; cases h0
  · exact h
theorem cnt_take {xs : List Int} {k : Nat} (h : k < xs.length) : cntB (xs.take (k + 1)) = cntB (xs.take k) + (if xs.getD k 0 = 65533 then 1 else 0) ∧ cntF (xs.take (k + 1)) = cntF (xs.take k) + (if 127 < xs.getD k 0 then 1 else 0) := by
  rw [take_snoc xs k h, cntB_app, cntF_app]
  constructor
  · congr 1
    unfold cntB
    by_cases e : xs.getD k 0 = 65533
    · rw [if_pos e, e]; rfl
    · rw [if_neg e]
      have : (xs.getD k 0 == 65533) = false := by simpa using e
      simp only [List.filter_cons, this]; rfl
  · congr 1
    unfold cntF
    by_cases e : 127 < xs.getD k 0
    · rw [if_pos e]; simp only [List.filter_cons, decide_eq_true e]; rfl
    · rw [if_neg e]; simp only [List.filter_cons, decide_eq_false e]; rfl
end Go.Proofs.YtaiinjfnkmidbaaGreatDoor

namespace Go.Proofs.YtaiinjfnkmidbaaGreatDoor
open Go.RowKit
set_option linter.unusedVariables false


set_option maxHeartbeats 400000 in
set_option maxRecDepth 100000 in
theorem dec1_own (s : ByteArray) (w : World) (hs : s.size ≤ 3000) :
    Calls Tryz.prog 148 #[.string s] w fun e w' => ∃ v, e = .returned v ∧ w'.ownsRow w.heap.size 3 1 v (M.dec (bl s)).length ((M.dec (bl s)).map (Value.int .i64)) ∧ Below w.heap.size w w' := by
  go_enter Tryz.func148, Tryz.ntmps148
  go_wp2_with fail
  refine (walk_dec s w.heap.size _ hs (heap_alloc_new _ _)).mono ?_
  rintro e w1 ⟨rfl, v', hv, hown, hbel⟩
  have HO := hide hown
  have hc := cell_of_one hv
  obtain ⟨ao, cap, hsh⟩ := owns_shape hown
  subst hsh
  have hb := hide (((Below.refl w.heap.size w).alloc (Nat.le_refl _) (.cells #[.slice none 0 0] 31)).trans hbel)
  clear hv hown hbel
  go_wp2_with fail
  go_ret
  exact ⟨_, rfl, owns_mono (unhide HO) (by omega), unhide hb⟩

set_option maxHeartbeats 400000 in
set_option maxRecDepth 100000 in
theorem decode_own (s : ByteArray) (w : World) (hs : s.size ≤ 3000) :
    Calls Tryz.prog 89 #[.string s] w fun e w' => ∃ v, e = .returned (.tuple #[v, .int .i64 0]) ∧ w'.ownsRow w.heap.size 3 1 v (M.dec (bl s)).length ((M.dec (bl s)).map (Value.int .i64)) ∧ Below w.heap.size w w' := by
  go_enter Tryz.func89, Tryz.ntmps89
  go_wp2_with (first | (go_at_call 148; refine (dec1_own _ _ hs).mono ?_; rintro e w1 ⟨v, rfl, hI, hb⟩; have HI := hide hI; have HB := hide hb; obtain ⟨ao, cap, rfl⟩ := owns_shape hI; clear hb hI) | go_in)
  go_ret2
  exact ⟨_, rfl, unhide HI, unhide HB⟩

set_option maxHeartbeats 400000 in
set_option maxRecDepth 100000 in
theorem dec16_ino (big : Bool) (s : ByteArray) (B : Nat) (w : World) (hs : s.size ≤ 3000) (hB : w.cell? ⟨B, 0, none⟩ = some (.bool big)) :
    Calls Tryz.prog 151 #[.string s, .pointer (some ⟨B, 0, none⟩)] w fun e w' => ∃ v, e = .returned v ∧ w'.ownsRow w.heap.size 3 1 v (M.dec16 big (bl s)).length ((M.dec16 big (bl s)).map (Value.int .i64)) ∧ Below w.heap.size w w' := by
  have hlt := World.block_lt_of_cell? w _ hB
  have HB := hide hB
  have HI : InU big s w w 0 [] (.slice none 0 0) := ⟨World.ownsRow_nil _ _ _ _, Below.refl _ _, Nat.le_refl _, by simp⟩
  clear hB
  go_enter Tryz.func151, Tryz.ntmps151
  go_wp2_with fail
  go_loopw [4, 5] (fun v i wr => ∃ (k : Nat) (xs : List Int), k ≤ s.size ∧ i = .int .i64 k ∧ InU big s w wr k xs v) (fun _ i _ => s.size - (intOf i).toNat)
  case atStart => exact ⟨0, [], by omega, rfl, HI⟩
  case round =>
    obtain ⟨k, xs, hk, rfl, hI⟩ := hrel
    clear HI
    have hsz := hI.2.1.size
    have hxs := hI.2.2.1
    by_cases hks : k < s.size
    · have hcb : wr.cell? ⟨B, 0, none⟩ = some (.bool big) := (hI.2.1.cell (p := ⟨B, 0, none⟩) hlt).trans (unhide HB)
      obtain ⟨p, z, HN⟩ : ∃ p z, Hid (M.nx16 big ((bl s).drop k) = (p, z)) := ⟨_, _, rfl⟩
      have hz := M.nx16_size big ((bl s).drop k) (fun e => by have := congrArg List.length e; simp [bl_len] at this; omega)
      rw [unhide HN] at hz
      simp only [List.length_drop, bl_len] at hz
      have HR : Hid (∀ w : World, Calls Tryz.prog 152 #[.bool big, .string (s.extract k s.size)] w fun e w' => e = .returned (.tuple #[.int .i64 p, .int .i64 (z : Int)]) ∧ ∃ m, w' = w.drewN m) := by
        refine hide fun w => ?_
        have := next_any big (s.extract k s.size) w (by simp; omega) (by simp; omega)
        rw [bl_extract, unhide HN] at this
        exact this
      obtain ⟨ao, cap, hsh⟩ := owns_shape hI.1
      subst hsh
      go_wp2_with fail
      go_quiet ((go_at_call 152; exact Calls.quiet_of (unhide HR _)))
      go_wp2_with (at_builtin; refine append_ints rfl (.tmp 20) (.tmp 22) rfl w.heap.size _ xs rfl (owns_da hI.1 _ _) _ [p] rfl (one_int _ _) (by simp; omega) (by simp; omega) ?_)
      intro v2 w2 ho2 hb2
      have HI := hI.step (v2 := v2) hks HN hz.1 (by simpa using ho2) (((below_drewN (Below.refl _ _) _).alloc hsz _).trans hb2)
      obtain ⟨ao2, cap2, hsh2⟩ := owns_shape ho2
      subst hsh2
      clear hI ho2 hb2
      go_wp2_with fail
      go_roundw
      case rel => exact ⟨k + z, xs ++ [p], by omega, by go_num, HI⟩
      case measure => simp [intOf]; omega
    · obtain ⟨h1, h2, h3, h4⟩ := hI
      rw [List.drop_of_length_le (by rw [bl_len]; omega), M.dec16_nil, List.append_nil] at h4
      have HV := hide h1
      rw [h4] at HV
      obtain ⟨ao, cap, hsh⟩ := owns_shape h1
      subst hsh
      have hl := congrArg List.length h4
      clear h1 h4
      go_wp2_with fail
      go_ret
      exact ⟨_, rfl, unhide HV, h2⟩

set_option maxHeartbeats 400000 in
set_option maxRecDepth 100000 in
theorem decode16_own (big : Bool) (s : ByteArray) (w : World) (hs : s.size ≤ 3000) :
    Calls Tryz.prog 90 #[.bool big, .string s] w fun e w' => ∃ v, e = .returned (.tuple #[v, .int .i64 0]) ∧ w'.ownsRow w.heap.size 3 1 v (M.dec16 big (bl s)).length ((M.dec16 big (bl s)).map (Value.int .i64)) ∧ Below w.heap.size w w' := by
  go_enter Tryz.func90, Tryz.ntmps90
  go_wp2_with (first | (go_at_call 151; refine (dec16_ino big _ _ _ hs (by simp)).mono ?_; rintro e w1 ⟨v, rfl, hI, hb⟩; have HI := hide hI; have HB := hide (bstep (balloc _ _) hb); obtain ⟨ao, cap, rfl⟩ := owns_shape hI; clear hb hI) | go_in)
  go_ret2
  exact ⟨_, rfl, owns_mono (unhide HI) (by simp), unhide HB⟩

set_option maxHeartbeats 400000 in
set_option maxRecDepth 100000 in
theorem decS_ino (user : Bool) (s : ByteArray) (B : Nat) (w : World) (hs : s.size ≤ 3000) (hB : w.cell? ⟨B, 0, none⟩ = some (.bool user)) :
    Calls Tryz.prog 153 #[.string s, .pointer (some ⟨B, 0, none⟩)] w fun e w' => ∃ v, e = .returned v ∧ w'.ownsRow w.heap.size 3 1 v (M.decS user (bl s)).length ((M.decS user (bl s)).map (Value.int .i64)) ∧ Below w.heap.size w w' := by
  go_enter Tryz.func153, Tryz.ntmps153
  go_wp2_with fail
  refine (pointsOf_any user _).mono ?_
  rintro e w1 ⟨v1, rfl, hI1, hb1⟩
  obtain ⟨ao1, cap1, hsh1, -, -, hc1⟩ := hI1
  subst hsh1
  rw [M.tblOf_len]
  rw [M.tblOf_len] at hc1
  obtain ⟨b, off, rfl, hcc⟩ : ∃ b off, ao1 = some ⟨b, off, none⟩ ∧ ∀ i, i < 256 → w1.cell? ⟨b, off + i, none⟩ = some (.int .i64 ((M.tblOf user 256).getD i 0)) := by
    rcases hc1 with h | h
    · have := congrArg List.length h; rw [M.tblOf_len] at this; simp at this
    · exact h
  have hbl : b < w1.heap.size := World.block_lt_of_cell? w1 _ (hcc 0 (by omega))
  have HC := hide hcc
  have HI : Hid (InS user s w1 w1 0 (.slice none 0 0)) := hide ⟨World.ownsRow_nil _ _ _ _, Below.refl _ _⟩
  clear hc1 hcc hB
  go_wp2_with fail
  go_loopw [5, 11] (fun v i wr => ∃ k : Nat, k ≤ s.size ∧ i = .int .i64 k ∧ InS user s w1 wr k v) (fun _ i _ => s.size - (intOf i).toNat)
  case atStart => exact ⟨0, by omega, rfl, unhide HI⟩
  case round =>
    obtain ⟨k, hk, rfl, hI⟩ := hrel
    clear HI
    have hz := hI.2.size
    have hl : Hid ((M.decS user ((bl s).take k)).length = k) := hide (by rw [M.decS_len, List.length_take, bl_len]; omega)
    obtain ⟨ao, cap, hsh⟩ := owns_shape hI.1
    subst hsh
    by_cases hlt : k < s.size
    · obtain ⟨c, hc⟩ : ∃ c : Nat, s[k].toNat = c := ⟨_, rfl⟩
      have hcb : c < 256 := by have := s[k].toNat_lt; omega
      have hcell : wr.cell? ⟨b, off + c, none⟩ = some (.int .i64 (M.pt user (c : Int))) := by
        rw [hI.2.cell (p := ⟨b, off + c, none⟩) hbl, unhide HC c hcb, M.tblOf_get user hcb]
      have hci : (s[k].toNat : Int) = (c : Int) := by omega
      have hbr : b < wr.heap.size := by omega
      obtain ⟨p, HP⟩ : ∃ p, Hid (M.pt user (c : Int) = p) := ⟨_, rfl⟩
      rw [unhide HP] at hcell
      have HCC := hide hci
      go_wp2_with (at_builtin; refine append_ints rfl (.tmp 14) (.tmp 21) rfl w1.heap.size _ (M.decS user ((bl s).take k)) rfl (owns_a hI.1 _) _ [p] rfl (one_int _ _) (by rw [unhide hl]; simp; omega) (by simp; omega) ?_)
      intro v2 w2 ho2 hb2
      have HJ : Hid (InS user s w1 w2 (k + 1) v2) := hide (hI.step hlt (unhide HCC) (unhide HP) (by simpa using ho2) (((Below.refl _ _).alloc hz _).trans hb2))
      obtain ⟨ao2, cap2, hsh2⟩ := owns_shape ho2
      subst hsh2
      clear hI ho2 hb2
      go_wp2_with fail
      go_roundw
      case rel => exact ⟨k + 1, by omega, by go_num, by simpa using unhide HJ⟩
      case measure => simp [intOf]; omega
    · have ek : k = s.size := by omega
      have HV := hide (owns_mono hI.1 hb1.size)
      have et : (bl s).take k = bl s := List.take_of_length_le (by rw [bl_len]; omega)
      rw [et] at HV
      have HB := hide (bstep hb1 hI.2)
      rw [et]
      clear hI et hl
      go_wp2_with fail
      go_ret
      exact ⟨_, rfl, unhide HV, unhide HB⟩

set_option maxHeartbeats 400000 in
set_option maxRecDepth 100000 in
theorem decodeS_own (user : Bool) (s : ByteArray) (w : World) (hs : s.size ≤ 3000) :
    Calls Tryz.prog 91 #[.bool user, .string s] w fun e w' => ∃ v, e = .returned (.tuple #[v, .int .i64 0]) ∧ w'.ownsRow w.heap.size 3 1 v (M.decS user (bl s)).length ((M.decS user (bl s)).map (Value.int .i64)) ∧ Below w.heap.size w w' := by
  go_enter Tryz.func91, Tryz.ntmps91
  go_wp2_with (first | (go_at_call 153; refine (decS_ino user _ _ _ hs (by simp)).mono ?_; rintro e w1 ⟨v, rfl, hI, hb⟩; have HI := hide hI; have HB := hide (bstep (balloc _ _) hb); obtain ⟨ao, cap, rfl⟩ := owns_shape hI; clear hb hI) | go_in)
  go_ret2
  exact ⟨_, rfl, owns_mono (unhide HI) (by simp), unhide HB⟩

set_option maxHeartbeats 800000 in
set_option maxRecDepth 100000 in
theorem stop_texto (s : ByteArray) (w : World) (hs : s.size ≤ 3000) : Calls Tryz.prog 93 #[.string s, .func (Fn.func 94) #[] #[]] w fun e w' => ∃ v, e = .returned (.tuple #[v, .int .i64 0]) ∧ w'.ownsRow w.heap.size 3 1 v (M.decE 7 (bl s)).length ((M.decE 7 (bl s)).map (Value.int .i64)) ∧ Below w.heap.size w w' := by
  have HD := hide (decE_7 s)
  go_enter Tryz.func93, Tryz.ntmps93
  go_wp2_with fail
  refine (stop_any s _).mono ?_
  rintro e w1 ⟨v, rfl, hI, hb⟩
  obtain ⟨ao, cap, rfl⟩ := owns_shape hI
  have HI := hide hI
  have HB := hide hb
  clear hI hb
  generalize (if s.size = 0 then [] else [(65533 : Int)]) = L at *
  go_wp2_with fail
  go_ret2
  exact ⟨_, rfl, by rw [unhide HD]; exact unhide HI, unhide HB⟩

set_option maxHeartbeats 1600000 in
set_option maxRecDepth 100000 in
theorem sdecode_own (e : Int) (s : ByteArray) (w : World) (he : 1 ≤ e ∧ e ≤ 7) (hs : s.size ≤ 3000) : Calls Tryz.prog 42 #[.int .i64 e, .string s] w fun e' w' => ∃ v, e' = .returned (.tuple #[v, .int .i64 0]) ∧ w'.ownsRow w.heap.size 3 1 v (M.decE e (bl s)).length ((M.decE e (bl s)).map (Value.int .i64)) ∧ Below w.heap.size w w' := by
  obtain rfl | rfl | rfl | rfl | rfl | rfl | rfl : e = 1 ∨ e = 2 ∨ e = 3 ∨ e = 4 ∨ e = 5 ∨ e = 6 ∨ e = 7 := by omega
  · have H := fun w => decode_own s w hs
    have HD := hide (decE_1 (bl s))
    go_enter Tryz.func42, Tryz.ntmps42
    go_wp2_with fail
    refine (H _).mono ?_
    rintro e w1 ⟨v, rfl, hI, hb⟩
    rw [← unhide HD] at hI
    have HI := hide hI
    have HB := hide hb
    obtain ⟨ao, cap, rfl⟩ := owns_shape hI
    clear hb H hI
    go_wp2_with fail
    go_ret2
    exact ⟨_, rfl, unhide HI, unhide HB⟩
  · have H := fun w => decode16_own false s w hs
    have HD := hide (decE_2 (bl s))
    go_enter Tryz.func42, Tryz.ntmps42
    go_wp2_with fail
    refine (H _).mono ?_
    rintro e w1 ⟨v, rfl, hI, hb⟩
    rw [← unhide HD] at hI
    have HI := hide hI
    have HB := hide hb
    obtain ⟨ao, cap, rfl⟩ := owns_shape hI
    clear hb H hI
    go_wp2_with fail
    go_ret2
    exact ⟨_, rfl, unhide HI, unhide HB⟩
  · have H := fun w => decode16_own true s w hs
    have HD := hide (decE_3 (bl s))
    go_enter Tryz.func42, Tryz.ntmps42
    go_wp2_with fail
    refine (H _).mono ?_
    rintro e w1 ⟨v, rfl, hI, hb⟩
    rw [← unhide HD] at hI
    have HI := hide hI
    have HB := hide hb
    obtain ⟨ao, cap, rfl⟩ := owns_shape hI
    clear hb H hI
    go_wp2_with fail
    go_ret2
    exact ⟨_, rfl, unhide HI, unhide HB⟩
  · have H := fun w => decodeS_own false s w hs
    have HD := hide (decE_4 (bl s))
    go_enter Tryz.func42, Tryz.ntmps42
    go_wp2_with fail
    refine (H _).mono ?_
    rintro e w1 ⟨v, rfl, hI, hb⟩
    rw [← unhide HD] at hI
    have HI := hide hI
    have HB := hide hb
    obtain ⟨ao, cap, rfl⟩ := owns_shape hI
    clear hb H hI
    go_wp2_with fail
    go_ret2
    exact ⟨_, rfl, unhide HI, unhide HB⟩
  · have H := fun w => decodeS_own true s w hs
    have HD := hide (decE_5 (bl s))
    go_enter Tryz.func42, Tryz.ntmps42
    go_wp2_with fail
    refine (H _).mono ?_
    rintro e w1 ⟨v, rfl, hI, hb⟩
    rw [← unhide HD] at hI
    have HI := hide hI
    have HB := hide hb
    obtain ⟨ao, cap, rfl⟩ := owns_shape hI
    clear hb H hI
    go_wp2_with fail
    go_ret2
    exact ⟨_, rfl, unhide HI, unhide HB⟩
  · have H := fun w => kdecode_own s w hs
    have HD := hide (decE_6 (bl s))
    go_enter Tryz.func42, Tryz.ntmps42
    go_wp2_with fail
    refine (H _).mono ?_
    rintro e w1 ⟨v, rfl, hI, hb⟩
    rw [← unhide HD] at hI
    have HI := hide hI
    have HB := hide hb
    obtain ⟨ao, cap, rfl⟩ := owns_shape hI
    clear hb H hI
    go_wp2_with fail
    go_ret2
    exact ⟨_, rfl, unhide HI, unhide HB⟩
  · have H := fun w => stop_texto s w hs
    go_enter Tryz.func42, Tryz.ntmps42
    go_wp2_with fail
    refine (H _).mono ?_
    rintro e w1 ⟨v, rfl, hI, hb⟩
    have HI := hide hI
    have HB := hide hb
    obtain ⟨ao, cap, rfl⟩ := owns_shape hI
    clear hb H hI
    go_wp2_with fail
    go_ret2
    exact ⟨_, rfl, unhide HI, unhide HB⟩

end Go.Proofs.YtaiinjfnkmidbaaGreatDoor

namespace Go.Proofs.YtaiinjfnkmidbaaGreatDoor
open Go.RowKit
set_option linter.unusedVariables false

set_option maxHeartbeats 800000 in
set_option maxRecDepth 100000 in
theorem dcSays : DcSays := by
  intro name s w hn hs hM
  have HM := hide hM
  have hl := hide (bl_len s)
  have HC := hide (fun w h => chSays name s w hn hs h)
  have hbd := chI_bd name (bl s)
  rw [unhide hl] at hbd
  have HW : Hid (whI name (bl s) = M.decE (chI name (bl s)).1 ((bl s).drop (chI name (bl s)).2.2.toNat)) := hide rfl
  obtain ⟨n, y, m, HX⟩ : ∃ n y m, Hid (chI name (bl s) = (n, y, m)) := ⟨_, _, _, hide rfl⟩
  rw [unhide HX] at HC hbd HW
  simp only at HC hbd HW
  obtain ⟨he, hy, hm0, hm3, hml⟩ := hbd
  obtain ⟨k, rfl⟩ : ∃ k : Nat, m = (k : Int) := ⟨m.toNat, by omega⟩
  rw [Int.toNat_natCast, ← bl_extract] at HW
  have HD := hide (fun w => sdecode_own n (s.extract k s.size) w he (by simp; omega))
  rw [← unhide HW] at HD
  rw [unhide HX]
  generalize whI name (bl s) = L at *
  clear HW hM HX
  go_enter Tryz.func23, Tryz.ntmps23
  go_wp2_with fail
  refine (unhide HC _ (unhide HM)).mono ?_
  rintro e w1 ⟨rfl, hb1⟩
  have hz1 := hb1.size
  have HB1 := hide hb1
  clear hb1
  go_wp2_with fail
  refine (unhide HD _).mono ?_
  rintro e w2 ⟨v, rfl, ho2, hb2⟩
  obtain ⟨ao, cap, hsh⟩ := owns_shape ho2
  subst hsh
  have HO := hide (owns_mono ho2 hz1)
  have HB2 := hide (bstep (unhide HB1) hb2)
  clear ho2 hb2
  go_wp2_with fail
  refine bodyPost_ret (results_tmp4 rfl _ _ _) rfl ?_
  exact ⟨.slice ao L.length cap, rfl, unhide HO, unhide HB2⟩

set_option maxHeartbeats 800000 in
set_option maxRecDepth 100000 in
theorem dcErrs : DcErrs := by
  intro name s w hn hs h hM
  have HM := hide hM
  have HC := hide (fun w hm => chErrs name s w hn hs h hm)
  clear hM h hn hs
  go_enter Tryz.func23, Tryz.ntmps23
  go_wp2_with fail
  refine (unhide HC _ (unhide HM)).mono ?_
  rintro e w1 ⟨rfl, hb1⟩
  have HB1 := hide hb1
  clear hb1
  go_wp2_with fail
  refine bodyPost_ret (results_tmp4 rfl _ _ _) rfl ?_
  exact ⟨.slice none 0 0, rfl, Ints.nil _, unhide HB1⟩

set_option maxHeartbeats 1600000 in
set_option maxRecDepth 100000 in
theorem rcSays : RcSays := by
  intro name s n w hn hs h hM hT
  have HM := hide hM
  have HT := hide hT
  have HD := hide (fun w hm => dcSays name s w hn hs hm)
  have hsc := whI_sclr name s
  have hfw := whI_few name s
  have HRC : Hid (rcB name (bl s) n = mkB (M.outE n) ++ strOfNums (M.encB n (M.ptsE n (whI name (bl s))))) := hide rfl
  have hz2 := encB_any h hsc (by omega)
  have hz1 : (mkB (M.outE n)).size ≤ 3 := by unfold mkB; split <;> (try split) <;> (try split) <;> decide
  have HE := hide (fun (w : World) (v : Value) (ht : Tb w) (hi : Ints w v (whI name (bl s))) => Enc_ok n 1 w ht h (.inr rfl) hi (by omega) hsc)
  rw [resW_yes (.inl rfl)] at HE
  have HO := hide (fun w => Output_yes n w h)
  have ho7 : 1 ≤ M.outE n ∧ M.outE n ≤ 7 := by unfold M.outE; split <;> omega
  have HP : Hid (∀ w : World, Calls Tryz.prog 61 #[.int .i64 (M.outE n), .string ⟨#[]⟩] w fun e w' => e = .returned (.tuple #[.string (mkB (M.outE n)), .int .i64 0]) ∧ Below w.heap.size w w') := hide (fun w => (Put_any (M.outE n) ⟨#[]⟩ w ho7 (by decide)).mono fun e w' h => by
    obtain ⟨t, rfl, ht, hb⟩ := h
    refine ⟨?_, hb⟩
    rw [show bl ⟨#[]⟩ = [] from rfl, List.append_nil, ← mkB_bl] at ht
    rw [← str_bl t, ht, str_bl])
  rw [unhide HRC]
  generalize strOfNums (M.encB n (M.ptsE n (whI name (bl s)))) = T at *
  generalize mkB (M.outE n) = MK at *
  generalize M.outE n = oe at *
  generalize whI name (bl s) = L at *
  generalize (chI name (bl s)).1 = c1 at *
  generalize (chI name (bl s)).2.1 = c2 at *
  clear hM hn hs hT HRC hsc hfw
  go_enter Tryz.func31, Tryz.ntmps31
  go_wp2_with fail
  refine (unhide HD _ (unhide HM)).mono ?_
  rintro e w1 ⟨v1, rfl, ho1, hb1⟩
  have I1 := hide (Ints.of_owns ho1)
  obtain ⟨ao1, cap1, rfl⟩ := owns_shape ho1
  have HB1 := hide hb1
  clear hb1 ho1 HD
  go_wp2_with fail
  refine (unhide HE _ _ ((unhide HT).below (unhide HB1)) (unhide I1)).mono ?_
  rintro e w2 ⟨rfl, hb2⟩
  have HB2 := hide (bstep (unhide HB1) hb2)
  clear hb2 HE I1
  go_wp2_with fail
  refine (unhide HO _).mono ?_
  rintro e w3 ⟨rfl, hb3⟩
  have HB3 := hide (bstep (unhide HB2) hb3)
  clear hb3 HO
  go_wp2_with fail
  refine (unhide HP _).mono ?_
  rintro e w4 ⟨rfl, hb4⟩
  have HB4 := hide (bstep (unhide HB3) hb4)
  clear hb4 HP
  go_wp2_with fail
  go_ret2
  exact ⟨rfl, unhide HB4⟩

set_option maxHeartbeats 800000 in
set_option maxRecDepth 100000 in
theorem ctErrs : CtErrs := by
  intro v xs w hI h
  by_cases h1 : 3000 < xs.length
  · obtain ⟨ao, cap, rfl, hm, -, -⟩ := hI
    have HE := hide (fun w => encode_many ao xs.length cap w h1 hm)
    rw [if_pos h1]
    clear h h1 hm
    go_enter Tryz.func32, Tryz.ntmps32
    go_wp2_with fail
    refine (unhide HE _).mono ?_
    rintro e w1 ⟨rfl, hw⟩
    replace hw := hw.symm
    subst hw
    go_wp2_with fail
    go_ret3
    exact ⟨rfl, Below.refl _ _⟩
  · have h2 : xs.all M.sclr = false := by rcases h with h | h; exact absurd h h1; exact h
    have HE := hide (encode_any w hI (by omega))
    rw [encRes_no h2] at HE
    rw [if_neg h1]
    obtain ⟨ao, cap, rfl, hm, -, -⟩ := hI
    clear h h1 h2 hm
    go_enter Tryz.func32, Tryz.ntmps32
    go_wp2_with fail
    refine (unhide HE).mono ?_
    rintro e w1 ⟨hb1, rfl⟩
    have HB1 := hide hb1
    clear hb1
    go_wp2_with fail
    go_ret3
    exact ⟨rfl, unhide HB1⟩

set_option maxHeartbeats 1600000 in
set_option maxRecDepth 100000 in
theorem ctSays : CtSays := by
  intro v xs w hI hl hs
  have HE := hide (encode_any w hI hl)
  rw [encRes_yes hs] at HE
  have HI := hide hI
  obtain ⟨ao, cap, rfl, hm, -, -⟩ := hI
  generalize strOfNums (M.enc xs) = T at *
  clear hs hm
  go_enter Tryz.func32, Tryz.ntmps32
  go_wp2_with fail
  refine (unhide HE).mono ?_
  rintro e w1 ⟨hb1, rfl⟩
  have I1 := hide ((unhide HI).below hb1)
  have HB1 := hide hb1
  clear hb1 HE HI
  go_wp2_with fail
  go_loopw [7, 8, 21] (fun kv hv' iv wr => ∃ k : Nat, k ≤ xs.length ∧ iv = .int .i64 k ∧ kv = .int .i64 (cntB (xs.take k) : Int) ∧ hv' = .int .i64 (cntF (xs.take k) : Int) ∧ wr = w1) (fun _ _ iv _ => xs.length - (intOf iv).toNat)
  case atStart => exact ⟨0, by omega, rfl, by simp [cntB], by simp [cntF], rfl⟩
  case round =>
    obtain ⟨k, hk, rfl, rfl, rfl, hwr⟩ := hrel
    replace hwr := hwr.symm
    subst hwr
    by_cases hlt : k < xs.length
    · obtain ⟨b, off, rfl, hcell⟩ := ints_at (unhide I1) (by omega)
      have hc := hcell k hlt
      have HC := hide (cnt_take hlt)
      have hb1 := cntB_le (xs.take k)
      have hb2 := cntF_le (xs.take k)
      have hb3 := List.length_take_le k xs
      have hbt := World.block_lt_of_cell? w1 _ hc
      clear hcell
      generalize xs.getD k 0 = c at *
      have hltI : (k : Int) < (xs.length : Int) := by omega
      by_cases h65 : c = 65533
      · subst h65
        rw [if_pos rfl, if_pos (by decide)] at HC
        go_wp2_with fail
        go_roundw
        case rel => exact ⟨k + 1, by omega, by go_num, by rw [(unhide HC).1]; go_num, by rw [(unhide HC).2]; go_num, by trivial⟩
        case measure => simp [intOf]; omega
      · have e65 : (c == 65533) = false := beq_eq_false_iff_ne.2 h65
        rw [if_neg h65] at HC
        by_cases h127 : 127 < c
        · rw [if_pos h127] at HC
          clear h65
          go_wp2_with fail
          go_roundw
          case rel => exact ⟨k + 1, by omega, by go_num, by rw [(unhide HC).1]; go_num, by rw [(unhide HC).2]; go_num, by trivial⟩
          case measure => simp [intOf]; omega
        · rw [if_neg h127] at HC
          clear h65
          go_wp2_with fail
          go_roundw
          case rel => exact ⟨k + 1, by omega, by go_num, by rw [(unhide HC).1]; go_num, by rw [(unhide HC).2]; go_num, by trivial⟩
          case measure => simp [intOf]; omega
    · have ek : xs.take k = xs := List.take_of_length_le (by omega)
      rw [ek]
      go_wp2_with fail
      go_ret3
      exact ⟨rfl, unhide HB1⟩
end Go.Proofs.YtaiinjfnkmidbaaGreatDoor

namespace Go.Proofs
open Go.Shelf
end Go.Proofs

namespace Go.Proofs.YtaiinjfnkmidbaaGreatDoor
open Go.RowKit
end Go.Proofs.YtaiinjfnkmidbaaGreatDoor

namespace Go.Proofs.YtaiinjfnkmidbaaGreatDoor
open Go.RowKit
set_option linter.unusedVariables false

end Go.Proofs.YtaiinjfnkmidbaaGreatDoor

namespace Go.Proofs.YtaiinjfnkmidbaaGreatDoor
open Go.RowKit
set_option linter.unusedVariables false

end Go.Proofs.YtaiinjfnkmidbaaGreatDoor

namespace Go.Proofs.YtaiinjfnkmidbaaGreatDoor
open Go.RowKit Go.Maps
set_option linter.unusedVariables false

end Go.Proofs.YtaiinjfnkmidbaaGreatDoor

namespace Go.Proofs.YtaiinjfnkmidbaaGreatDoor
open Go.RowKit
set_option linter.unusedVariables false

end Go.Proofs.YtaiinjfnkmidbaaGreatDoor

namespace Go.Proofs.YtaiinjfnkmidbaaGreatDoor
open Go.RowKit
set_option linter.unusedVariables false

/-- A front in memory. -/
structure Fb (B : Nat) (f : Fr) (w : World) : Prop where
  c0 : w.cell? ⟨B, 0, none⟩ = some (.string f.L)
  c1 : w.cell? ⟨B, 1, none⟩ = some (.int .i64 f.enc)
  c2 : w.cell? ⟨B, 2, none⟩ = some (.int .i64 f.why)
  c3 : w.cell? ⟨B, 3, none⟩ = some (.string f.W)
  c4 : w.cell? ⟨B, 4, none⟩ = some (.int .i64 f.e)
  c5 : w.cell? ⟨B, 5, none⟩ = some (.string f.r)
  c6 : w.cell? ⟨B, 6, none⟩ = some (.int .i64 f.t.1)
  c7 : w.cell? ⟨B, 7, none⟩ = some (.bool f.t.2.1)
  c8 : w.cell? ⟨B, 8, none⟩ = some (.bool f.t.2.2)
  f0 : w.frozen? ⟨B, 0, none⟩ = false
  f1 : w.frozen? ⟨B, 1, none⟩ = false
  f2 : w.frozen? ⟨B, 2, none⟩ = false
  f3 : w.frozen? ⟨B, 3, none⟩ = false
  f4 : w.frozen? ⟨B, 4, none⟩ = false
  f5 : w.frozen? ⟨B, 5, none⟩ = false
  f6 : w.frozen? ⟨B, 6, none⟩ = false
  f7 : w.frozen? ⟨B, 7, none⟩ = false
  f8 : w.frozen? ⟨B, 8, none⟩ = false
end Go.Proofs.YtaiinjfnkmidbaaGreatDoor

namespace Go.Proofs
open Go.Shelf
end Go.Proofs

namespace Go.Proofs
open Go.Shelf
end Go.Proofs

namespace Go.Proofs.YtaiinjfnkmidbaaGreatDoor
open Go.RowKit
set_option linter.unusedVariables false

end Go.Proofs.YtaiinjfnkmidbaaGreatDoor

namespace Go.Proofs.YtaiinjfnkmidbaaGreatDoor
open Go.RowKit

end Go.Proofs.YtaiinjfnkmidbaaGreatDoor

namespace Go.Proofs.YtaiinjfnkmidbaaGreatDoor
open Go.RowKit
set_option linter.unusedVariables false

end Go.Proofs.YtaiinjfnkmidbaaGreatDoor

namespace Go.Proofs.YtaiinjfnkmidbaaGreatDoor
open Go.RowKit
set_option linter.unusedVariables false

end Go.Proofs.YtaiinjfnkmidbaaGreatDoor

namespace Go.Proofs.YtaiinjfnkmidbaaGreatDoor
open Go.RowKit
set_option linter.unusedVariables false

end Go.Proofs.YtaiinjfnkmidbaaGreatDoor

namespace Go.Proofs.YtaiinjfnkmidbaaGreatDoor
open Go.RowKit
set_option linter.unusedVariables false

end Go.Proofs.YtaiinjfnkmidbaaGreatDoor

namespace Go.Proofs.YtaiinjfnkmidbaaGreatDoor
open Go.RowKit
set_option linter.unusedVariables false

end Go.Proofs.YtaiinjfnkmidbaaGreatDoor

namespace Go.Proofs.YtaiinjfnkmidbaaGreatDoor
open Go.RowKit
set_option linter.unusedVariables false

end Go.Proofs.YtaiinjfnkmidbaaGreatDoor

namespace Go.Proofs.YtaiinjfnkmidbaaGreatDoor
open Go.RowKit
set_option linter.unusedVariables false

end Go.Proofs.YtaiinjfnkmidbaaGreatDoor

namespace Go.Proofs.YtaiinjfnkmidbaaGreatDoor
open Go.RowKit
set_option linter.unusedVariables false

end Go.Proofs.YtaiinjfnkmidbaaGreatDoor

namespace Go.Proofs.YtaiinjfnkmidbaaGreatDoor
open Go.RowKit
set_option linter.unusedVariables false

end Go.Proofs.YtaiinjfnkmidbaaGreatDoor

namespace Go.Proofs.YtaiinjfnkmidbaaGreatDoor
open Go.RowKit
set_option linter.unusedVariables false

end Go.Proofs.YtaiinjfnkmidbaaGreatDoor

namespace Go.Proofs.YtaiinjfnkmidbaaGreatDoor
open Go.RowKit
set_option linter.unusedVariables false

theorem cells_two {w : World} {b : Nat} {o : Obj} {x0 x1 : Value} (h0 : w.cell? ⟨b, 0, none⟩ = some x0) (h1 : w.cell? ⟨b, 1, none⟩ = some x1) (u v : Value) :
    (((w.setCell ⟨b, 0, none⟩ u).setCell ⟨b, 1, none⟩ v).alloc o).cell? ⟨b, 0, none⟩ = some u ∧ (((w.setCell ⟨b, 0, none⟩ u).setCell ⟨b, 1, none⟩ v).alloc o).cell? ⟨b, 1, none⟩ = some v := by
  have hb : b < w.heap.size := World.block_lt_of_cell? w _ h0
  have h1' : (w.setCell ⟨b, 0, none⟩ u).cell? ⟨b, 1, none⟩ = some x1 := by rw [World.cell?_setCell_other _ _ _ _ (by simp)]; exact h1
  refine ⟨?_, ?_⟩
  · rw [World.cell?_alloc_lt _ _ _ (by simpa [World.setCell] using hb), World.cell?_setCell_other _ _ _ _ (by simp), World.cell?_setCell_same _ _ _ h0]
  · rw [World.cell?_alloc_lt _ _ _ (by simpa [World.setCell] using hb), World.cell?_setCell_same _ _ _ h1']
set_option maxHeartbeats 1600000 in
set_option maxRecDepth 100000 in
theorem Next_ok (s : ByteArray) (k : Nat) (w : World) (hk : k ≤ s.size) (hs : s.size ≤ 3000) :
    Calls Tryz.prog 95 #[.string s, .int .i64 (k : Int)] w fun e w' => e = .returned (.tuple #[.agg #[.string (strOfNums (attrI (bl s) k).1.1), .string (strOfNums (attrI (bl s) k).1.2)], .int .i64 ((attrI (bl s) k).2.1 : Int), .bool (attrI (bl s) k).2.2, .int .i64 0]) ∧ Below w.heap.size w w' := by
  have HC := hide (fun w => acheck_any s (k : Int) w (by unfold maxLen; omega))
  rw [badE_no hk hs] at HC
  have HN := hide (fun w => anext_any s k w hk hs)
  obtain ⟨x1, x2, a, q, Hv⟩ : ∃ x1 x2 a q, Hid (attrI (bl s) k = ((x1, x2), a, q)) := ⟨_, _, _, _, hide rfl⟩
  rw [unhide Hv] at HN
  simp only at HN
  go_enter Tryz.func95, Tryz.ntmps95
  go_wp2_with fail
  refine (unhide HC _).mono ?_
  rintro e w1 ⟨rfl, hw⟩
  replace hw := hw.symm
  subst hw
  go_wp2_with fail
  refine (unhide HN _).mono ?_
  rintro e w1 ⟨rfl, hb1⟩
  have hz1 := hb1.size
  simp at hz1
  have r0 : w1.cell? ⟨w.heap.size, 0, none⟩ = some (.string ⟨#[]⟩) := by rw [hb1.cell (p := ⟨w.heap.size, 0, none⟩) (by simp)]; simp
  have r1 : w1.cell? ⟨w.heap.size, 1, none⟩ = some (.string ⟨#[]⟩) := by rw [hb1.cell (p := ⟨w.heap.size, 1, none⟩) (by simp)]; simp
  have q0 : w1.frozen? ⟨w.heap.size, 0, none⟩ = false := by rw [hb1.frozen (p := ⟨w.heap.size, 0, none⟩) (by simp)]; simp
  have q1 : w1.frozen? ⟨w.heap.size, 1, none⟩ = false := by rw [hb1.frozen (p := ⟨w.heap.size, 1, none⟩) (by simp)]; simp
  have HB1 := hide (bstep (balloc _ _) hb1)
  have hzz : w.heap.size < w1.heap.size := by omega
  clear hb1 HC HN
  go_wp2_with fail
  have c0 := cells_two (o := .cells #[.string (strOfNums x1), .string (strOfNums x2)] 80) r0 r1 (.string (strOfNums x1)) (.string (strOfNums x2))
  refine bodyPost_ret (v := .tuple #[.agg #[.string (strOfNums x1), .string (strOfNums x2)], .int .i64 (a : Int), .bool q, .int .i64 0]) (by simp [results, Tryz.results95, go_sem, c0.1, c0.2]) rfl ⟨?_, ?_⟩
  · rw [unhide Hv]
  · exact (((unhide HB1).setCell (Nat.le_refl _) _).setCell (Nat.le_refl _) _).alloc (by simp [World.setCell]; omega) _
end Go.Proofs.YtaiinjfnkmidbaaGreatDoor

namespace Go.Proofs.YtaiinjfnkmidbaaGreatDoor
open Go.RowKit
set_option linter.unusedVariables false

set_option maxHeartbeats 1600000 in
set_option maxRecDepth 100000 in
theorem All_bad (s : ByteArray) (k : Int) (w : World) (hs : s.size ≤ maxLen) (hE : badE s k ≠ 0) :
    Calls Tryz.prog 47 #[.string s, .int .i64 k] w fun e w' => ∃ v, e = .returned (.tuple #[v, .int .i64 0, .int .i64 (badE s k)]) ∧ Ats w' v [] ∧ Below w.heap.size w w' := by
  have HC := hide (fun w => acheck_any s k w hs)
  obtain ⟨b, Hb⟩ : ∃ b, Hid (badE s k = b) := ⟨_, hide rfl⟩
  rw [unhide Hb] at HC hE
  have hne : (b != 0) = true := bne_iff_ne.2 hE
  clear hE
  go_enter Tryz.func47, Tryz.ntmps47
  go_wp2_with fail
  refine (unhide HC _).mono ?_
  rintro e w1 ⟨rfl, hw⟩
  replace hw := hw.symm
  subst hw
  go_wp2_with fail
  go_ret3
  exact ⟨.slice none 0 0, by rw [unhide Hb]; rfl, ⟨none, 0, rfl, by simp, .inl rfl⟩, Below.refl _ _⟩
end Go.Proofs.YtaiinjfnkmidbaaGreatDoor

namespace Go.Proofs.YtaiinjfnkmidbaaGreatDoor
open Go.RowKit
set_option linter.unusedVariables false

end Go.Proofs.YtaiinjfnkmidbaaGreatDoor

namespace Go.Proofs.YtaiinjfnkmidbaaGreatDoor
open Go.RowKit

end Go.Proofs.YtaiinjfnkmidbaaGreatDoor

namespace Go.Proofs.YtaiinjfnkmidbaaGreatDoor
open Go.RowKit
set_option linter.unusedVariables false

end Go.Proofs.YtaiinjfnkmidbaaGreatDoor

namespace Go.Proofs.YtaiinjfnkmidbaaGreatDoor
open Go.RowKit
set_option linter.unusedVariables false

end Go.Proofs.YtaiinjfnkmidbaaGreatDoor

namespace Go.Proofs.YtaiinjfnkmidbaaGreatDoor
open Go.RowKit
set_option linter.unusedVariables false

end Go.Proofs.YtaiinjfnkmidbaaGreatDoor

namespace Go.Proofs.YtaiinjfnkmidbaaGreatDoor
open Go.RowKit
set_option linter.unusedVariables false

end Go.Proofs.YtaiinjfnkmidbaaGreatDoor

namespace Go.Proofs.YtaiinjfnkmidbaaGreatDoor
open Go.RowKit
set_option linter.unusedVariables false

end Go.Proofs.YtaiinjfnkmidbaaGreatDoor

namespace Go.Proofs.YtaiinjfnkmidbaaGreatDoor
open Go.RowKit
set_option linter.unusedVariables false

end Go.Proofs.YtaiinjfnkmidbaaGreatDoor

namespace Go.Proofs.YtaiinjfnkmidbaaGreatDoor
open Go.RowKit
set_option linter.unusedVariables false

end Go.Proofs.YtaiinjfnkmidbaaGreatDoor

namespace Go.Proofs.YtaiinjfnkmidbaaGreatDoor
open Go.RowKit
set_option linter.unusedVariables false

end Go.Proofs.YtaiinjfnkmidbaaGreatDoor

namespace Go.Proofs.YtaiinjfnkmidbaaGreatDoor
open Go.RowKit
set_option linter.unusedVariables false

end Go.Proofs.YtaiinjfnkmidbaaGreatDoor

namespace Go.Proofs.YtaiinjfnkmidbaaGreatDoor
open Go.RowKit
set_option linter.unusedVariables false

end Go.Proofs.YtaiinjfnkmidbaaGreatDoor

namespace Go.Proofs.YtaiinjfnkmidbaaGreatDoor
open Go.RowKit Go.Maps
set_option linter.unusedVariables false

end Go.Proofs.YtaiinjfnkmidbaaGreatDoor

namespace Go.Proofs.YtaiinjfnkmidbaaGreatDoor
open Go.RowKit Go.Maps
set_option linter.unusedVariables false

end Go.Proofs.YtaiinjfnkmidbaaGreatDoor

namespace Go.Proofs.YtaiinjfnkmidbaaGreatDoor
open Go.RowKit
set_option linter.unusedVariables false

end Go.Proofs.YtaiinjfnkmidbaaGreatDoor

namespace Go.Proofs.YtaiinjfnkmidbaaGreatDoor
open Go.RowKit
set_option linter.unusedVariables false

end Go.Proofs.YtaiinjfnkmidbaaGreatDoor

namespace Go.Proofs.YtaiinjfnkmidbaaGreatDoor
open Go.RowKit
set_option linter.unusedVariables false

end Go.Proofs.YtaiinjfnkmidbaaGreatDoor

namespace Go.Proofs.YtaiinjfnkmidbaaGreatDoor
open Go.RowKit
set_option linter.unusedVariables false

set_option maxHeartbeats 400000 in
set_option maxRecDepth 100000 in
theorem Enc_many (n mode : Int) (ao : Option Addr) (len cap : Nat) (w : World) (hn : 1 ≤ n ∧ n ≤ 7) (hm : mode = 0 ∨ mode = 1) (hl : 3000 < len) (hx : len ≤ maxLen) : Calls Tryz.prog 44 #[.int .i64 n, .int .i64 mode, .slice ao len cap] w fun e w' => e = .returned (.tuple #[.string ⟨#[]⟩, .int .i64 2]) ∧ Below w.heap.size w w' := by
  have HN := hide (fun w => Output_yes n w hn)
  have HE := hide (fun w => encode_many ao len cap w hl hx)
  generalize M.outE n = o at *
  clear hn hl hx
  rcases hm with rfl | rfl
  all_goals
    go_enter Tryz.func44, Tryz.ntmps44
    go_wp2_with fail
    refine (unhide HN _).mono ?_
    rintro e w1 ⟨rfl, hb1⟩
    have HB1 := hide hb1
    clear hb1 HN
    go_wp2_with fail
    refine (unhide HE _).mono ?_
    rintro e w2 ⟨rfl, hw⟩
    replace hw := hw.symm
    subst hw
    go_wp2_with fail
    go_ret2
    exact ⟨rfl, unhide HB1⟩
set_option maxHeartbeats 400000 in
set_option maxRecDepth 100000 in
theorem Enc_range (n mode : Int) {v : Value} {xs : List Int} (w : World) (hn : 1 ≤ n ∧ n ≤ 7) (hm : mode = 0 ∨ mode = 1) (hI : Ints w v xs) (hl : xs.length ≤ 3000) (hs : xs.all M.sclr = false) : Calls Tryz.prog 44 #[.int .i64 n, .int .i64 mode, v] w fun e w' => e = .returned (.tuple #[.string ⟨#[]⟩, .int .i64 3]) ∧ Below w.heap.size w w' := by
  have HN := hide (fun w => Output_yes n w hn)
  have HE := hide (fun (w' : World) (hb : Below w.heap.size w w') => encode_any w' (hI.below hb) hl)
  rw [encRes_no hs] at HE
  generalize M.outE n = o at *
  obtain ⟨ao, cap, rfl, -, -, -⟩ := hI
  clear hn hs
  rcases hm with rfl | rfl
  all_goals
    go_enter Tryz.func44, Tryz.ntmps44
    go_wp2_with fail
    refine (unhide HN _).mono ?_
    rintro e w1 ⟨rfl, hb1⟩
    have HB1 := hide hb1
    clear hb1 HN
    go_wp2_with fail
    refine (unhide HE _ (unhide HB1)).mono ?_
    rintro e w2 ⟨hb2, rfl⟩
    have HB2 := hide (bstep (unhide HB1) hb2)
    clear hb2 HE
    go_wp2_with fail
    go_ret2
    exact ⟨rfl, unhide HB2⟩

end Go.Proofs.YtaiinjfnkmidbaaGreatDoor
