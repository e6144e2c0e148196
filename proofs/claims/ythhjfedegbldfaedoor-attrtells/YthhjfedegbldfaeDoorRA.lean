/- The contract of the reference's AttrAt: the attribute from a place on; nothing that was there is written. Condition: at most 3000 bytes, the place within them. -/
import Derived.Test.YthhjfedegbldfaeDoorRG
import Derived.Test.YthhjfedegbldfaeDoorMathN
import Derived.Deep.CutBlock
import Derived.Deep.DeepCutAuto
namespace Go.Proofs.YthhjfedegbldfaeDoor
open Go.RowKit
set_option linter.unusedVariables false

theorem bl_at {s : ByteArray} {k : Nat} (h : k < s.size) : (bl s).getD k 0 = (s[k].toNat : Int) := by
  rw [List.getD_eq_getElem?_getD, bl_get s k h]; rfl
theorem bl_cut (s : ByteArray) (i j : Nat) : bl (s.extract i j) = cut (bl s) i j := by
  unfold cut bl
  simp [ByteArray.data_extract, List.map_take, List.map_drop]
theorem pAhead_w {c : Int} (h : wh c = true) : pAhead c = true := by unfold pAhead; rw [h]; rfl
theorem pAhead_n {c : Int} (h : wh c = false) (h' : (c == 47) = false) : pAhead c = false := by unfold pAhead; rw [h, h']; rfl
theorem pName_n {c : Int} (h : (c == 61) = false) (h1 : (c == 47) = false) (h2 : (c == 62) = false) (h3 : wh c = false) : pName c = true := by unfold pName; rw [h, h1, h2, h3]; rfl
theorem pName_w {c : Int} (h3 : wh c = true) : pName c = false := by unfold pName; rw [h3]; simp
theorem pVal_n {c : Int} (h2 : (c == 62) = false) (h3 : wh c = false) : pVal c = true := by unfold pVal; rw [h2, h3]; rfl
theorem pVal_w {c : Int} (h3 : wh c = true) : pVal c = false := by unfold pVal; rw [h3]; simp
theorem pNot_n {q c : Int} (h : (c == q) = false) : pNot q c = true := by unfold pNot; rw [h]; rfl
theorem pNot_y (q : Int) : pNot q q = false := by simp [pNot]
theorem u8_lt (s : ByteArray) {k : Nat} (h : k < s.size) : (0 : Int) ≤ (s[k].toNat : Int) ∧ (s[k].toNat : Int) < 256 := by
  have := s[k].toNat_lt; omega
theorem ne_eq {c d : Int} (h : c ≠ d) : (c == d) = false := by simpa using h
theorem ne_ne {c d : Int} (h : c ≠ d) : (c != d) = true := by simpa using h
theorem cut_one {l : List Int} {k : Nat} (h : k < l.length) : cut l k (k + 1) = [l.getD k 0] := by rw [cut_snoc (Nat.le_refl _) h, cut_self]; rfl
theorem cut_step {s t : ByteArray} {i k : Nat} (h : bl t = cut (bl s) i k) (hik : i ≤ k) (hk : k < s.size) : bl (t ++ s.extract k (k + 1)) = cut (bl s) i (k + 1) := by
  rw [bl_app, h, bl_cut, cut_one (by rw [bl_len]; exact hk), cut_snoc hik (by rw [bl_len]; exact hk)]
theorem ext_one {s : ByteArray} {k : Nat} (h : k < s.size) : (s.extract k (k + 1)).size = 1 := by
  rw [← bl_len, bl_cut, cut_one (by rw [bl_len]; exact h)]; rfl

/-- The ways that AttrAt goes. -/
theorem attrI_1 {l : List Int} {k a0 : Nat} (h0 : run pAhead l k = a0) (h : l.length ≤ a0 ∨ l.getD a0 0 = 62) : attrI l k = (([], []), a0, false) := by
  subst h0; unfold attrI; simp only; rw [if_pos h]
theorem attrI_2 {l : List Int} {k a0 a1 a2 : Nat} (h0 : run pAhead l k = a0) (h : ¬ (l.length ≤ a0 ∨ l.getD a0 0 = 62)) (h1 : run pName l (a0 + 1) = a1) (h2 : run wh l a1 = a2) (h' : l.length ≤ a2 ∨ l.getD a2 0 ≠ 61) : attrI l k = ((fdI (cut l a0 a1), []), a2, true) := by
  subst h0; subst h1; subst h2; unfold attrI; simp only; rw [if_neg h, if_pos h']
theorem attrI_3 {l : List Int} {k a0 a1 a2 a3 a4 : Nat} (h0 : run pAhead l k = a0) (h : ¬ (l.length ≤ a0 ∨ l.getD a0 0 = 62)) (h1 : run pName l (a0 + 1) = a1) (h2 : run wh l a1 = a2) (h' : ¬ (l.length ≤ a2 ∨ l.getD a2 0 ≠ 61)) (h3 : run wh l (a2 + 1) = a3) (hq : a3 < l.length ∧ (l.getD a3 0 = 34 ∨ l.getD a3 0 = 39)) (h4 : run (pNot (l.getD a3 0)) l (a3 + 1) = a4) :
    attrI l k = if l.length ≤ a4 then (([], []), a4, false) else ((fdI (cut l a0 a1), fdI (cut l (a3 + 1) a4)), a4 + 1, true) := by
  subst h0; subst h1; subst h2; subst h3; subst h4; unfold attrI; simp only; rw [if_neg h, if_neg h', if_pos hq]
theorem attrI_4 {l : List Int} {k a0 a1 a2 a3 a4 : Nat} (h0 : run pAhead l k = a0) (h : ¬ (l.length ≤ a0 ∨ l.getD a0 0 = 62)) (h1 : run pName l (a0 + 1) = a1) (h2 : run wh l a1 = a2) (h' : ¬ (l.length ≤ a2 ∨ l.getD a2 0 ≠ 61)) (h3 : run wh l (a2 + 1) = a3) (hq : ¬ (a3 < l.length ∧ (l.getD a3 0 = 34 ∨ l.getD a3 0 = 39))) (h4 : run pVal l a3 = a4) :
    attrI l k = ((fdI (cut l a0 a1), fdI (cut l a3 a4)), a4, true) := by
  subst h0; subst h1; subst h2; subst h3; subst h4; unfold attrI; simp only; rw [if_neg h, if_neg h', if_neg hq]

set_option maxHeartbeats 12800000 in
set_option maxRecDepth 100000 in
theorem attrAt_any (s : ByteArray) (k0 : Nat) (w : World) (hk0 : k0 ≤ s.size) (hs : s.size ≤ 3000) :
    Calls Tryd.prog 13 #[.string s, .int .i64 (k0 : Int)] w fun e w' => e = .returned (.tuple #[.agg #[.string (strOfNums (attrI (bl s) k0).1.1), .string (strOfNums (attrI (bl s) k0).1.2)], .int .i64 ((attrI (bl s) k0).2.1 : Int), .bool (attrI (bl s) k0).2.2]) ∧ Below w.heap.size w w' := by
  have hl := bl_len s
  have HL := hide hl
  go_enter Tryd.func13, Tryd.ntmps13
  go_upto_block 0 with fail
  go_cut [1] (fun i wx => i = .int .i64 (run pAhead (bl s) (k0) : Int) ∧ wx = w.alloc (.cells #[.string ⟨#[]⟩, .string ⟨#[]⟩] 23))
  case first =>
    go_wp2_with fail
    go_loop [1] (fun i => ∃ k : Nat, i = .int .i64 k ∧ k ≤ s.size ∧ Hid (run pAhead (bl s) k = run pAhead (bl s) (k0))) (fun i => s.size - (intOf i).toNat)
    case atStart => exact ⟨k0, by go_num, by omega, hide rfl⟩
    case round =>
      obtain ⟨k, rfl, hk, HR⟩ := hrel
      by_cases hlt : k < s.size
      · have hcb := u8_lt s hlt
        have HG := hide (bl_at hlt)
        obtain ⟨c, hcc⟩ : ∃ c : Int, (s[k].toNat : Int) = c := ⟨_, rfl⟩
        rw [hcc] at hcb HG
        have W := isWhite_any c
        cases hw : wh c
        · rw [hw] at W
          by_cases h47 : c = 47
          · subst h47
            have HR' : Hid (run pAhead (bl s) (k + 1) = run pAhead (bl s) (k0)) := hide (by rw [← run_step (by omega) (by rw [unhide HG]; exact (by decide)), unhide HR])
            go_wp2_with fail
            refine (W _ hcb).mono ?_
            rintro e wz ⟨rfl, hwz⟩
            replace hwz := hwz.symm
            subst hwz
            go_wp2_with fail
            go_round
            case rel => exact ⟨k + 1, by go_num, by omega, HR'⟩
            case measure => simp [intOf]; omega
          · have h47e := ne_eq h47
            have h47n := ne_ne h47
            have HE : Hid (run pAhead (bl s) (k0) = k) := hide (by rw [← unhide HR, run_stop (by omega) (by rw [unhide HG]; exact pAhead_n hw h47e)])
            go_wp2_with fail
            refine (W _ hcb).mono ?_
            rintro e wz ⟨rfl, hwz⟩
            replace hwz := hwz.symm
            subst hwz
            go_wp2_with fail
            go_meet
            case rel => exact ⟨by rw [unhide HE], rfl⟩
        · rw [hw] at W
          have HR' : Hid (run pAhead (bl s) (k + 1) = run pAhead (bl s) (k0)) := hide (by rw [← run_step (by omega) (by rw [unhide HG]; exact pAhead_w hw), unhide HR])
          go_wp2_with fail
          refine (W _ hcb).mono ?_
          rintro e wz ⟨rfl, hwz⟩
          replace hwz := hwz.symm
          subst hwz
          go_wp2_with fail
          go_round
          case rel => exact ⟨k + 1, by go_num, by omega, HR'⟩
          case measure => simp [intOf]; omega
      · have HE : Hid (run pAhead (bl s) (k0) = k) := hide (by rw [← unhide HR, run_end (by omega)])
        go_wp2_with fail
        go_meet
        case rel => exact ⟨by rw [unhide HE], rfl⟩
  obtain ⟨rfl, rfl⟩ := hcut
  have ha0 := run_le pAhead (bl s) (i := k0) (by omega)
  have ga0 := run_ge pAhead (bl s) k0
  obtain ⟨a0, HA0⟩ : ∃ a0, Hid (run pAhead (bl s) k0 = a0) := ⟨_, hide rfl⟩
  rw [unhide HA0] at ha0 ga0 ⊢
  by_cases hlt0 : a0 < s.size
  · have hcb0 := u8_lt s hlt0
    have HG0 := hide (bl_at hlt0)
    obtain ⟨c0, hcc0⟩ : ∃ c : Int, (s[a0].toNat : Int) = c := ⟨_, rfl⟩
    rw [hcc0] at hcb0 HG0
    by_cases h62 : c0 = 62
    · subst h62
      have HRes := hide (attrI_1 (unhide HA0) (.inr (unhide HG0)))
      go_wp2_with fail
      refine bodyPost_ret (v := .tuple #[.agg #[.string ⟨#[]⟩, .string ⟨#[]⟩], .int .i64 (a0 : Int), .bool false]) (by simp [results, Tryd.results13, go_sem]) rfl ⟨?_, ?_⟩
      · rw [unhide HRes]; rfl
      · exact balloc _ _
    · have h62e := ne_eq h62
      have hne0 : ((a0 : Int) == (s.size : Int)) = false := by simp; omega
      have HN0 : Hid (¬ ((bl s).length ≤ a0 ∨ (bl s).getD a0 0 = 62)) := hide (by rw [unhide HG0]; omega)
      have hsl : ∀ wx, (Instr.slice 9 (.string s) (some (.int .i64 (a0 : Int))) (some (.int .i64 ((a0 : Int) + 1))) none).run Tryd.prog wx = .ok (.string (s.extract a0 (a0 + 1))) wx := fun wx => run_slice_string (P := Tryd.prog) wx 9 s .i64 .i64 (a0 : Int) ((a0 : Int) + 1) Tryd.underlying9 (by omega) (by omega) (by omega)
      have HX0 : Hid (bl (s.extract a0 (a0 + 1)) = cut (bl s) a0 (a0 + 1)) := hide (bl_cut s a0 (a0 + 1))
      go_upto_block 2 with fail
      go_cut [1, 7] (fun i nmv wx => ∃ t : ByteArray, i = .int .i64 (run pName (bl s) (a0 + 1) : Int) ∧ nmv = .string t ∧ bl t = cut (bl s) (a0) (run pName (bl s) (a0 + 1)) ∧ wx = w.alloc (.cells #[.string ⟨#[]⟩, .string ⟨#[]⟩] 23))
      case first =>
        go_wp2_with fail
        go_loopw [1, 7] (fun i nmv wr => ∃ (k : Nat) (t : ByteArray), i = .int .i64 k ∧ nmv = .string t ∧ a0 + 1 ≤ k ∧ k ≤ s.size ∧ Hid (run pName (bl s) k = run pName (bl s) (a0 + 1)) ∧ Hid (bl t = cut (bl s) (a0) k) ∧ wr = w.alloc (.cells #[.string ⟨#[]⟩, .string ⟨#[]⟩] 23)) (fun i _ _ => s.size - (intOf i).toNat)
        case atStart => exact ⟨a0 + 1, _, by go_num, rfl, by omega, by omega, hide rfl, HX0, rfl⟩
        case round =>
          obtain ⟨k, t, rfl, rfl, hlo, hk, HR, HX, rfl⟩ := hrel
          have htz : t.size ≤ 3000 := by rw [← bl_len, unhide HX, cut_len (by omega)]; omega
          by_cases hlt : k < s.size
          · have hcb := u8_lt s hlt
            have HG := hide (bl_at hlt)
            obtain ⟨c, hcc⟩ : ∃ c : Int, (s[k].toNat : Int) = c := ⟨_, rfl⟩
            rw [hcc] at hcb HG
            by_cases h61 : c = 61
            · subst h61
              have HE : Hid (run pName (bl s) (a0 + 1) = k) := hide (by rw [← unhide HR, run_stop (by omega) (by rw [unhide HG]; exact (by decide))])
              go_wp2_with fail
              go_meet
              case rel => exact ⟨t, by rw [unhide HE], rfl, by rw [unhide HE]; exact unhide HX, rfl⟩
            · have h61e := ne_eq h61
              have h61n := ne_ne h61
              by_cases h47 : c = 47
              · subst h47
                have HE : Hid (run pName (bl s) (a0 + 1) = k) := hide (by rw [← unhide HR, run_stop (by omega) (by rw [unhide HG]; exact (by decide))])
                go_wp2_with fail
                go_meet
                case rel => exact ⟨t, by rw [unhide HE], rfl, by rw [unhide HE]; exact unhide HX, rfl⟩
              · have h47e := ne_eq h47
                have h47n := ne_ne h47
                by_cases h62 : c = 62
                · subst h62
                  have HE : Hid (run pName (bl s) (a0 + 1) = k) := hide (by rw [← unhide HR, run_stop (by omega) (by rw [unhide HG]; exact (by decide))])
                  go_wp2_with fail
                  go_meet
                  case rel => exact ⟨t, by rw [unhide HE], rfl, by rw [unhide HE]; exact unhide HX, rfl⟩
                · have h62e := ne_eq h62
                  have h62n := ne_ne h62
                  have W := isWhite_any c
                  cases hw : wh c
                  · rw [hw] at W
                    have HR' : Hid (run pName (bl s) (k + 1) = run pName (bl s) (a0 + 1)) := hide (by rw [← run_step (by omega) (by rw [unhide HG]; exact pName_n h61e h47e h62e hw), unhide HR])
                    have HX' := hide (cut_step (unhide HX) (by omega) hlt)
                    have hz1 := ext_one hlt
                    have hsl : ∀ wx, (Instr.slice 9 (.string s) (some (.int .i64 (k : Int))) (some (.int .i64 ((k : Int) + 1))) none).run Tryd.prog wx = .ok (.string (s.extract k (k + 1))) wx := fun wx => run_slice_string (P := Tryd.prog) wx 9 s .i64 .i64 (k : Int) ((k : Int) + 1) Tryd.underlying9 (by omega) (by omega) (by omega)
                    go_wp2_with fail
                    refine (W _ hcb).mono ?_
                    rintro e wz ⟨rfl, hwz⟩
                    replace hwz := hwz.symm
                    subst hwz
                    go_wp2_with fail
                    go_roundw
                    case rel => exact ⟨k + 1, t ++ s.extract k (k + 1), by go_num, rfl, by omega, by omega, HR', HX', by first | rfl | trivial⟩
                    case measure => simp [intOf]; omega
                  · rw [hw] at W
                    have HE : Hid (run pName (bl s) (a0 + 1) = k) := hide (by rw [← unhide HR, run_stop (by omega) (by rw [unhide HG]; exact pName_w hw)])
                    go_wp2_with fail
                    refine (W _ hcb).mono ?_
                    rintro e wz ⟨rfl, hwz⟩
                    replace hwz := hwz.symm
                    subst hwz
                    go_wp2_with fail
                    go_meet
                    case rel => exact ⟨t, by rw [unhide HE], rfl, by rw [unhide HE]; exact unhide HX, rfl⟩
          · have HE : Hid (run pName (bl s) (a0 + 1) = k) := hide (by rw [← unhide HR, run_end (by omega)])
            go_wp2_with fail
            go_meet
            case rel => exact ⟨t, by rw [unhide HE], rfl, by rw [unhide HE]; exact unhide HX, rfl⟩
      obtain ⟨nmt, rfl, rfl, hx1, rfl⟩ := hcut
      have HX1 := hide hx1
      have ha1 := run_le pName (bl s) (i := a0 + 1) (by omega)
      have ga1 := run_ge pName (bl s) (a0 + 1)
      obtain ⟨a1, HA1⟩ : ∃ a1, Hid (run pName (bl s) (a0 + 1) = a1) := ⟨_, hide rfl⟩
      rw [unhide HA1] at ha1 ga1 HX1 ⊢
      clear hx1 hsl HX0
      go_upto_block 4 with fail
      go_cut [1] (fun i wx => i = .int .i64 (run wh (bl s) (a1) : Int) ∧ wx = w.alloc (.cells #[.string ⟨#[]⟩, .string ⟨#[]⟩] 23))
      case first =>
        go_wp2_with fail
        go_loop [1] (fun i => ∃ k : Nat, i = .int .i64 k ∧ k ≤ s.size ∧ Hid (run wh (bl s) k = run wh (bl s) (a1))) (fun i => s.size - (intOf i).toNat)
        case atStart => exact ⟨a1, by go_num, by omega, hide rfl⟩
        case round =>
          obtain ⟨k, rfl, hk, HR⟩ := hrel
          by_cases hlt : k < s.size
          · have hcb := u8_lt s hlt
            have HG := hide (bl_at hlt)
            obtain ⟨c, hcc⟩ : ∃ c : Int, (s[k].toNat : Int) = c := ⟨_, rfl⟩
            rw [hcc] at hcb HG
            have W := isWhite_any c
            cases hw : wh c
            · rw [hw] at W
              have HE : Hid (run wh (bl s) (a1) = k) := hide (by rw [← unhide HR, run_stop (by omega) (by rw [unhide HG]; exact hw)])
              go_wp2_with fail
              refine (W _ hcb).mono ?_
              rintro e wz ⟨rfl, hwz⟩
              replace hwz := hwz.symm
              subst hwz
              go_wp2_with fail
              go_meet
              case rel => exact ⟨by rw [unhide HE], rfl⟩
            · rw [hw] at W
              have HR' : Hid (run wh (bl s) (k + 1) = run wh (bl s) (a1)) := hide (by rw [← run_step (by omega) (by rw [unhide HG]; exact hw), unhide HR])
              go_wp2_with fail
              refine (W _ hcb).mono ?_
              rintro e wz ⟨rfl, hwz⟩
              replace hwz := hwz.symm
              subst hwz
              go_wp2_with fail
              go_round
              case rel => exact ⟨k + 1, by go_num, by omega, HR'⟩
              case measure => simp [intOf]; omega
          · have HE : Hid (run wh (bl s) (a1) = k) := hide (by rw [← unhide HR, run_end (by omega)])
            go_wp2_with fail
            go_meet
            case rel => exact ⟨by rw [unhide HE], rfl⟩
      obtain ⟨rfl, rfl⟩ := hcut
      have ha2 := run_le wh (bl s) (i := a1) (by omega)
      have ga2 := run_ge wh (bl s) a1
      obtain ⟨a2, HA2⟩ : ∃ a2, Hid (run wh (bl s) a1 = a2) := ⟨_, hide rfl⟩
      rw [unhide HA2] at ha2 ga2 ⊢
      have htz1 : nmt.size ≤ 3000 := by rw [← bl_len, unhide HX1, cut_len (by omega)]; omega
      by_cases hlt2 : a2 < s.size
      · have hcb2 := u8_lt s hlt2
        have HG2 := hide (bl_at hlt2)
        obtain ⟨c2, hcc2⟩ : ∃ c : Int, (s[a2].toNat : Int) = c := ⟨_, rfl⟩
        rw [hcc2] at hcb2 HG2
        have hne2 : ((a2 : Int) == (s.size : Int)) = false := by simp; omega
        by_cases h61 : c2 = 61
        · subst h61
          have HN2 : Hid (¬ ((bl s).length ≤ a2 ∨ (bl s).getD a2 0 ≠ 61)) := hide (by rw [unhide HG2]; omega)
          go_upto_block 6 with fail
          go_cut [1] (fun i wx => i = .int .i64 (run wh (bl s) (a2 + 1) : Int) ∧ wx = w.alloc (.cells #[.string ⟨#[]⟩, .string ⟨#[]⟩] 23))
          case first =>
            go_wp2_with fail
            go_loop [1] (fun i => ∃ k : Nat, i = .int .i64 k ∧ k ≤ s.size ∧ Hid (run wh (bl s) k = run wh (bl s) (a2 + 1))) (fun i => s.size - (intOf i).toNat)
            case atStart => exact ⟨a2 + 1, by go_num, by omega, hide rfl⟩
            case round =>
              obtain ⟨k, rfl, hk, HR⟩ := hrel
              by_cases hlt : k < s.size
              · have hcb := u8_lt s hlt
                have HG := hide (bl_at hlt)
                obtain ⟨c, hcc⟩ : ∃ c : Int, (s[k].toNat : Int) = c := ⟨_, rfl⟩
                rw [hcc] at hcb HG
                have W := isWhite_any c
                cases hw : wh c
                · rw [hw] at W
                  have HE : Hid (run wh (bl s) (a2 + 1) = k) := hide (by rw [← unhide HR, run_stop (by omega) (by rw [unhide HG]; exact hw)])
                  go_wp2_with fail
                  refine (W _ hcb).mono ?_
                  rintro e wz ⟨rfl, hwz⟩
                  replace hwz := hwz.symm
                  subst hwz
                  go_wp2_with fail
                  go_meet
                  case rel => exact ⟨by rw [unhide HE], rfl⟩
                · rw [hw] at W
                  have HR' : Hid (run wh (bl s) (k + 1) = run wh (bl s) (a2 + 1)) := hide (by rw [← run_step (by omega) (by rw [unhide HG]; exact hw), unhide HR])
                  go_wp2_with fail
                  refine (W _ hcb).mono ?_
                  rintro e wz ⟨rfl, hwz⟩
                  replace hwz := hwz.symm
                  subst hwz
                  go_wp2_with fail
                  go_round
                  case rel => exact ⟨k + 1, by go_num, by omega, HR'⟩
                  case measure => simp [intOf]; omega
              · have HE : Hid (run wh (bl s) (a2 + 1) = k) := hide (by rw [← unhide HR, run_end (by omega)])
                go_wp2_with fail
                go_meet
                case rel => exact ⟨by rw [unhide HE], rfl⟩
          obtain ⟨rfl, rfl⟩ := hcut
          have ha3 := run_le wh (bl s) (i := a2 + 1) (by omega)
          have ga3 := run_ge wh (bl s) (a2 + 1)
          obtain ⟨a3, HA3⟩ : ∃ a3, Hid (run wh (bl s) (a2 + 1) = a3) := ⟨_, hide rfl⟩
          rw [unhide HA3] at ha3 ga3 ⊢
          by_cases hlt3 : a3 < s.size
          · have hcb3 := u8_lt s hlt3
            have HG3 := hide (bl_at hlt3)
            obtain ⟨c3, hcc3⟩ : ∃ c : Int, (s[a3].toNat : Int) = c := ⟨_, rfl⟩
            rw [hcc3] at hcb3 HG3
            by_cases h34 : c3 = 34
            · subst h34
              have HQ3 : Hid (a3 < (bl s).length ∧ ((bl s).getD a3 0 = 34 ∨ (bl s).getD a3 0 = 39)) := hide (by rw [unhide HG3]; omega)
              have HX3 : Hid (bl ⟨#[]⟩ = cut (bl s) (a3 + 1) (a3 + 1)) := hide (by rw [cut_self]; rfl)
              go_upto_block 8 with fail
              go_cut [1, 8] (fun i nmv wx => ∃ t : ByteArray, i = .int .i64 (run (pNot 34) (bl s) (a3 + 1) : Int) ∧ nmv = .string t ∧ bl t = cut (bl s) (a3 + 1) (run (pNot 34) (bl s) (a3 + 1)) ∧ wx = w.alloc (.cells #[.string ⟨#[]⟩, .string ⟨#[]⟩] 23))
              case first =>
                go_wp2_with fail
                go_loopw [1, 8] (fun i nmv wr => ∃ (k : Nat) (t : ByteArray), i = .int .i64 k ∧ nmv = .string t ∧ a3 + 1 ≤ k ∧ k ≤ s.size ∧ Hid (run (pNot 34) (bl s) k = run (pNot 34) (bl s) (a3 + 1)) ∧ Hid (bl t = cut (bl s) (a3 + 1) k) ∧ wr = w.alloc (.cells #[.string ⟨#[]⟩, .string ⟨#[]⟩] 23)) (fun i _ _ => s.size - (intOf i).toNat)
                case atStart => exact ⟨a3 + 1, _, by go_num, rfl, by omega, by omega, hide rfl, HX3, rfl⟩
                case round =>
                  obtain ⟨k, t, rfl, rfl, hlo, hk, HR, HX, rfl⟩ := hrel
                  have htz : t.size ≤ 3000 := by rw [← bl_len, unhide HX, cut_len (by omega)]; omega
                  by_cases hlt : k < s.size
                  · have hcb := u8_lt s hlt
                    have HG := hide (bl_at hlt)
                    obtain ⟨c, hcc⟩ : ∃ c : Int, (s[k].toNat : Int) = c := ⟨_, rfl⟩
                    rw [hcc] at hcb HG
                    by_cases hq2 : c = 34
                    · subst hq2
                      have HE : Hid (run (pNot 34) (bl s) (a3 + 1) = k) := hide (by rw [← unhide HR, run_stop (by omega) (by rw [unhide HG]; exact pNot_y _)])
                      go_wp2_with fail
                      go_meet
                      case rel => exact ⟨t, by rw [unhide HE], rfl, by rw [unhide HE]; exact unhide HX, rfl⟩
                    · have hqe := ne_eq hq2
                      have hqn := ne_ne hq2
                      have HR' : Hid (run (pNot 34) (bl s) (k + 1) = run (pNot 34) (bl s) (a3 + 1)) := hide (by rw [← run_step (by omega) (by rw [unhide HG]; exact pNot_n hqe), unhide HR])
                      have HX' := hide (cut_step (unhide HX) (by omega) hlt)
                      have hz1 := ext_one hlt
                      have hsl : ∀ wx, (Instr.slice 9 (.string s) (some (.int .i64 (k : Int))) (some (.int .i64 ((k : Int) + 1))) none).run Tryd.prog wx = .ok (.string (s.extract k (k + 1))) wx := fun wx => run_slice_string (P := Tryd.prog) wx 9 s .i64 .i64 (k : Int) ((k : Int) + 1) Tryd.underlying9 (by omega) (by omega) (by omega)
                      go_wp2_with fail
                      go_roundw
                      case rel => exact ⟨k + 1, t ++ s.extract k (k + 1), by go_num, rfl, by omega, by omega, HR', HX', by first | rfl | trivial⟩
                      case measure => simp [intOf]; omega
                  · have HE : Hid (run (pNot 34) (bl s) (a3 + 1) = k) := hide (by rw [← unhide HR, run_end (by omega)])
                    go_wp2_with fail
                    go_meet
                    case rel => exact ⟨t, by rw [unhide HE], rfl, by rw [unhide HE]; exact unhide HX, rfl⟩
              obtain ⟨vlt, rfl, rfl, hx4, rfl⟩ := hcut
              have HX4 := hide hx4
              have ha4 := run_le (pNot 34) (bl s) (i := a3 + 1) (by omega)
              have ga4 := run_ge (pNot 34) (bl s) (a3 + 1)
              obtain ⟨a4, HA4⟩ : ∃ a4, Hid (run (pNot 34) (bl s) (a3 + 1) = a4) := ⟨_, hide rfl⟩
              rw [unhide HA4] at ha4 ga4 HX4 ⊢
              clear hx4
              have htz4 : vlt.size ≤ 3000 := by rw [← bl_len, unhide HX4, cut_len (by omega)]; omega
              by_cases hlt4 : a4 < s.size
              · have hne4 : ((a4 : Int) == (s.size : Int)) = false := by simp; omega
                have HRes : Hid (attrI (bl s) k0 = ((fdI (cut (bl s) a0 a1), fdI (cut (bl s) (a3 + 1) a4)), a4 + 1, true)) := hide (by rw [attrI_3 (a4 := a4) (unhide HA0) (unhide HN0) (unhide HA1) (unhide HA2) (unhide HN2) (unhide HA3) (unhide HQ3) (by rw [unhide HG3]; exact unhide HA4), if_neg (by omega)])
                have HF1 := hide (fun w => foldOf_any nmt w htz1)
                rw [unhide HX1] at HF1
                have HF2 := hide (fun w => foldOf_any vlt w htz4)
                rw [unhide HX4] at HF2
                generalize hfn : strOfNums (fdI (cut (bl s) a0 a1)) = fn at *
                generalize hfv : strOfNums (fdI (cut (bl s) (a3 + 1) a4)) = fv at *
                go_wp2_with fail
                refine (unhide HF1 _).mono ?_
                rintro e w5 ⟨rfl, hb5⟩
                have HB5 := hide hb5
                clear hb5
                go_wp2_with fail
                refine (unhide HF2 _).mono ?_
                rintro e w6 ⟨rfl, hb6⟩
                have HBX := hide (bstep (unhide HB5) hb6)
                clear hb6
                have r0 : w6.cell? ⟨w.heap.size, 0, none⟩ = some (.string ⟨#[]⟩) := by rw [(unhide HBX).cell (p := ⟨w.heap.size, 0, none⟩) (by simp)]; simp
                have r1 : w6.cell? ⟨w.heap.size, 1, none⟩ = some (.string ⟨#[]⟩) := by rw [(unhide HBX).cell (p := ⟨w.heap.size, 1, none⟩) (by simp)]; simp
                have q0 : w6.frozen? ⟨w.heap.size, 0, none⟩ = false := by rw [(unhide HBX).frozen (p := ⟨w.heap.size, 0, none⟩) (by simp)]; simp
                have q1 : w6.frozen? ⟨w.heap.size, 1, none⟩ = false := by rw [(unhide HBX).frozen (p := ⟨w.heap.size, 1, none⟩) (by simp)]; simp
                have hzz : w.heap.size < w6.heap.size := by have := (unhide HBX).size; simp at this; omega
                go_wp2_with fail
                refine bodyPost_ret (v := .tuple #[.agg #[.string fn, .string fv], .int .i64 ((a4 : Int) + 1), .bool true]) (by simp [results, Tryd.results13, go_sem, r0, r1]) rfl ⟨?_, ?_⟩
                · rw [unhide HRes]; rw [← hfn, ← hfv] <;> rfl
                · first
                  | exact ((bstep (balloc _ _) (unhide HBX)).setCell (Nat.le_refl _) _).setCell (Nat.le_refl _) _
                  | exact (bstep (balloc _ _) (unhide HBX)).setCell (Nat.le_refl _) _
              · obtain rfl : a4 = s.size := by omega
                have HRes : Hid (attrI (bl s) k0 = (([], []), s.size, false)) := hide (by rw [attrI_3 (a4 := s.size) (unhide HA0) (unhide HN0) (unhide HA1) (unhide HA2) (unhide HN2) (unhide HA3) (unhide HQ3) (by rw [unhide HG3]; exact unhide HA4), if_pos (by omega)])
                go_wp2_with fail
                refine bodyPost_ret (v := .tuple #[.agg #[.string ⟨#[]⟩, .string ⟨#[]⟩], .int .i64 (s.size : Int), .bool false]) (by simp [results, Tryd.results13, go_sem]) rfl ⟨?_, ?_⟩
                · rw [unhide HRes]; rfl
                · exact balloc _ _
            · have h34e := ne_eq h34
              by_cases h39 : c3 = 39
              · subst h39
                have HQ3 : Hid (a3 < (bl s).length ∧ ((bl s).getD a3 0 = 34 ∨ (bl s).getD a3 0 = 39)) := hide (by rw [unhide HG3]; omega)
                have HX3 : Hid (bl ⟨#[]⟩ = cut (bl s) (a3 + 1) (a3 + 1)) := hide (by rw [cut_self]; rfl)
                go_upto_block 8 with fail
                go_cut [1, 8] (fun i nmv wx => ∃ t : ByteArray, i = .int .i64 (run (pNot 39) (bl s) (a3 + 1) : Int) ∧ nmv = .string t ∧ bl t = cut (bl s) (a3 + 1) (run (pNot 39) (bl s) (a3 + 1)) ∧ wx = w.alloc (.cells #[.string ⟨#[]⟩, .string ⟨#[]⟩] 23))
                case first =>
                  go_wp2_with fail
                  go_loopw [1, 8] (fun i nmv wr => ∃ (k : Nat) (t : ByteArray), i = .int .i64 k ∧ nmv = .string t ∧ a3 + 1 ≤ k ∧ k ≤ s.size ∧ Hid (run (pNot 39) (bl s) k = run (pNot 39) (bl s) (a3 + 1)) ∧ Hid (bl t = cut (bl s) (a3 + 1) k) ∧ wr = w.alloc (.cells #[.string ⟨#[]⟩, .string ⟨#[]⟩] 23)) (fun i _ _ => s.size - (intOf i).toNat)
                  case atStart => exact ⟨a3 + 1, _, by go_num, rfl, by omega, by omega, hide rfl, HX3, rfl⟩
                  case round =>
                    obtain ⟨k, t, rfl, rfl, hlo, hk, HR, HX, rfl⟩ := hrel
                    have htz : t.size ≤ 3000 := by rw [← bl_len, unhide HX, cut_len (by omega)]; omega
                    by_cases hlt : k < s.size
                    · have hcb := u8_lt s hlt
                      have HG := hide (bl_at hlt)
                      obtain ⟨c, hcc⟩ : ∃ c : Int, (s[k].toNat : Int) = c := ⟨_, rfl⟩
                      rw [hcc] at hcb HG
                      by_cases hq2 : c = 39
                      · subst hq2
                        have HE : Hid (run (pNot 39) (bl s) (a3 + 1) = k) := hide (by rw [← unhide HR, run_stop (by omega) (by rw [unhide HG]; exact pNot_y _)])
                        go_wp2_with fail
                        go_meet
                        case rel => exact ⟨t, by rw [unhide HE], rfl, by rw [unhide HE]; exact unhide HX, rfl⟩
                      · have hqe := ne_eq hq2
                        have hqn := ne_ne hq2
                        have HR' : Hid (run (pNot 39) (bl s) (k + 1) = run (pNot 39) (bl s) (a3 + 1)) := hide (by rw [← run_step (by omega) (by rw [unhide HG]; exact pNot_n hqe), unhide HR])
                        have HX' := hide (cut_step (unhide HX) (by omega) hlt)
                        have hz1 := ext_one hlt
                        have hsl : ∀ wx, (Instr.slice 9 (.string s) (some (.int .i64 (k : Int))) (some (.int .i64 ((k : Int) + 1))) none).run Tryd.prog wx = .ok (.string (s.extract k (k + 1))) wx := fun wx => run_slice_string (P := Tryd.prog) wx 9 s .i64 .i64 (k : Int) ((k : Int) + 1) Tryd.underlying9 (by omega) (by omega) (by omega)
                        go_wp2_with fail
                        go_roundw
                        case rel => exact ⟨k + 1, t ++ s.extract k (k + 1), by go_num, rfl, by omega, by omega, HR', HX', by first | rfl | trivial⟩
                        case measure => simp [intOf]; omega
                    · have HE : Hid (run (pNot 39) (bl s) (a3 + 1) = k) := hide (by rw [← unhide HR, run_end (by omega)])
                      go_wp2_with fail
                      go_meet
                      case rel => exact ⟨t, by rw [unhide HE], rfl, by rw [unhide HE]; exact unhide HX, rfl⟩
                obtain ⟨vlt, rfl, rfl, hx4, rfl⟩ := hcut
                have HX4 := hide hx4
                have ha4 := run_le (pNot 39) (bl s) (i := a3 + 1) (by omega)
                have ga4 := run_ge (pNot 39) (bl s) (a3 + 1)
                obtain ⟨a4, HA4⟩ : ∃ a4, Hid (run (pNot 39) (bl s) (a3 + 1) = a4) := ⟨_, hide rfl⟩
                rw [unhide HA4] at ha4 ga4 HX4 ⊢
                clear hx4
                have htz4 : vlt.size ≤ 3000 := by rw [← bl_len, unhide HX4, cut_len (by omega)]; omega
                by_cases hlt4 : a4 < s.size
                · have hne4 : ((a4 : Int) == (s.size : Int)) = false := by simp; omega
                  have HRes : Hid (attrI (bl s) k0 = ((fdI (cut (bl s) a0 a1), fdI (cut (bl s) (a3 + 1) a4)), a4 + 1, true)) := hide (by rw [attrI_3 (a4 := a4) (unhide HA0) (unhide HN0) (unhide HA1) (unhide HA2) (unhide HN2) (unhide HA3) (unhide HQ3) (by rw [unhide HG3]; exact unhide HA4), if_neg (by omega)])
                  have HF1 := hide (fun w => foldOf_any nmt w htz1)
                  rw [unhide HX1] at HF1
                  have HF2 := hide (fun w => foldOf_any vlt w htz4)
                  rw [unhide HX4] at HF2
                  generalize hfn : strOfNums (fdI (cut (bl s) a0 a1)) = fn at *
                  generalize hfv : strOfNums (fdI (cut (bl s) (a3 + 1) a4)) = fv at *
                  go_wp2_with fail
                  refine (unhide HF1 _).mono ?_
                  rintro e w5 ⟨rfl, hb5⟩
                  have HB5 := hide hb5
                  clear hb5
                  go_wp2_with fail
                  refine (unhide HF2 _).mono ?_
                  rintro e w6 ⟨rfl, hb6⟩
                  have HBX := hide (bstep (unhide HB5) hb6)
                  clear hb6
                  have r0 : w6.cell? ⟨w.heap.size, 0, none⟩ = some (.string ⟨#[]⟩) := by rw [(unhide HBX).cell (p := ⟨w.heap.size, 0, none⟩) (by simp)]; simp
                  have r1 : w6.cell? ⟨w.heap.size, 1, none⟩ = some (.string ⟨#[]⟩) := by rw [(unhide HBX).cell (p := ⟨w.heap.size, 1, none⟩) (by simp)]; simp
                  have q0 : w6.frozen? ⟨w.heap.size, 0, none⟩ = false := by rw [(unhide HBX).frozen (p := ⟨w.heap.size, 0, none⟩) (by simp)]; simp
                  have q1 : w6.frozen? ⟨w.heap.size, 1, none⟩ = false := by rw [(unhide HBX).frozen (p := ⟨w.heap.size, 1, none⟩) (by simp)]; simp
                  have hzz : w.heap.size < w6.heap.size := by have := (unhide HBX).size; simp at this; omega
                  go_wp2_with fail
                  refine bodyPost_ret (v := .tuple #[.agg #[.string fn, .string fv], .int .i64 ((a4 : Int) + 1), .bool true]) (by simp [results, Tryd.results13, go_sem, r0, r1]) rfl ⟨?_, ?_⟩
                  · rw [unhide HRes]; rw [← hfn, ← hfv] <;> rfl
                  · first
                    | exact ((bstep (balloc _ _) (unhide HBX)).setCell (Nat.le_refl _) _).setCell (Nat.le_refl _) _
                    | exact (bstep (balloc _ _) (unhide HBX)).setCell (Nat.le_refl _) _
                · obtain rfl : a4 = s.size := by omega
                  have HRes : Hid (attrI (bl s) k0 = (([], []), s.size, false)) := hide (by rw [attrI_3 (a4 := s.size) (unhide HA0) (unhide HN0) (unhide HA1) (unhide HA2) (unhide HN2) (unhide HA3) (unhide HQ3) (by rw [unhide HG3]; exact unhide HA4), if_pos (by omega)])
                  go_wp2_with fail
                  refine bodyPost_ret (v := .tuple #[.agg #[.string ⟨#[]⟩, .string ⟨#[]⟩], .int .i64 (s.size : Int), .bool false]) (by simp [results, Tryd.results13, go_sem]) rfl ⟨?_, ?_⟩
                  · rw [unhide HRes]; rfl
                  · exact balloc _ _
              · have h39e := ne_eq h39
                have HQ3 : Hid (¬ (a3 < (bl s).length ∧ ((bl s).getD a3 0 = 34 ∨ (bl s).getD a3 0 = 39))) := hide (by rw [unhide HG3]; omega)
                have HX3 : Hid (bl ⟨#[]⟩ = cut (bl s) (a3) (a3)) := hide (by rw [cut_self]; rfl)
                go_upto_block 10 with fail
                go_cut [1, 8] (fun i nmv wx => ∃ t : ByteArray, i = .int .i64 (run pVal (bl s) (a3) : Int) ∧ nmv = .string t ∧ bl t = cut (bl s) (a3) (run pVal (bl s) (a3)) ∧ wx = w.alloc (.cells #[.string ⟨#[]⟩, .string ⟨#[]⟩] 23))
                case first =>
                  go_wp2_with fail
                  go_loopw [1, 8] (fun i nmv wr => ∃ (k : Nat) (t : ByteArray), i = .int .i64 k ∧ nmv = .string t ∧ a3 ≤ k ∧ k ≤ s.size ∧ Hid (run pVal (bl s) k = run pVal (bl s) (a3)) ∧ Hid (bl t = cut (bl s) (a3) k) ∧ wr = w.alloc (.cells #[.string ⟨#[]⟩, .string ⟨#[]⟩] 23)) (fun i _ _ => s.size - (intOf i).toNat)
                  case atStart => exact ⟨a3, _, by go_num, rfl, by omega, by omega, hide rfl, HX3, rfl⟩
                  case round =>
                    obtain ⟨k, t, rfl, rfl, hlo, hk, HR, HX, rfl⟩ := hrel
                    have htz : t.size ≤ 3000 := by rw [← bl_len, unhide HX, cut_len (by omega)]; omega
                    by_cases hlt : k < s.size
                    · have hcb := u8_lt s hlt
                      have HG := hide (bl_at hlt)
                      obtain ⟨c, hcc⟩ : ∃ c : Int, (s[k].toNat : Int) = c := ⟨_, rfl⟩
                      rw [hcc] at hcb HG
                      by_cases h62 : c = 62
                      · subst h62
                        have HE : Hid (run pVal (bl s) (a3) = k) := hide (by rw [← unhide HR, run_stop (by omega) (by rw [unhide HG]; exact (by decide))])
                        go_wp2_with fail
                        go_meet
                        case rel => exact ⟨t, by rw [unhide HE], rfl, by rw [unhide HE]; exact unhide HX, rfl⟩
                      · have h62e := ne_eq h62
                        have h62n := ne_ne h62
                        have W := isWhite_any c
                        cases hw : wh c
                        · rw [hw] at W
                          have HR' : Hid (run pVal (bl s) (k + 1) = run pVal (bl s) (a3)) := hide (by rw [← run_step (by omega) (by rw [unhide HG]; exact pVal_n h62e hw), unhide HR])
                          have HX' := hide (cut_step (unhide HX) (by omega) hlt)
                          have hz1 := ext_one hlt
                          have hsl : ∀ wx, (Instr.slice 9 (.string s) (some (.int .i64 (k : Int))) (some (.int .i64 ((k : Int) + 1))) none).run Tryd.prog wx = .ok (.string (s.extract k (k + 1))) wx := fun wx => run_slice_string (P := Tryd.prog) wx 9 s .i64 .i64 (k : Int) ((k : Int) + 1) Tryd.underlying9 (by omega) (by omega) (by omega)
                          go_wp2_with fail
                          refine (W _ hcb).mono ?_
                          rintro e wz ⟨rfl, hwz⟩
                          replace hwz := hwz.symm
                          subst hwz
                          go_wp2_with fail
                          go_roundw
                          case rel => exact ⟨k + 1, t ++ s.extract k (k + 1), by go_num, rfl, by omega, by omega, HR', HX', by first | rfl | trivial⟩
                          case measure => simp [intOf]; omega
                        · rw [hw] at W
                          have HE : Hid (run pVal (bl s) (a3) = k) := hide (by rw [← unhide HR, run_stop (by omega) (by rw [unhide HG]; exact pVal_w hw)])
                          go_wp2_with fail
                          refine (W _ hcb).mono ?_
                          rintro e wz ⟨rfl, hwz⟩
                          replace hwz := hwz.symm
                          subst hwz
                          go_wp2_with fail
                          go_meet
                          case rel => exact ⟨t, by rw [unhide HE], rfl, by rw [unhide HE]; exact unhide HX, rfl⟩
                    · have HE : Hid (run pVal (bl s) (a3) = k) := hide (by rw [← unhide HR, run_end (by omega)])
                      go_wp2_with fail
                      go_meet
                      case rel => exact ⟨t, by rw [unhide HE], rfl, by rw [unhide HE]; exact unhide HX, rfl⟩
                obtain ⟨vlt, rfl, rfl, hx4, rfl⟩ := hcut
                have HX4 := hide hx4
                have ha4 := run_le pVal (bl s) (i := a3) (by omega)
                have ga4 := run_ge pVal (bl s) (a3)
                obtain ⟨a4, HA4⟩ : ∃ a4, Hid (run pVal (bl s) (a3) = a4) := ⟨_, hide rfl⟩
                rw [unhide HA4] at ha4 ga4 HX4 ⊢
                clear hx4
                have htz4 : vlt.size ≤ 3000 := by rw [← bl_len, unhide HX4, cut_len (by omega)]; omega
                have HRes := hide (attrI_4 (unhide HA0) (unhide HN0) (unhide HA1) (unhide HA2) (unhide HN2) (unhide HA3) (unhide HQ3) (unhide HA4))
                have HF1 := hide (fun w => foldOf_any nmt w htz1)
                rw [unhide HX1] at HF1
                have HF2 := hide (fun w => foldOf_any vlt w htz4)
                rw [unhide HX4] at HF2
                generalize hfn : strOfNums (fdI (cut (bl s) a0 a1)) = fn at *
                generalize hfv : strOfNums (fdI (cut (bl s) (a3) a4)) = fv at *
                go_wp2_with fail
                refine (unhide HF1 _).mono ?_
                rintro e w5 ⟨rfl, hb5⟩
                have HB5 := hide hb5
                clear hb5
                go_wp2_with fail
                refine (unhide HF2 _).mono ?_
                rintro e w6 ⟨rfl, hb6⟩
                have HBX := hide (bstep (unhide HB5) hb6)
                clear hb6
                have r0 : w6.cell? ⟨w.heap.size, 0, none⟩ = some (.string ⟨#[]⟩) := by rw [(unhide HBX).cell (p := ⟨w.heap.size, 0, none⟩) (by simp)]; simp
                have r1 : w6.cell? ⟨w.heap.size, 1, none⟩ = some (.string ⟨#[]⟩) := by rw [(unhide HBX).cell (p := ⟨w.heap.size, 1, none⟩) (by simp)]; simp
                have q0 : w6.frozen? ⟨w.heap.size, 0, none⟩ = false := by rw [(unhide HBX).frozen (p := ⟨w.heap.size, 0, none⟩) (by simp)]; simp
                have q1 : w6.frozen? ⟨w.heap.size, 1, none⟩ = false := by rw [(unhide HBX).frozen (p := ⟨w.heap.size, 1, none⟩) (by simp)]; simp
                have hzz : w.heap.size < w6.heap.size := by have := (unhide HBX).size; simp at this; omega
                go_wp2_with fail
                refine bodyPost_ret (v := .tuple #[.agg #[.string fn, .string fv], .int .i64 (a4 : Int), .bool true]) (by simp [results, Tryd.results13, go_sem, r0, r1]) rfl ⟨?_, ?_⟩
                · rw [unhide HRes]; rw [← hfn, ← hfv] <;> rfl
                · first
                  | exact ((bstep (balloc _ _) (unhide HBX)).setCell (Nat.le_refl _) _).setCell (Nat.le_refl _) _
                  | exact (bstep (balloc _ _) (unhide HBX)).setCell (Nat.le_refl _) _
          · obtain rfl : a3 = s.size := by omega
            have HQ3 : Hid (¬ (s.size < (bl s).length ∧ ((bl s).getD s.size 0 = 34 ∨ (bl s).getD s.size 0 = 39))) := hide (by omega)
            have HX3 : Hid (bl ⟨#[]⟩ = cut (bl s) (s.size) (s.size)) := hide (by rw [cut_self]; rfl)
            go_upto_block 10 with fail
            go_cut [1, 8] (fun i nmv wx => ∃ t : ByteArray, i = .int .i64 (run pVal (bl s) (s.size) : Int) ∧ nmv = .string t ∧ bl t = cut (bl s) (s.size) (run pVal (bl s) (s.size)) ∧ wx = w.alloc (.cells #[.string ⟨#[]⟩, .string ⟨#[]⟩] 23))
            case first =>
              go_wp2_with fail
              go_loopw [1, 8] (fun i nmv wr => ∃ (k : Nat) (t : ByteArray), i = .int .i64 k ∧ nmv = .string t ∧ s.size ≤ k ∧ k ≤ s.size ∧ Hid (run pVal (bl s) k = run pVal (bl s) (s.size)) ∧ Hid (bl t = cut (bl s) (s.size) k) ∧ wr = w.alloc (.cells #[.string ⟨#[]⟩, .string ⟨#[]⟩] 23)) (fun i _ _ => s.size - (intOf i).toNat)
              case atStart => exact ⟨s.size, _, by go_num, rfl, by omega, by omega, hide rfl, HX3, rfl⟩
              case round =>
                obtain ⟨k, t, rfl, rfl, hlo, hk, HR, HX, rfl⟩ := hrel
                have htz : t.size ≤ 3000 := by rw [← bl_len, unhide HX, cut_len (by omega)]; omega
                by_cases hlt : k < s.size
                · have hcb := u8_lt s hlt
                  have HG := hide (bl_at hlt)
                  obtain ⟨c, hcc⟩ : ∃ c : Int, (s[k].toNat : Int) = c := ⟨_, rfl⟩
                  rw [hcc] at hcb HG
                  exfalso; omega
                · have HE : Hid (run pVal (bl s) (s.size) = k) := hide (by rw [← unhide HR, run_end (by omega)])
                  go_wp2_with fail
                  go_meet
                  case rel => exact ⟨t, by rw [unhide HE], rfl, by rw [unhide HE]; exact unhide HX, rfl⟩
            obtain ⟨vlt, rfl, rfl, hx4, rfl⟩ := hcut
            have HX4 := hide hx4
            have ha4 := run_le pVal (bl s) (i := s.size) (by omega)
            have ga4 := run_ge pVal (bl s) (s.size)
            obtain ⟨a4, HA4⟩ : ∃ a4, Hid (run pVal (bl s) (s.size) = a4) := ⟨_, hide rfl⟩
            rw [unhide HA4] at ha4 ga4 HX4 ⊢
            clear hx4
            have htz4 : vlt.size ≤ 3000 := by rw [← bl_len, unhide HX4, cut_len (by omega)]; omega
            have HRes := hide (attrI_4 (unhide HA0) (unhide HN0) (unhide HA1) (unhide HA2) (unhide HN2) (unhide HA3) (unhide HQ3) (unhide HA4))
            have HF1 := hide (fun w => foldOf_any nmt w htz1)
            rw [unhide HX1] at HF1
            have HF2 := hide (fun w => foldOf_any vlt w htz4)
            rw [unhide HX4] at HF2
            generalize hfn : strOfNums (fdI (cut (bl s) a0 a1)) = fn at *
            generalize hfv : strOfNums (fdI (cut (bl s) (s.size) a4)) = fv at *
            go_wp2_with fail
            refine (unhide HF1 _).mono ?_
            rintro e w5 ⟨rfl, hb5⟩
            have HB5 := hide hb5
            clear hb5
            go_wp2_with fail
            refine (unhide HF2 _).mono ?_
            rintro e w6 ⟨rfl, hb6⟩
            have HBX := hide (bstep (unhide HB5) hb6)
            clear hb6
            have r0 : w6.cell? ⟨w.heap.size, 0, none⟩ = some (.string ⟨#[]⟩) := by rw [(unhide HBX).cell (p := ⟨w.heap.size, 0, none⟩) (by simp)]; simp
            have r1 : w6.cell? ⟨w.heap.size, 1, none⟩ = some (.string ⟨#[]⟩) := by rw [(unhide HBX).cell (p := ⟨w.heap.size, 1, none⟩) (by simp)]; simp
            have q0 : w6.frozen? ⟨w.heap.size, 0, none⟩ = false := by rw [(unhide HBX).frozen (p := ⟨w.heap.size, 0, none⟩) (by simp)]; simp
            have q1 : w6.frozen? ⟨w.heap.size, 1, none⟩ = false := by rw [(unhide HBX).frozen (p := ⟨w.heap.size, 1, none⟩) (by simp)]; simp
            have hzz : w.heap.size < w6.heap.size := by have := (unhide HBX).size; simp at this; omega
            go_wp2_with fail
            refine bodyPost_ret (v := .tuple #[.agg #[.string fn, .string fv], .int .i64 (a4 : Int), .bool true]) (by simp [results, Tryd.results13, go_sem, r0, r1]) rfl ⟨?_, ?_⟩
            · rw [unhide HRes]; rw [← hfn, ← hfv] <;> rfl
            · first
              | exact ((bstep (balloc _ _) (unhide HBX)).setCell (Nat.le_refl _) _).setCell (Nat.le_refl _) _
              | exact (bstep (balloc _ _) (unhide HBX)).setCell (Nat.le_refl _) _
        · have h61n := ne_ne h61
          have HRes := hide (attrI_2 (unhide HA0) (unhide HN0) (unhide HA1) (unhide HA2) (.inr (by rw [unhide HG2]; exact h61)))
          have HF := hide (fun w => foldOf_any nmt w htz1)
          rw [unhide HX1] at HF
          generalize hfn : strOfNums (fdI (cut (bl s) a0 a1)) = fn at *
          go_wp2_with fail
          refine (unhide HF _).mono ?_
          rintro e w5 ⟨rfl, hb5⟩
          have HBX := hide hb5
          clear hb5
          have r0 : w5.cell? ⟨w.heap.size, 0, none⟩ = some (.string ⟨#[]⟩) := by rw [(unhide HBX).cell (p := ⟨w.heap.size, 0, none⟩) (by simp)]; simp
          have r1 : w5.cell? ⟨w.heap.size, 1, none⟩ = some (.string ⟨#[]⟩) := by rw [(unhide HBX).cell (p := ⟨w.heap.size, 1, none⟩) (by simp)]; simp
          have q0 : w5.frozen? ⟨w.heap.size, 0, none⟩ = false := by rw [(unhide HBX).frozen (p := ⟨w.heap.size, 0, none⟩) (by simp)]; simp
          have q1 : w5.frozen? ⟨w.heap.size, 1, none⟩ = false := by rw [(unhide HBX).frozen (p := ⟨w.heap.size, 1, none⟩) (by simp)]; simp
          have hzz : w.heap.size < w5.heap.size := by have := (unhide HBX).size; simp at this; omega
          go_wp2_with fail
          refine bodyPost_ret (v := .tuple #[.agg #[.string fn, .string ⟨#[]⟩], .int .i64 (a2 : Int), .bool true]) (by simp [results, Tryd.results13, go_sem, r0, r1]) rfl ⟨?_, ?_⟩
          · rw [unhide HRes]; rw [← hfn]; rfl
          · first
            | exact ((bstep (balloc _ _) (unhide HBX)).setCell (Nat.le_refl _) _).setCell (Nat.le_refl _) _
            | exact (bstep (balloc _ _) (unhide HBX)).setCell (Nat.le_refl _) _
      · obtain rfl : a2 = s.size := by omega
        have HRes := hide (attrI_2 (unhide HA0) (unhide HN0) (unhide HA1) (unhide HA2) (.inl (by omega)))
        have HF := hide (fun w => foldOf_any nmt w htz1)
        rw [unhide HX1] at HF
        generalize hfn : strOfNums (fdI (cut (bl s) a0 a1)) = fn at *
        go_wp2_with fail
        refine (unhide HF _).mono ?_
        rintro e w5 ⟨rfl, hb5⟩
        have HBX := hide hb5
        clear hb5
        have r0 : w5.cell? ⟨w.heap.size, 0, none⟩ = some (.string ⟨#[]⟩) := by rw [(unhide HBX).cell (p := ⟨w.heap.size, 0, none⟩) (by simp)]; simp
        have r1 : w5.cell? ⟨w.heap.size, 1, none⟩ = some (.string ⟨#[]⟩) := by rw [(unhide HBX).cell (p := ⟨w.heap.size, 1, none⟩) (by simp)]; simp
        have q0 : w5.frozen? ⟨w.heap.size, 0, none⟩ = false := by rw [(unhide HBX).frozen (p := ⟨w.heap.size, 0, none⟩) (by simp)]; simp
        have q1 : w5.frozen? ⟨w.heap.size, 1, none⟩ = false := by rw [(unhide HBX).frozen (p := ⟨w.heap.size, 1, none⟩) (by simp)]; simp
        have hzz : w.heap.size < w5.heap.size := by have := (unhide HBX).size; simp at this; omega
        go_wp2_with fail
        refine bodyPost_ret (v := .tuple #[.agg #[.string fn, .string ⟨#[]⟩], .int .i64 (s.size : Int), .bool true]) (by simp [results, Tryd.results13, go_sem, r0, r1]) rfl ⟨?_, ?_⟩
        · rw [unhide HRes]; rw [← hfn]; rfl
        · first
          | exact ((bstep (balloc _ _) (unhide HBX)).setCell (Nat.le_refl _) _).setCell (Nat.le_refl _) _
          | exact (bstep (balloc _ _) (unhide HBX)).setCell (Nat.le_refl _) _
  · obtain rfl : a0 = s.size := by omega
    have HRes := hide (attrI_1 (unhide HA0) (.inl (by omega)))
    go_wp2_with fail
    refine bodyPost_ret (v := .tuple #[.agg #[.string ⟨#[]⟩, .string ⟨#[]⟩], .int .i64 (s.size : Int), .bool false]) (by simp [results, Tryd.results13, go_sem]) rfl ⟨?_, ?_⟩
    · rw [unhide HRes]; rfl
    · exact balloc _ _
end Go.Proofs.YthhjfedegbldfaeDoor
