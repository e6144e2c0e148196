/- Proved: for every list of integers l and every text s the law KanaBack returns true and leaves both as they were. No condition. -/
import Derived.Test.YthhjfedegbldfacKF
import Derived.OpenShut
import Derived.ShutString
import Derived.ChangeOld
namespace Go.Proofs.Ythhjfedegbldfac.kanaBack
open Go.ChangeShapes Go.WideShapes Go.ChangeAt Go.RowKit
open Go.ChangeMaps (open_string shut_string)
open Go.Proofs.Ythhjfedegbldfac
set_option linter.unusedVariables false

theorem own : ownKnob Try.prog.godebug = none := by kernel_rfl
theorem laidOut : laidOutB Try.prog = true := by kernel_rfl

theorem row_wf {k : IntKind} {w : World} {a : Option Addr} {len cap : Nat} {zs : List Int} (h : IsRow k w a len cap zs) : ∀ n ∈ zs.take len, (Lit.int k n).wf = true := by
  intro n hn
  rcases h with ⟨_, _, _, rfl⟩ | ⟨x, _, _, _, _, _, h⟩
  · simp at hn
  · exact h n (List.mem_of_mem_take hn)
theorem gi_of {n : Int} (h : (Lit.int .i64 n).wf = true) : Gi n := by
  simp only [Lit.wf, IntKind.min, IntKind.max, IntKind.signed, IntKind.bits, Bool.and_eq_true, decide_eq_true_eq, if_true] at h
  unfold Gi; omega
theorem kpc_byt {now n : Int} (h : M.anyK n = true) : ∀ x ∈ M.kpc now n, 0 ≤ x ∧ x ≤ 255 := by
  obtain ⟨c, hc, e, _⟩ := M.kby_spec (M.want_has (now := now) h)
  intro x hx
  unfold M.kpc at hx
  rw [List.mem_append] at hx
  rcases hx with hx | hx
  · split at hx
    · cases hx
    · exact esc_byt _ x hx
  · simp at hx; omega
theorem kbody_byt : ∀ (l : List Int) (now : Int), l.all M.anyK = true → ∀ x ∈ M.kbody now l, 0 ≤ x ∧ x ≤ 255
  | [], now, _, x, hx => by cases hx
  | n :: l, now, h, x, hx => by
    rw [List.all_cons, Bool.and_eq_true] at h
    have hx' : x ∈ M.kpc now n ++ M.kbody (M.want now n) l := hx
    rw [List.mem_append] at hx'
    rcases hx' with hx | hx
    · exact kpc_byt h.1 x hx
    · exact kbody_byt l _ h.2 x hx
theorem kenc_byt (l : List Int) (h : l.all M.anyK = true) : ∀ x ∈ M.kenc l, 0 ≤ x ∧ x ≤ 255 := by
  intro x hx
  unfold M.kenc at hx
  rw [List.mem_append] at hx
  rcases hx with hx | hx
  · exact kbody_byt l 0 h x hx
  · unfold M.ktail at hx
    split at hx
    · cases hx
    · exact esc_byt 0 x hx
theorem pln_no {c : Int} (h0 : 0 ≤ c) (h : M.pln c = false) : 128 ≤ c ∨ c = 14 ∨ c = 15 ∨ c = 27 := by
  simp only [M.pln, decide_eq_false_iff_not] at h
  omega
theorem pln_yes {c : Int} (h : M.pln c = true) : 0 ≤ c ∧ c < 128 ∧ c ≠ 14 ∧ c ≠ 15 ∧ c ≠ 27 := by
  simp only [M.pln, decide_eq_true_eq] at h
  exact h
theorem all_step (s : ByteArray) (k : Nat) (h : k < s.size) {c : Int} (hc : (s[k].toNat : Int) = c) : ((bl s).take (k + 1)).all M.pln = (((bl s).take k).all M.pln && M.pln c) := by
  rw [List.take_succ_eq_append_getElem (by rw [bl_len]; exact h), List.all_append]
  congr 1
  have : (bl s)[k]'(by rw [bl_len]; exact h) = c := by
    have := bl_get s k h
    rw [List.getElem?_eq_getElem (by rw [bl_len]; exact h)] at this
    rw [← hc]; exact Option.some.inj this
  rw [this]; simp

set_option maxHeartbeats 1000000 in
set_option maxRecDepth 100000 in
theorem many_long (v : Value) (ys : List Int) (s : ByteArray) (w : World) (hx : Ints w v ys) (hl : 3000 < ys.length) (hs : 3000 < s.size) (hsm : s.size ≤ maxLen) :
    Calls Try.prog 4 #[v, .string s] w fun e w' => e = .returned (.bool true) ∧ Below w.heap.size w w' := by
  unfold maxLen at hsm
  obtain ⟨ao, cap, rfl, hm, -, -⟩ := hx
  go_enter Try.func4, Try.ntmps4
  go_wp2_with fail
  refine (begunK_any _).mono ?_
  rintro e w1 ⟨rfl, hb1⟩
  have HB1 := hide hb1
  go_wp2_with fail
  refine (kencode_long ao _ cap _ hl hm).mono ?_
  rintro e w2 ⟨rfl, hw⟩
  replace hw := hw.symm
  subst hw
  clear hb1
  go_wp2_with fail
  go_loop [11, 12] (fun p i => p = .bool false ∧ ∃ k : Nat, k ≤ s.size ∧ i = .int .i64 k) (fun _ i => s.size - (intOf i).toNat)
  case atStart => exact ⟨by simp; omega, 0, by omega, rfl⟩
  case round =>
    obtain ⟨rfl, k, hk, rfl⟩ := hrel
    by_cases hks : k < s.size
    · go_wp2_with fail
      go_round
      case rel => exact ⟨by first | rfl | trivial, k + 1, by omega, by go_num⟩
      case measure => simp [intOf]; omega
    · go_wp2_with fail
      go_ret
      exact ⟨rfl, unhide HB1⟩

set_option maxHeartbeats 1000000 in
set_option maxRecDepth 100000 in
theorem many_short (v : Value) (ys : List Int) (s : ByteArray) (w : World) (hx : Ints w v ys) (hl : 3000 < ys.length) (hs : s.size ≤ 3000) :
    Calls Try.prog 4 #[v, .string s] w fun e w' => e = .returned (.bool true) ∧ Below w.heap.size w w' := by
  obtain ⟨ao, cap, rfl, hm, -, -⟩ := hx
  go_enter Try.func4, Try.ntmps4
  go_wp2_with fail
  refine (begunK_any _).mono ?_
  rintro e w1 ⟨rfl, hb1⟩
  have HB1 := hide hb1
  go_wp2_with fail
  refine (kencode_long ao _ cap _ hl hm).mono ?_
  rintro e w2 ⟨rfl, hw⟩
  replace hw := hw.symm
  subst hw
  clear hb1
  go_wp2_with fail
  go_loop [11, 12] (fun p i => ∃ (k : Nat) (q : Bool), k ≤ s.size ∧ i = .int .i64 k ∧ p = .bool q ∧ Hid (q = ((bl s).take k).all M.pln)) (fun _ i => s.size - (intOf i).toNat)
  case atStart => exact ⟨0, true, by omega, rfl, by simp; omega, hide (by simp)⟩
  case round =>
    obtain ⟨k, q, hk, rfl, rfl, HQ⟩ := hrel
    by_cases hks : k < s.size
    · obtain ⟨c, hc⟩ : ∃ c : Int, (s[k].toNat : Int) = c := ⟨_, rfl⟩
      have hc0 : 0 ≤ c := by omega
      have hc1 : c < 256 := by have := s[k].toNat_lt; omega
      have HST := hide (all_step s k hks hc)
      rw [← unhide HQ] at HST
      cases q
      · go_wp2_with fail
        go_round
        case rel => exact ⟨k + 1, _, by omega, by go_num, rfl, hide (by rw [unhide HST]; simp)⟩
        case measure => simp [intOf]; omega
      · cases hp : M.pln c
        · rcases pln_no hc0 hp with h | h | h | h
          · have HP := hide hp
            clear hp
            go_wp2_with fail
            go_round
            case rel => exact ⟨k + 1, _, by omega, by go_num, rfl, hide (by rw [unhide HST]; rw [unhide HP]; rfl)⟩
            case measure => simp [intOf]; omega
          · have HP := hide hp
            clear hp
            go_wp2_with fail
            go_round
            case rel => exact ⟨k + 1, _, by omega, by go_num, rfl, hide (by rw [unhide HST]; rw [unhide HP]; rfl)⟩
            case measure => simp [intOf]; omega
          · have HP := hide hp
            clear hp
            go_wp2_with fail
            go_round
            case rel => exact ⟨k + 1, _, by omega, by go_num, rfl, hide (by rw [unhide HST]; rw [unhide HP]; rfl)⟩
            case measure => simp [intOf]; omega
          · have HP := hide hp
            clear hp
            go_wp2_with fail
            go_round
            case rel => exact ⟨k + 1, _, by omega, by go_num, rfl, hide (by rw [unhide HST]; rw [unhide HP]; rfl)⟩
            case measure => simp [intOf]; omega
        · obtain ⟨p0, p1, p2, p3, p4⟩ := pln_yes hp
          have e1 : (c == 14) = false := by simpa using p2
          have e2 : (c == 15) = false := by simpa using p3
          have e3 : (c == 27) = false := by simpa using p4
          have n1 : (c != 14) = true := by simpa using p2
          have n2 : (c != 15) = true := by simpa using p3
          have n3 : (c != 27) = true := by simpa using p4
          have HP := hide hp
          clear hp
          go_wp2_with fail
          go_round
          case rel => exact ⟨k + 1, _, by omega, by go_num, rfl, hide (by rw [unhide HST]; rw [unhide HP]; rfl)⟩
          case measure => simp [intOf]; omega
    · have et : (bl s).take k = bl s := List.take_of_length_le (by rw [bl_len]; omega)
      rw [et] at HQ
      cases q
      · go_wp2_with fail
        go_ret
        exact ⟨rfl, unhide HB1⟩
      · have hall := (unhide HQ).symm
        have HD := hide (M.pln_kdec (bl s) hall)
        have HE : Hid (encodedK (bl s) = .tuple #[.string s, .int .i64 0]) := hide (by rw [encodedK_yes (M.pln_any (bl s) hall), M.pln_kenc (bl s) hall, str_bl])
        have HG : Hid (∀ n ∈ bl s, Gi n) := hide (fun n hn => by have := bl_byt s n hn; unfold Gi; omega)
        clear hall et HQ
        go_wp2_with fail
        refine (kdecode_any s _ hs).mono ?_
        rintro e x1 ⟨u1, rfl, hJ1, hd1⟩
        rw [unhide HD] at hJ1
        obtain ⟨bo, bc, hsj, -⟩ := id hJ1
        rw [bl_len] at hsj
        subst hsj
        have HJ1 := hide hJ1
        have HX1 := hide (bstep (unhide HB1) hd1)
        clear hJ1 hd1
        go_wp2_with fail
        refine (kencode_any _ (bl s) _ (unhide HJ1) (by rw [bl_len]; exact hs) (unhide HG)).mono ?_
        rintro e x2 ⟨rfl, hd2⟩
        rw [unhide HE]
        have HJ2 := hide ((unhide HJ1).below hd2)
        have HX2 := hide (bstep (unhide HX1) hd2)
        clear hd2 HJ1 HX1
        go_wp2_with fail
        go_loopw [16] (fun i wr => ∃ k : Nat, k ≤ s.size ∧ i = .int .i64 k ∧ Hid (Below x2.heap.size x2 wr)) (fun i _ => s.size - (intOf i).toNat)
        case atStart => exact ⟨0, by omega, rfl, hide (Below.refl _ _)⟩
        case round =>
          obtain ⟨k, hk, rfl, HR⟩ := hrel
          by_cases hks : k < s.size
          · obtain ⟨_, _, hsk, -, -, hcc⟩ := (unhide HJ2).below (unhide HR)
            obtain ⟨b, off, hbo, hcc⟩ : ∃ b off, bo = some ⟨b, off, none⟩ ∧ wr.cell? ⟨b, off + k, none⟩ = some (.int .i64 (s[k].toNat : Int)) := by
              rw [bl_len] at hsk hcc
              injection hsk with e1 e2 e3
              rcases hcc with h | ⟨b, off, h1, h2⟩
              · exact absurd (congrArg List.length h) (fun e => by rw [bl_len, List.length_nil] at e; omega)
              · refine ⟨b, off, by rw [e1, h1], ?_⟩
                have := h2 k hks
                rw [show (bl s).getD k 0 = (s[k].toNat : Int) from by simp [List.getD_eq_getElem?_getD, bl_get s k hks]] at this
                exact this
            subst hbo
            have hbl : b < wr.heap.size := World.block_lt_of_cell? wr _ hcc
            have hk0 : (0 : Int) ≤ (k : Int) := by omega
            have hby : (s[k].toNat : Int) < 256 := by have := s[k].toNat_lt; omega
            have hk1 : (k : Int) < (s.size : Int) := by omega
            clear hsk
            go_wp2_with fail
            go_quiet (fail)
            go_wp2_with fail
            go_roundw
            case rel => exact ⟨k + 1, by omega, by go_num, hide (below_drewN (unhide HR) _)⟩
            case measure => simp [intOf]; omega
          · have HZ := hide (bstep (unhide HX2) (unhide HR))
            go_wp2_with fail
            go_ret
            exact ⟨rfl, unhide HZ⟩

set_option maxHeartbeats 1000000 in
set_option maxRecDepth 100000 in
theorem no_long (v : Value) (ys : List Int) (s : ByteArray) (w : World) (hx : Ints w v ys) (hl : ys.length ≤ 3000) (hg : ∀ n ∈ ys, Gi n) (hq : ys.all M.anyK = false) (hs : 3000 < s.size) (hsm : s.size ≤ maxLen) :
    Calls Try.prog 4 #[v, .string s] w fun e w' => e = .returned (.bool true) ∧ Below w.heap.size w w' := by
  unfold maxLen at hsm
  have HE := hide (encodedK_no hq)
  have HX := hide hx
  obtain ⟨ao, cap, rfl, hm, -, -⟩ := hx
  clear hq
  go_enter Try.func4, Try.ntmps4
  go_wp2_with fail
  refine (begunK_any _).mono ?_
  rintro e w1 ⟨rfl, hb1⟩
  have HB1 := hide hb1
  go_wp2_with fail
  refine (kencode_any _ ys _ ((unhide HX).below hb1) hl hg).mono ?_
  rintro e w2 ⟨rfl, hb2⟩
  rw [unhide HE]
  have HB2 := hide (bstep (unhide HB1) hb2)
  clear hb1 hb2
  go_wp2_with fail
  go_loop [11, 12] (fun p i => p = .bool false ∧ ∃ k : Nat, k ≤ s.size ∧ i = .int .i64 k) (fun _ i => s.size - (intOf i).toNat)
  case atStart => exact ⟨by simp; omega, 0, by omega, rfl⟩
  case round =>
    obtain ⟨rfl, k, hk, rfl⟩ := hrel
    by_cases hks : k < s.size
    · go_wp2_with fail
      go_round
      case rel => exact ⟨by first | rfl | trivial, k + 1, by omega, by go_num⟩
      case measure => simp [intOf]; omega
    · go_wp2_with fail
      go_ret
      exact ⟨rfl, unhide HB2⟩

set_option maxHeartbeats 1000000 in
set_option maxRecDepth 100000 in
theorem no_short (v : Value) (ys : List Int) (s : ByteArray) (w : World) (hx : Ints w v ys) (hl : ys.length ≤ 3000) (hg : ∀ n ∈ ys, Gi n) (hq : ys.all M.anyK = false) (hs : s.size ≤ 3000) :
    Calls Try.prog 4 #[v, .string s] w fun e w' => e = .returned (.bool true) ∧ Below w.heap.size w w' := by
  have HE := hide (encodedK_no hq)
  have HX := hide hx
  obtain ⟨ao, cap, rfl, hm, -, -⟩ := hx
  clear hq
  go_enter Try.func4, Try.ntmps4
  go_wp2_with fail
  refine (begunK_any _).mono ?_
  rintro e w1 ⟨rfl, hb1⟩
  have HB1 := hide hb1
  go_wp2_with fail
  refine (kencode_any _ ys _ ((unhide HX).below hb1) hl hg).mono ?_
  rintro e w2 ⟨rfl, hb2⟩
  rw [unhide HE]
  have HB2 := hide (bstep (unhide HB1) hb2)
  clear hb1 hb2
  go_wp2_with fail
  go_loop [11, 12] (fun p i => ∃ (k : Nat) (q : Bool), k ≤ s.size ∧ i = .int .i64 k ∧ p = .bool q ∧ Hid (q = ((bl s).take k).all M.pln)) (fun _ i => s.size - (intOf i).toNat)
  case atStart => exact ⟨0, true, by omega, rfl, by simp; omega, hide (by simp)⟩
  case round =>
    obtain ⟨k, q, hk, rfl, rfl, HQ⟩ := hrel
    by_cases hks : k < s.size
    · obtain ⟨c, hc⟩ : ∃ c : Int, (s[k].toNat : Int) = c := ⟨_, rfl⟩
      have hc0 : 0 ≤ c := by omega
      have hc1 : c < 256 := by have := s[k].toNat_lt; omega
      have HST := hide (all_step s k hks hc)
      rw [← unhide HQ] at HST
      cases q
      · go_wp2_with fail
        go_round
        case rel => exact ⟨k + 1, _, by omega, by go_num, rfl, hide (by rw [unhide HST]; simp)⟩
        case measure => simp [intOf]; omega
      · cases hp : M.pln c
        · rcases pln_no hc0 hp with h | h | h | h
          · have HP := hide hp
            clear hp
            go_wp2_with fail
            go_round
            case rel => exact ⟨k + 1, _, by omega, by go_num, rfl, hide (by rw [unhide HST]; rw [unhide HP]; rfl)⟩
            case measure => simp [intOf]; omega
          · have HP := hide hp
            clear hp
            go_wp2_with fail
            go_round
            case rel => exact ⟨k + 1, _, by omega, by go_num, rfl, hide (by rw [unhide HST]; rw [unhide HP]; rfl)⟩
            case measure => simp [intOf]; omega
          · have HP := hide hp
            clear hp
            go_wp2_with fail
            go_round
            case rel => exact ⟨k + 1, _, by omega, by go_num, rfl, hide (by rw [unhide HST]; rw [unhide HP]; rfl)⟩
            case measure => simp [intOf]; omega
          · have HP := hide hp
            clear hp
            go_wp2_with fail
            go_round
            case rel => exact ⟨k + 1, _, by omega, by go_num, rfl, hide (by rw [unhide HST]; rw [unhide HP]; rfl)⟩
            case measure => simp [intOf]; omega
        · obtain ⟨p0, p1, p2, p3, p4⟩ := pln_yes hp
          have e1 : (c == 14) = false := by simpa using p2
          have e2 : (c == 15) = false := by simpa using p3
          have e3 : (c == 27) = false := by simpa using p4
          have n1 : (c != 14) = true := by simpa using p2
          have n2 : (c != 15) = true := by simpa using p3
          have n3 : (c != 27) = true := by simpa using p4
          have HP := hide hp
          clear hp
          go_wp2_with fail
          go_round
          case rel => exact ⟨k + 1, _, by omega, by go_num, rfl, hide (by rw [unhide HST]; rw [unhide HP]; rfl)⟩
          case measure => simp [intOf]; omega
    · have et : (bl s).take k = bl s := List.take_of_length_le (by rw [bl_len]; omega)
      rw [et] at HQ
      cases q
      · go_wp2_with fail
        go_ret
        exact ⟨rfl, unhide HB2⟩
      · have hall := (unhide HQ).symm
        have HD := hide (M.pln_kdec (bl s) hall)
        have HE : Hid (encodedK (bl s) = .tuple #[.string s, .int .i64 0]) := hide (by rw [encodedK_yes (M.pln_any (bl s) hall), M.pln_kenc (bl s) hall, str_bl])
        have HG : Hid (∀ n ∈ bl s, Gi n) := hide (fun n hn => by have := bl_byt s n hn; unfold Gi; omega)
        clear hall et HQ
        go_wp2_with fail
        refine (kdecode_any s _ hs).mono ?_
        rintro e x1 ⟨u1, rfl, hJ1, hd1⟩
        rw [unhide HD] at hJ1
        obtain ⟨bo, bc, hsj, -⟩ := id hJ1
        rw [bl_len] at hsj
        subst hsj
        have HJ1 := hide hJ1
        have HX1 := hide (bstep (unhide HB2) hd1)
        clear hJ1 hd1
        go_wp2_with fail
        refine (kencode_any _ (bl s) _ (unhide HJ1) (by rw [bl_len]; exact hs) (unhide HG)).mono ?_
        rintro e x2 ⟨rfl, hd2⟩
        rw [unhide HE]
        have HJ2 := hide ((unhide HJ1).below hd2)
        have HX2 := hide (bstep (unhide HX1) hd2)
        clear hd2 HJ1 HX1
        go_wp2_with fail
        go_loopw [16] (fun i wr => ∃ k : Nat, k ≤ s.size ∧ i = .int .i64 k ∧ Hid (Below x2.heap.size x2 wr)) (fun i _ => s.size - (intOf i).toNat)
        case atStart => exact ⟨0, by omega, rfl, hide (Below.refl _ _)⟩
        case round =>
          obtain ⟨k, hk, rfl, HR⟩ := hrel
          by_cases hks : k < s.size
          · obtain ⟨_, _, hsk, -, -, hcc⟩ := (unhide HJ2).below (unhide HR)
            obtain ⟨b, off, hbo, hcc⟩ : ∃ b off, bo = some ⟨b, off, none⟩ ∧ wr.cell? ⟨b, off + k, none⟩ = some (.int .i64 (s[k].toNat : Int)) := by
              rw [bl_len] at hsk hcc
              injection hsk with e1 e2 e3
              rcases hcc with h | ⟨b, off, h1, h2⟩
              · exact absurd (congrArg List.length h) (fun e => by rw [bl_len, List.length_nil] at e; omega)
              · refine ⟨b, off, by rw [e1, h1], ?_⟩
                have := h2 k hks
                rw [show (bl s).getD k 0 = (s[k].toNat : Int) from by simp [List.getD_eq_getElem?_getD, bl_get s k hks]] at this
                exact this
            subst hbo
            have hbl : b < wr.heap.size := World.block_lt_of_cell? wr _ hcc
            have hk0 : (0 : Int) ≤ (k : Int) := by omega
            have hby : (s[k].toNat : Int) < 256 := by have := s[k].toNat_lt; omega
            have hk1 : (k : Int) < (s.size : Int) := by omega
            clear hsk
            go_wp2_with fail
            go_quiet (fail)
            go_wp2_with fail
            go_roundw
            case rel => exact ⟨k + 1, by omega, by go_num, hide (below_drewN (unhide HR) _)⟩
            case measure => simp [intOf]; omega
          · have HZ := hide (bstep (unhide HX2) (unhide HR))
            go_wp2_with fail
            go_ret
            exact ⟨rfl, unhide HZ⟩

set_option maxHeartbeats 1000000 in
set_option maxRecDepth 100000 in
theorem okl_long (v : Value) (ys : List Int) (s : ByteArray) (w : World) (hx : Ints w v ys) (hl : ys.length ≤ 3000) (hg : ∀ n ∈ ys, Gi n) (hq : ys.all M.anyK = true) (ht : 3000 ≤ (strOfNums (M.kenc ys)).size) (hs : 3000 < s.size) (hsm : s.size ≤ maxLen) :
    Calls Try.prog 4 #[v, .string s] w fun e w' => e = .returned (.bool true) ∧ Below w.heap.size w w' := by
  unfold maxLen at hsm
  have HE := hide (encodedK_yes hq)
  have htm : (strOfNums (M.kenc ys)).size ≤ 20000 := by rw [← bl_len, bl_str _ (kenc_byt ys hq)]; have := M.kenc_len ys; omega
  generalize strOfNums (M.kenc ys) = t at *
  have HX := hide hx
  obtain ⟨ao, cap, rfl, hm, -, -⟩ := hx
  clear hq
  go_enter Try.func4, Try.ntmps4
  go_wp2_with fail
  refine (begunK_any _).mono ?_
  rintro e w1 ⟨rfl, hb1⟩
  have HB1 := hide hb1
  go_wp2_with fail
  refine (kencode_any _ ys _ ((unhide HX).below hb1) hl hg).mono ?_
  rintro e w2 ⟨rfl, hb2⟩
  rw [unhide HE]
  have HB2 := hide (bstep (unhide HB1) hb2)
  clear hb1 hb2
  go_wp2_with fail
  go_loop [11, 12] (fun p i => p = .bool false ∧ ∃ k : Nat, k ≤ s.size ∧ i = .int .i64 k) (fun _ i => s.size - (intOf i).toNat)
  case atStart => exact ⟨by simp; omega, 0, by omega, rfl⟩
  case round =>
    obtain ⟨rfl, k, hk, rfl⟩ := hrel
    by_cases hks : k < s.size
    · go_wp2_with fail
      go_round
      case rel => exact ⟨by first | rfl | trivial, k + 1, by omega, by go_num⟩
      case measure => simp [intOf]; omega
    · go_wp2_with fail
      go_ret
      exact ⟨rfl, unhide HB2⟩

set_option maxHeartbeats 1000000 in
set_option maxRecDepth 100000 in
theorem okl_short (v : Value) (ys : List Int) (s : ByteArray) (w : World) (hx : Ints w v ys) (hl : ys.length ≤ 3000) (hg : ∀ n ∈ ys, Gi n) (hq : ys.all M.anyK = true) (ht : 3000 ≤ (strOfNums (M.kenc ys)).size) (hs : s.size ≤ 3000) :
    Calls Try.prog 4 #[v, .string s] w fun e w' => e = .returned (.bool true) ∧ Below w.heap.size w w' := by
  have HE := hide (encodedK_yes hq)
  have htm : (strOfNums (M.kenc ys)).size ≤ 20000 := by rw [← bl_len, bl_str _ (kenc_byt ys hq)]; have := M.kenc_len ys; omega
  generalize strOfNums (M.kenc ys) = t at *
  have HX := hide hx
  obtain ⟨ao, cap, rfl, hm, -, -⟩ := hx
  clear hq
  go_enter Try.func4, Try.ntmps4
  go_wp2_with fail
  refine (begunK_any _).mono ?_
  rintro e w1 ⟨rfl, hb1⟩
  have HB1 := hide hb1
  go_wp2_with fail
  refine (kencode_any _ ys _ ((unhide HX).below hb1) hl hg).mono ?_
  rintro e w2 ⟨rfl, hb2⟩
  rw [unhide HE]
  have HB2 := hide (bstep (unhide HB1) hb2)
  clear hb1 hb2
  go_wp2_with fail
  go_loop [11, 12] (fun p i => ∃ (k : Nat) (q : Bool), k ≤ s.size ∧ i = .int .i64 k ∧ p = .bool q ∧ Hid (q = ((bl s).take k).all M.pln)) (fun _ i => s.size - (intOf i).toNat)
  case atStart => exact ⟨0, true, by omega, rfl, by simp; omega, hide (by simp)⟩
  case round =>
    obtain ⟨k, q, hk, rfl, rfl, HQ⟩ := hrel
    by_cases hks : k < s.size
    · obtain ⟨c, hc⟩ : ∃ c : Int, (s[k].toNat : Int) = c := ⟨_, rfl⟩
      have hc0 : 0 ≤ c := by omega
      have hc1 : c < 256 := by have := s[k].toNat_lt; omega
      have HST := hide (all_step s k hks hc)
      rw [← unhide HQ] at HST
      cases q
      · go_wp2_with fail
        go_round
        case rel => exact ⟨k + 1, _, by omega, by go_num, rfl, hide (by rw [unhide HST]; simp)⟩
        case measure => simp [intOf]; omega
      · cases hp : M.pln c
        · rcases pln_no hc0 hp with h | h | h | h
          · have HP := hide hp
            clear hp
            go_wp2_with fail
            go_round
            case rel => exact ⟨k + 1, _, by omega, by go_num, rfl, hide (by rw [unhide HST]; rw [unhide HP]; rfl)⟩
            case measure => simp [intOf]; omega
          · have HP := hide hp
            clear hp
            go_wp2_with fail
            go_round
            case rel => exact ⟨k + 1, _, by omega, by go_num, rfl, hide (by rw [unhide HST]; rw [unhide HP]; rfl)⟩
            case measure => simp [intOf]; omega
          · have HP := hide hp
            clear hp
            go_wp2_with fail
            go_round
            case rel => exact ⟨k + 1, _, by omega, by go_num, rfl, hide (by rw [unhide HST]; rw [unhide HP]; rfl)⟩
            case measure => simp [intOf]; omega
          · have HP := hide hp
            clear hp
            go_wp2_with fail
            go_round
            case rel => exact ⟨k + 1, _, by omega, by go_num, rfl, hide (by rw [unhide HST]; rw [unhide HP]; rfl)⟩
            case measure => simp [intOf]; omega
        · obtain ⟨p0, p1, p2, p3, p4⟩ := pln_yes hp
          have e1 : (c == 14) = false := by simpa using p2
          have e2 : (c == 15) = false := by simpa using p3
          have e3 : (c == 27) = false := by simpa using p4
          have n1 : (c != 14) = true := by simpa using p2
          have n2 : (c != 15) = true := by simpa using p3
          have n3 : (c != 27) = true := by simpa using p4
          have HP := hide hp
          clear hp
          go_wp2_with fail
          go_round
          case rel => exact ⟨k + 1, _, by omega, by go_num, rfl, hide (by rw [unhide HST]; rw [unhide HP]; rfl)⟩
          case measure => simp [intOf]; omega
    · have et : (bl s).take k = bl s := List.take_of_length_le (by rw [bl_len]; omega)
      rw [et] at HQ
      cases q
      · go_wp2_with fail
        go_ret
        exact ⟨rfl, unhide HB2⟩
      · have hall := (unhide HQ).symm
        have HD := hide (M.pln_kdec (bl s) hall)
        have HE : Hid (encodedK (bl s) = .tuple #[.string s, .int .i64 0]) := hide (by rw [encodedK_yes (M.pln_any (bl s) hall), M.pln_kenc (bl s) hall, str_bl])
        have HG : Hid (∀ n ∈ bl s, Gi n) := hide (fun n hn => by have := bl_byt s n hn; unfold Gi; omega)
        clear hall et HQ
        go_wp2_with fail
        refine (kdecode_any s _ hs).mono ?_
        rintro e x1 ⟨u1, rfl, hJ1, hd1⟩
        rw [unhide HD] at hJ1
        obtain ⟨bo, bc, hsj, -⟩ := id hJ1
        rw [bl_len] at hsj
        subst hsj
        have HJ1 := hide hJ1
        have HX1 := hide (bstep (unhide HB2) hd1)
        clear hJ1 hd1
        go_wp2_with fail
        refine (kencode_any _ (bl s) _ (unhide HJ1) (by rw [bl_len]; exact hs) (unhide HG)).mono ?_
        rintro e x2 ⟨rfl, hd2⟩
        rw [unhide HE]
        have HJ2 := hide ((unhide HJ1).below hd2)
        have HX2 := hide (bstep (unhide HX1) hd2)
        clear hd2 HJ1 HX1
        go_wp2_with fail
        go_loopw [16] (fun i wr => ∃ k : Nat, k ≤ s.size ∧ i = .int .i64 k ∧ Hid (Below x2.heap.size x2 wr)) (fun i _ => s.size - (intOf i).toNat)
        case atStart => exact ⟨0, by omega, rfl, hide (Below.refl _ _)⟩
        case round =>
          obtain ⟨k, hk, rfl, HR⟩ := hrel
          by_cases hks : k < s.size
          · obtain ⟨_, _, hsk, -, -, hcc⟩ := (unhide HJ2).below (unhide HR)
            obtain ⟨b, off, hbo, hcc⟩ : ∃ b off, bo = some ⟨b, off, none⟩ ∧ wr.cell? ⟨b, off + k, none⟩ = some (.int .i64 (s[k].toNat : Int)) := by
              rw [bl_len] at hsk hcc
              injection hsk with e1 e2 e3
              rcases hcc with h | ⟨b, off, h1, h2⟩
              · exact absurd (congrArg List.length h) (fun e => by rw [bl_len, List.length_nil] at e; omega)
              · refine ⟨b, off, by rw [e1, h1], ?_⟩
                have := h2 k hks
                rw [show (bl s).getD k 0 = (s[k].toNat : Int) from by simp [List.getD_eq_getElem?_getD, bl_get s k hks]] at this
                exact this
            subst hbo
            have hbl : b < wr.heap.size := World.block_lt_of_cell? wr _ hcc
            have hk0 : (0 : Int) ≤ (k : Int) := by omega
            have hby : (s[k].toNat : Int) < 256 := by have := s[k].toNat_lt; omega
            have hk1 : (k : Int) < (s.size : Int) := by omega
            clear hsk
            go_wp2_with fail
            go_quiet (fail)
            go_wp2_with fail
            go_roundw
            case rel => exact ⟨k + 1, by omega, by go_num, hide (below_drewN (unhide HR) _)⟩
            case measure => simp [intOf]; omega
          · have HZ := hide (bstep (unhide HX2) (unhide HR))
            go_wp2_with fail
            go_ret
            exact ⟨rfl, unhide HZ⟩

set_option maxHeartbeats 1500000 in
set_option maxRecDepth 100000 in
theorem oks_long (v : Value) (ys : List Int) (s : ByteArray) (w : World) (hx : Ints w v ys) (hl : ys.length ≤ 3000) (hg : ∀ n ∈ ys, Gi n) (hq : ys.all M.anyK = true) (ht : (strOfNums (M.kenc ys)).size < 3000) (hs : 3000 < s.size) (hsm : s.size ≤ maxLen) :
    Calls Try.prog 4 #[v, .string s] w fun e w' => e = .returned (.bool true) ∧ Below w.heap.size w w' := by
  unfold maxLen at hsm
  have HE := hide (encodedK_yes hq)
  have hbt := bl_str _ (kenc_byt ys hq)
  have HD1 : Hid (M.kdec (bl (strOfNums (M.kenc ys))) = ys) := hide (by rw [hbt]; exact M.kdec_enc ys hq)
  have HD2 : Hid (M.kdec (bl (strOfNums (M.kenc ys) ++ ⟨#[92]⟩)) = ys ++ [92]) := hide (by rw [bl_app, hbt, show bl ⟨#[92]⟩ = [92] from rfl]; exact M.kdec_enc_more ys hq)
  have HX := hide hx
  obtain ⟨ao, cap, rfl, hm, -, -⟩ := hx
  clear hq hbt
  generalize strOfNums (M.kenc ys) = t at *
  go_enter Try.func4, Try.ntmps4
  go_wp2_with fail
  refine (begunK_any _).mono ?_
  rintro e w1 ⟨rfl, hb1⟩
  have HB1 := hide hb1
  go_wp2_with fail
  refine (kencode_any _ ys _ ((unhide HX).below hb1) hl hg).mono ?_
  rintro e w2 ⟨rfl, hb2⟩
  rw [unhide HE]
  have HX2 := hide ((unhide HX).below (bstep hb1 hb2))
  have HB2 := hide (bstep (unhide HB1) hb2)
  clear hb1 hb2 HX HB1
  go_wp2_with fail
  refine (kdecode_any t _ (by omega)).mono ?_
  rintro e w3 ⟨v3, rfl, hI3, hb3⟩
  rw [unhide HD1] at hI3
  obtain ⟨ao3, cap3, hsh3, -⟩ := id hI3
  subst hsh3
  have HI3 := hide hI3
  have HX3 := hide ((unhide HX2).below hb3)
  have HB3 := hide (bstep (unhide HB2) hb3)
  clear hI3 hb3 HX2 HB2
  go_wp2_with fail
  refine (kdecode_any _ _ ?hz).mono ?_
  case hz => rw [← bl_len, bl_app, List.length_append, bl_len]; show t.size + 1 ≤ 3000; omega
  rintro e w4 ⟨v4, rfl, hI4, hb4⟩
  rw [unhide HD2] at hI4
  obtain ⟨ao4, cap4, hsh4, -⟩ := id hI4
  have hsh4' : v4 = .slice ao4 (ys.length + 1) cap4 := by simpa using hsh4
  subst hsh4'
  clear hsh4
  have HI4 := hide hI4
  have HX4 := hide ((unhide HX3).below hb4)
  have HI3' := hide ((unhide HI3).below hb4)
  have HB4 := hide (bstep (unhide HB3) hb4)
  clear hI4 hb4 HX3 HI3 HB3
  go_wp2_with fail
  refine (same_any _ (unhide HI3') (unhide HX4)).mono ?_
  rintro e w5 ⟨rfl, hb5⟩
  rw [show (ys == ys) = true from by simp]
  have HX5 := hide ((unhide HX4).below hb5)
  have HI5 := hide ((unhide HI4).below hb5)
  have HB5 := hide (bstep (unhide HB4) hb5)
  clear hb5 HX4 HI4 HB4 HI3'
  have o6 := World.ownsRow_made (base := w5.heap.size) (e := 3) (size := 1) w5 #[] 0 (Nat.le_refl _) (by simp) rfl
  go_wp2_with (at_builtin; refine append_ints rfl (.tmp 56) (.tmp 57) rfl w5.heap.size _ [] rfl o6 _ ys rfl ((unhide HX5).below (balloc _ _)) (by simp; omega) (by simp) ?_)
  intro v7 w7 ho7 hb7
  obtain ⟨ao7, cap7, hsh7⟩ := owns_shape ho7
  subst hsh7
  have HB7 : Hid (Below w5.heap.size w5 w7) := hide ((balloc _ _).trans hb7)
  have hz7 := (unhide HB7).size
  clear o6 hb7
  go_wp2_with (at_builtin; refine append_ints rfl (.tmp 58) (.tmp 59) rfl w5.heap.size _ ys rfl (owns_a ho7 _) _ [92] rfl (one_int _ _) (by simp; omega) (by simp; omega) ?_)
  intro v8 w8 ho8 hb8
  obtain ⟨ao8, cap8, hsh8⟩ := owns_shape ho8
  subst hsh8
  have HB8 : Hid (Below w5.heap.size w5 w8) := hide (((unhide HB7).alloc hz7 _).trans hb8)
  have I8 := hide (Ints.of_owns (xs := ys ++ [92]) (by simpa using ho8))
  have I5 := hide ((unhide HI5).below (unhide HB8))
  clear ho7 ho8 hb8 HB7 HI5
  go_wp2_with fail
  refine (same_any _ (unhide I5) (unhide I8)).mono ?_
  rintro e w9 ⟨rfl, hb9⟩
  rw [show (ys ++ [92] == ys ++ [92]) = true from by simp]
  have HB9 := hide (bstep (bstep (unhide HB5) (unhide HB8)) hb9)
  clear hb9 HB8 I8 I5 HX5 HB5
  go_wp2_with fail
  go_loop [11, 12] (fun p i => p = .bool false ∧ ∃ k : Nat, k ≤ s.size ∧ i = .int .i64 k) (fun _ i => s.size - (intOf i).toNat)
  case atStart => exact ⟨by simp; omega, 0, by omega, rfl⟩
  case round =>
    obtain ⟨rfl, k, hk, rfl⟩ := hrel
    by_cases hks : k < s.size
    · go_wp2_with fail
      go_round
      case rel => exact ⟨by first | rfl | trivial, k + 1, by omega, by go_num⟩
      case measure => simp [intOf]; omega
    · go_wp2_with fail
      go_ret
      exact ⟨rfl, unhide HB9⟩

set_option maxHeartbeats 1500000 in
set_option maxRecDepth 100000 in
theorem oks_short (v : Value) (ys : List Int) (s : ByteArray) (w : World) (hx : Ints w v ys) (hl : ys.length ≤ 3000) (hg : ∀ n ∈ ys, Gi n) (hq : ys.all M.anyK = true) (ht : (strOfNums (M.kenc ys)).size < 3000) (hs : s.size ≤ 3000) :
    Calls Try.prog 4 #[v, .string s] w fun e w' => e = .returned (.bool true) ∧ Below w.heap.size w w' := by
  have HE := hide (encodedK_yes hq)
  have hbt := bl_str _ (kenc_byt ys hq)
  have HD1 : Hid (M.kdec (bl (strOfNums (M.kenc ys))) = ys) := hide (by rw [hbt]; exact M.kdec_enc ys hq)
  have HD2 : Hid (M.kdec (bl (strOfNums (M.kenc ys) ++ ⟨#[92]⟩)) = ys ++ [92]) := hide (by rw [bl_app, hbt, show bl ⟨#[92]⟩ = [92] from rfl]; exact M.kdec_enc_more ys hq)
  have HX := hide hx
  obtain ⟨ao, cap, rfl, hm, -, -⟩ := hx
  clear hq hbt
  generalize strOfNums (M.kenc ys) = t at *
  go_enter Try.func4, Try.ntmps4
  go_wp2_with fail
  refine (begunK_any _).mono ?_
  rintro e w1 ⟨rfl, hb1⟩
  have HB1 := hide hb1
  go_wp2_with fail
  refine (kencode_any _ ys _ ((unhide HX).below hb1) hl hg).mono ?_
  rintro e w2 ⟨rfl, hb2⟩
  rw [unhide HE]
  have HX2 := hide ((unhide HX).below (bstep hb1 hb2))
  have HB2 := hide (bstep (unhide HB1) hb2)
  clear hb1 hb2 HX HB1
  go_wp2_with fail
  refine (kdecode_any t _ (by omega)).mono ?_
  rintro e w3 ⟨v3, rfl, hI3, hb3⟩
  rw [unhide HD1] at hI3
  obtain ⟨ao3, cap3, hsh3, -⟩ := id hI3
  subst hsh3
  have HI3 := hide hI3
  have HX3 := hide ((unhide HX2).below hb3)
  have HB3 := hide (bstep (unhide HB2) hb3)
  clear hI3 hb3 HX2 HB2
  go_wp2_with fail
  refine (kdecode_any _ _ ?hz).mono ?_
  case hz => rw [← bl_len, bl_app, List.length_append, bl_len]; show t.size + 1 ≤ 3000; omega
  rintro e w4 ⟨v4, rfl, hI4, hb4⟩
  rw [unhide HD2] at hI4
  obtain ⟨ao4, cap4, hsh4, -⟩ := id hI4
  have hsh4' : v4 = .slice ao4 (ys.length + 1) cap4 := by simpa using hsh4
  subst hsh4'
  clear hsh4
  have HI4 := hide hI4
  have HX4 := hide ((unhide HX3).below hb4)
  have HI3' := hide ((unhide HI3).below hb4)
  have HB4 := hide (bstep (unhide HB3) hb4)
  clear hI4 hb4 HX3 HI3 HB3
  go_wp2_with fail
  refine (same_any _ (unhide HI3') (unhide HX4)).mono ?_
  rintro e w5 ⟨rfl, hb5⟩
  rw [show (ys == ys) = true from by simp]
  have HX5 := hide ((unhide HX4).below hb5)
  have HI5 := hide ((unhide HI4).below hb5)
  have HB5 := hide (bstep (unhide HB4) hb5)
  clear hb5 HX4 HI4 HB4 HI3'
  have o6 := World.ownsRow_made (base := w5.heap.size) (e := 3) (size := 1) w5 #[] 0 (Nat.le_refl _) (by simp) rfl
  go_wp2_with (at_builtin; refine append_ints rfl (.tmp 56) (.tmp 57) rfl w5.heap.size _ [] rfl o6 _ ys rfl ((unhide HX5).below (balloc _ _)) (by simp; omega) (by simp) ?_)
  intro v7 w7 ho7 hb7
  obtain ⟨ao7, cap7, hsh7⟩ := owns_shape ho7
  subst hsh7
  have HB7 : Hid (Below w5.heap.size w5 w7) := hide ((balloc _ _).trans hb7)
  have hz7 := (unhide HB7).size
  clear o6 hb7
  go_wp2_with (at_builtin; refine append_ints rfl (.tmp 58) (.tmp 59) rfl w5.heap.size _ ys rfl (owns_a ho7 _) _ [92] rfl (one_int _ _) (by simp; omega) (by simp; omega) ?_)
  intro v8 w8 ho8 hb8
  obtain ⟨ao8, cap8, hsh8⟩ := owns_shape ho8
  subst hsh8
  have HB8 : Hid (Below w5.heap.size w5 w8) := hide (((unhide HB7).alloc hz7 _).trans hb8)
  have I8 := hide (Ints.of_owns (xs := ys ++ [92]) (by simpa using ho8))
  have I5 := hide ((unhide HI5).below (unhide HB8))
  clear ho7 ho8 hb8 HB7 HI5
  go_wp2_with fail
  refine (same_any _ (unhide I5) (unhide I8)).mono ?_
  rintro e w9 ⟨rfl, hb9⟩
  rw [show (ys ++ [92] == ys ++ [92]) = true from by simp]
  have HB9 := hide (bstep (bstep (unhide HB5) (unhide HB8)) hb9)
  clear hb9 HB8 I8 I5 HX5 HB5
  go_wp2_with fail
  go_loop [11, 12] (fun p i => ∃ (k : Nat) (q : Bool), k ≤ s.size ∧ i = .int .i64 k ∧ p = .bool q ∧ Hid (q = ((bl s).take k).all M.pln)) (fun _ i => s.size - (intOf i).toNat)
  case atStart => exact ⟨0, true, by omega, rfl, by simp; omega, hide (by simp)⟩
  case round =>
    obtain ⟨k, q, hk, rfl, rfl, HQ⟩ := hrel
    by_cases hks : k < s.size
    · obtain ⟨c, hc⟩ : ∃ c : Int, (s[k].toNat : Int) = c := ⟨_, rfl⟩
      have hc0 : 0 ≤ c := by omega
      have hc1 : c < 256 := by have := s[k].toNat_lt; omega
      have HST := hide (all_step s k hks hc)
      rw [← unhide HQ] at HST
      cases q
      · go_wp2_with fail
        go_round
        case rel => exact ⟨k + 1, _, by omega, by go_num, rfl, hide (by rw [unhide HST]; simp)⟩
        case measure => simp [intOf]; omega
      · cases hp : M.pln c
        · rcases pln_no hc0 hp with h | h | h | h
          · have HP := hide hp
            clear hp
            go_wp2_with fail
            go_round
            case rel => exact ⟨k + 1, _, by omega, by go_num, rfl, hide (by rw [unhide HST]; rw [unhide HP]; rfl)⟩
            case measure => simp [intOf]; omega
          · have HP := hide hp
            clear hp
            go_wp2_with fail
            go_round
            case rel => exact ⟨k + 1, _, by omega, by go_num, rfl, hide (by rw [unhide HST]; rw [unhide HP]; rfl)⟩
            case measure => simp [intOf]; omega
          · have HP := hide hp
            clear hp
            go_wp2_with fail
            go_round
            case rel => exact ⟨k + 1, _, by omega, by go_num, rfl, hide (by rw [unhide HST]; rw [unhide HP]; rfl)⟩
            case measure => simp [intOf]; omega
          · have HP := hide hp
            clear hp
            go_wp2_with fail
            go_round
            case rel => exact ⟨k + 1, _, by omega, by go_num, rfl, hide (by rw [unhide HST]; rw [unhide HP]; rfl)⟩
            case measure => simp [intOf]; omega
        · obtain ⟨p0, p1, p2, p3, p4⟩ := pln_yes hp
          have e1 : (c == 14) = false := by simpa using p2
          have e2 : (c == 15) = false := by simpa using p3
          have e3 : (c == 27) = false := by simpa using p4
          have n1 : (c != 14) = true := by simpa using p2
          have n2 : (c != 15) = true := by simpa using p3
          have n3 : (c != 27) = true := by simpa using p4
          have HP := hide hp
          clear hp
          go_wp2_with fail
          go_round
          case rel => exact ⟨k + 1, _, by omega, by go_num, rfl, hide (by rw [unhide HST]; rw [unhide HP]; rfl)⟩
          case measure => simp [intOf]; omega
    · have et : (bl s).take k = bl s := List.take_of_length_le (by rw [bl_len]; omega)
      rw [et] at HQ
      cases q
      · go_wp2_with fail
        go_ret
        exact ⟨rfl, unhide HB9⟩
      · have hall := (unhide HQ).symm
        have HD := hide (M.pln_kdec (bl s) hall)
        have HE : Hid (encodedK (bl s) = .tuple #[.string s, .int .i64 0]) := hide (by rw [encodedK_yes (M.pln_any (bl s) hall), M.pln_kenc (bl s) hall, str_bl])
        have HG : Hid (∀ n ∈ bl s, Gi n) := hide (fun n hn => by have := bl_byt s n hn; unfold Gi; omega)
        clear hall et HQ
        go_wp2_with fail
        refine (kdecode_any s _ hs).mono ?_
        rintro e x1 ⟨u1, rfl, hJ1, hd1⟩
        rw [unhide HD] at hJ1
        obtain ⟨bo, bc, hsj, -⟩ := id hJ1
        rw [bl_len] at hsj
        subst hsj
        have HJ1 := hide hJ1
        have HX1 := hide (bstep (unhide HB9) hd1)
        clear hJ1 hd1
        go_wp2_with fail
        refine (kencode_any _ (bl s) _ (unhide HJ1) (by rw [bl_len]; exact hs) (unhide HG)).mono ?_
        rintro e x2 ⟨rfl, hd2⟩
        rw [unhide HE]
        have HJ2 := hide ((unhide HJ1).below hd2)
        have HX2 := hide (bstep (unhide HX1) hd2)
        clear hd2 HJ1 HX1
        go_wp2_with fail
        go_loopw [16] (fun i wr => ∃ k : Nat, k ≤ s.size ∧ i = .int .i64 k ∧ Hid (Below x2.heap.size x2 wr)) (fun i _ => s.size - (intOf i).toNat)
        case atStart => exact ⟨0, by omega, rfl, hide (Below.refl _ _)⟩
        case round =>
          obtain ⟨k, hk, rfl, HR⟩ := hrel
          by_cases hks : k < s.size
          · obtain ⟨_, _, hsk, -, -, hcc⟩ := (unhide HJ2).below (unhide HR)
            obtain ⟨b, off, hbo, hcc⟩ : ∃ b off, bo = some ⟨b, off, none⟩ ∧ wr.cell? ⟨b, off + k, none⟩ = some (.int .i64 (s[k].toNat : Int)) := by
              rw [bl_len] at hsk hcc
              injection hsk with e1 e2 e3
              rcases hcc with h | ⟨b, off, h1, h2⟩
              · exact absurd (congrArg List.length h) (fun e => by rw [bl_len, List.length_nil] at e; omega)
              · refine ⟨b, off, by rw [e1, h1], ?_⟩
                have := h2 k hks
                rw [show (bl s).getD k 0 = (s[k].toNat : Int) from by simp [List.getD_eq_getElem?_getD, bl_get s k hks]] at this
                exact this
            subst hbo
            have hbl : b < wr.heap.size := World.block_lt_of_cell? wr _ hcc
            have hk0 : (0 : Int) ≤ (k : Int) := by omega
            have hby : (s[k].toNat : Int) < 256 := by have := s[k].toNat_lt; omega
            have hk1 : (k : Int) < (s.size : Int) := by omega
            clear hsk
            go_wp2_with fail
            go_quiet (fail)
            go_wp2_with fail
            go_roundw
            case rel => exact ⟨k + 1, by omega, by go_num, hide (below_drewN (unhide HR) _)⟩
            case measure => simp [intOf]; omega
          · have HZ := hide (bstep (unhide HX2) (unhide HR))
            go_wp2_with fail
            go_ret
            exact ⟨rfl, unhide HZ⟩

theorem walk (v : Value) (ys : List Int) (s : ByteArray) (w : World) (hx : Ints w v ys) (hwf : ∀ n ∈ ys, (Lit.int .i64 n).wf = true) (hsm : s.size ≤ maxLen) :
    Calls Try.prog 4 #[v, .string s] w fun e w' => e = .returned (.bool true) ∧ Below w.heap.size w w' := by
  have hg : ∀ n ∈ ys, Gi n := fun n hn => gi_of (hwf n hn)
  by_cases hs : 3000 < s.size
  · by_cases hl : 3000 < ys.length
    · exact many_long v ys s w hx hl hs hsm
    · by_cases hq : ys.all M.anyK = true
      · by_cases ht : (strOfNums (M.kenc ys)).size < 3000
        · exact oks_long v ys s w hx (by omega) hg hq ht hs hsm
        · exact okl_long v ys s w hx (by omega) hg hq (by omega) hs hsm
      · exact no_long v ys s w hx (by omega) hg (Bool.eq_false_iff.2 hq) hs hsm
  · by_cases hl : 3000 < ys.length
    · exact many_short v ys s w hx hl (by omega)
    · by_cases hq : ys.all M.anyK = true
      · by_cases ht : (strOfNums (M.kenc ys)).size < 3000
        · exact oks_short v ys s w hx (by omega) hg hq ht (by omega)
        · exact okl_short v ys s w hx (by omega) hg hq (by omega) (by omega)
      · exact no_short v ys s w hx (by omega) hg (Bool.eq_false_iff.2 hq) (by omega)

set_option maxRecDepth 100000 in
theorem lifted (os : Os) (started : os.Started) (H : Type) (enc : TypeId × Value → H) :
    ReturnsInHanded {} Try.checked os 4 .any (Rows.kanaBackSpec.pre6 enc Try.prog Try.f4 Rows.kanaBackRow.domain false) (Rows.kanaBackSpec.post enc Try.prog Try.f4 false true false false) := by
  refine returnsInHanded_of_change (C := Try.checked) own started (by kernel_rfl) Try.func4
    (ChangeSpec.witness6 (enc := enc) (C := Try.checked) false ⟨#[], #[.slice none 0 0, .string ByteArray.empty], []⟩ 8 (by kernel_rfl) (by kernel_rfl) (by kernel_rfl) (by kernel_rfl)) ?_
  intro W base args ds gs before hval0 hW hcnd _
  have hval : ∀ (j : Nat) t v, Try.f4.params[j]? = some t → args[j]? = some v → Value.okWide Try.prog W .any base t v := hval0
  have hW' := hW
  obtain ⟨p, q, hA0, hV, rfl, hfz, hnd⟩ := hW
  have hA : DataW.TrodAll enc Try.prog W 0 (fun _ => true) true Try.f4.params.toList args.toList ds p := hA0
  rw [Try.params4] at hA hval
  obtain ⟨v0, vs0, d0, ds0, p0, q0, hargs, rfl, rfl, h0, r0⟩ := trodAll_cons hA
  obtain ⟨v1, vs1, d1, ds1, p1, q1, rfl, rfl, rfl, h1, r1⟩ := trodAll_cons r0
  obtain ⟨rfl, rfl, rfl⟩ := trodAll_nil r1
  obtain rfl : args = #[v0, v1] := by cases args; simp_all
  obtain ⟨rfl, rfl⟩ := trodVars_none hV
  obtain ⟨a0, len0, cap0, rfl⟩ := okWide_slice Try.underlying22 (hval 0 22 v0 rfl rfl)
  have k0 := h0
  have lt0 : ∀ x ∈ p0, x.block < W.heap.size := by obtain ⟨m, hm⟩ := k0; exact DataW.trod_lt m _ _ _ hm
  obtain ⟨z0, w0⟩ : ∃ zs, IsRow .i64 W a0 len0 cap0 zs := by
    obtain ⟨fuel, hf⟩ := h0
    rcases open_ints Try.underlying22 Try.underlying3 (by kernel_rfl) hf with ⟨hcs, _⟩ | ⟨x, l, c, zs, hcs, _, hl, hm, hz, _, hcell, hwz⟩
    · simp [Value.cells] at hcs
      obtain ⟨rfl, rfl, rfl⟩ := hcs
      exact ⟨[], .inl ⟨rfl, rfl, rfl, rfl⟩⟩
    · simp [Value.cells] at hcs
      obtain ⟨rfl, rfl, rfl⟩ := hcs
      exact ⟨zs, .inr ⟨_, rfl, hl, hm, by simpa using hz, hcell, hwz⟩⟩
  obtain ⟨a1, rfl, rfl, rfl, w1⟩ := open_string Try.underlying9 (hval 1 9 v1 rfl rfl) h1
  clear hA0 hval0
  refine (walk (.slice a0 len0 cap0) (z0.take len0) a1 W (Ints.of_row w0) (row_wf w0) w1).mono fun e W' ⟨he, bel⟩ => ?_
  subst he
  exact ⟨_, rfl, _, _, _, [], _, [], hW', trodAll_mk1 (shut_bool Try.underlying4 _), (trodAll_cons_mk (Below.trod laidOut (by kernel_rfl) (of_decide_eq_true (by kernel_rfl)) k0 bel lt0) (trodAll_cons_mk (shut_string Try.underlying9 w1) trodAll_mk0)), rfl, bel.frame _, fun h => by cases h⟩

theorem over : Rows.kanaBackRow.holds Try.pinned (OpenSpec.ofChange Rows.kanaBackSpec) :=
  OpenClaim.holds_of_wide 4 Try.f4 rfl rfl rfl rfl rfl rfl rfl ⟨rfl, rfl, rfl, rfl, rfl⟩ rfl rfl rfl rfl rfl (by kernel_rfl) Try.func4 (by kernel_rfl)
    (of_decide_eq_true (by kernel_rfl)) (by unfold Func.isWrapper; first | (rw [if_pos (by decide +kernel)]; kernel_rfl) | (rw [if_neg (by decide +kernel)]; exact ⟨rfl, rfl⟩))
    (fun os started H enc _ => lifted os started H enc)
end Go.Proofs.Ythhjfedegbldfac.kanaBack

namespace Go.Proofs.Ythhjfedegbldfac
theorem kanaBack_holds : Rows.KanaBackSaid := kanaBack.over
end Go.Proofs.Ythhjfedegbldfac
