/- The contracts of the reference's IsEncoding and CheckState: whether a state may be between two pieces, and why not; nothing that was there is written. -/
import Derived.Test.YthhjfedegbldfacFP
import Derived.Test.YthhjfedegbldfacDG
import Derived.Deep.CutBlock
import Derived.Deep.DeepCutAuto
namespace Go.Proofs.Ythhjfedegbldfac
open Go.RowKit
set_option linter.unusedVariables false

/-- Which bytes are open: they begin a scalar and are not all of it. -/
theorem M.open_iff {l : List Int} (h0 : l ≠ []) (h3 : l.length ≤ 3) : (M.nxt l).2.2 = (M.begOk l && decide ((l.length : Int) < M.bSize (l.headD 0))) := by
  have key : ∀ l : List Int, l ≠ [] → M.begOk l = true → (M.nxt l).2.2 = decide ((l.length : Int) < M.bSize (l.headD 0)) := by
    intro l hl hb
    obtain ⟨c, t, rfl⟩ := M.take_one hl
    by_cases he : ((t.length + 1 : Nat) : Int) = M.bSize c
    · have := M.nxt_done (c := c) (t := t) (k := t.length) (Nat.le_refl _) (by rw [List.take_length]; exact hb) he
      rw [this]
      have : ¬ ((c :: t).length : Int) < M.bSize ((c :: t).headD 0) := by simp only [List.length_cons, List.headD_cons]; omega
      rw [decide_eq_false this]
    · rw [M.nxt_left hb he]
      simp only [M.begOk, Bool.and_eq_true, decide_eq_true_eq] at hb
      have : ((c :: t).length : Int) < M.bSize ((c :: t).headD 0) := by simp only [List.length_cons, List.headD_cons]; omega
      rw [decide_eq_true this]
  cases hb : M.begOk l with
  | true => rw [key l h0 hb]; rfl
  | false =>
    rw [Bool.false_and]
    match l, h0, h3, hb with
    | [c], _, _, hb => rw [M.nxt_first [] hb]
    | [c, c1], _, _, hb =>
      cases h1 : M.begOk [c] with
      | false => rw [M.nxt_first _ h1]
      | true =>
        by_cases he : ((0 + 1 : Nat) : Int) = M.bSize c
        · rw [M.nxt_done (c := c) (t := [c1]) (k := 0) (by simp) h1 he]
        · rw [M.nxt_bad (c := c) (t := [c1]) (k := 0) (by simp) h1 he hb]
    | [c, c1, c2], _, _, hb =>
      cases h1 : M.begOk [c] with
      | false => rw [M.nxt_first _ h1]
      | true =>
        by_cases he : ((0 + 1 : Nat) : Int) = M.bSize c
        · rw [M.nxt_done (c := c) (t := [c1, c2]) (k := 0) (by simp) h1 he]
        · cases h2 : M.begOk [c, c1] with
          | false => rw [M.nxt_bad (c := c) (t := [c1, c2]) (k := 0) (by simp) h1 he h2]
          | true =>
            by_cases he2 : ((1 + 1 : Nat) : Int) = M.bSize c
            · rw [M.nxt_done (c := c) (t := [c1, c2]) (k := 1) (by simp) h2 he2]
            · rw [M.nxt_bad (c := c) (t := [c1, c2]) (k := 1) (by simp) h2 he2 hb]
    | _ :: _ :: _ :: _ :: _, _, h3, _ => simp at h3
theorem M.spl_all {l : List Int} (h0 : l ≠ []) : M.spl l = l.length ↔ (M.nxt l).2.2 = true := by
  have hw := M.f8_waits l
  constructor
  · intro h
    rw [h] at hw
    cases hf : M.f8 () l with
    | none => unfold M.f8 at hf; rw [if_neg h0] at hf; split at hf
              · assumption
              · cases hf
    | some r =>
      obtain ⟨o, k, s'⟩ := r
      have hs := M.f8_steps.size _ _ _ _ _ hf
      obtain ⟨m, e1, e2⟩ := M.Run_end M.f8_steps s' (l.drop k)
      rw [M.Run_step M.f8_steps hf] at hw
      have : (M.Run M.f8 s' (l.drop k)).2.2.length ≤ l.length - k := by rw [e1]; simp; omega
      have hw' : ((M.Run M.f8 s' (l.drop k)).2.2.length : Int) = l.length := hw
      omega
  · intro h
    rw [M.Run_wait (by unfold M.f8; rw [if_neg h0, if_pos h])] at hw
    exact hw.symm
/-- Is Rest one that may wait? -/
def fok (e : Int) (r : ByteArray) : Bool := decide (M.wE e (bl r) = r.size ∧ r.size ≤ 3)
theorem fok_many {e : Int} {r : ByteArray} (h : 3 < r.size) : fok e r = false := decide_eq_false (by omega)
theorem fok_none {e : Int} {r : ByteArray} (he : 1 ≤ e ∧ e ≤ 7) (h : r.size = 0) : fok e r = true := by
  have hb := M.wE_bd he (bl r)
  rw [bl_len] at hb
  exact decide_eq_true (by omega)
theorem fok_8 {r : ByteArray} (h1 : 1 ≤ r.size) (h3 : r.size ≤ 3) : fok 1 r = (M.begOk (bl r) && decide ((r.size : Int) < M.bSize ((bl r).headD 0))) := by
  have hne : bl r ≠ [] := fun e => by have := bl_len r; rw [e] at this; simp at this; omega
  have e := M.open_iff hne (by rw [bl_len]; exact h3)
  rw [bl_len] at e
  rw [← e, Bool.eq_iff_iff]
  unfold fok
  rw [decide_eq_true_iff]
  have := M.spl_all hne
  rw [bl_len] at this
  exact ⟨fun h => this.1 h.1, fun h => ⟨this.2 h, h3⟩⟩
theorem fok_16 {big : Bool} {r : ByteArray} {a b : Int} (h2 : 2 ≤ r.size) (h3 : r.size ≤ 3) (ha : ((r[0]'(by omega)).toNat : Int) = a) (hb : ((r[1]'(by omega)).toNat : Int) = b) : fok (if big then 3 else 2) r = M.fst16 (M.ut big a b) := by
  have e1 := bl_drop r 0 (by omega)
  have e2 := bl_drop r 1 (by omega)
  rw [List.drop_zero] at e1
  simp only [Nat.zero_add] at e1
  rw [e2, ha] at e1
  rw [hb] at e1
  have hl : ((bl r).drop 2).length = r.size - 2 := by rw [List.length_drop, bl_len]
  have hw : M.wE (if big then 3 else 2) (bl r) = M.wu big (bl r) := by cases big <;> rfl
  have hlw : M.lastW big (bl r) = M.ut big a b := by
    rw [e1]
    generalize (bl r).drop 2 = t at hl
    match t, hl with
    | [], _ => rfl
    | [c], _ => rfl
    | _ :: _ :: _, hl => simp at hl; omega
  unfold fok
  rw [hw]
  unfold M.wu
  rw [hlw, bl_len]
  cases hq : M.fst16 (M.ut big a b) with
  | true => exact decide_eq_true (by simp; omega)
  | false => exact decide_eq_false (by simp; omega)
theorem fok_1 {big : Bool} {r : ByteArray} (h : r.size = 1) : fok (if big then 3 else 2) r = true := by
  have hw : M.wE (if big then 3 else 2) (bl r) = M.wu big (bl r) := by cases big <;> rfl
  unfold fok
  rw [hw]
  unfold M.wu
  have hl : (bl r).length = 1 := by rw [bl_len]; exact h
  have hlw : M.lastW big (bl r) = 0 := by
    generalize bl r = t at hl
    match t, hl with
    | [c], _ => rfl
  rw [hlw, hl, M.fst16_0]
  exact decide_eq_true (by simp; omega)
theorem fok_S {e : Int} {r : ByteArray} (he : e = 4 ∨ e = 5 ∨ e = 7) (h : r.size ≠ 0) : fok e r = false := by
  have : M.wE e (bl r) = 0 := by rcases he with rfl | rfl | rfl <;> rfl
  exact decide_eq_false (by omega)
theorem fok_K {r : ByteArray} : fok 6 r = (decide (bl r = []) || decide (bl r = [27]) || decide (bl r = [27, 40])) := by
  have hw : M.wE 6 (bl r) = M.wk (bl r) := rfl
  unfold fok
  rw [hw, Bool.eq_iff_iff]
  simp only [decide_eq_true_iff, Bool.or_eq_true]
  have hl := bl_len r
  generalize bl r = l at hl
  rw [← hl]
  unfold M.wk
  constructor
  · rintro ⟨h1, h2⟩
    split at h1
    · rename_i h
      obtain ⟨p, hp⟩ := h
      have := congrArg List.length hp
      simp at this
      have : p = [] := List.eq_nil_of_length_eq_zero (by omega)
      subst this
      exact .inr hp.symm
    · split at h1
      · rename_i h
        obtain ⟨p, hp⟩ := h
        have := congrArg List.length hp
        simp at this
        have : p = [] := List.eq_nil_of_length_eq_zero (by omega)
        subst this
        exact .inl (.inr hp.symm)
      · exact .inl (.inl (List.eq_nil_of_length_eq_zero (by omega)))
  · rintro ((h | h) | h)
    · subst h; decide
    · subst h; decide
    · subst h; decide
set_option maxHeartbeats 400000 in
set_option maxRecDepth 100000 in
theorem isEncoding_any (n : Int) (w : World) : Calls Try.prog 20 #[.int .i64 n] w fun e w' => e = .returned (.bool (decide (1 ≤ n) && decide (n ≤ 7))) ∧ w' = w := by
  go_enter Try.func20, Try.ntmps20
  go_wp2_with fail
  refine (between_any n 1 7 _).mono ?_
  rintro e w1 ⟨rfl, hw⟩
  replace hw := hw.symm
  subst hw
  go_wp2_with fail
  go_ret
  exact ⟨rfl, rfl⟩
theorem isEncoding_yes (n : Int) (w : World) (h : 1 ≤ n ∧ n ≤ 7) : Calls Try.prog 20 #[.int .i64 n] w fun e w' => e = .returned (.bool true) ∧ w' = w := by
  have := isEncoding_any n w
  rw [decide_eq_true h.1, decide_eq_true h.2] at this
  exact this
theorem isEncoding_no (n : Int) (w : World) (h : ¬ (1 ≤ n ∧ n ≤ 7)) : Calls Try.prog 20 #[.int .i64 n] w fun e w' => e = .returned (.bool false) ∧ w' = w := by
  have := isEncoding_any n w
  have e : (decide (1 ≤ n) && decide (n ≤ 7)) = false := by simp; omega
  rw [e] at this
  exact this

set_option maxHeartbeats 400000 in
set_option maxRecDepth 100000 in
theorem checkState_kind (e : Int) (r : ByteArray) (g : Int) (fr st : Bool) (w : World) (he : ¬ (1 ≤ e ∧ e ≤ 7)) :
    Calls Try.prog 21 #[.agg #[.int .i64 e, .string r, .int .i64 g, .bool fr, .bool st]] w fun e' w' => e' = .returned (.int .i64 6) ∧ Below w.heap.size w w' := by
  go_enter Try.func21, Try.ntmps21
  go_wp2_with fail
  refine (isEncoding_no e _ he).mono ?_
  rintro e' w1 ⟨rfl, hw⟩
  replace hw := hw.symm
  subst hw
  go_wp2_with fail
  go_ret
  exact ⟨rfl, balloc _ _⟩

theorem chk_form {e : Int} {r : ByteArray} {t : M.St} (he : 1 ≤ e ∧ e ≤ 7) (hf : fok e r = false) : 1 = chk e r t := by
  unfold chk
  rw [if_neg (fun q => q he), if_pos (of_decide_eq_false hf)]
theorem chk_state {e : Int} {r : ByteArray} {g : Int} {fr st : Bool} (he : 1 ≤ e ∧ e ≤ 7) (hf : fok e r = true) : chk e r (g, fr, st) = if g < 0 ∨ 2 < g then 4 else if e ≠ 6 ∧ (g ≠ 0 ∨ fr = true) then 4 else if e ≠ 7 ∧ st = true then 4 else 0 := by
  unfold chk
  rw [if_neg (fun q => q he), if_neg (fun q => q (of_decide_eq_true hf))]

set_option maxHeartbeats 4000000 in
set_option maxRecDepth 100000 in
theorem checkState_valid (e : Int) (r : ByteArray) (g : Int) (fr st : Bool) (w : World) (hm : r.size ≤ maxLen) (he : 1 ≤ e ∧ e ≤ 7) :
    Calls Try.prog 21 #[.agg #[.int .i64 e, .string r, .int .i64 g, .bool fr, .bool st]] w fun e' w' => e' = .returned (.int .i64 (chk e r (g, fr, st))) ∧ Below w.heap.size w w' := by
  unfold maxLen at hm
  have HE := hide he
  go_enter Try.func21, Try.ntmps21
  go_wp2_with fail
  refine (isEncoding_yes e _ he).mono ?_
  rintro e' w1 ⟨rfl, hw⟩
  replace hw := hw.symm
  subst hw
  go_upto_block 0 with fail
  go_cut [3] (fun ok wx => ok = .bool (fok e r) ∧ Sc w.heap.size e r (g, fr, st) wx ∧ Below w.heap.size w wx)
  case first =>
    clear he
    have he := unhide HE
    obtain rfl | rfl | rfl | rfl | rfl | rfl | rfl := M.seven he
    · clear he
      by_cases h0 : r.size = 0
      · have hbt : (decide ((1 : Int) ≤ (r.size : Int)) && decide ((r.size : Int) ≤ 3)) = false := by simp; omega
        have HF := hide (fok_none (e := 1) (r := r) (by omega) h0)
        have he0 : r.toList.isEmpty = true := by rw [isEmpty_size]; simp [h0]
        have HZ := hide h0
        clear h0
        go_wp2_with fail
        refine (between_any _ _ _ _).mono ?_
        rintro e' w9 ⟨rfl, hw9⟩
        replace hw9 := hw9.symm
        subst hw9
        rw [hbt]
        go_wp2_with fail
        go_meet
        case rel => exact ⟨by first | (rw [unhide HF]; done) | (rw [he0, unhide HF]; done), Sc.new w 1 r (g, fr, st), balloc _ _⟩
      have he0 : r.toList.isEmpty = false := by rw [isEmpty_size]; simp [h0]
      by_cases h3 : 3 < r.size
      · have hbt : (decide ((1 : Int) ≤ (r.size : Int)) && decide ((r.size : Int) ≤ 3)) = false := by simp; omega
        have HF := hide (fok_many (e := 1) (r := r) h3)
        go_wp2_with fail
        refine (between_any _ _ _ _).mono ?_
        rintro e' w9 ⟨rfl, hw9⟩
        replace hw9 := hw9.symm
        subst hw9
        rw [hbt]
        go_wp2_with fail
        go_meet
        case rel => exact ⟨by first | (rw [unhide HF]; done) | (rw [he0, unhide HF]; done), Sc.new w 1 r (g, fr, st), balloc _ _⟩
      have hbt : (decide ((1 : Int) ≤ (r.size : Int)) && decide ((r.size : Int) ≤ 3)) = true := by simp; omega
      have HF := hide (fok_8 (r := r) (by omega) (by omega))
      have HG := hide (fun w => isBegun_few r w (by omega) (by omega))
      obtain ⟨q, HQ⟩ : ∃ q, Hid (M.begOk (bl r) = q) := ⟨_, hide rfl⟩
      unfold BegPost at HG
      rw [unhide HQ] at HF HG
      go_wp2_with fail
      refine (between_any _ _ _ _).mono ?_
      rintro e' w9 ⟨rfl, hw9⟩
      replace hw9 := hw9.symm
      subst hw9
      rw [hbt]
      go_wp2_with fail
      refine (unhide HG _).mono ?_
      rintro e' w2 ⟨X, rfl, hX, hb2⟩
      have hS2 : Sc w.heap.size 1 r (g, fr, st) w2 := (Sc.new w 1 r (g, fr, st)).on hb2
      have HS2 := hide hS2
      have hl2 := hS2.lt
      obtain ⟨c0, c1, c2, c3, c4, -, -, -, -, -⟩ := hS2
      have HB2 := hide (bstep (balloc _ _) hb2)
      have HX := hide hX
      clear hb2 hX
      cases q
      · go_wp2_with fail
        go_meet
        case rel => exact ⟨by rw [unhide HF]; rfl, unhide HS2, unhide HB2⟩
      · by_cases hlt : (r.size : Int) < X
        · have HV : Hid (fok 1 r = true) := hide (by rw [unhide HF, ← unhide HX rfl, decide_eq_true hlt]; rfl)
          have hltB : decide ((r.size : Int) < X) = true := decide_eq_true hlt
          go_wp2_with fail
          go_meet
          case rel => exact ⟨by first | (rw [unhide HV]; done) | (rw [unhide HV, hltB]; done), unhide HS2, unhide HB2⟩
        · have HV : Hid (fok 1 r = false) := hide (by rw [unhide HF, ← unhide HX rfl, decide_eq_false hlt]; rfl)
          have hltB : decide ((r.size : Int) < X) = false := decide_eq_false hlt
          go_wp2_with fail
          go_meet
          case rel => exact ⟨by first | (rw [unhide HV]; done) | (rw [unhide HV, hltB]; done), unhide HS2, unhide HB2⟩
    · clear he
      by_cases h0 : r.size = 0
      · have hbt : (decide ((1 : Int) ≤ (r.size : Int)) && decide ((r.size : Int) ≤ 3)) = false := by simp; omega
        have HF := hide (fok_none (e := 2) (r := r) (by omega) h0)
        have he0 : r.toList.isEmpty = true := by rw [isEmpty_size]; simp [h0]
        have HZ := hide h0
        clear h0
        go_wp2_with fail
        refine (between_any _ _ _ _).mono ?_
        rintro e' w9 ⟨rfl, hw9⟩
        replace hw9 := hw9.symm
        subst hw9
        rw [hbt]
        go_wp2_with fail
        go_meet
        case rel => exact ⟨by first | (rw [unhide HF]; done) | (rw [he0, unhide HF]; done), Sc.new w 2 r (g, fr, st), balloc _ _⟩
      have he0 : r.toList.isEmpty = false := by rw [isEmpty_size]; simp [h0]
      by_cases h3 : 3 < r.size
      · have hbt : (decide ((1 : Int) ≤ (r.size : Int)) && decide ((r.size : Int) ≤ 3)) = false := by simp; omega
        have HF := hide (fok_many (e := 2) (r := r) h3)
        go_wp2_with fail
        refine (between_any _ _ _ _).mono ?_
        rintro e' w9 ⟨rfl, hw9⟩
        replace hw9 := hw9.symm
        subst hw9
        rw [hbt]
        go_wp2_with fail
        go_meet
        case rel => exact ⟨by first | (rw [unhide HF]; done) | (rw [he0, unhide HF]; done), Sc.new w 2 r (g, fr, st), balloc _ _⟩
      have hbt : (decide ((1 : Int) ≤ (r.size : Int)) && decide ((r.size : Int) ≤ 3)) = true := by simp; omega
      by_cases h1 : r.size = 1
      · have HF : Hid (fok 2 r = true) := hide (fok_1 (big := false) h1)
        have h1I : ((r.size : Int) == 1) = true := by simp [h1]
        clear h1
        go_wp2_with fail
        refine (between_any _ _ _ _).mono ?_
        rintro e' w9 ⟨rfl, hw9⟩
        replace hw9 := hw9.symm
        subst hw9
        rw [hbt]
        go_wp2_with fail
        go_meet
        case rel => exact ⟨by first | (rw [unhide HF]; done) | (rw [he0, unhide HF]; done), Sc.new w 2 r (g, fr, st), balloc _ _⟩
      have h1I : ((r.size : Int) == 1) = false := by simp; omega
      obtain ⟨a, HA⟩ : ∃ a, Hid (((r[0]'(by omega)).toNat : Int) = a) := ⟨_, hide rfl⟩
      obtain ⟨b, HBB⟩ : ∃ b, Hid (((r[1]'(by omega)).toNat : Int) = b) := ⟨_, hide rfl⟩
      have HF : Hid (fok 2 r = M.fst16 (M.ut false a b)) := hide (fok_16 (big := false) (by omega) (by omega) (unhide HA) (unhide HBB))
      have HR : Hid (∀ w : World, Calls Try.prog 40 #[.bool false, .string r, .int .i64 0] w fun e w' => e = .returned (.int .i64 (M.ut false a b)) ∧ ∃ m, w' = w.drewN m) := hide (fun w => unitAt_any false r 0 a b w (by omega) (by omega) (unhide HA) (unhide HBB))
      obtain ⟨u, HU⟩ : ∃ u, Hid (M.ut false a b = u) := ⟨_, hide rfl⟩
      rw [unhide HU] at HF HR
      have HV : Hid (fok 2 r = (decide (55296 ≤ u) && decide (u ≤ 56319))) := hide (by rw [unhide HF, Bool.eq_iff_iff]; simp [M.fst16]; omega)
      go_wp2_with fail
      refine (between_any _ _ _ _).mono ?_
      rintro e' w9 ⟨rfl, hw9⟩
      replace hw9 := hw9.symm
      subst hw9
      rw [hbt]
      go_wp2_with fail
      refine (unhide HR _).mono ?_
      rintro e' w2 ⟨rfl, m, rfl⟩
      go_wp2_with fail
      refine (between_any _ _ _ _).mono ?_
      rintro e' w9 ⟨rfl, hw9⟩
      replace hw9 := hw9.symm
      subst hw9
      rw [← unhide HV]
      go_wp2_with fail
      go_meet
      case rel => exact ⟨rfl, (Sc.new w 2 r (g, fr, st)).on (below_drewN (Below.refl _ _) _), below_drewN (balloc _ _) _⟩
    · clear he
      by_cases h0 : r.size = 0
      · have hbt : (decide ((1 : Int) ≤ (r.size : Int)) && decide ((r.size : Int) ≤ 3)) = false := by simp; omega
        have HF := hide (fok_none (e := 3) (r := r) (by omega) h0)
        have he0 : r.toList.isEmpty = true := by rw [isEmpty_size]; simp [h0]
        have HZ := hide h0
        clear h0
        go_wp2_with fail
        refine (between_any _ _ _ _).mono ?_
        rintro e' w9 ⟨rfl, hw9⟩
        replace hw9 := hw9.symm
        subst hw9
        rw [hbt]
        go_wp2_with fail
        go_meet
        case rel => exact ⟨by first | (rw [unhide HF]; done) | (rw [he0, unhide HF]; done), Sc.new w 3 r (g, fr, st), balloc _ _⟩
      have he0 : r.toList.isEmpty = false := by rw [isEmpty_size]; simp [h0]
      by_cases h3 : 3 < r.size
      · have hbt : (decide ((1 : Int) ≤ (r.size : Int)) && decide ((r.size : Int) ≤ 3)) = false := by simp; omega
        have HF := hide (fok_many (e := 3) (r := r) h3)
        go_wp2_with fail
        refine (between_any _ _ _ _).mono ?_
        rintro e' w9 ⟨rfl, hw9⟩
        replace hw9 := hw9.symm
        subst hw9
        rw [hbt]
        go_wp2_with fail
        go_meet
        case rel => exact ⟨by first | (rw [unhide HF]; done) | (rw [he0, unhide HF]; done), Sc.new w 3 r (g, fr, st), balloc _ _⟩
      have hbt : (decide ((1 : Int) ≤ (r.size : Int)) && decide ((r.size : Int) ≤ 3)) = true := by simp; omega
      by_cases h1 : r.size = 1
      · have HF : Hid (fok 3 r = true) := hide (fok_1 (big := true) h1)
        have h1I : ((r.size : Int) == 1) = true := by simp [h1]
        clear h1
        go_wp2_with fail
        refine (between_any _ _ _ _).mono ?_
        rintro e' w9 ⟨rfl, hw9⟩
        replace hw9 := hw9.symm
        subst hw9
        rw [hbt]
        go_wp2_with fail
        go_meet
        case rel => exact ⟨by first | (rw [unhide HF]; done) | (rw [he0, unhide HF]; done), Sc.new w 3 r (g, fr, st), balloc _ _⟩
      have h1I : ((r.size : Int) == 1) = false := by simp; omega
      obtain ⟨a, HA⟩ : ∃ a, Hid (((r[0]'(by omega)).toNat : Int) = a) := ⟨_, hide rfl⟩
      obtain ⟨b, HBB⟩ : ∃ b, Hid (((r[1]'(by omega)).toNat : Int) = b) := ⟨_, hide rfl⟩
      have HF : Hid (fok 3 r = M.fst16 (M.ut true a b)) := hide (fok_16 (big := true) (by omega) (by omega) (unhide HA) (unhide HBB))
      have HR : Hid (∀ w : World, Calls Try.prog 40 #[.bool true, .string r, .int .i64 0] w fun e w' => e = .returned (.int .i64 (M.ut true a b)) ∧ ∃ m, w' = w.drewN m) := hide (fun w => unitAt_any true r 0 a b w (by omega) (by omega) (unhide HA) (unhide HBB))
      obtain ⟨u, HU⟩ : ∃ u, Hid (M.ut true a b = u) := ⟨_, hide rfl⟩
      rw [unhide HU] at HF HR
      have HV : Hid (fok 3 r = (decide (55296 ≤ u) && decide (u ≤ 56319))) := hide (by rw [unhide HF, Bool.eq_iff_iff]; simp [M.fst16]; omega)
      go_wp2_with fail
      refine (between_any _ _ _ _).mono ?_
      rintro e' w9 ⟨rfl, hw9⟩
      replace hw9 := hw9.symm
      subst hw9
      rw [hbt]
      go_wp2_with fail
      refine (unhide HR _).mono ?_
      rintro e' w2 ⟨rfl, m, rfl⟩
      go_wp2_with fail
      refine (between_any _ _ _ _).mono ?_
      rintro e' w9 ⟨rfl, hw9⟩
      replace hw9 := hw9.symm
      subst hw9
      rw [← unhide HV]
      go_wp2_with fail
      go_meet
      case rel => exact ⟨rfl, (Sc.new w 3 r (g, fr, st)).on (below_drewN (Below.refl _ _) _), below_drewN (balloc _ _) _⟩
    · clear he
      by_cases h0 : r.size = 0
      · have hF := fok_none (e := 4) (r := r) (by omega) h0
        have he0 : r.toList.isEmpty = true := by rw [isEmpty_size]; simp [h0]
        have HZ := hide h0
        clear h0
        go_wp2_with fail
        go_meet
        case rel => exact ⟨by first | (rw [hF]; done) | (rw [he0, hF]; done), Sc.new w 4 r (g, fr, st), balloc _ _⟩
      · have he0 : r.toList.isEmpty = false := by rw [isEmpty_size]; simp [h0]
        have hF := fok_S (e := 4) (r := r) (by omega) h0
        go_wp2_with fail
        go_meet
        case rel => exact ⟨by first | (rw [hF]; done) | (rw [he0, hF]; done), Sc.new w 4 r (g, fr, st), balloc _ _⟩
    · clear he
      by_cases h0 : r.size = 0
      · have hF := fok_none (e := 5) (r := r) (by omega) h0
        have he0 : r.toList.isEmpty = true := by rw [isEmpty_size]; simp [h0]
        have HZ := hide h0
        clear h0
        go_wp2_with fail
        go_meet
        case rel => exact ⟨by first | (rw [hF]; done) | (rw [he0, hF]; done), Sc.new w 5 r (g, fr, st), balloc _ _⟩
      · have he0 : r.toList.isEmpty = false := by rw [isEmpty_size]; simp [h0]
        have hF := fok_S (e := 5) (r := r) (by omega) h0
        go_wp2_with fail
        go_meet
        case rel => exact ⟨by first | (rw [hF]; done) | (rw [he0, hF]; done), Sc.new w 5 r (g, fr, st), balloc _ _⟩
    · clear he
      by_cases h0 : r.size = 0
      · have hF := fok_none (e := 6) (r := r) (by omega) h0
        have he0 : r.toList.isEmpty = true := by rw [isEmpty_size]; simp [h0]
        have HZ := hide h0
        clear h0
        go_wp2_with fail
        go_meet
        case rel => exact ⟨by first | (rw [hF]; done) | (rw [he0, hF]; done), Sc.new w 6 r (g, fr, st), balloc _ _⟩
      have hF := fok_K (r := r)
      rw [decide_eq_false (fun q => h0 (by rw [← bl_len, q]; rfl))] at hF
      have he0 : r.toList.isEmpty = false := by rw [isEmpty_size]; simp [h0]
      by_cases h1 : bl r = [27]
      · have e1 : (r.toList == ([27] : List UInt8)) = true := by rw [beq_nums r [27] [27] (by decide +kernel) (by decide +kernel)]; exact decide_eq_true h1
        rw [decide_eq_true h1] at hF
        replace hF : fok 6 r = true := hF
        have HF := hide hF
        clear hF h1
        go_wp2_with fail
        go_meet
        case rel => exact ⟨by first | (rw [unhide HF]; done) | (rw [he0, unhide HF]; done), Sc.new w 6 r (g, fr, st), balloc _ _⟩
      by_cases h2 : bl r = [27, 40]
      · have e1 : (r.toList == ([27] : List UInt8)) = false := by rw [beq_nums r [27] [27] (by decide +kernel) (by decide +kernel)]; exact decide_eq_false h1
        have e2 : (r.toList == ([27, 40] : List UInt8)) = true := by rw [beq_nums r [27, 40] [27, 40] (by decide +kernel) (by decide +kernel)]; exact decide_eq_true h2
        rw [decide_eq_true h2, Bool.or_true] at hF
        have HF := hide hF
        clear hF h1 h2
        go_wp2_with fail
        go_meet
        case rel => exact ⟨by first | (rw [unhide HF]; done) | (rw [he0, unhide HF]; done), Sc.new w 6 r (g, fr, st), balloc _ _⟩
      have e1 : (r.toList == ([27] : List UInt8)) = false := by rw [beq_nums r [27] [27] (by decide +kernel) (by decide +kernel)]; exact decide_eq_false h1
      have e2 : (r.toList == ([27, 40] : List UInt8)) = false := by rw [beq_nums r [27, 40] [27, 40] (by decide +kernel) (by decide +kernel)]; exact decide_eq_false h2
      rw [decide_eq_false h1, decide_eq_false h2] at hF
      replace hF : fok 6 r = false := hF
      have HF := hide hF
      clear hF h1 h2
      go_wp2_with fail
      go_meet
      case rel => exact ⟨by first | (rw [unhide HF]; done) | (rw [he0, unhide HF]; done), Sc.new w 6 r (g, fr, st), balloc _ _⟩
    · clear he
      by_cases h0 : r.size = 0
      · have hF := fok_none (e := 7) (r := r) (by omega) h0
        have he0 : r.toList.isEmpty = true := by rw [isEmpty_size]; simp [h0]
        have HZ := hide h0
        clear h0
        go_wp2_with fail
        go_meet
        case rel => exact ⟨by first | (rw [hF]; done) | (rw [he0, hF]; done), Sc.new w 7 r (g, fr, st), balloc _ _⟩
      · have he0 : r.toList.isEmpty = false := by rw [isEmpty_size]; simp [h0]
        have hF := fok_S (e := 7) (r := r) (by omega) h0
        go_wp2_with fail
        go_meet
        case rel => exact ⟨by first | (rw [hF]; done) | (rw [he0, hF]; done), Sc.new w 7 r (g, fr, st), balloc _ _⟩
  case rest =>
    obtain ⟨hok, hS, hB⟩ := hcut
    have HB := hide hB
    clear hB
    have hlt := hS.lt
    obtain ⟨c0, c1, c2, c3, c4, -, -, -, -, -⟩ := hS
    subst hok
    by_cases hf : fok e r = true
    · rw [hf]
      have HF := hide hf
      clear hf he
      by_cases hb : 0 ≤ g ∧ g ≤ 2
      · have hb' : (decide (0 ≤ g) && decide (g ≤ 2)) = true := by simp; omega
        have hn : ¬ (g < 0 ∨ 2 < g) := by omega
        by_cases h6 : e = 6
        · subst h6
          cases st
          · go_wp2_with fail
            refine (between_any _ _ _ _).mono ?_
            rintro e' w9 ⟨rfl, hw9⟩
            replace hw9 := hw9.symm
            subst hw9
            rw [hb']
            go_wp2_with fail
            go_ret
            exact ⟨ret_int (by rw [chk_state (unhide HE) (unhide HF), if_neg hn, if_neg (by simp), if_neg (by simp)]), unhide HB⟩
          · go_wp2_with fail
            refine (between_any _ _ _ _).mono ?_
            rintro e' w9 ⟨rfl, hw9⟩
            replace hw9 := hw9.symm
            subst hw9
            rw [hb']
            go_wp2_with fail
            go_ret
            exact ⟨ret_int (by rw [chk_state (unhide HE) (unhide HF), if_neg hn, if_neg (by simp), if_pos (by simp)]), unhide HB⟩
        · have h6' : (e != 6) = true := by simpa using h6
          by_cases hg : g = 0
          · have hg' : (g != 0) = false := by simpa using hg
            have HG := hide hg
            clear hg
            cases fr
            · by_cases h7 : e = 7
              · subst h7
                clear hb h6'
                go_wp2_with fail
                refine (between_any _ _ _ _).mono ?_
                rintro e' w9 ⟨rfl, hw9⟩
                replace hw9 := hw9.symm
                subst hw9
                rw [hb']
                go_wp2_with fail
                go_ret
                exact ⟨ret_int (by rw [chk_state (unhide HE) (unhide HF), if_neg hn, if_neg (fun q => q.2.elim (fun z => z (unhide HG)) (fun z => by cases z)), if_neg (by simp)]), unhide HB⟩
              · have h7' : (e != 7) = true := by simpa using h7
                clear hb
                cases st
                · go_wp2_with fail
                  refine (between_any _ _ _ _).mono ?_
                  rintro e' w9 ⟨rfl, hw9⟩
                  replace hw9 := hw9.symm
                  subst hw9
                  rw [hb']
                  go_wp2_with fail
                  go_ret
                  exact ⟨ret_int (by rw [chk_state (unhide HE) (unhide HF), if_neg hn, if_neg (fun q => q.2.elim (fun z => z (unhide HG)) (fun z => by cases z)), if_neg (by simp)]), unhide HB⟩
                · go_wp2_with fail
                  refine (between_any _ _ _ _).mono ?_
                  rintro e' w9 ⟨rfl, hw9⟩
                  replace hw9 := hw9.symm
                  subst hw9
                  rw [hb']
                  go_wp2_with fail
                  go_ret
                  exact ⟨ret_int (by rw [chk_state (unhide HE) (unhide HF), if_neg hn, if_neg (fun q => q.2.elim (fun z => z (unhide HG)) (fun z => by cases z)), if_pos ⟨h7, rfl⟩]), unhide HB⟩
            · clear hb
              go_wp2_with fail
              refine (between_any _ _ _ _).mono ?_
              rintro e' w9 ⟨rfl, hw9⟩
              replace hw9 := hw9.symm
              subst hw9
              rw [hb']
              go_wp2_with fail
              go_ret
              exact ⟨ret_int (by rw [chk_state (unhide HE) (unhide HF), if_neg hn, if_pos ⟨h6, .inr rfl⟩]), unhide HB⟩
          · have hg' : (g != 0) = true := by simpa using hg
            go_wp2_with fail
            refine (between_any _ _ _ _).mono ?_
            rintro e' w9 ⟨rfl, hw9⟩
            replace hw9 := hw9.symm
            subst hw9
            rw [hb']
            go_wp2_with fail
            go_ret
            exact ⟨ret_int (by rw [chk_state (unhide HE) (unhide HF), if_neg hn, if_pos ⟨h6, .inl hg⟩]), unhide HB⟩
      · have hb' : (decide (0 ≤ g) && decide (g ≤ 2)) = false := by simp; omega
        go_wp2_with fail
        refine (between_any _ _ _ _).mono ?_
        rintro e' w9 ⟨rfl, hw9⟩
        replace hw9 := hw9.symm
        subst hw9
        rw [hb']
        go_wp2_with fail
        go_ret
        exact ⟨ret_int (by rw [chk_state (unhide HE) (unhide HF), if_pos (by omega)]), unhide HB⟩
    · have hf' : fok e r = false := Bool.eq_false_iff.2 hf
      rw [hf']
      have HF := hide hf'
      clear hf hf' he
      go_wp2_with fail
      go_ret
      exact ⟨ret_int (chk_form (unhide HE) (unhide HF)), unhide HB⟩

theorem checkState_any (e : Int) (r : ByteArray) (t : M.St) (w : World) (hm : r.size ≤ maxLen) :
    Calls Try.prog 21 #[sv e r t] w fun e' w' => e' = .returned (.int .i64 (chk e r t)) ∧ Below w.heap.size w w' := by
  obtain ⟨g, fr, st⟩ := t
  by_cases he : 1 ≤ e ∧ e ≤ 7
  · exact checkState_valid e r g fr st w hm he
  · have e6 : chk e r (g, fr, st) = 6 := by unfold chk; rw [if_pos he]
    rw [e6]
    exact checkState_kind e r g fr st w he
end Go.Proofs.Ythhjfedegbldfac
