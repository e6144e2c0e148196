/- The contract of cartoucheref.DecodeUtf8: the code points that are told, and the bytes that wait; nothing that was there is written. Condition: at most 3003 bytes. -/
import Derived.Test.YthhjfedegbldfacE8
import Derived.Test.YthhjfedegbldfacMathQ
namespace Go.Proofs.Ythhjfedegbldfac
open Go.RowKit
set_option linter.unusedVariables false

def szOf : Value → Nat
  | .string b => b.size
  | _ => 0

/-- What a round of DecodeUtf8 knows: r is what is still to be told. -/
def InD (s : ByteArray) (w wr : World) (r : ByteArray) (xs : List Int) (v : Value) : Prop :=
  wr.ownsRow w.heap.size 3 1 v xs.length (xs.map (Value.int .i64)) ∧ Below w.heap.size w wr ∧ xs ++ (M.Run M.f8 () (bl r)).1 = (M.Run M.f8 () (bl s)).1 ∧ (M.Run M.f8 () (bl r)).2.2 = (M.Run M.f8 () (bl s)).2.2 ∧ xs.length + r.size ≤ s.size

def hd (r : ByteArray) : Int := (bl r).headD 0
/-- Are k bytes all of a scalar's? -/
def doneB (r : ByteArray) (k : Nat) : Bool := decide (1 ≤ k ∧ (k : Int) = M.bSize (hd r))

theorem bl_ne {r : ByteArray} (h : 0 < r.size) : bl r ≠ [] := fun e => by have := congrArg List.length e; rw [bl_len] at this; simp only [List.length_nil] at this; omega

theorem f8_at {l : List Int} {p : Int} {k : Nat} (hne : l ≠ []) (hn : M.nxt l = (p, (k : Int), false)) : M.Run M.f8 () l = ([p] ++ (M.Run M.f8 () (l.drop k)).1, (M.Run M.f8 () (l.drop k)).2) :=
  M.Run_step M.f8_steps (by unfold M.f8; rw [if_neg hne, hn]; simp)
theorem f8_open {l : List Int} {p : Int} {k : Int} (hne : l ≠ []) (hn : M.nxt l = (p, k, true)) : M.Run M.f8 () l = ([], (), l) :=
  M.Run_wait (by unfold M.f8; rw [if_neg hne, hn]; simp)
theorem InD.step {s r : ByteArray} {w wr w2 : World} {xs : List Int} {v v2 : Value} {p : Int} {k : Nat} (h : InD s w wr r xs v) (h0 : 0 < r.size) (hk : 1 ≤ k) (hk2 : k ≤ r.size) (hn : M.nxt (bl r) = (p, (k : Int), false))
    (ho : w2.ownsRow w.heap.size 3 1 v2 (xs ++ [p]).length ((xs ++ [p]).map (Value.int .i64))) (hb : Below w.heap.size wr w2) : InD s w w2 (r.extract k r.size) (xs ++ [p]) v2 := by
  obtain ⟨h1, h2, h3, h4, h5⟩ := h
  have hne := bl_ne h0
  refine ⟨ho, h2.trans hb, ?_, ?_, ?_⟩
  · rw [← h3, bl_extract, f8_at hne hn]; simp
  · rw [← h4, f8_at hne hn, bl_extract]
  · simp [ByteArray.size_extract]; omega

/-- What DecodeUtf8 answers. -/
def DecPost (s : ByteArray) (w : World) (e : Ending) (w' : World) : Prop :=
  ∃ v rr, e = .returned (.tuple #[v, .string rr]) ∧ w'.ownsRow w.heap.size 3 1 v (M.Run M.f8 () (bl s)).1.length ((M.Run M.f8 () (bl s)).1.map (Value.int .i64)) ∧ Below w.heap.size w w' ∧ bl rr = (M.Run M.f8 () (bl s)).2.2

theorem take_cons {r : ByteArray} (h0 : 0 < r.size) (k : Nat) : (bl r).take (k + 1) = hd r :: ((bl r).drop 1).take k := by
  have := bl_0 r h0
  conv => lhs; rw [this]
  simp only [List.take_succ_cons]
  congr 1
  unfold hd
  rw [this]; rfl
theorem bl_hd {r : ByteArray} (h0 : 0 < r.size) : bl r = hd r :: (bl r).drop 1 := by
  have := bl_0 r h0
  unfold hd
  conv => lhs; rw [this]
  congr 1
  rw [this]; rfl

theorem done_nxt {r : ByteArray} {k : Nat} (h0 : 0 < r.size) (hk : k ≤ r.size) (hd' : doneB r k = true) (hb : M.begOk ((bl r).take k) = true) :
    M.nxt (bl r) = (M.val (M.bBits (hd r)) (((bl r).drop 1).take (k - 1)), (k : Int), false) := by
  simp [doneB] at hd'
  obtain ⟨j, rfl⟩ : ∃ j, k = j + 1 := ⟨k - 1, by omega⟩
  rw [take_cons h0] at hb
  have := M.nxt_done (c := hd r) (t := (bl r).drop 1) (k := j) (by rw [List.length_drop, bl_len]; omega) hb hd'.2
  rw [← bl_hd h0] at this
  rw [this]; simp

theorem left_nxt {r : ByteArray} (h0 : 0 < r.size) (hd' : doneB r r.size = false) (hb : M.begOk ((bl r).take r.size) = true) : M.nxt (bl r) = (65533, (r.size : Int), true) := by
  simp [doneB] at hd'
  have hl : ((bl r).drop 1).length + 1 = r.size := by rw [List.length_drop, bl_len]; omega
  rw [← bl_len r, List.take_length, bl_hd h0] at hb
  have := M.nxt_left hb (by rw [hl]; exact hd' h0)
  rw [← bl_hd h0, hl] at this
  exact this

theorem bad_nxt {r : ByteArray} {k : Nat} (h0 : 0 < r.size) (hk1 : 1 ≤ k) (hk : k < r.size) (hd' : doneB r k = false) (hb : M.begOk ((bl r).take k) = true) (hn : M.begOk ((bl r).take (k + 1)) = false) :
    M.nxt (bl r) = (65533, (k : Int), false) := by
  simp [doneB] at hd'
  obtain ⟨j, rfl⟩ : ∃ j, k = j + 1 := ⟨k - 1, by omega⟩
  rw [take_cons h0] at hb hn
  have := M.nxt_bad (c := hd r) (t := (bl r).drop 1) (k := j) (by rw [List.length_drop, bl_len]; omega) hb (hd' hk1) hn
  rw [← bl_hd h0] at this
  exact this

theorem first_nxt {r : ByteArray} (h0 : 0 < r.size) (hn : M.begOk ((bl r).take 1) = false) : M.nxt (bl r) = (65533, 1, false) := by
  rw [take_cons h0] at hn
  have := M.nxt_first (c := hd r) ((bl r).drop 1) hn
  rw [← bl_hd h0] at this
  exact this

theorem begun_pre {r : ByteArray} {k : Nat} (h0 : 0 < r.size) (hk : k < r.size) (hd' : doneB r k = false) (hb : k = 0 ∨ M.begOk ((bl r).take k) = true) (w : World) :
    Calls Try.prog 39 #[.string (r.extract 0 (k + 1))] w (BegPost ((bl r).take (k + 1)) w) := by
  refine isBegun_list _ _ w (bl_take r (k + 1)) (by rw [take_cons h0]; simp) ?_
  have hl : ((bl r).take (k + 1)).length = k + 1 := by rw [List.length_take, bl_len]; omega
  have e : ((bl r).take (k + 1)).dropLast = (bl r).take k := by
    rw [List.dropLast_eq_take, hl, List.take_take]; simp
  have eh : ((bl r).take (k + 1)).headD 0 = hd r := by rw [take_cons h0]; rfl
  rw [e, eh]
  by_cases hk0 : k = 0
  · subst hk0; exact .inl rfl
  · refine .inr ⟨hb.resolve_left hk0, ?_⟩
    rw [List.length_take, bl_len, Nat.min_eq_left (by omega)]
    simp [doneB] at hd'
    exact hd' (by omega)
theorem DecPost.mk {s rr : ByteArray} {w w' : World} {v : Value} {xs : List Int} (h1 : w'.ownsRow w.heap.size 3 1 v xs.length (xs.map (Value.int .i64))) (h2 : Below w.heap.size w w') (h3 : xs = (M.Run M.f8 () (bl s)).1) (h4 : bl rr = (M.Run M.f8 () (bl s)).2.2) : DecPost s w (.returned (.tuple #[v, .string rr])) w' := by
  subst h3; exact ⟨v, rr, rfl, h1, h2, h4⟩

theorem done_step {r : ByteArray} {k : Nat} {X : Int} (hX : X = M.bSize (hd r)) : (((k : Int) + 1) == X) = doneB r (k + 1) := by
  rw [hX, Bool.eq_iff_iff]; simp [doneB]

theorem value_at {r : ByteArray} {k : Nat} (h0 : 0 < r.size) (hk : k ≤ r.size) (hd' : doneB r k = true) (hb : M.begOk ((bl r).take k) = true) (w : World) :
    Calls Try.prog 60 #[.string (r.extract 0 k)] w fun e w' => e = .returned (.int .i64 (M.val (M.bBits (hd r)) (((bl r).drop 1).take (k - 1)))) ∧ Below w.heap.size w w' := by
  have hdd := hd'
  simp [doneB] at hdd
  obtain ⟨j, rfl⟩ : ∃ j, k = j + 1 := ⟨k - 1, by omega⟩
  have hl : (((bl r).drop 1).take j).length = j := by rw [List.length_take, List.length_drop, bl_len]; omega
  rw [take_cons h0] at hb
  exact valueOf_list _ (hd r) (((bl r).drop 1).take j) w (by rw [bl_take, take_cons h0]) hb (by rw [hl]; exact hdd.2)

/-- What a round of the inner loop knows. -/
def InI (r : ByteArray) (wo wi : World) (k : Nat) : Prop := k ≤ r.size ∧ (k = 0 ∨ M.begOk ((bl r).take k) = true) ∧ Below wo.heap.size wo wi

set_option maxHeartbeats 2000000 in
set_option maxRecDepth 100000 in
theorem decRef_any (s : ByteArray) (w : World) (hs : s.size ≤ 3003) : Calls Try.prog 41 #[.string s] w (DecPost s w) := by
  have HI : InD s w w s [] (.slice none 0 0) := ⟨World.ownsRow_nil _ _ _ _, Below.refl _ _, by simp, rfl, by simp⟩
  obtain ⟨i0, hi, hz0, hz1, hz2⟩ := info_parts info3
  go_enter Try.func41, Try.ntmps41
  go_wp2_with fail
  go_loopw [0, 4] (fun sv v wr => ∃ r xs, sv = .string r ∧ InD s w wr r xs v) (fun sv _ _ => szOf sv)
  case atStart => exact ⟨s, [], rfl, HI⟩
  case round =>
    obtain ⟨r, xs, rfl, hI⟩ := hrel
    clear HI
    have hrs : r.size ≤ 3003 := by have := hI.2.2.2.2; omega
    have hxs : xs.length ≤ 3003 := by have := hI.2.2.2.2; omega
    obtain ⟨ao, cap, hsh⟩ := owns_shape hI.1
    subst hsh
    by_cases h0 : 0 < r.size
    · go_wp2_with fail
      generalize wr = wo at *
      have hwo := hI.2.1.size
      go_loopw [5, 6] (fun nv dv wi => ∃ k : Nat, nv = .int .i64 k ∧ dv = .bool (doneB r k) ∧ InI r wo wi k) (fun nv _ _ => r.size - (intOf nv).toNat)
      case atStart => exact ⟨0, rfl, rfl, Nat.zero_le _, .inl rfl, Below.refl _ _⟩
      case round =>
        obtain ⟨k, rfl, rfl, hk, hbeg, hbi⟩ := hrel
        generalize wr = wi at *
        have HBG := hide hbeg
        clear hbeg
        have hown := owns_below hI.1 hbi
        have hwi := hbi.size
        obtain ⟨q, HQ⟩ : ∃ q, Hid (doneB r k = q) := ⟨_, rfl⟩
        rw [unhide HQ]
        cases q
        · by_cases hks : k < r.size
          · go_wp2_with fail
            refine (begun_pre h0 hks (unhide HQ) (unhide HBG) _).mono ?_
            rintro e w1 ⟨X, rfl, hX, hb1⟩
            obtain ⟨q2, HQ2⟩ : ∃ q2, Hid (M.begOk ((bl r).take (k + 1)) = q2) := ⟨_, rfl⟩
            rw [unhide HQ2] at hX ⊢
            have HX := hide hX
            clear hX
            cases q2
            · have hown1 := owns_below hown hb1
              have hw1 := hb1.size
              by_cases hk0 : k = 0
              · subst hk0
                have HN := hide (first_nxt h0 (unhide HQ2))
                clear hown
                go_wp2_with (at_builtin; refine append_ints rfl (.tmp 37) (.tmp 38) rfl w.heap.size _ xs rfl (hown1.alloc _) _ [65533] rfl (one_int _ _) (by simp; omega) (by simp; omega) ?_)
                intro v2 w2 ho2 hb2
                obtain ⟨ao2, cap2, hsh2⟩ := owns_shape ho2
                subst hsh2
                have HI2 := InD.step hI h0 (k := 1) (by omega) (by omega) (unhide HN) (by simpa using ho2) ((((bstep hbi hb1).mono hwo).alloc (by omega) _).trans hb2)
                clear hI hown1 ho2 hb2 hbi hb1
                go_wp2_with fail
                go_roundw
                case rel => exact ⟨_, _, rfl, by simpa using HI2⟩
                case measure => simp [szOf]; omega
              · have HN := hide (bad_nxt h0 (by omega) hks (unhide HQ) ((unhide HBG).resolve_left hk0) (unhide HQ2))
                have hk1 : ((k : Int) == 0) = false := by simp; omega
                have hk2 : ((k : Int) == (r.size : Int)) = false := by simp; omega
                clear hown
                go_wp2_with (at_builtin; refine append_ints rfl (.tmp 37) (.tmp 38) rfl w.heap.size _ xs rfl (hown1.alloc _) _ [65533] rfl (one_int _ _) (by simp; omega) (by simp; omega) ?_)
                intro v2 w2 ho2 hb2
                obtain ⟨ao2, cap2, hsh2⟩ := owns_shape ho2
                subst hsh2
                have HI2 := InD.step hI h0 (k := k) (by omega) (by omega) (unhide HN) (by simpa using ho2) ((((bstep hbi hb1).mono hwo).alloc (by omega) _).trans hb2)
                clear hI hown1 ho2 hb2 hbi hb1
                go_wp2_with fail
                go_roundw
                case rel => exact ⟨_, _, rfl, by simpa using HI2⟩
                case measure => simp [szOf]; omega
            · have eX := unhide HX rfl
              have eh : ((bl r).take (k + 1)).headD 0 = hd r := by rw [take_cons h0]; rfl
              rw [eh] at eX
              have HD := hide (done_step (r := r) (k := k) eX)
              have HI2 : InI r wo w1 (k + 1) := ⟨by omega, .inr (unhide HQ2), bstep hbi hb1⟩
              clear eX eh hown hI hbi hb1
              go_wp2_with fail
              go_roundw
              case rel => exact ⟨k + 1, by go_num, by rw [unhide HD], HI2⟩
              case measure => simp [intOf]; omega
          · have ek : k = r.size := by omega
            subst ek
            have HN := hide (left_nxt h0 (unhide HQ) ((unhide HBG).resolve_left (by omega)))
            have hkk : ((r.size : Int) == (r.size : Int)) = true := by simp
            go_wp2_with fail
            go_ret2
            obtain ⟨h1, h2, h3, h4, h5⟩ := hI
            rw [f8_open (bl_ne h0) (unhide HN)] at h3 h4
            exact DecPost.mk hown (h2.trans (hbi.mono hwo)) (by rw [← h3]; simp) h4
        · have hk0 : k ≠ 0 := by have := unhide HQ; simp [doneB] at this; omega
          have HN := hide (done_nxt h0 hk (unhide HQ) ((unhide HBG).resolve_left hk0))
          have HV := hide (fun w => value_at h0 hk (unhide HQ) ((unhide HBG).resolve_left hk0) w)
          generalize M.val (M.bBits (hd r)) (((bl r).drop 1).take (k - 1)) = p at *
          by_cases hks : k < r.size
          all_goals
            go_wp2_with fail
            refine (unhide HV _).mono ?_
            rintro e w1 ⟨rfl, hb1⟩
            have hown1 := owns_below hown hb1
            have hw1 := hb1.size
            clear hown
            go_wp2_with (at_builtin; refine append_ints rfl (.tmp 42) (.tmp 47) rfl w.heap.size _ xs rfl (hown1.alloc _) _ [p] rfl (one_int _ _) (by simp; omega) (by simp; omega) ?_)
            intro v2 w2 ho2 hb2
            obtain ⟨ao2, cap2, hsh2⟩ := owns_shape ho2
            subst hsh2
            have HI2 := InD.step hI h0 (k := k) (by omega) hk (unhide HN) (by simpa using ho2) ((((bstep hbi hb1).mono hwo).alloc (by omega) _).trans hb2)
            clear hI hown1 ho2 hb2 hbi hb1 HV
            go_wp2_with fail
            go_roundw
            case rel => exact ⟨_, _, rfl, by simpa using HI2⟩
            case measure => simp [szOf]; omega
    · go_wp2_with fail
      go_ret2
      have h00 : r.size = 0 := by omega
      have hr : bl r = [] := List.eq_nil_of_length_eq_zero (by rw [bl_len]; exact h00)
      obtain ⟨h1, h2, h3, h4, h5⟩ := hI
      rw [hr] at h3 h4
      exact DecPost.mk h1 h2 (by rw [← h3, M.Run_wait (by rfl)]; simp) (by rw [← h4]; rfl)
end Go.Proofs.Ythhjfedegbldfac
