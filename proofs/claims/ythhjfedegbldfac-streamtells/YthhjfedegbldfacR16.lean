/- The contracts of cartoucheref.unitAt and DecodeUtf16: the code points that are told, and the bytes that wait; nothing that was there is written. Condition: at most 3003 bytes. -/
import Derived.Test.YthhjfedegbldfacLawB
import Derived.Test.YthhjfedegbldfacMathQ
namespace Go.Proofs.Ythhjfedegbldfac
open Go.RowKit
set_option linter.unusedVariables false

/-- What a round of DecodeUtf16's loop knows. -/
def InV (big : Bool) (s : ByteArray) (w wr : World) (k : Nat) (xs : List Int) (v : Value) : Prop :=
  wr.ownsRow w.heap.size 3 1 v xs.length (xs.map (Value.int .i64)) ∧ Below w.heap.size w wr ∧ xs.length ≤ k ∧ xs ++ (M.Run (M.f16 big) () ((bl s).drop k)).1 = (M.Run (M.f16 big) () (bl s)).1 ∧ (M.Run (M.f16 big) () ((bl s).drop k)).2.2 = (M.Run (M.f16 big) () (bl s)).2.2
theorem InV.step {big : Bool} {s : ByteArray} {w wr w2 : World} {k : Nat} {xs : List Int} {v v2 : Value} {p : Int} {z : Nat} (h : InV big s w wr k xs v) (hn : M.f16 big () ((bl s).drop k) = some ([p], z, ())) (hz : 1 ≤ z)
    (ho : w2.ownsRow w.heap.size 3 1 v2 (xs ++ [p]).length ((xs ++ [p]).map (Value.int .i64))) (hb : Below w.heap.size wr w2) : InV big s w w2 (k + z) (xs ++ [p]) v2 := by
  obtain ⟨h1, h2, h3, h4, h5⟩ := h
  have e := M.Run_step (M.f16_steps big) hn
  rw [List.drop_drop] at e
  refine ⟨ho, h2.trans hb, by simp; omega, ?_, ?_⟩
  · rw [← h4, e]; simp
  · rw [← h5, e]

set_option maxHeartbeats 400000 in
set_option maxRecDepth 100000 in
theorem unitAt_any (big : Bool) (s : ByteArray) (k : Nat) (a b : Int) (w : World) (hs : s.size ≤ 3003) (hk : k + 1 < s.size) (ha : ((s[k]'(by omega)).toNat : Int) = a) (hb : ((s[k + 1]'(by omega)).toNat : Int) = b) :
    Calls Try.prog 40 #[.bool big, .string s, .int .i64 (k : Int)] w fun e w' => e = .returned (.int .i64 (M.ut big a b)) ∧ ∃ m, w' = w.drewN m := by
  have ha0 : 0 ≤ a ∧ a < 256 := by have := (s[k]'(by omega)).toNat_lt; omega
  have hb0 : 0 ≤ b ∧ b < 256 := by have := (s[k + 1]'(by omega)).toNat_lt; omega
  have hk' : k < s.size := by omega
  have hkI : (k : Int) < (s.size : Int) := by omega
  have hkJ : (k : Int) + 1 < (s.size : Int) := by omega
  cases big
  · go_enter Try.func40, Try.ntmps40
    go_wp2_with fail
    go_quiet (fail)
    go_wp2_with fail
    go_ret
    exact ⟨ret_int (by simp [M.ut]; omega), _, rfl⟩
  · go_enter Try.func40, Try.ntmps40
    go_wp2_with fail
    go_quiet (fail)
    go_wp2_with fail
    go_ret
    exact ⟨ret_int (by simp [M.ut]; omega), _, rfl⟩

/-- What DecodeUtf16 answers. -/
def DecPost16 (big : Bool) (s : ByteArray) (w : World) (e : Ending) (w' : World) : Prop :=
  ∃ v rr, e = .returned (.tuple #[v, .string rr]) ∧ w'.ownsRow w.heap.size 3 1 v (M.Run (M.f16 big) () (bl s)).1.length ((M.Run (M.f16 big) () (bl s)).1.map (Value.int .i64)) ∧ Below w.heap.size w w' ∧ bl rr = (M.Run (M.f16 big) () (bl s)).2.2
theorem DecPost16.mk {big : Bool} {s : ByteArray} {w wr : World} {k : Nat} {xs : List Int} {v : Value} (q : Nat) (h : InV big s w wr k xs v) (hd : M.f16 big () ((bl s).drop k) = none) :
    DecPost16 big s w (.returned (.tuple #[v, .string (s.extract k s.size)])) (wr.drewN q) := by
  obtain ⟨h1, h2, h3, h4, h5⟩ := h
  rw [M.Run_wait hd] at h4 h5
  have h4' : xs = (M.Run (M.f16 big) () (bl s)).1 := by rw [← h4]; simp
  refine ⟨v, _, rfl, ?_, below_drewN h2 q, ?_⟩
  · rw [← h4']; exact owns_below h1 (below_drewN (Below.refl _ _) q)
  · rw [bl_extract]; exact h5
theorem InV.drew {big : Bool} {s : ByteArray} {w wr : World} {k : Nat} {xs : List Int} {v : Value} (h : InV big s w wr k xs v) (m : Nat) : InV big s w (wr.drewN m) k xs v :=
  ⟨owns_below h.1 (below_drewN (Below.refl _ _) m), below_drewN h.2.1 m, h.2.2⟩

set_option maxHeartbeats 1000000 in
set_option maxRecDepth 100000 in
theorem decRef16_any (big : Bool) (s : ByteArray) (w : World) (hs : s.size ≤ 3003) : Calls Try.prog 42 #[.bool big, .string s] w (DecPost16 big s w) := by
  have HI : InV big s w w 0 [] (.slice none 0 0) := ⟨World.ownsRow_nil _ _ _ _, Below.refl _ _, Nat.le_refl _, by simp, by simp⟩
  go_enter Try.func42, Try.ntmps42
  go_wp2_with fail
  go_loopw [6, 7] (fun v i wr => ∃ (k : Nat) (xs : List Int), k ≤ s.size ∧ i = .int .i64 k ∧ InV big s w wr k xs v) (fun _ i _ => s.size - (intOf i).toNat)
  case atStart => exact ⟨0, [], by omega, rfl, HI⟩
  case round =>
    obtain ⟨k, xs, hk, rfl, hI⟩ := hrel
    clear HI
    have hsz := hI.2.1.size
    have hxs := hI.2.2.1
    obtain ⟨ao, cap, hsh⟩ := owns_shape hI.1
    subst hsh
    by_cases hks : k + 2 ≤ s.size
    · have hkI : (k : Int) + 2 ≤ (s.size : Int) := by omega
      obtain ⟨a, HA⟩ : ∃ a, Hid (((s[k]'(by omega)).toNat : Int) = a) := ⟨_, hide rfl⟩
      obtain ⟨b, HB⟩ : ∃ b, Hid (((s[k + 1]'(by omega)).toNat : Int) = b) := ⟨_, hide rfl⟩
      have ha0 : 0 ≤ a ∧ a < 256 := by have := unhide HA; have := (s[k]'(by omega)).toNat_lt; omega
      have hb0 : 0 ≤ b ∧ b < 256 := by have := unhide HB; have := (s[k + 1]'(by omega)).toNat_lt; omega
      have HD : Hid ((bl s).drop k = a :: b :: (bl s).drop (k + 2)) := by
        have e1 := bl_drop s k (by omega)
        have e2 := bl_drop s (k + 1) (by omega)
        rw [unhide HA] at e1
        rw [unhide HB] at e2
        exact hide (by rw [e1, e2])
      have R1 := hide (fun w => unitAt_any big s k a b w hs (by omega) HA HB)
      obtain ⟨u, HU⟩ : ∃ u, Hid (M.ut big a b = u) := ⟨_, rfl⟩
      have hu : 0 ≤ u ∧ u < 65536 := by have := unhide HU; unfold M.ut at this; split at this <;> omega
      rw [unhide HU] at R1
      by_cases hf : 55296 ≤ u ∧ u < 56320
      · have HF : Hid (M.fst16 u = true) := hide (by simp [M.fst16]; omega)
        have hb1 : (decide (55296 ≤ u) && decide (u ≤ 56319)) = true := by simp; omega
        by_cases h4 : k + 4 ≤ s.size
        · have h4I : (k : Int) + 4 ≤ (s.size : Int) := by omega
          obtain ⟨c, HC⟩ : ∃ c, Hid (((s[k + 2]'(by omega)).toNat : Int) = c) := ⟨_, hide rfl⟩
          obtain ⟨d, HE⟩ : ∃ d, Hid (((s[k + 2 + 1]'(by omega)).toNat : Int) = d) := ⟨_, hide rfl⟩
          have hc0 : 0 ≤ c ∧ c < 256 := by have := unhide HC; have := (s[k + 2]'(by omega)).toNat_lt; omega
          have hd0 : 0 ≤ d ∧ d < 256 := by have := unhide HE; have := (s[k + 2 + 1]'(by omega)).toNat_lt; omega
          replace HD : Hid ((bl s).drop k = a :: b :: c :: d :: (bl s).drop (k + 4)) := by
            have e1 := bl_drop s (k + 2) (by omega)
            have e2 := bl_drop s (k + 2 + 1) (by omega)
            rw [unhide HC] at e1
            rw [unhide HE] at e2
            exact hide (by rw [unhide HD, e1, e2])
          have R2 : Hid (∀ w : World, Calls Try.prog 40 #[.bool big, .string s, .int .i64 ((k : Int) + 2)] w fun e w' => e = .returned (.int .i64 (M.ut big c d)) ∧ ∃ m, w' = w.drewN m) :=
            hide (fun w => unitAt_any big s (k + 2) c d w hs (by omega) HC HE)
          obtain ⟨v, HV⟩ : ∃ v, Hid (M.ut big c d = v) := ⟨_, rfl⟩
          have hv : 0 ≤ v ∧ v < 65536 := by have := unhide HV; unfold M.ut at this; split at this <;> omega
          rw [unhide HV] at R2
          by_cases hg : 56320 ≤ v ∧ v < 57344
          · have HN : Hid (M.f16 big () ((bl s).drop k) = some ([65536 + 1024 * (u - 55296) + v - 56320], 4, ())) := by
              have h1 := unhide HU
              have h2 := unhide HF
              have h3 := unhide HV
              have h4 : M.snd16 v = true := by simp [M.snd16]; omega
              exact hide (by rw [unhide HD]; simp [M.f16, h1, h2, h3, h4]; omega)
            have hb2 : (decide (56320 ≤ v) && decide (v ≤ 57343)) = true := by simp; omega
            go_wp2_with fail
            refine (unhide R1 _).mono ?_
            rintro e w1 ⟨rfl, m1, rfl⟩
            go_wp2_with fail
            refine (between_any _ _ _ _).mono ?_
            rintro e w1 ⟨rfl, hw⟩
            replace hw := hw.symm
            subst hw
            rw [hb1]
            go_wp2_with fail
            refine (unhide R2 _).mono ?_
            rintro e w1 ⟨rfl, m2, rfl⟩
            go_wp2_with fail
            refine (between_any _ _ _ _).mono ?_
            rintro e w1 ⟨rfl, hw⟩
            replace hw := hw.symm
            subst hw
            rw [hb2]
            go_wp2_with (at_builtin; refine append_ints rfl (.tmp 33) (.tmp 41) rfl w.heap.size _ xs rfl (owns_da hI.1 _ _) _ [65536 + 1024 * (u - 55296) + v - 56320] rfl (one_int _ _) (by simp; omega) (by simp; omega) ?_)
            intro v2 w2 ho2 hb2
            have HI := hI.step (v2 := v2) HN (by omega) (by simpa using ho2) (((below_drewN (Below.refl _ _) _).alloc hsz _).trans hb2)
            obtain ⟨ao2, cap2, hsh2⟩ := owns_shape ho2
            subst hsh2
            clear hI ho2 hb2
            go_wp2_with fail
            go_roundw
            case rel => exact ⟨k + 4, _, by omega, by go_num, HI⟩
            case measure => simp [intOf]; omega
          · have HN : Hid (M.f16 big () ((bl s).drop k) = some ([65533], 2, ())) := by
              have h1 := unhide HU
              have h2 := unhide HF
              have h3 := unhide HV
              have h4 : M.snd16 v = false := by simp [M.snd16]; omega
              exact hide (by rw [unhide HD]; simp [M.f16, h1, h2, h3, h4])
            have hb2 : (decide (56320 ≤ v) && decide (v ≤ 57343)) = false := by simp; omega
            have hb3 : (decide (55296 ≤ u) && decide (u ≤ 57343)) = true := by simp; omega
            go_wp2_with fail
            refine (unhide R1 _).mono ?_
            rintro e w1 ⟨rfl, m1, rfl⟩
            go_wp2_with fail
            refine (between_any _ _ _ _).mono ?_
            rintro e w1 ⟨rfl, hw⟩
            replace hw := hw.symm
            subst hw
            rw [hb1]
            go_wp2_with fail
            refine (unhide R2 _).mono ?_
            rintro e w1 ⟨rfl, m2, rfl⟩
            go_wp2_with fail
            refine (between_any _ _ _ _).mono ?_
            rintro e w1 ⟨rfl, hw⟩
            replace hw := hw.symm
            subst hw
            rw [hb2]
            go_wp2_with fail
            refine (between_any _ _ _ _).mono ?_
            rintro e w1 ⟨rfl, hw⟩
            replace hw := hw.symm
            subst hw
            rw [hb3]
            go_wp2_with (at_builtin; refine append_ints rfl (.tmp 47) (.tmp 49) rfl w.heap.size _ xs rfl (owns_da hI.1 _ _) _ [65533] rfl (one_int _ _) (by simp; omega) (by simp; omega) ?_)
            intro v2 w2 ho2 hb2
            have HI := hI.step (v2 := v2) HN (by omega) (by simpa using ho2) (((below_drewN (Below.refl _ _) _).alloc hsz _).trans hb2)
            obtain ⟨ao2, cap2, hsh2⟩ := owns_shape ho2
            subst hsh2
            clear hI ho2 hb2
            go_wp2_with fail
            go_roundw
            case rel => exact ⟨k + 2, _, by omega, by go_num, HI⟩
            case measure => simp [intOf]; omega
        · have h4I : (s.size : Int) < (k : Int) + 4 := by omega
          have HX : Hid (M.f16 big () ((bl s).drop k) = none) := by
            have h1 := unhide HU
            have h2 := unhide HF
            have hl : ((bl s).drop (k + 2)).length = s.size - (k + 2) := by simp [bl_len]
            refine hide ?_
            rw [unhide HD]
            generalize (bl s).drop (k + 2) = t at hl
            match t, hl with
            | [], _ => simp [M.f16, h1, h2]
            | [c], _ => simp [M.f16, h1, h2]
            | _ :: _ :: _, hl => simp at hl; omega
          go_wp2_with fail
          refine (unhide R1 _).mono ?_
          rintro e w1 ⟨rfl, m1, rfl⟩
          go_wp2_with fail
          refine (between_any _ _ _ _).mono ?_
          rintro e w1 ⟨rfl, hw⟩
          replace hw := hw.symm
          subst hw
          rw [hb1]
          go_wp2_with fail
          go_quiet (fail)
          go_wp2_with fail
          go_ret2
          exact DecPost16.mk _ (hI.drew m1) (unhide HX)
      · have HF : Hid (M.fst16 u = false) := hide (by simp [M.fst16]; omega)
        have hb1 : (decide (55296 ≤ u) && decide (u ≤ 56319)) = false := by simp; omega
        have HN : Hid (M.f16 big () ((bl s).drop k) = some ([M.aln u], 2, ())) := by
          have h1 := unhide HU
          have h2 := unhide HF
          refine hide ?_
          rw [unhide HD]
          generalize (bl s).drop (k + 2) = t
          match t with
          | [] => simp [M.f16, h1, h2]
          | [_] => simp [M.f16, h1, h2]
          | _ :: _ :: _ => simp [M.f16, h1, h2]
        by_cases hg : 55296 ≤ u ∧ u ≤ 57343
        · have hb3 : (decide (55296 ≤ u) && decide (u ≤ 57343)) = true := by simp; omega
          have HA : M.aln u = 65533 := by have : M.snd16 u = true := by simp [M.snd16]; omega
                                          simp [M.aln, this]
          rw [HA] at HN
          clear HA
          go_wp2_with fail
          refine (unhide R1 _).mono ?_
          rintro e w1 ⟨rfl, m1, rfl⟩
          go_wp2_with fail
          refine (between_any _ _ _ _).mono ?_
          rintro e w1 ⟨rfl, hw⟩
          replace hw := hw.symm
          subst hw
          rw [hb1]
          go_wp2_with fail
          refine (between_any _ _ _ _).mono ?_
          rintro e w1 ⟨rfl, hw⟩
          replace hw := hw.symm
          subst hw
          rw [hb3]
          go_wp2_with (at_builtin; refine append_ints rfl (.tmp 47) (.tmp 49) rfl w.heap.size _ xs rfl (owns_da hI.1 _ _) _ [65533] rfl (one_int _ _) (by simp; omega) (by simp; omega) ?_)
          intro v2 w2 ho2 hb2
          have HI := hI.step (v2 := v2) HN (by omega) (by simpa using ho2) (((below_drewN (Below.refl _ _) _).alloc hsz _).trans hb2)
          obtain ⟨ao2, cap2, hsh2⟩ := owns_shape ho2
          subst hsh2
          clear hI ho2 hb2
          go_wp2_with fail
          go_roundw
          case rel => exact ⟨k + 2, _, by omega, by go_num, HI⟩
          case measure => simp [intOf]; omega
        · have hb3 : (decide (55296 ≤ u) && decide (u ≤ 57343)) = false := by simp; omega
          have HA : M.aln u = u := by have : M.snd16 u = false := by simp [M.snd16]; omega
                                      simp [M.aln, this]
          rw [HA] at HN
          clear HA
          go_wp2_with fail
          refine (unhide R1 _).mono ?_
          rintro e w1 ⟨rfl, m1, rfl⟩
          go_wp2_with fail
          refine (between_any _ _ _ _).mono ?_
          rintro e w1 ⟨rfl, hw⟩
          replace hw := hw.symm
          subst hw
          rw [hb1]
          go_wp2_with fail
          refine (between_any _ _ _ _).mono ?_
          rintro e w1 ⟨rfl, hw⟩
          replace hw := hw.symm
          subst hw
          rw [hb3]
          go_wp2_with (at_builtin; refine append_ints rfl (.tmp 47) (.tmp 49) rfl w.heap.size _ xs rfl (owns_da hI.1 _ _) _ [u] rfl (one_int _ _) (by simp; omega) (by simp; omega) ?_)
          intro v2 w2 ho2 hb2
          have HI := hI.step (v2 := v2) HN (by omega) (by simpa using ho2) (((below_drewN (Below.refl _ _) _).alloc hsz _).trans hb2)
          obtain ⟨ao2, cap2, hsh2⟩ := owns_shape ho2
          subst hsh2
          clear hI ho2 hb2
          go_wp2_with fail
          go_roundw
          case rel => exact ⟨k + 2, _, by omega, by go_num, HI⟩
          case measure => simp [intOf]; omega
    · have HX : Hid (M.f16 big () ((bl s).drop k) = none) := by
        have hl : ((bl s).drop k).length = s.size - k := by simp [bl_len]
        refine hide ?_
        generalize (bl s).drop k = t at hl
        match t, hl with
        | [], hl => rfl
        | [c], hl => rfl
        | _ :: _ :: _, hl => simp at hl; omega
      have hkI : ¬ (k : Int) + 2 ≤ (s.size : Int) := by omega
      go_wp2_with fail
      go_quiet (fail)
      go_wp2_with fail
      go_ret2
      exact DecPost16.mk _ hI (unhide HX)
end Go.Proofs.Ythhjfedegbldfac
