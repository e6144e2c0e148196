/- The contracts of api.High, single.pointsOf and single.Decode: each returns what the plain function of its name computes, in new memory; nothing that was there is written. -/
import Derived.Test.YtpjhcecfcjbgoaaBase
import Derived.Test.YtpjhcecfcjbgoaaMathS
namespace Go.Proofs.Ytpjhcecfcjbgoaa
open Go.RowKit
set_option linter.unusedVariables false

/-- The cells of a row that is written out. -/
theorem row_ints (w : World) (xs : List Int) (hm : xs.length ≤ maxLen) : Ints (w.alloc (.cells (xs.map (Value.int .i64)).toArray 3)) (.slice (some ⟨w.heap.size, 0, none⟩) xs.length xs.length) xs := by
  refine ⟨_, xs.length, rfl, hm, (fun e => by cases e), .inr ⟨_, _, rfl, ?_⟩⟩
  intro i hi
  have h := heap_alloc_new w (.cells (xs.map (Value.int .i64)).toArray 3)
  simp only [World.cell?, h]
  simp [hi]

set_option maxHeartbeats 400000 in
set_option maxRecDepth 100000 in
theorem high_any (w : World) : Calls Try.prog 44 #[] w fun e w' => e = .returned (.slice (some ⟨w.heap.size, 0, none⟩) 32 32) ∧ (∀ i, i < 32 → w'.cell? ⟨w.heap.size, i, none⟩ = some (.int .i64 (M.high.getD i 0))) ∧ w.heap.size + 1 ≤ w'.heap.size ∧ Below w.heap.size w w' := by
  go_enter Try.func44, Try.ntmps44
  go_wp2
  go_ret
  refine ⟨rfl, fun i hi => ?_, by simp, balloc _ _⟩
  have h := heap_alloc_new w (.cells (M.high.map (Value.int .i64)).toArray 3)
  have hl : i < M.high.length := hi
  show (w.alloc (.cells (M.high.map (Value.int .i64)).toArray 3)).cell? ⟨w.heap.size, i, none⟩ = _
  simp only [World.cell?, h]
  simp [hl]

theorem pt_lo (user : Bool) {k : Nat} (h : k < 128) : M.pt user k = k := by unfold M.pt; rw [if_pos (by omega)]
theorem pt_user {k : Nat} (h : 128 ≤ k) : M.pt true k = 63232 + k := by unfold M.pt; rw [if_neg (by omega)]; rfl
theorem pt_mid {k : Nat} (h : 128 ≤ k) (h' : k < 160) : M.pt false k = M.high.getD (k - 128) 0 := by
  have e : ((k : Int) - 128).toNat = k - 128 := by omega
  unfold M.pt; rw [if_neg (by omega), if_neg (by simp), if_pos (by omega), e]
theorem pt_hi {k : Nat} (h : 160 ≤ k) : M.pt false k = k := by unfold M.pt; rw [if_neg (by omega), if_neg (by simp), if_neg (by omega)]

/-- What a round of pointsOf knows: the table so far, and High's row. -/
def InP (user : Bool) (w wr : World) (k : Nat) (v : Value) : Prop :=
  wr.ownsRow (w.heap.size + 1) 3 1 v (M.tblOf user k).length ((M.tblOf user k).map (Value.int .i64)) ∧ Below w.heap.size w wr ∧ w.heap.size + 1 ≤ wr.heap.size ∧ (∀ i, i < 32 → wr.cell? ⟨w.heap.size, i, none⟩ = some (.int .i64 (M.high.getD i 0)))

theorem InP.step {user : Bool} {w wr w2 : World} {k : Nat} {v v2 : Value} (p : Int) (h : InP user w wr k v) (hp : M.pt user k = p)
    (ho : w2.ownsRow (w.heap.size + 1) 3 1 v2 (M.tblOf user k ++ [p]).length ((M.tblOf user k ++ [p]).map (Value.int .i64))) (hb : Below (w.heap.size + 1) wr w2) : InP user w w2 (k + 1) v2 := by
  obtain ⟨h1, h2, h3, h4⟩ := h
  have := hb.size
  refine ⟨?_, h2.trans (hb.mono (Nat.le_succ _)), by omega, fun i hi => (hb.cell (p := ⟨w.heap.size, i, none⟩) (Nat.lt_succ_self _)).trans (h4 i hi)⟩
  rw [M.tblOf_snoc, hp]; exact ho

set_option maxHeartbeats 400000 in
set_option maxRecDepth 100000 in
theorem pointsOf_any (user : Bool) (w : World) : Calls Try.prog 29 #[.bool user] w fun e w' => ∃ v, e = .returned v ∧ Ints w' v (M.tblOf user 256) ∧ Below w.heap.size w w' := by
  go_enter Try.func29, Try.ntmps29
  go_wp2_with fail
  refine (high_any _).mono ?_
  rintro e w1 ⟨rfl, hI1, hz1, hb1⟩
  have HI : Hid (InP user w w1 0 (.slice none 0 0)) := hide ⟨World.ownsRow_nil _ _ _ _, hb1, hz1, hI1⟩
  clear hI1 hb1 hz1
  go_wp2_with fail
  go_loopw [4, 7] (fun v i wr => ∃ k : Nat, k ≤ 256 ∧ i = .int .i64 k ∧ InP user w wr k v) (fun _ i _ => 256 - (intOf i).toNat)
  case atStart => exact ⟨0, by omega, rfl, unhide HI⟩
  case round =>
    obtain ⟨k, hk, rfl, hI⟩ := hrel
    clear HI
    have hz := hI.2.2.1
    have hl := hide (M.tblOf_len user k)
    obtain ⟨ao, cap, hsh⟩ := owns_shape hI.1
    subst hsh
    by_cases hlt : k < 256
    · by_cases h1 : k < 128
      · go_wp2_with (at_builtin; refine append_ints rfl (.tmp 10) (.tmp 12) rfl (w.heap.size + 1) _ (M.tblOf user k) rfl (owns_a hI.1 _) _ [(k : Int)] rfl (one_int _ _) (by simp [M.tblOf_len]; omega) (by simp; omega) ?_)
        intro v2 w2 ho2 hb2
        have HJ : Hid (InP user w w2 (k + 1) v2) := hide (hI.step ((k : Int)) (pt_lo user h1) (by simpa using ho2) (((Below.refl _ _).alloc hI.2.2.1 _).trans hb2))
        obtain ⟨ao2, cap2, hsh2⟩ := owns_shape ho2
        subst hsh2
        clear hI ho2 hb2
        go_wp2_with fail
        go_roundw
        case rel => exact ⟨k + 1, by omega, by go_num, by simpa using unhide HJ⟩
        case measure => simp [intOf]; omega
      · cases user
        · by_cases h2 : k < 160
          · have hcell : wr.cell? ⟨w.heap.size, k - 128, none⟩ = some (.int .i64 (M.high.getD (k - 128) 0)) := hI.2.2.2 (k - 128) (by omega)
            have hsub : (k : Int) - 128 = ((k - 128 : Nat) : Int) := by omega
            have hb32 : k - 128 < 32 := by omega
            have HP := hide (pt_mid (k := k) (by omega) h2)
            obtain ⟨j, HJ⟩ : ∃ j, Hid (k - 128 = j) := ⟨_, rfl⟩
            rw [unhide HJ] at hcell hsub hb32 HP
            have hbw : w.heap.size < wr.heap.size := by omega
            obtain ⟨p, HQ⟩ : ∃ p, Hid (M.high.getD j 0 = p) := ⟨_, rfl⟩
            rw [unhide HQ] at hcell HP
            go_wp2_with (at_builtin; refine append_ints rfl (.tmp 33) (.tmp 39) rfl (w.heap.size + 1) _ (M.tblOf false k) rfl (owns_a hI.1 _) _ [p] rfl (one_int _ _) (by simp [M.tblOf_len]; omega) (by simp; omega) ?_)
            intro v2 w2 ho2 hb2
            have HJ : Hid (InP false w w2 (k + 1) v2) := hide (hI.step (p) (unhide HP) (by simpa using ho2) (((Below.refl _ _).alloc hI.2.2.1 _).trans hb2))
            obtain ⟨ao2, cap2, hsh2⟩ := owns_shape ho2
            subst hsh2
            clear hI ho2 hb2
            go_wp2_with fail
            go_roundw
            case rel => exact ⟨k + 1, by omega, by go_num, by simpa using unhide HJ⟩
            case measure => simp [intOf]; omega
          · go_wp2_with (at_builtin; refine append_ints rfl (.tmp 10) (.tmp 12) rfl (w.heap.size + 1) _ (M.tblOf false k) rfl (owns_a hI.1 _) _ [(k : Int)] rfl (one_int _ _) (by simp [M.tblOf_len]; omega) (by simp; omega) ?_)
            intro v2 w2 ho2 hb2
            have HJ : Hid (InP false w w2 (k + 1) v2) := hide (hI.step ((k : Int)) (pt_hi (by omega)) (by simpa using ho2) (((Below.refl _ _).alloc hI.2.2.1 _).trans hb2))
            obtain ⟨ao2, cap2, hsh2⟩ := owns_shape ho2
            subst hsh2
            clear hI ho2 hb2
            go_wp2_with fail
            go_roundw
            case rel => exact ⟨k + 1, by omega, by go_num, by simpa using unhide HJ⟩
            case measure => simp [intOf]; omega
        · go_wp2_with (at_builtin; refine append_ints rfl (.tmp 20) (.tmp 24) rfl (w.heap.size + 1) _ (M.tblOf true k) rfl (owns_a hI.1 _) _ [63360 + (k : Int) - 128] rfl (one_int _ _) (by simp [M.tblOf_len]; omega) (by simp; omega) ?_)
          intro v2 w2 ho2 hb2
          have HJ : Hid (InP true w w2 (k + 1) v2) := hide (hI.step (63360 + (k : Int) - 128) (by rw [pt_user (by omega)]; omega) (by simpa using ho2) (((Below.refl _ _).alloc hI.2.2.1 _).trans hb2))
          obtain ⟨ao2, cap2, hsh2⟩ := owns_shape ho2
          subst hsh2
          clear hI ho2 hb2
          go_wp2_with fail
          go_roundw
          case rel => exact ⟨k + 1, by omega, by go_num, by simpa using unhide HJ⟩
          case measure => simp [intOf]; omega
    · have ek : k = 256 := by omega
      subst ek
      have HV := hide (Ints.of_owns hI.1)
      have HB := hide hI.2.1
      clear hI
      go_wp2_with fail
      go_ret
      exact ⟨_, rfl, unhide HV, unhide HB⟩

/-- What a round of single.Decode's loop knows. -/
def InS (user : Bool) (s : ByteArray) (w wr : World) (k : Nat) (v : Value) : Prop :=
  wr.ownsRow w.heap.size 3 1 v (M.decS user ((bl s).take k)).length ((M.decS user ((bl s).take k)).map (Value.int .i64)) ∧ Below w.heap.size w wr

theorem InS.step {user : Bool} {s : ByteArray} {w wr w2 : World} {k : Nat} {v v2 : Value} {c p : Int} (h : InS user s w wr k v) (hk : k < s.size) (hc : (s[k].toNat : Int) = c) (hp : M.pt user c = p)
    (ho : w2.ownsRow w.heap.size 3 1 v2 (M.decS user ((bl s).take k) ++ [p]).length ((M.decS user ((bl s).take k) ++ [p]).map (Value.int .i64))) (hb : Below w.heap.size wr w2) : InS user s w w2 (k + 1) v2 := by
  have e : M.decS user ((bl s).take (k + 1)) = M.decS user ((bl s).take k) ++ [p] := by
    rw [List.take_succ_eq_append_getElem (by rw [bl_len]; exact hk), M.decS_app]
    congr 1
    have : (bl s)[k]'(by rw [bl_len]; exact hk) = c := by
      have := bl_get s k hk
      rw [List.getElem?_eq_getElem (by rw [bl_len]; exact hk)] at this
      rw [← hc]; exact Option.some.inj this
    rw [this]; simp [M.decS, hp]
  refine ⟨?_, h.2.trans hb⟩
  rw [e]; exact ho

set_option maxHeartbeats 400000 in
set_option maxRecDepth 100000 in
theorem decS_in (user : Bool) (s : ByteArray) (B : Nat) (w : World) (hs : s.size ≤ 3000) (hB : w.cell? ⟨B, 0, none⟩ = some (.bool user)) :
    Calls Try.prog 28 #[.string s, .pointer (some ⟨B, 0, none⟩)] w fun e w' => ∃ v, e = .returned v ∧ Ints w' v (M.decS user (bl s)) ∧ Below w.heap.size w w' := by
  go_enter Try.func28, Try.ntmps28
  go_wp2_with fail
  refine (pointsOf_any user _).mono ?_
  rintro e w1 ⟨v1, rfl, hI1, hb1⟩
  obtain ⟨ao1, cap1, hsh1, -, -, hc1⟩ := hI1
  subst hsh1
  rw [M.tblOf_len]
  rw [M.tblOf_len] at hc1
  obtain ⟨b, off, rfl, hcc⟩ : ∃ b off, ao1 = some ⟨b, off, none⟩ ∧ ∀ i, i < 256 → w1.cell? ⟨b, off + i, none⟩ = some (.int .i64 ((M.tblOf user 256).getD i 0)) := by
    rcases hc1 with h | h
    · have := congrArg List.length h; rw [M.tblOf_len] at this; simp at this
    · exact h
  have hbl : b < w1.heap.size := World.block_lt_of_cell? w1 _ (hcc 0 (by omega))
  have HC := hide hcc
  have HI : Hid (InS user s w1 w1 0 (.slice none 0 0)) := hide ⟨World.ownsRow_nil _ _ _ _, Below.refl _ _⟩
  clear hc1 hcc hB
  go_wp2_with fail
  go_loopw [5, 11] (fun v i wr => ∃ k : Nat, k ≤ s.size ∧ i = .int .i64 k ∧ InS user s w1 wr k v) (fun _ i _ => s.size - (intOf i).toNat)
  case atStart => exact ⟨0, by omega, rfl, unhide HI⟩
  case round =>
    obtain ⟨k, hk, rfl, hI⟩ := hrel
    clear HI
    have hz := hI.2.size
    have hl : Hid ((M.decS user ((bl s).take k)).length = k) := hide (by rw [M.decS_len, List.length_take, bl_len]; omega)
    obtain ⟨ao, cap, hsh⟩ := owns_shape hI.1
    subst hsh
    by_cases hlt : k < s.size
    · obtain ⟨c, hc⟩ : ∃ c : Nat, s[k].toNat = c := ⟨_, rfl⟩
      have hcb : c < 256 := by have := s[k].toNat_lt; omega
      have hcell : wr.cell? ⟨b, off + c, none⟩ = some (.int .i64 (M.pt user (c : Int))) := by
        rw [hI.2.cell (p := ⟨b, off + c, none⟩) hbl, unhide HC c hcb, M.tblOf_get user hcb]
      have hci : (s[k].toNat : Int) = (c : Int) := by omega
      have hbr : b < wr.heap.size := by omega
      obtain ⟨p, HP⟩ : ∃ p, Hid (M.pt user (c : Int) = p) := ⟨_, rfl⟩
      rw [unhide HP] at hcell
      have HCC := hide hci
      go_wp2_with (at_builtin; refine append_ints rfl (.tmp 14) (.tmp 21) rfl w1.heap.size _ (M.decS user ((bl s).take k)) rfl (owns_a hI.1 _) _ [p] rfl (one_int _ _) (by rw [unhide hl]; simp; omega) (by simp; omega) ?_)
      intro v2 w2 ho2 hb2
      have HJ : Hid (InS user s w1 w2 (k + 1) v2) := hide (hI.step hlt (unhide HCC) (unhide HP) (by simpa using ho2) (((Below.refl _ _).alloc hz _).trans hb2))
      obtain ⟨ao2, cap2, hsh2⟩ := owns_shape ho2
      subst hsh2
      clear hI ho2 hb2
      go_wp2_with fail
      go_roundw
      case rel => exact ⟨k + 1, by omega, by go_num, by simpa using unhide HJ⟩
      case measure => simp [intOf]; omega
    · have ek : k = s.size := by omega
      have HV := hide (Ints.of_owns hI.1)
      have et : (bl s).take k = bl s := List.take_of_length_le (by rw [bl_len]; omega)
      rw [et] at HV
      have HB := hide (bstep hb1 hI.2)
      rw [et]
      clear hI et hl
      go_wp2_with fail
      go_ret
      exact ⟨_, rfl, unhide HV, unhide HB⟩

set_option maxHeartbeats 400000 in
set_option maxRecDepth 100000 in
theorem decodeS_any (user : Bool) (s : ByteArray) (w : World) (hs : s.size ≤ 3000) :
    Calls Try.prog 15 #[.bool user, .string s] w fun e w' => ∃ v, e = .returned (.tuple #[v, .int .i64 0]) ∧ Ints w' v (M.decS user (bl s)) ∧ Below w.heap.size w w' := by
  go_enter Try.func15, Try.ntmps15
  go_wp2_with (first | (go_at_call 28; refine (decS_in user _ _ _ hs (by simp)).mono ?_; rintro e w1 ⟨v, rfl, hI, hb⟩; have HI := hide hI; have HB := hide (bstep (balloc _ _) hb); obtain ⟨ao, cap, rfl, _⟩ := hI; clear hb) | go_in)
  go_ret2
  exact ⟨_, rfl, unhide HI, unhide HB⟩

set_option maxHeartbeats 400000 in
set_option maxRecDepth 100000 in
theorem decodeS_long (user : Bool) (s : ByteArray) (w : World) (hs : 3000 < s.size) (hm : s.size ≤ maxLen) :
    Calls Try.prog 15 #[.bool user, .string s] w fun e w' => e = .returned (.tuple #[.slice none 0 0, .int .i64 2]) ∧ Below w.heap.size w w' := by
  unfold maxLen at hm
  go_enter Try.func15, Try.ntmps15
  go_wp2
  go_ret2
  exact ⟨rfl, balloc _ _⟩
end Go.Proofs.Ytpjhcecfcjbgoaa
