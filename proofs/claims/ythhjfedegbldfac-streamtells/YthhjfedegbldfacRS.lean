/- The contracts of cartoucheref.PointOf and DecodeSingle: each returns what the plain function of its name computes; nothing that was there is written. Condition: at most 3003 bytes. -/
import Derived.Test.YthhjfedegbldfacSA
import Derived.Test.YthhjfedegbldfacLawB
namespace Go.Proofs.Ythhjfedegbldfac
open Go.RowKit Go.Maps
set_option linter.unusedVariables false

set_option maxHeartbeats 400000 in
set_option maxRecDepth 100000 in
theorem pointRef_any (user : Bool) (k : Nat) (w : World) (hk : k < 256) : Calls Try.prog 61 #[.bool user, .int .i64 (k : Int)] w fun e w' => e = .returned (.int .i64 (M.pt user (k : Int))) ∧ Below w.heap.size w w' := by
  by_cases h1 : k < 128
  · have HP := hide (pt_lo user h1)
    go_enter Try.func61, Try.ntmps61
    go_wp2
    go_ret
    exact ⟨ret_int (unhide HP).symm, Below.refl _ _⟩
  · cases user
    · by_cases h2 : k < 160
      · have HP := hide (pt_mid (k := k) (by omega) h2)
        have hsub : (k : Int) - 128 = ((k - 128 : Nat) : Int) := by omega
        have hb32 : k - 128 < 32 := by omega
        obtain ⟨j, HJ⟩ : ∃ j, Hid (k - 128 = j) := ⟨_, rfl⟩
        rw [unhide HJ] at hsub hb32 HP
        go_enter Try.func61, Try.ntmps61
        go_wp2_with fail
        refine (high_any _).mono ?_
        rintro e w1 ⟨rfl, hI1, hz1, hb1⟩
        have hcell := hI1 j hb32
        have hbw : w.heap.size < w1.heap.size := by omega
        obtain ⟨p, HQ⟩ : ∃ p, Hid (M.high.getD j 0 = p) := ⟨_, rfl⟩
        rw [unhide HQ] at hcell HP
        clear hI1
        go_wp2_with fail
        go_ret
        exact ⟨ret_int (unhide HP).symm, hb1⟩
      · have HP := hide (pt_hi (k := k) (by omega))
        go_enter Try.func61, Try.ntmps61
        go_wp2
        go_ret
        exact ⟨ret_int (unhide HP).symm, Below.refl _ _⟩
    · have HP := hide (pt_user (k := k) (by omega))
      go_enter Try.func61, Try.ntmps61
      go_wp2
      go_ret
      exact ⟨ret_int (unhide HP).symm, Below.refl _ _⟩

set_option maxHeartbeats 400000 in
set_option maxRecDepth 100000 in
theorem decRefS_any (user : Bool) (s : ByteArray) (w : World) (hs : s.size ≤ 3003) :
    Calls Try.prog 43 #[.bool user, .string s] w fun e w' => ∃ v, e = .returned v ∧ w'.ownsRow w.heap.size 3 1 v (M.decS user (bl s)).length ((M.decS user (bl s)).map (Value.int .i64)) ∧ Below w.heap.size w w' := by
  have HI : Hid (InS user s w w 0 (.slice none 0 0)) := hide ⟨World.ownsRow_nil _ _ _ _, Below.refl _ _⟩
  go_enter Try.func43, Try.ntmps43
  go_wp2_with fail
  go_loopw [5, 6] (fun v i wr => ∃ k : Nat, k ≤ s.size ∧ i = .int .i64 k ∧ InS user s w wr k v) (fun _ i _ => s.size - (intOf i).toNat)
  case atStart => exact ⟨0, by omega, rfl, unhide HI⟩
  case round =>
    obtain ⟨k, hk, rfl, hI⟩ := hrel
    clear HI
    have hz := hI.2.size
    have hl : Hid ((M.decS user ((bl s).take k)).length = k) := hide (by rw [M.decS_len, List.length_take, bl_len]; omega)
    obtain ⟨ao, cap, hsh⟩ := owns_shape hI.1
    subst hsh
    by_cases hlt : k < s.size
    · obtain ⟨c, hc⟩ : ∃ c : Nat, s[k].toNat = c := ⟨_, rfl⟩
      have hcb : c < 256 := by have := s[k].toNat_lt; omega
      have hci : (s[k].toNat : Int) = (c : Int) := by omega
      have HR := hide (fun w => pointRef_any user c w hcb)
      obtain ⟨p, HP⟩ : ∃ p, Hid (M.pt user (c : Int) = p) := ⟨_, rfl⟩
      rw [unhide HP] at HR
      have HCC := hide hci
      go_wp2_with fail
      refine (unhide HR _).mono ?_
      rintro e w1 ⟨rfl, hb1⟩
      have hz1 := hb1.size
      have ho1 := owns_below hI.1 hb1
      go_wp2_with (at_builtin; refine append_ints rfl (.tmp 13) (.tmp 20) rfl w.heap.size _ (M.decS user ((bl s).take k)) rfl (owns_a ho1 _) _ [p] rfl (one_int _ _) (by rw [unhide hl]; simp; omega) (by simp; omega) ?_)
      intro v2 w2 ho2 hb2
      have HJ : Hid (InS user s w w2 (k + 1) v2) := hide (hI.step hlt (unhide HCC) (unhide HP) (by simpa using ho2) ((hb1.mono hz).trans (((Below.refl _ _).alloc (by omega) _).trans hb2)))
      obtain ⟨ao2, cap2, hsh2⟩ := owns_shape ho2
      subst hsh2
      clear hI ho2 hb2 ho1 hb1
      go_wp2_with fail
      go_roundw
      case rel => exact ⟨k + 1, by omega, by go_num, by simpa using unhide HJ⟩
      case measure => simp [intOf]; omega
    · have HV := hide hI.1
      have et : (bl s).take k = bl s := List.take_of_length_le (by rw [bl_len]; omega)
      rw [et] at HV
      have HB := hide hI.2
      rw [et]
      clear hI et hl
      go_wp2_with fail
      go_ret
      exact ⟨_, rfl, unhide HV, unhide HB⟩

end Go.Proofs.Ythhjfedegbldfac
