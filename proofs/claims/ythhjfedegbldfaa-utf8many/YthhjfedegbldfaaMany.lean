/- Proved: for every text s the law Utf8Many returns true and leaves s as it was. No condition. -/
import Derived.Test.YthhjfedegbldfaaI
import Derived.Test.YthhjfedegbldfaaMathC
import Derived.OpenShut
import Derived.ShutString
import Derived.ChangeOld
namespace Go.Proofs.Ythhjfedegbldfaa.utf8Many
open Go.ChangeShapes Go.WideShapes Go.ChangeAt Go.RowKit
open Go.ChangeMaps (open_string shut_string)
open Go.Proofs.Ythhjfedegbldfaa
set_option linter.unusedVariables false

theorem own : ownKnob Try.prog.godebug = none := by kernel_rfl

theorem bl_byt (s : ByteArray) : M.Byt (bl s) := by
  intro x hx
  simp only [bl, List.mem_map] at hx
  obtain ⟨u, _, rfl⟩ := hx
  have := u.toNat_lt
  omega

set_option maxHeartbeats 400000 in
set_option maxRecDepth 100000 in
theorem walk_long (s : ByteArray) (hs : s.size ≤ maxLen) (w : World) (h : 3000 < s.size) :
    Calls Try.prog 6 #[.string s] w fun e w' => e = .returned (.bool true) ∧ Below w.heap.size w w' := by
  go_enter Try.func6, Try.ntmps6
  go_wp2_with fail
  refine (decode_long s _ h hs).mono ?_
  rintro e w1 ⟨rfl, hw⟩
  replace hw := hw.symm
  subst hw
  go_wp2_with fail
  refine (begun_any _).mono ?_
  rintro e w2 ⟨rfl, hb⟩
  go_wp2_with fail
  go_ret
  exact ⟨rfl, hb⟩

set_option maxHeartbeats 400000 in
set_option maxRecDepth 100000 in
theorem walk_short (s : ByteArray) (w : World) (h : s.size ≤ 3000) :
    Calls Try.prog 6 #[.string s] w fun e w' => e = .returned (.bool true) ∧ Below w.heap.size w w' := by
  have hsc := hide (M.dec_sclr (bl s) (bl_byt s))
  have hln := M.dec_len (bl s)
  rw [bl_len] at hln
  go_enter Try.func6, Try.ntmps6
  go_wp2_with fail
  refine (decode_any s _ h).mono ?_
  rintro e w1 ⟨v, rfl, hI, hb1⟩
  generalize M.dec (bl s) = xs at *
  obtain ⟨ao, cap, hsh, hm, -, hc⟩ := id hI
  subst hsh
  have HC := hide hc
  clear hc hI
  go_wp2_with fail
  refine (begun_any _).mono ?_
  rintro e w2 ⟨rfl, hb2⟩
  go_wp2_with fail
  go_loop [5] (fun i => ∃ k : Nat, k ≤ xs.length ∧ i = .int .i64 k) (fun i => xs.length - (intOf i).toNat)
  case atStart => exact ⟨0, by omega, rfl⟩
  case round =>
    obtain ⟨k, hk, rfl⟩ := hrel
    by_cases hlt : k < xs.length
    · rcases unhide HC with h0 | ⟨b, off, rfl, hc⟩
      · subst h0; simp at hlt
      · have cx : w2.cell? ⟨b, off + k, none⟩ = some (.int .i64 (xs.getD k 0)) := (hb2.cell (p := ⟨b, off + k, none⟩) (World.block_lt_of_cell? w1 _ (hc k hlt))).trans (hc k hlt)
        have hsk : M.sclr (xs.getD k 0) = true := List.all_eq_true.1 (unhide hsc) _ (by simp [hlt])
        have hsk' := (M.sclr_iff _).1 hsk
        generalize xs.getD k 0 = p at *
        clear hc hsk
        obtain ⟨g1, g2, g3⟩ := hsk'
        rcases g3 with g3 | g3
        all_goals
          go_wp2_with fail
          go_round
          case rel => exact ⟨k + 1, by omega, by go_num⟩
          case measure => simp [intOf]; omega
    · go_wp2_with fail
      go_ret
      exact ⟨ret_bool (by simp; omega), bstep hb1 hb2⟩

theorem walk (s : ByteArray) (hs : s.size ≤ maxLen) (w : World) :
    Calls Try.prog 6 #[.string s] w fun e w' => e = .returned (.bool true) ∧ Below w.heap.size w w' := by
  by_cases h : 3000 < s.size
  · exact walk_long s hs w h
  · exact walk_short s w (by omega)

set_option maxRecDepth 100000 in
theorem lifted (os : Os) (started : os.Started) (H : Type) (enc : TypeId × Value → H) :
    ReturnsInHanded {} Try.checked os 6 .any (Rows.utf8ManySpec.pre6 enc Try.prog Try.f6 Rows.utf8ManyRow.domain false) (Rows.utf8ManySpec.post enc Try.prog Try.f6 false true false false) := by
  refine returnsInHanded_of_change (C := Try.checked) own started (by kernel_rfl) Try.func6
    (ChangeSpec.witness6 (enc := enc) (C := Try.checked) false ⟨#[], #[.string ByteArray.empty], []⟩ 8 (by kernel_rfl) (by kernel_rfl) (by kernel_rfl) (by kernel_rfl)) ?_
  intro W base args ds gs before hval0 hW hcnd _
  have hval : ∀ (j : Nat) t v, Try.f6.params[j]? = some t → args[j]? = some v → Value.okWide Try.prog W .any base t v := hval0
  have hW' := hW
  obtain ⟨p, q, hA0, hV, rfl, hfz, hnd⟩ := hW
  have hA : DataW.TrodAll enc Try.prog W 0 (fun _ => true) true Try.f6.params.toList args.toList ds p := hA0
  rw [Try.params6] at hA hval
  obtain ⟨v0, vs0, d0, ds0, p0, q0, hargs, rfl, rfl, h0, r0⟩ := trodAll_cons hA
  obtain ⟨rfl, rfl, rfl⟩ := trodAll_nil r0
  obtain rfl : args = #[v0] := by cases args; simp_all
  obtain ⟨rfl, rfl⟩ := trodVars_none hV
  obtain ⟨a0, rfl, rfl, rfl, w0⟩ := open_string Try.underlying9 (hval 0 9 v0 rfl rfl) h0
  clear hA0 hval0
  refine (walk a0 w0 W).mono fun e W' ⟨he, bel⟩ => ?_
  subst he
  exact ⟨_, rfl, _, _, _, [], _, [], hW', trodAll_mk1 (shut_bool Try.underlying4 _), (trodAll_cons_mk (shut_string Try.underlying9 w0) trodAll_mk0), rfl, bel.frame _, fun h => by cases h⟩

theorem over : Rows.utf8ManyRow.holds Try.pinned (OpenSpec.ofChange Rows.utf8ManySpec) :=
  OpenClaim.holds_of_wide 6 Try.f6 rfl rfl rfl rfl rfl rfl rfl ⟨rfl, rfl, rfl, rfl, rfl⟩ rfl rfl rfl rfl rfl (by kernel_rfl) Try.func6 (by kernel_rfl)
    (of_decide_eq_true (by kernel_rfl)) (by unfold Func.isWrapper; first | (rw [if_pos (by decide +kernel)]; kernel_rfl) | (rw [if_neg (by decide +kernel)]; exact ⟨rfl, rfl⟩))
    (fun os started H enc _ => lifted os started H enc)
end Go.Proofs.Ythhjfedegbldfaa.utf8Many

namespace Go.Proofs.Ythhjfedegbldfaa
theorem utf8Many_holds : Rows.Utf8ManySaid := utf8Many.over
end Go.Proofs.Ythhjfedegbldfaa
