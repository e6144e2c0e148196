/- The contracts of cartoucheref.isBegun and valueOf at the beginning of a text. Condition: all bytes but the last begin a scalar and are not all of it. -/
import Derived.Test.YthhjfedegbldfaaL
namespace Go.Proofs.Ythhjfedegbldfaa
open Go.RowKit
set_option linter.unusedVariables false

theorem bl_get (s : ByteArray) (i : Nat) (h : i < s.size) : (bl s)[i]? = some (s[i].toNat : Int) := by
  have h' : i < (bl s).length := by rw [bl_len]; exact h
  rw [List.getElem?_eq_getElem h']
  simp [bl]; rfl

theorem isBegun_list (s : ByteArray) (m : List Int) (w : World) (hm : bl s = m) (hne : m ≠ []) (hp : m.dropLast = [] ∨ (M.begOk m.dropLast = true ∧ (m.dropLast.length : Int) ≠ M.bSize (m.headD 0))) :
    Calls Try.prog 28 #[.string s] w (BegPost m w) := by
  have hsz : s.size = m.length := by rw [← hm, bl_len]
  have hget : ∀ (i : Nat) (h : i < s.size), m[i]? = some (s[i].toNat : Int) := fun i h => by rw [← hm]; exact bl_get s i h
  clear hm
  match m, hne, hp, hsz, hget with
  | [c], _, hp, hsz, hget =>
    simp at hsz
    have h0 := hget 0 (by omega)
    simp at h0
    exact isBegun_1 s c w hsz h0.symm
  | [c, c1], _, hp, hsz, hget =>
    simp at hsz
    have h0 := hget 0 (by omega)
    have h1 := hget 1 (by omega)
    simp at h0 h1
    rcases hp with hp | ⟨hp, hq⟩
    · simp at hp
    · simp [M.begOk, M.chk] at hp hq
      have hb := M.bSize_bd c
      have hz : (194 ≤ c ∧ c ≤ 223) ∨ (224 ≤ c ∧ c ≤ 239) ∨ (240 ≤ c ∧ c ≤ 244) := by unfold M.bSize at hp hq; omega
      rcases hz with hz | hz | hz
      · exact isBegun_2_2 s c c1 w hsz h0.symm h1.symm hz
      · exact isBegun_2_3 s c c1 w hsz h0.symm h1.symm hz
      · exact isBegun_2_4 s c c1 w hsz h0.symm h1.symm hz
  | [c, c1, c2], _, hp, hsz, hget =>
    simp at hsz
    have h0 := hget 0 (by omega)
    have h1 := hget 1 (by omega)
    have h2 := hget 2 (by omega)
    simp at h0 h1 h2
    rcases hp with hp | ⟨hp, hq⟩
    · simp at hp
    · simp [M.begOk, M.chk] at hp hq
      have hb := M.bSize_bd c
      have hz : (224 ≤ c ∧ c ≤ 239) ∨ (240 ≤ c ∧ c ≤ 244) := by unfold M.bSize at hp hq; omega
      rcases hz with hz | hz
      · exact isBegun_3_3 s c c1 c2 w hsz h0.symm h1.symm h2.symm hz hp.2
      · exact isBegun_3_4 s c c1 c2 w hsz h0.symm h1.symm h2.symm hz hp.2
  | [c, c1, c2, c3], _, hp, hsz, hget =>
    simp at hsz
    have h0 := hget 0 (by omega)
    have h1 := hget 1 (by omega)
    have h2 := hget 2 (by omega)
    have h3 := hget 3 (by omega)
    simp at h0 h1 h2 h3
    rcases hp with hp | ⟨hp, hq⟩
    · simp at hp
    · simp [M.begOk, M.chk] at hp hq
      have hz : (240 ≤ c ∧ c ≤ 244) := by unfold M.bSize at hp hq; omega
      exact isBegun_4_4 s c c1 c2 c3 w hsz h0.symm h1.symm h2.symm h3.symm hz hp.2.1 hp.2.2
  | c :: c1 :: c2 :: c3 :: c4 :: t, _, hp, hsz, hget =>
    exfalso
    have hb := M.bSize_bd c
    rcases hp with hp | ⟨hp, hq⟩
    · simp at hp
    · simp only [List.dropLast_cons_cons, M.begOk, Bool.and_eq_true, decide_eq_true_eq, List.headD_cons, List.length_cons] at hp hq
      omega

set_option maxHeartbeats 400000 in
set_option maxRecDepth 100000 in
theorem valueOf_1 (s : ByteArray) (c : Int) (w : World) (hs : s.size = 1) (hc : ((s[0]'(by omega)).toNat : Int) = c) : Calls Try.prog 29 #[.string s] w fun e w' => e = .returned (.int .i64 c) ∧ Below w.heap.size w w' := by
  have hb0 : 0 ≤ c ∧ c < 256 := by have := (s[0]'(by omega)).toNat_lt; omega
  go_enter Try.func29, Try.ntmps29
  go_wp2
  go_ret
  exact ⟨rfl, Below.refl _ _⟩
set_option maxHeartbeats 1000000 in
set_option maxRecDepth 100000 in
theorem valueOf_2 (s : ByteArray) (c c1 : Int) (w : World) (hs : s.size = 2) (hc : ((s[0]'(by omega)).toNat : Int) = c) (hc1 : ((s[1]'(by omega)).toNat : Int) = c1) : Calls Try.prog 29 #[.string s] w fun e w' => e = .returned (.int .i64 (M.val (c % 32) [c1])) ∧ Below w.heap.size w w' := by
  have hb0 : 0 ≤ c ∧ c < 256 := by have := (s[0]'(by omega)).toNat_lt; omega
  have hb1 : 0 ≤ c1 ∧ c1 < 256 := by have := (s[1]'(by omega)).toNat_lt; omega
  have h0I : (0 : Int) < (s.size : Int) := by omega
  go_enter Try.func29, Try.ntmps29
  go_wp2_with fail
  go_quiet (fail)
  go_wp2_with fail
  refine wp_loop_rounds 2 ?_
  rw [rounds_succ]
  go_wp2_with fail
  rw [rounds_succ]
  go_wp2_with fail
  go_ret
  exact ⟨ret_int (by simp only [M.val]; omega), below_drewN (Below.refl _ _) _⟩
set_option maxHeartbeats 1000000 in
set_option maxRecDepth 100000 in
theorem valueOf_3 (s : ByteArray) (c c1 c2 : Int) (w : World) (hs : s.size = 3) (hc : ((s[0]'(by omega)).toNat : Int) = c) (hc1 : ((s[1]'(by omega)).toNat : Int) = c1) (hc2 : ((s[2]'(by omega)).toNat : Int) = c2) : Calls Try.prog 29 #[.string s] w fun e w' => e = .returned (.int .i64 (M.val (c % 16) [c1, c2])) ∧ Below w.heap.size w w' := by
  have hb0 : 0 ≤ c ∧ c < 256 := by have := (s[0]'(by omega)).toNat_lt; omega
  have hb1 : 0 ≤ c1 ∧ c1 < 256 := by have := (s[1]'(by omega)).toNat_lt; omega
  have hb2 : 0 ≤ c2 ∧ c2 < 256 := by have := (s[2]'(by omega)).toNat_lt; omega
  have h0I : (0 : Int) < (s.size : Int) := by omega
  go_enter Try.func29, Try.ntmps29
  go_wp2_with fail
  go_quiet (fail)
  go_wp2_with fail
  refine wp_loop_rounds 3 ?_
  rw [rounds_succ]
  go_wp2_with fail
  rw [rounds_succ]
  go_wp2_with fail
  rw [rounds_succ]
  go_wp2_with fail
  go_ret
  exact ⟨ret_int (by simp only [M.val]; omega), below_drewN (Below.refl _ _) _⟩
set_option maxHeartbeats 1000000 in
set_option maxRecDepth 100000 in
theorem valueOf_4 (s : ByteArray) (c c1 c2 c3 : Int) (w : World) (hs : s.size = 4) (hc : ((s[0]'(by omega)).toNat : Int) = c) (hc1 : ((s[1]'(by omega)).toNat : Int) = c1) (hc2 : ((s[2]'(by omega)).toNat : Int) = c2) (hc3 : ((s[3]'(by omega)).toNat : Int) = c3) : Calls Try.prog 29 #[.string s] w fun e w' => e = .returned (.int .i64 (M.val (c % 8) [c1, c2, c3])) ∧ Below w.heap.size w w' := by
  have hb0 : 0 ≤ c ∧ c < 256 := by have := (s[0]'(by omega)).toNat_lt; omega
  have hb1 : 0 ≤ c1 ∧ c1 < 256 := by have := (s[1]'(by omega)).toNat_lt; omega
  have hb2 : 0 ≤ c2 ∧ c2 < 256 := by have := (s[2]'(by omega)).toNat_lt; omega
  have hb3 : 0 ≤ c3 ∧ c3 < 256 := by have := (s[3]'(by omega)).toNat_lt; omega
  have h0I : (0 : Int) < (s.size : Int) := by omega
  go_enter Try.func29, Try.ntmps29
  go_wp2_with fail
  go_quiet (fail)
  go_wp2_with fail
  refine wp_loop_rounds 4 ?_
  rw [rounds_succ]
  go_wp2_with fail
  rw [rounds_succ]
  go_wp2_with fail
  rw [rounds_succ]
  go_wp2_with fail
  rw [rounds_succ]
  go_wp2_with fail
  go_ret
  exact ⟨ret_int (by simp only [M.val]; omega), below_drewN (Below.refl _ _) _⟩

theorem valueOf_list (s : ByteArray) (c : Int) (t : List Int) (w : World) (hm : bl s = c :: t) (hb : M.begOk (c :: t) = true) (hl : ((t.length + 1 : Nat) : Int) = M.bSize c) :
    Calls Try.prog 29 #[.string s] w fun e w' => e = .returned (.int .i64 (M.val (M.bBits c) t)) ∧ Below w.heap.size w w' := by
  have hsz : s.size = t.length + 1 := by rw [← bl_len, hm]; rfl
  have hget : ∀ (i : Nat) (h : i < s.size), (c :: t)[i]? = some (s[i].toNat : Int) := fun i h => by rw [← hm]; exact bl_get s i h
  have hs4 := M.bSize_bd c
  clear hm
  match t, hb, hl, hsz, hget with
  | [], hb, hl, hsz, hget =>
    simp at hsz
    have h0 := hget 0 (by omega)
    simp at h0 hl
    have hz : c < 128 := by unfold M.bSize at hl; omega
    have e : M.bBits c = c := by unfold M.bBits; rw [if_pos hz]
    rw [e]
    exact valueOf_1 s c w hsz h0.symm
  | [c1], hb, hl, hsz, hget =>
    simp at hsz
    have h0 := hget 0 (by omega)
    have h1 := hget 1 (by omega)
    simp at h0 h1 hl
    have hz : 194 ≤ c ∧ c < 224 := by unfold M.bSize at hl; omega
    rw [(M.size2 hz.1 hz.2).2.1]
    exact valueOf_2 s c c1 w hsz h0.symm h1.symm
  | [c1, c2], hb, hl, hsz, hget =>
    simp at hsz
    have h0 := hget 0 (by omega)
    have h1 := hget 1 (by omega)
    have h2 := hget 2 (by omega)
    simp at h0 h1 h2 hl
    have hz : 224 ≤ c ∧ c < 240 := by unfold M.bSize at hl; omega
    rw [(M.size3 hz.1 hz.2).2.1]
    exact valueOf_3 s c c1 c2 w hsz h0.symm h1.symm h2.symm
  | [c1, c2, c3], hb, hl, hsz, hget =>
    simp at hsz
    have h0 := hget 0 (by omega)
    have h1 := hget 1 (by omega)
    have h2 := hget 2 (by omega)
    have h3 := hget 3 (by omega)
    simp at h0 h1 h2 h3 hl
    have hz : 240 ≤ c ∧ c < 245 := by unfold M.bSize at hl; omega
    rw [(M.size4 hz.1 hz.2).2.1]
    exact valueOf_4 s c c1 c2 c3 w hsz h0.symm h1.symm h2.symm h3.symm
  | c1 :: c2 :: c3 :: c4 :: t', hb, hl, hsz, hget =>
    exfalso
    simp only [List.length_cons] at hl
    omega
end Go.Proofs.Ythhjfedegbldfaa
