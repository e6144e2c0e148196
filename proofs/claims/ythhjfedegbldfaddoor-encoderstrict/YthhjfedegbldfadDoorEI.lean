/- What is written strictly is read as it was: plain facts over the functions that encoders and decoders compute. -/
import Derived.Test.YthhjfedegbldfadDoorEH
import Derived.Test.YthhjfedegbldfadDoorSY
namespace Go.Proofs.YthhjfedegbldfadDoor
open Go.RowKit
set_option linter.unusedVariables false

theorem kpc_byt {now n : Int} (h : M.anyK n = true) : ∀ x ∈ M.kpc now n, 0 ≤ x ∧ x ≤ 255 := by
  obtain ⟨c, hc, e, _⟩ := M.kby_spec (M.want_has (now := now) h)
  intro x hx
  unfold M.kpc at hx
  rw [List.mem_append] at hx
  rcases hx with hx | hx
  · split at hx
    · cases hx
    · exact esc_byt _ x hx
  · simp at hx; omega
theorem kbody_byt : ∀ (l : List Int) (now : Int), l.all M.anyK = true → ∀ x ∈ M.kbody now l, 0 ≤ x ∧ x ≤ 255
  | [], now, _, x, hx => by cases hx
  | n :: l, now, h, x, hx => by
    rw [List.all_cons, Bool.and_eq_true] at h
    have hx' : x ∈ M.kpc now n ++ M.kbody (M.want now n) l := hx
    rw [List.mem_append] at hx'
    rcases hx' with hx | hx
    · exact kpc_byt h.1 x hx
    · exact kbody_byt l _ h.2 x hx
theorem kenc_byt (l : List Int) (h : l.all M.anyK = true) : ∀ x ∈ M.kenc l, 0 ≤ x ∧ x ≤ 255 := by
  intro x hx
  unfold M.kenc at hx
  rw [List.mem_append] at hx
  rcases hx with hx | hx
  · exact kbody_byt l 0 h x hx
  · unfold M.ktail at hx
    split at hx
    · cases hx
    · exact esc_byt 0 x hx
theorem decS_encS (user : Bool) (ys : List Int) (h : ys.all (M.hasB user) = true) : M.decS user (M.encS user ys) = ys := by
  induction ys with
  | nil => rfl
  | cons p t ih =>
    rw [List.all_cons, Bool.and_eq_true] at h
    have := ih h.2
    unfold M.decS M.encS at *
    rw [List.map_cons, List.map_cons, this, M.pt_bof user h.1]
theorem all_S {n : Int} {user : Bool} (hn : n = if user then 5 else 4) {ys : List Int} (h : ys.all (M.hasE n) = true) : ys.all (M.hasB user) = true := by
  rw [List.all_eq_true] at *
  intro x hx
  have := h x hx
  rw [hn, M.hasS] at this
  exact this
theorem back_is {n : Int} (hn : 1 ≤ n ∧ n ≤ 7) {ys : List Int} (hs : ys.all M.sclr = true) (ha : ys.all (M.hasE n) = true) : M.decE (M.outE n) (bl (strOfNums (M.encB n ys))) = ys := by
  rcases M.outE_bd hn with ho | ho | ho | ho
  · rw [← M.encB_out, ho, M.encB_1, bl_str _ (M.enc_byt ys hs), decE_1, M.dec_enc ys hs]
  · have hn4 : n = 4 := by unfold M.outE at ho; split at ho <;> omega
    subst hn4
    have hb := all_S (user := false) rfl ha
    rw [show M.outE 4 = 4 from rfl, show M.encB 4 ys = M.encS false ys from rfl, bl_str _ (M.encS_byt false ys hb), decE_4, decS_encS false ys hb]
  · have hn5 : n = 5 := by unfold M.outE at ho; split at ho <;> omega
    subst hn5
    have hb := all_S (user := true) rfl ha
    rw [show M.outE 5 = 5 from rfl, show M.encB 5 ys = M.encS true ys from rfl, bl_str _ (M.encS_byt true ys hb), decE_5, decS_encS true ys hb]
  · have hn6 : n = 6 := by unfold M.outE at ho; split at ho <;> omega
    subst hn6
    have hb : ys.all M.anyK = true := ha
    rw [show M.outE 6 = 6 from rfl, show M.encB 6 ys = M.kenc ys from rfl, bl_str _ (kenc_byt ys hb), decE_6, M.kdec_enc ys hb]
theorem encP_0 {n : Int} {ys : List Int} (h1 : ys.length ≤ 3000) (h2 : ys.all M.sclr = true) (h3 : ys.all (M.hasE n) = true) : encP n 0 ys = (strOfNums (M.encB n ys), 0) := by
  unfold encP; rw [if_neg (by omega), if_neg (by simp [h2]), if_pos (.inr h3), M.ptsE_all n ys h3]
theorem encP_5 {n : Int} {ys : List Int} (h1 : ys.length ≤ 3000) (h2 : ys.all M.sclr = true) (h3 : ys.all (M.hasE n) = false) : encP n 0 ys = (⟨#[]⟩, 5) := by
  unfold encP; rw [if_neg (by omega), if_neg (by simp [h2]), if_neg (by simp [h3])]
theorem encB_max {n : Int} (hn : 1 ≤ n ∧ n ≤ 7) {ys : List Int} (h1 : ys.length ≤ 3000) : (strOfNums (M.encB n ys)).size ≤ 20000 := by
  rw [strOfNums_size]
  rcases (show (n = 4 ∨ n = 5) ∨ n = 6 ∨ (n ≠ 4 ∧ n ≠ 5 ∧ n ≠ 6) from by omega) with (h | h) | h | ⟨h4, h5, h6⟩
  · subst h; show (M.encS false _).length ≤ _; rw [M.encS_len]; omega
  · subst h; show (M.encS true _).length ≤ _; rw [M.encS_len]; omega
  · subst h; show (M.kenc _).length ≤ _; have := M.kenc_len ys; omega
  · have e : M.encB n ys = M.enc ys := by unfold M.encB; rw [if_neg h4, if_neg h5, if_neg h6]
    rw [e]; have := M.enc_len ys; omega
end Go.Proofs.YthhjfedegbldfadDoor
