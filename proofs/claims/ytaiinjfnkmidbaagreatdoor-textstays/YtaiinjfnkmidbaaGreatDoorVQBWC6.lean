/- The walk of TextCount over what text's calls have to answer: true; nothing that was there is written. Condition: at most 2000000 code points together. -/
import Derived.Test.YtaiinjfnkmidbaaGreatDoorQB9
namespace Go.Proofs.YtaiinjfnkmidbaaGreatDoor
open Go.RowKit
set_option linter.unusedVariables false

/-- What Count answers. -/
def cntP (xs : List Int) : Int × Int × Int := if 3000 < xs.length then (0, 0, 2) else if xs.all M.sclr = false then (0, 0, 3) else ((cntB xs : Int), (cntF xs : Int), 0)
theorem cntP_says (hC : CtSays) (hE : CtErrs) {v : Value} {xs : List Int} (w : World) (h : Ints w v xs) :
    Calls Tryz.prog 32 #[v] w fun e w' => e = .returned (.tuple #[.int .i64 (cntP xs).1, .int .i64 (cntP xs).2.1, .int .i64 (cntP xs).2.2]) ∧ Below w.heap.size w w' := by
  unfold cntP
  by_cases h1 : 3000 < xs.length
  · have := hE v xs w h (.inl h1)
    rw [if_pos h1] at this ⊢
    exact this
  · cases h2 : xs.all M.sclr
    · have := hE v xs w h (.inr h2)
      rw [if_neg h1] at this ⊢
      exact this
    · have := hC v xs w h (by omega) h2
      rw [if_neg h1, if_neg (by simp)]
      exact this
theorem cntP_zero {xs : List Int} (h : (cntP xs).2.2 ≠ 0) : (cntP xs).1 = 0 ∧ (cntP xs).2.1 = 0 := by
  unfold cntP at *
  split
  · exact ⟨rfl, rfl⟩
  · rename_i c
    rw [if_neg c] at h
    split
    · exact ⟨rfl, rfl⟩
    · rename_i c2
      rw [if_neg c2] at h
      exact absurd rfl h
theorem cntP_ok {xs : List Int} (h : (cntP xs).2.2 = 0) : cntP xs = ((cntB xs : Int), (cntF xs : Int), 0) := by
  unfold cntP at *
  split at h
  · cases h
  · rename_i c
    rw [if_neg c]
    split at h
    · cases h
    · rename_i c2
      rw [if_neg c2]
/-- What the three answers have to do with each other. -/
def Cnts (n : Nat) (p q r : Int × Int × Int) : Prop := (p.2.2 ≠ 0 ∧ p.1 = 0 ∧ p.2.1 = 0) ∨ (p.2.2 = 0 ∧ (q.2.2 ≠ 0 ∨ r.2.2 ≠ 0)) ∨ (p.2.2 = 0 ∧ q.2.2 = 0 ∧ r.2.2 = 0 ∧ r.1 = p.1 + q.1 ∧ r.2.1 = p.2.1 + q.2.1 ∧ p.1 ≤ p.2.1 ∧ p.2.1 ≤ n ∧ 0 ≤ p.1 ∧ 0 ≤ q.1 ∧ 0 ≤ q.2.1 ∧ q.1 ≤ 3000 ∧ q.2.1 ≤ 3000 ∧ p.2.1 ≤ 3000)
theorem cnts (xs ys : List Int) : Cnts xs.length (cntP xs) (cntP ys) (cntP (xs ++ ys)) := by
  by_cases h1 : (cntP xs).2.2 = 0
  · by_cases h2 : (cntP ys).2.2 = 0
    · by_cases h3 : (cntP (xs ++ ys)).2.2 = 0
      · have l1 : xs.length ≤ 3000 := by
          unfold cntP at h1; split at h1
          · cases h1
          · omega
        have l2 : ys.length ≤ 3000 := by
          unfold cntP at h2; split at h2
          · cases h2
          · omega
        refine .inr (.inr ⟨h1, h2, h3, ?_⟩)
        rw [cntP_ok h1, cntP_ok h2, cntP_ok h3, cntB_app, cntF_app]
        dsimp only
        have a := cntB_le xs
        have b := cntF_le xs
        have c := cntB_le ys
        have d := cntF_le ys
        omega
      · exact .inr (.inl ⟨h1, .inr h3⟩)
    · exact .inr (.inl ⟨h1, .inl h2⟩)
  · exact .inl ⟨h1, cntP_zero h1⟩
set_option maxHeartbeats 3200000 in
set_option maxRecDepth 100000 in
theorem count_walk (hD : DcSays) (hR : RcSays) (hCt : CtSays) (hCE : CtErrs) (v u : Value) (xs ys : List Int) (w : World) (hMx : Mx w) (hT : Tb w) (hv : Ints w v xs) (hu : Ints w u ys) (hl : xs.length + ys.length ≤ 2000000) :
    Calls Tryz.prog 10 #[v, u] w fun e w' => e = .returned (.bool true) ∧ Below w.heap.size w w' := by
  have HM := hide hMx
  have HT := hide hT
  have GX := hide (fun w h h' => begunX_any hD hR hCt w h h')
  have C1 := hide (fun w (h : Ints w v xs) => cntP_says hCt hCE w h)
  have C2 := hide (fun w (h : Ints w u ys) => cntP_says hCt hCE w h)
  have C3 := hide (fun (w : World) (z : Value) (h : Ints w z (xs ++ ys)) => cntP_says hCt hCE w h)
  have HC := hide (cnts xs ys)
  have HV := hide hv
  have HU := hide hu
  obtain ⟨ao, cap, rfl, -⟩ := hv
  obtain ⟨bo, cap2, rfl, -⟩ := hu
  clear hD hR hCt hCE hMx hT
  generalize hp : cntP xs = p at *
  generalize hq : cntP ys = q at *
  generalize hr : cntP (xs ++ ys) = r at *
  clear hp hq hr
  obtain ⟨a, b, e⟩ := p
  obtain ⟨c, d, f⟩ := q
  obtain ⟨x, y, g⟩ := r
  dsimp only at C1 C2 C3
  go_enter Tryz.func10, Tryz.ntmps10
  go_wp2_with fail
  refine (unhide C1 _ (unhide HV)).mono ?_
  rintro e' w1 ⟨rfl, hb1⟩
  have HB1 := hide hb1
  clear hb1 C1
  go_wp2_with fail
  refine (unhide C2 _ ((unhide HU).below (unhide HB1))).mono ?_
  rintro e' w2 ⟨rfl, hb2⟩
  have HB2 := hide (bstep (unhide HB1) hb2)
  clear hb2 C2 HB1
  have o6 := World.ownsRow_made (base := w2.heap.size) (e := 3) (size := 1) w2 #[] 0 (Nat.le_refl _) (by simp) rfl
  go_wp2_with (at_builtin; refine append_intsL rfl (.tmp 27) (.tmp 28) rfl w2.heap.size _ [] rfl o6 _ xs rfl (((unhide HV).below (unhide HB2)).below (balloc _ _)) (by simp; omega) (by simp) ?_)
  intro v7 w7 ho7 hb7
  obtain ⟨ao7, cap7, hsh7⟩ := owns_shape ho7
  subst hsh7
  have HB7 : Hid (Below w2.heap.size w2 w7) := hide ((balloc _ _).trans hb7)
  have hz7 := (unhide HB7).size
  clear o6 hb7
  go_wp2_with (at_builtin; refine append_intsL rfl (.tmp 29) (.tmp 30) rfl w2.heap.size _ xs rfl ho7 _ ys rfl ((unhide HU).below (bstep (unhide HB2) (unhide HB7))) (by omega) (by omega) ?_)
  intro v8 w8 ho8 hb8
  obtain ⟨ao8, cap8, hsh8⟩ := owns_shape ho8
  subst hsh8
  have I8 := hide (Ints.of_owns (xs := xs ++ ys) (by simpa using ho8))
  have HB8 := hide (bstep (unhide HB2) ((unhide HB7).trans hb8))
  clear ho7 hb8 HB7 hz7 ho8 HB2
  go_wp2_with fail
  refine (unhide C3 _ _ (by simpa using unhide I8)).mono ?_
  rintro e' w9 ⟨rfl, hb9⟩
  have HB9 := hide (bstep (unhide HB8) hb9)
  clear hb9 C3 HB8 I8
  go_wp2_with fail
  refine (unhide GX _ ((unhide HM).below (unhide HB9)) ((unhide HT).below (unhide HB9))).mono ?_
  rintro e' w10 ⟨rfl, hb10⟩
  have HB10 := hide (bstep (unhide HB9) hb10)
  clear hb10 HB9 GX
  rcases unhide HC with ⟨h1, h2, h3⟩ | ⟨h1, h2⟩ | ⟨h1, h2, h3, h4, h5, h6, h7, h8, h9, h10, h11, h12, h13⟩
  · dsimp only at h1 h2 h3
    have hne : (e != 0) = true := bne_iff_ne.2 h1
    have hne0 : (e == 0) = false := beq_eq_false_iff_ne.2 h1
    subst h2 h3
    clear h1 HC
    go_wp2_with fail
    go_ret
    exact ⟨rfl, unhide HB10⟩
  · dsimp only at h1 h2
    subst h1
    by_cases hf : f = 0
    · have hg : g ≠ 0 := by rcases h2 with h | h; exact absurd hf h; exact h
      have hge : (g != 0) = true := bne_iff_ne.2 hg
      subst hf
      clear h2 hg HC
      go_wp2_with fail
      go_ret
      exact ⟨rfl, unhide HB10⟩
    · have hfe : (f != 0) = true := bne_iff_ne.2 hf
      clear h2 hf HC
      go_wp2_with fail
      go_ret
      exact ⟨rfl, unhide HB10⟩
  · dsimp only at h1 h2 h3 h4 h5 h6 h7 h8 h9 h10 h11 h12 h13
    subst h1 h2 h3 h4 h5
    clear HC
    go_wp2_with fail
    go_ret
    exact ⟨ret_bool (by simp <;> omega), unhide HB10⟩
end Go.Proofs.YtaiinjfnkmidbaaGreatDoor
