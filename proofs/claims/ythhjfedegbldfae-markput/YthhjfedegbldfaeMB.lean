/- The contract of cartouchelaw.markBegun: true; nothing that was there is written. -/
import Derived.Test.YthhjfedegbldfaeML
namespace Go.Proofs.Ythhjfedegbldfae
open Go.RowKit
set_option linter.unusedVariables false

set_option maxHeartbeats 800000 in
set_option maxRecDepth 100000 in
theorem markBegun_any (w : World) : Calls Try.prog 4 #[] w fun e w' => e = .returned (.bool true) ∧ Below w.heap.size w w' := by
  have s1 := fun w => Sniff_any ⟨#[239, 187, 191, 97]⟩ w (by decide)
  rw [show M.sn (bl ⟨#[239, 187, 191, 97]⟩) = (1, 3) from by decide] at s1
  have s2 := fun w => Sniff_any ⟨#[254, 255]⟩ w (by decide)
  rw [show M.sn (bl ⟨#[254, 255]⟩) = (3, 2) from by decide] at s2
  have p1 : ∀ w : World, Calls Try.prog 5 #[.int .i64 2, .string ⟨#[120]⟩] w fun e w' => e = .returned (.tuple #[.string ⟨#[255, 254, 120]⟩, .int .i64 0]) ∧ Below w.heap.size w w' := fun w => (Put_any 2 ⟨#[120]⟩ w (by decide) (by decide)).mono fun e w' h => by
    obtain ⟨t, h1, h2, h3⟩ := h
    have : t = ⟨#[255, 254, 120]⟩ := by rw [← str_bl t, h2]; decide
    rw [this] at h1
    exact ⟨h1, h3⟩
  have m1 := fun w => May_any ⟨#[239]⟩ w (by decide)
  rw [show M.may (bl ⟨#[239]⟩) = true from by decide] at m1
  have m2 := fun w => May_any ⟨#[97]⟩ w (by decide)
  rw [show M.may (bl ⟨#[97]⟩) = false from by decide] at m2
  simp only at s1 s2
  go_enter Try.func4, Try.ntmps4
  go_wp2_with fail
  refine (s1 _).mono ?_
  rintro e w1 ⟨rfl, hb1⟩
  have HB1 := hide hb1
  clear hb1 s1
  go_wp2_with fail
  refine (s2 _).mono ?_
  rintro e w2 ⟨rfl, hb2⟩
  have HB2 := hide (bstep (unhide HB1) hb2)
  clear hb2 s2 HB1
  go_wp2_with fail
  refine (p1 _).mono ?_
  rintro e w3 ⟨rfl, hb3⟩
  have HB3 := hide (bstep (unhide HB2) hb3)
  clear hb3 p1 HB2
  go_wp2_with fail
  refine (m1 _).mono ?_
  rintro e w4 ⟨rfl, hb4⟩
  have HB4 := hide (bstep (unhide HB3) hb4)
  clear hb4 m1 HB3
  go_wp2_with fail
  refine (m2 _).mono ?_
  rintro e w5 ⟨rfl, hb5⟩
  have HB5 := hide (bstep (unhide HB4) hb5)
  clear hb5 m2 HB4
  go_wp2_with fail
  go_ret
  exact ⟨rfl, unhide HB5⟩
end Go.Proofs.Ythhjfedegbldfae
