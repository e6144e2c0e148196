/- Whatever label, text, front and bool cartouchelaw.FrontTells is handed, it answers true, and they stay as they were. Conditions: those of the card (what the listed tables hold). -/
import Derived.ChangeOld
import Derived.LaidOnce
import Derived.Lay
import Derived.MakeChecks
import Derived.OpenShut
import Derived.SevenTiedAt
import Derived.ShutString
import Derived.Test.YtaiinjfnkmidbaaGreatDoorCards
import Derived.Test.YtaiinjfnkmidbaaGreatDoorTie
import Derived.Test.YtaiinjfnkmidbaaGreatDoorQC8
import Derived.Test.YtaiinjfnkmidbaaGreatDoorVQCWF6
namespace Go.Proofs.YtaiinjfnkmidbaaGreatDoor.frontTells
open Go.ChangeShapes Go.WideShapes Go.ChangeAt Go.RowKit
open Go.ChangeMaps (open_string shut_string)
open Go.Proofs.YtaiinjfnkmidbaaGreatDoor
set_option linter.unusedVariables false

theorem own : ownKnob Tryz.prog.godebug = none := by kernel_rfl
theorem laidOut : laidOutB Tryz.prog = true := by kernel_rfl
set_option maxRecDepth 100000 in
theorem open_front {H : Type} {enc : TypeId × Value → H} {W : World} {base b0 : Nat} {spare : Nat → Bool} {held : Bool} {rr : Reach} {v : Value} {d : DataW H} {ps : List MemPlace} (hv : Value.okWide Tryz.prog W rr b0 25 v) (h : DataW.Trod enc Tryz.prog W base spare held 25 v d ps) :
    ∃ (L : ByteArray) (en wy : Int) (Wt : ByteArray) (e : Int) (r : ByteArray) (g : Int) (fr st : Bool), v = .agg #[.string L, .int .i64 en, .int .i64 wy, .string Wt, .int .i64 e, .string r, .int .i64 g, .bool fr, .bool st] ∧ L.size ≤ maxLen ∧ Wt.size ≤ maxLen ∧ r.size ≤ maxLen := by
  have hC : Tryz.prog.cellsOf 25 = 9 := by kernel_rfl
  have kS : Tryz.prog.cellsOf 23 = 5 := by kernel_rfl
  have k3 : Tryz.prog.cellsOf 3 = 1 := by kernel_rfl
  have k9 : Tryz.prog.cellsOf 9 = 1 := by kernel_rfl
  have k4 : Tryz.prog.cellsOf 4 = 1 := by kernel_rfl
  obtain ⟨cs, rfl, hsz⟩ := okWide_struct Tryz.underlying25 hv
  rw [hC] at hsz
  obtain ⟨l⟩ := cs
  match l, hsz with
  | [c0, c1, c2, c3, c4, c5, c6, c7, c8], _ =>
    obtain ⟨fuel, hf⟩ := h
    obtain ⟨xs, n, _, _, _, hlen, hfld⟩ := DataW.trod_struct Tryz.underlying25 hf
    match xs, hlen with
    | [y0, y1, y2, y3, (d4, p4)], _ =>
      have h0 : DataW.trod enc Tryz.prog W base spare held n 9 [c0] = some y0 := by simpa [Value.cells, k9] using hfld 0 _ rfl
      have h1 : DataW.trod enc Tryz.prog W base spare held n 3 [c1] = some y1 := by simpa [Value.cells, k3, k9] using hfld 1 _ rfl
      have h2 : DataW.trod enc Tryz.prog W base spare held n 3 [c2] = some y2 := by simpa [Value.cells, k3, k9] using hfld 2 _ rfl
      have h3 : DataW.trod enc Tryz.prog W base spare held n 9 [c3] = some y3 := by simpa [Value.cells, k3, k9] using hfld 3 _ rfl
      have h4 : DataW.trod enc Tryz.prog W base spare held n 23 [c4, c5, c6, c7, c8] = some (d4, p4) := by simpa [Value.cells, k3, k9, kS] using hfld 4 _ rfl
      obtain ⟨xs', n', _, _, _, hlen', hfld'⟩ := DataW.trod_struct Tryz.underlying23 h4
      match xs', hlen' with
      | [z0, z1, z2, z3, z4], _ =>
        have g0 : DataW.trod enc Tryz.prog W base spare held n' 3 [c4] = some z0 := by simpa [k3] using hfld' 0 _ rfl
        have g1 : DataW.trod enc Tryz.prog W base spare held n' 9 [c5] = some z1 := by simpa [k3, k9] using hfld' 1 _ rfl
        have g2 : DataW.trod enc Tryz.prog W base spare held n' 3 [c6] = some z2 := by simpa [k3, k9] using hfld' 2 _ rfl
        have g3 : DataW.trod enc Tryz.prog W base spare held n' 4 [c7] = some z3 := by simpa [k3, k9, k4] using hfld' 3 _ rfl
        have g4 : DataW.trod enc Tryz.prog W base spare held n' 4 [c8] = some z4 := by simpa [k3, k9, k4] using hfld' 4 _ rfl
        obtain ⟨L, e0, _, hL⟩ := DataW.trod_string Tryz.underlying9 h0
        obtain ⟨en, e1, _⟩ := DataW.trod_int Tryz.underlying3 h1
        obtain ⟨wy, e2, _⟩ := DataW.trod_int Tryz.underlying3 h2
        obtain ⟨Wt, e3, _, hWt⟩ := DataW.trod_string Tryz.underlying9 h3
        obtain ⟨e, i0, _⟩ := DataW.trod_int Tryz.underlying3 g0
        obtain ⟨r, i1, _, hr⟩ := DataW.trod_string Tryz.underlying9 g1
        obtain ⟨g, i2, _⟩ := DataW.trod_int Tryz.underlying3 g2
        obtain ⟨fr, i3, _⟩ := DataW.trod_bool Tryz.underlying4 g3
        obtain ⟨st, i4, _⟩ := DataW.trod_bool Tryz.underlying4 g4
        simp only [List.cons.injEq, and_true] at e0 e1 e2 e3 i0 i1 i2 i3 i4
        subst e0 e1 e2 e3 i0 i1 i2 i3 i4
        exact ⟨L, en, wy, Wt, e, r, g, fr, st, rfl, hL, hWt, hr⟩

theorem walk (a b : ByteArray) (L : ByteArray) (en wy : Int) (W : ByteArray) (ee : Int) (r : ByteArray) (g : Int) (fr st last : Bool) (w : World) (hM : Mx w) (ha : a.size ≤ maxLen) (hb : b.size ≤ maxLen) (hL : L.size ≤ maxLen) (hW : W.size ≤ maxLen) (hr : r.size ≤ maxLen) :
    Calls Tryz.prog 3 #[.string a, .string b, .agg #[.string L, .int .i64 en, .int .i64 wy, .string W, .int .i64 ee, .string r, .int .i64 g, .bool fr, .bool st], .bool last] w fun e w' => e = .returned (.bool true) ∧ Below w.heap.size w w' :=
  ftells_walk chSays chErrs bgSays bgErrs fdSays fdErrs ckSays a b L en wy W ee r g fr st last w hM ha hb hL hW hr

set_option maxRecDepth 100000 in
theorem lifted (os : Os) (started : os.Started) (H : Type) (enc : TypeId × Value → H) :
    ReturnsInHanded {} Tryz.checked os 3 .any (fun w args => (Rows.frontTellsSpec.pre enc Tryz.prog Tryz.f3 [] false w args ∧ laidMetH Tryz.prog Rows.frontTellsRow.laid w) ∧ sizedMet enc Tryz.prog Tryz.f3 (OpenSpec.ofChange Rows.frontTellsSpec) false w args)
      (Rows.frontTellsSpec.post enc Tryz.prog Tryz.f3 false true false false) := by
  refine returnsInHanded_of_calls (C := Tryz.checked) own started (by kernel_rfl)
    (ChangeSpec.witness_shaped (enc := enc) (C := Tryz.checked) (os := os) (X := fun w _ => laidMetH Tryz.prog Rows.frontTellsRow.laid w) false (World.laidAll Tryz.prog os Rows.frontTellsRow.laid) #[.string ByteArray.empty, .string ByteArray.empty, .agg #[.string ByteArray.empty, .int .i64 0, .int .i64 0, .string ByteArray.empty, .int .i64 0, .string ByteArray.empty, .int .i64 0, .bool false, .bool false], .bool false] 8 (World.laidAll_os _ _ _)
      (World.shaped_of_ZipB (by kernel_rfl) (by kernel_rfl)) (by kernel_rfl) (by kernel_rfl) (by kernel_rfl)
      (by rw [MakeChecks.laidMetH_plain _ _ _ (by kernel_rfl)]; exact laidMet_laidAll _ (by kernel_rfl) (by kernel_rfl))) ?_
  intro w0 tape inp _ hsh _ hok hpre _
  obtain ⟨_, _, _, fn', hfn', _, _, _, _, hval1⟩ := hok
  obtain rfl : fn' = Tryz.f3 := Option.some.inj (hfn'.symm.trans Tryz.func3)
  obtain ⟨⟨⟨ds, gs, before, hw0, hcnd⟩, hL0⟩, hz⟩ := hpre
  have hsz0 := hz.weights hw0
  have hW := DataW.Whole.of_heap (w' := w0.forCall tape inp) (by rfl) hw0
  have hM : Mx (w0.forCall tape inp) := mx_shaped hsh
  have hval0 : ∀ (j : Nat) t v, Tryz.f3.params[j]? = some t → inp.args[j]? = some v → Value.okWide Tryz.prog (w0.forCall tape inp) .any w0.heap.size t v := hval1
  suffices hcall : Calls Tryz.prog 3 inp.args (w0.forCall tape inp) fun e W' => ∃ v, e = .returned v ∧ Rows.frontTellsSpec.post enc Tryz.prog Tryz.f3 false true false false (w0.forCall tape inp) inp.args v W' from
    hcall.mono fun e W' he => by
      obtain ⟨v, rfl, hp⟩ := he
      exact ChangeSpec.post_blind hp
  clear hval1 hfn' hw0 hz hsh hcnd hL0
  generalize w0.forCall tape inp = W at *
  generalize w0.heap.size = base at *
  generalize inp.args = args at *
  have hval : ∀ (j : Nat) t v, Tryz.f3.params[j]? = some t → args[j]? = some v → Value.okWide Tryz.prog W .any base t v := hval0
  have hW' := hW
  obtain ⟨p, q, hA0, hV, rfl, hfz, hnd⟩ := hW
  have hA : DataW.TrodAll enc Tryz.prog W 0 (fun _ => true) true Tryz.f3.params.toList args.toList ds p := hA0
  rw [Tryz.params3] at hA hval
  obtain ⟨v0, vs0, d0, ds0, p0, q0, hargs, rfl, rfl, h0, r0⟩ := trodAll_cons hA
  obtain ⟨v1, vs1, d1, ds1, p1, q1, rfl, rfl, rfl, h1, r1⟩ := trodAll_cons r0
  obtain ⟨v2, vs2, d2, ds2, p2, q2, rfl, rfl, rfl, h2, r2⟩ := trodAll_cons r1
  obtain ⟨v3, vs3, d3, ds3, p3, q3, rfl, rfl, rfl, h3, r3⟩ := trodAll_cons r2
  obtain ⟨rfl, rfl, rfl⟩ := trodAll_nil r3
  obtain rfl : args = #[v0, v1, v2, v3] := by cases args; simp_all
  obtain ⟨rfl, rfl⟩ := trodVars_none hV
  obtain ⟨a0, rfl, rfl, rfl, w0⟩ := open_string Tryz.underlying9 (hval 0 9 v0 rfl rfl) h0
  obtain ⟨a1, rfl, rfl, rfl, w1⟩ := open_string Tryz.underlying9 (hval 1 9 v1 rfl rfl) h1
  have k2 := h2
  have lt2 : ∀ x ∈ p2, x.block < W.heap.size := by obtain ⟨m, hm⟩ := k2; exact DataW.trod_lt m _ _ _ hm
  obtain ⟨fL, fn, fw, fW, fe, fr_, fg, ff, fs, rfl, fb1, fb2, fb3⟩ := open_front (hval 2 25 v2 rfl rfl) h2
  obtain ⟨a3, rfl, rfl, rfl⟩ := open_bool Tryz.underlying4 (hval 3 4 v3 rfl rfl) h3
  clear hA0 hval0 hsz0
  refine (walk a0 a1 fL fn fw fW fe fr_ fg ff fs a3 W hM w0 w1 fb1 fb2 fb3).mono fun e W' ⟨he, bel⟩ => ?_
  subst he
  exact ⟨_, rfl, _, _, _, [], _, [], hW', trodAll_mk1 (shut_bool Tryz.underlying4 _), (trodAll_cons_mk (shut_string Tryz.underlying9 w0) (trodAll_cons_mk (shut_string Tryz.underlying9 w1) (trodAll_cons_mk (Below.trod laidOut (by kernel_rfl) (of_decide_eq_true (by kernel_rfl)) k2 bel lt2) (trodAll_cons_mk (shut_bool Tryz.underlying4 _) trodAll_mk0)))), rfl, bel.frame _, fun h => by cases h⟩

theorem said : Rows.FrontTellsSaid :=
  OpenClaim.holds_of_wide 3 Tryz.f3 rfl rfl rfl rfl rfl rfl rfl ⟨rfl, rfl, rfl, rfl, rfl⟩ rfl rfl rfl rfl rfl (by kernel_rfl) Tryz.func3 (by kernel_rfl)
    (of_decide_eq_true (by kernel_rfl)) (by unfold Func.isWrapper; first | (rw [if_pos (by decide +kernel)]; kernel_rfl) | (rw [if_neg (by decide +kernel)]; exact ⟨rfl, rfl⟩))
    (fun os started H enc _ => lifted os started H enc)

theorem plain (f : FuncId) (fn : Func) (hf : Tryz.pinned.checked.prog.funcNamed Rows.frontTellsRow.func = some f) (hfn : Tryz.pinned.checked.prog.funcs[f]? = some fn) :
    false = Tryz.pinned.checked.prog.looks [] ∧ ∀ (j : Nat) t, fn.params[j]? = some t → Tryz.pinned.checked.prog.wantsStandIn t = false := by
  obtain rfl : f = 3 := Option.some.inj ((show Tryz.prog.funcNamed Rows.frontTellsRow.func = some 3 by kernel_rfl).symm.trans hf) |>.symm
  obtain rfl : fn = Tryz.f3 := (Option.some.inj (Tryz.func3.symm.trans hfn)).symm
  refine ⟨by kernel_rfl, fun j t ht => ?_⟩
  rw [Tryz.params3] at ht
  have hm : t = 9 ∨ t = 25 ∨ t = 4 := by
    have := Array.mem_of_getElem? ht
    simp at this
    omega
  rcases hm with rfl | rfl | rfl
  · exact (show Tryz.prog.wantsStandIn 9 = false by kernel_rfl)
  · exact (show Tryz.prog.wantsStandIn 25 = false by kernel_rfl)
  · exact (show Tryz.prog.wantsStandIn 4 = false by kernel_rfl)

theorem card : Rows.FrontTellsCardSaid :=
  Claim7.holds_tied_plain_at .later [] _ _ _ _ said (fun _ h => by cases h) (by kernel_rfl) (fun _ h => by cases h) frontTells_row_tie rfl ⟨rfl, rfl⟩ (by kernel_rfl) rfl plain (by kernel_rfl)
end Go.Proofs.YtaiinjfnkmidbaaGreatDoor.frontTells

namespace Go.Proofs.YtaiinjfnkmidbaaGreatDoor
theorem frontTells_holds : Rows.FrontTellsCardSaid := frontTells.card
end Go.Proofs.YtaiinjfnkmidbaaGreatDoor
