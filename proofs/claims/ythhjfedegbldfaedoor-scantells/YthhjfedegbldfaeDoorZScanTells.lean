/- Whatever attributes and text cartouchelaw.ScanTells is handed, it answers true, and they stay as they were. Conditions: those of the card (what the two listed tables hold, which this road never reads). -/
import Derived.Test.YthhjfedegbldfaeDoorCards
import Derived.Test.YthhjfedegbldfaeDoorTie
import Derived.Test.YthhjfedegbldfaeDoorCLT
import Derived.OpenShut
import Derived.ShutString
import Derived.ChangeOld
import Derived.Lay
import Derived.LaidOnce
import Derived.MakeChecks
import Derived.SevenTiedAt
import Derived.Deep.SlicePairs
namespace Go.Proofs.YthhjfedegbldfaeDoor.scanTells
open Go.ChangeShapes Go.WideShapes Go.ChangeAt Go.RowKit
open Go.ChangeMaps (open_string shut_string)
open Go.Proofs.YthhjfedegbldfaeDoor
set_option linter.unusedVariables false

theorem own : ownKnob Tryd.prog.godebug = none := by kernel_rfl
theorem laidOut : laidOutB Tryd.prog = true := by kernel_rfl
theorem open_attrs {H : Type} {enc : TypeId × Value → H} {W : World} {v : Value} {d : DataW H} {p : List MemPlace} {a : Option Addr} {len cap : Nat} (hv : v = .slice a len cap) (h : DataW.Trod enc Tryd.prog W 0 (fun _ => true) true 27 v d p) :
    ∃ L, Ats W v L ∧ ∀ x ∈ L, x.1.size ≤ maxLen ∧ x.2.size ≤ maxLen := by
  obtain ⟨fuel, hf⟩ := h
  subst hv
  rcases Go.Deep.open_slice_pairs Tryd.underlying27 Tryd.underlying23 (by kernel_rfl) rfl rfl (by kernel_rfl) (by kernel_rfl) hf with ⟨hc, _⟩ | ⟨x, l, c, m, n, V0, V1, D0, D1, P0, P1, hc, _, hl, hm, hmm, _, hall⟩
  · simp [Value.cells] at hc
    obtain ⟨rfl, rfl, rfl⟩ := hc
    exact ⟨[], ⟨none, 0, rfl, by simp, .inl rfl⟩, fun x hx => by cases hx⟩
  · simp [Value.cells] at hc
    obtain ⟨rfl, rfl, rfl⟩ := hc
    simp only [if_true] at hmm
    have str : ∀ (i : Nat), i < len → ∃ s0 s1 : ByteArray, V0 i = .string s0 ∧ V1 i = .string s1 ∧ s0.size ≤ maxLen ∧ s1.size ≤ maxLen := fun i hi => by
      obtain ⟨_, _, g0, g1⟩ := hall i (by omega)
      obtain ⟨s0, e0, _, b0⟩ := DataW.trod_string Tryd.underlying9 g0
      obtain ⟨s1, e1, _, b1⟩ := DataW.trod_string Tryd.underlying9 g1
      simp at e0 e1
      exact ⟨s0, s1, e0, e1, b0, b1⟩
    let S : Value → ByteArray := fun u => match u with | .string s => s | _ => ⟨#[]⟩
    have hz : ∀ (i : Nat), i < len → V0 i = .string (S (V0 i)) ∧ V1 i = .string (S (V1 i)) ∧ (S (V0 i)).size ≤ maxLen ∧ (S (V1 i)).size ≤ maxLen := fun i hi => by
      obtain ⟨s0, s1, e0, e1, b0, b1⟩ := str i hi
      rw [e0, e1]
      exact ⟨rfl, rfl, b0, b1⟩
    refine ⟨(List.range len).map fun i => (S (V0 i), S (V1 i)), ⟨some x, cap, by simp, by simp; omega, ?_⟩, ?_⟩
    · by_cases h0 : len = 0
      · exact .inl (by subst h0; rfl)
      · obtain ⟨b, off, spot⟩ := x
        have hc0 := (hall 0 (by omega)).1
        have hspot : spot = none := by simpa [Addr.add] using World.cell?_spot hc0
        subst hspot
        refine .inr ⟨b, off, rfl, fun i hi => ?_⟩
        have hi' : i < len := by simpa using hi
        obtain ⟨g0, g1, _, _⟩ := hall i (by omega)
        obtain ⟨e0, e1, _, _⟩ := hz i hi'
        rw [e0] at g0
        rw [e1] at g1
        simp only [List.getElem_map, List.getElem_range]
        refine ⟨?_, ?_⟩
        · by_cases hi0 : i = 0
          · subst hi0; simpa [Addr.add] using g0
          · have h2 : i * 2 ≠ 0 := by omega
            simpa [Addr.add, h2] using g0
        · simpa [Addr.add, Nat.add_assoc] using g1
    · intro y hy
      simp only [List.mem_map, List.mem_range] at hy
      obtain ⟨i, hi, rfl⟩ := hy
      exact (hz i hi).2.2


theorem walk (v : Value) (L : List (ByteArray × ByteArray)) (s : ByteArray) (w : World) (hM : Mx w) (hv : Ats w v L) (hz : ∀ x ∈ L, x.1.size ≤ maxLen ∧ x.2.size ≤ maxLen) (hs : s.size ≤ maxLen) :
    Calls Tryd.prog 7 #[v, .string s] w fun e w' => e = .returned (.bool true) ∧ Below w.heap.size w w' :=
  st_walk metaSays scanSays metaErrs scanErrs v L s w hM hv hz hs

set_option maxRecDepth 100000 in
theorem lifted (os : Os) (started : os.Started) (H : Type) (enc : TypeId × Value → H) :
    ReturnsInHanded {} Tryd.checked os 7 .any (fun w args => (Rows.scanTellsSpec.pre enc Tryd.prog Tryd.f7 [] false w args ∧ laidMetH Tryd.prog Rows.scanTellsRow.laid w) ∧ sizedMet enc Tryd.prog Tryd.f7 (OpenSpec.ofChange Rows.scanTellsSpec) false w args)
      (Rows.scanTellsSpec.post enc Tryd.prog Tryd.f7 false true false false) := by
  refine returnsInHanded_of_calls (C := Tryd.checked) own started (by kernel_rfl)
    (ChangeSpec.witness_shaped (enc := enc) (C := Tryd.checked) (os := os) (X := fun w _ => laidMetH Tryd.prog Rows.scanTellsRow.laid w) false (World.laidAll Tryd.prog os Rows.scanTellsRow.laid) #[.slice none 0 0, .string ByteArray.empty] 8 (World.laidAll_os _ _ _)
      (World.shaped_of_ZipB (by kernel_rfl) (by kernel_rfl)) (by kernel_rfl) (by kernel_rfl) (by kernel_rfl)
      (by rw [MakeChecks.laidMetH_plain _ _ _ (by kernel_rfl)]; exact laidMet_laidAll _ (by kernel_rfl) (by kernel_rfl))) ?_
  intro w0 tape inp _ hsh _ hok hpre _
  obtain ⟨_, _, _, fn', hfn', _, _, _, _, hval1⟩ := hok
  obtain rfl : fn' = Tryd.f7 := Option.some.inj (hfn'.symm.trans Tryd.func7)
  obtain ⟨⟨⟨ds, gs, before, hw0, hcnd⟩, _⟩, hz⟩ := hpre
  have hsz0 := hz.weights hw0
  have hW := DataW.Whole.of_heap (w' := w0.forCall tape inp) (by rfl) hw0
  have hM : Mx (w0.forCall tape inp) := mx_shaped hsh
  have hval0 : ∀ (j : Nat) t v, Tryd.f7.params[j]? = some t → inp.args[j]? = some v → Value.okWide Tryd.prog (w0.forCall tape inp) .any w0.heap.size t v := hval1
  suffices hcall : Calls Tryd.prog 7 inp.args (w0.forCall tape inp) fun e W' => ∃ v, e = .returned v ∧ Rows.scanTellsSpec.post enc Tryd.prog Tryd.f7 false true false false (w0.forCall tape inp) inp.args v W' from
    hcall.mono fun e W' he => by
      obtain ⟨v, rfl, hp⟩ := he
      exact ChangeSpec.post_blind hp
  clear hval1 hfn' hw0 hz hsh hcnd
  generalize w0.forCall tape inp = W at *
  generalize w0.heap.size = base at *
  generalize inp.args = args at *
  have hval : ∀ (j : Nat) t v, Tryd.f7.params[j]? = some t → args[j]? = some v → Value.okWide Tryd.prog W .any base t v := hval0
  have hW' := hW
  obtain ⟨p, q, hA0, hV, rfl, hfz, hnd⟩ := hW
  have hA : DataW.TrodAll enc Tryd.prog W 0 (fun _ => true) true Tryd.f7.params.toList args.toList ds p := hA0
  rw [Tryd.params7] at hA hval
  obtain ⟨v0, vs0, d0, ds0, p0, q0, hargs, rfl, rfl, h0, r0⟩ := trodAll_cons hA
  obtain ⟨v1, vs1, d1, ds1, p1, q1, rfl, rfl, rfl, h1, r1⟩ := trodAll_cons r0
  obtain ⟨rfl, rfl, rfl⟩ := trodAll_nil r1
  obtain rfl : args = #[v0, v1] := by cases args; simp_all
  obtain ⟨rfl, rfl⟩ := trodVars_none hV
  obtain ⟨a0, len0, cap0, rfl⟩ := okWide_slice Tryd.underlying27 (hval 0 27 v0 rfl rfl)
  have k0 := h0
  have lt0 : ∀ x ∈ p0, x.block < W.heap.size := by obtain ⟨m, hm⟩ := k0; exact DataW.trod_lt m _ _ _ hm
  obtain ⟨L0, w0, b0⟩ := open_attrs rfl h0
  obtain ⟨a1, rfl, rfl, rfl, w1⟩ := open_string Tryd.underlying9 (hval 1 9 v1 rfl rfl) h1
  clear hA0 hval0 hsz0
  refine (walk (.slice a0 len0 cap0) L0 a1 W hM w0 b0 w1).mono fun e W' ⟨he, bel⟩ => ?_
  subst he
  exact ⟨_, rfl, _, _, _, [], _, [], hW', trodAll_mk1 (shut_bool Tryd.underlying4 _), (trodAll_cons_mk (Below.trod laidOut (by kernel_rfl) (of_decide_eq_true (by kernel_rfl)) k0 bel lt0) (trodAll_cons_mk (shut_string Tryd.underlying9 w1) trodAll_mk0)), rfl, bel.frame _, fun h => by cases h⟩

theorem said : Rows.ScanTellsSaid :=
  OpenClaim.holds_of_wide 7 Tryd.f7 rfl rfl rfl rfl rfl rfl rfl ⟨rfl, rfl, rfl, rfl, rfl⟩ rfl rfl rfl rfl rfl (by kernel_rfl) Tryd.func7 (by kernel_rfl)
    (of_decide_eq_true (by kernel_rfl)) (by unfold Func.isWrapper; first | (rw [if_pos (by decide +kernel)]; kernel_rfl) | (rw [if_neg (by decide +kernel)]; exact ⟨rfl, rfl⟩))
    (fun os started H enc _ => lifted os started H enc)

theorem plain (f : FuncId) (fn : Func) (hf : Tryd.pinned.checked.prog.funcNamed Rows.scanTellsRow.func = some f) (hfn : Tryd.pinned.checked.prog.funcs[f]? = some fn) :
    false = Tryd.pinned.checked.prog.looks [] ∧ ∀ (j : Nat) t, fn.params[j]? = some t → Tryd.pinned.checked.prog.wantsStandIn t = false := by
  obtain rfl : f = 7 := Option.some.inj ((show Tryd.prog.funcNamed Rows.scanTellsRow.func = some 7 by kernel_rfl).symm.trans hf) |>.symm
  obtain rfl : fn = Tryd.f7 := (Option.some.inj (Tryd.func7.symm.trans hfn)).symm
  refine ⟨by kernel_rfl, fun j t ht => ?_⟩
  rw [Tryd.params7] at ht
  have hm : t = 27 ∨ t = 9 := by
    have := Array.mem_of_getElem? ht
    simp at this
    omega
  rcases hm with rfl | rfl
  · exact (show Tryd.prog.wantsStandIn 27 = false by kernel_rfl)
  · exact (show Tryd.prog.wantsStandIn 9 = false by kernel_rfl)

theorem card : Rows.ScanTellsCardSaid :=
  Claim7.holds_tied_plain_at .later [] _ _ _ _ said (fun _ h => by cases h) (by kernel_rfl) (fun _ h => by cases h) scanTells_row_tie rfl ⟨rfl, rfl⟩ (by kernel_rfl) rfl plain (by kernel_rfl)
end Go.Proofs.YthhjfedegbldfaeDoor.scanTells

namespace Go.Proofs.YthhjfedegbldfaeDoor
theorem scanTells_holds : Rows.ScanTellsCardSaid := scanTells.card
end Go.Proofs.YthhjfedegbldfaeDoor
