/- Proved: for every integer encoding and all lists of integers l and m that together hold at most some 1048576 values the law EncoderTold returns true and leaves all as they were (the second form: of lists that are longer than any machine's memory the append that the law makes would fail). Its conditions besides are those of the given card: the tables of math/bits and of internal/strconv lie as their texts lay them. -/
import Derived.Test.YthhjfedegbldfadDoorCards
import Derived.Test.YthhjfedegbldfadDoorTie
import Derived.Test.YthhjfedegbldfadDoorEH
import Derived.Test.YthhjfedegbldfadDoorEG
import Derived.Test.YthhjfedegbldfadDoorET
import Derived.OpenShut
import Derived.ShutString
import Derived.ChangeOld
import Derived.Lay
import Derived.LaidOnce
import Derived.MakeChecks
import Derived.SevenTiedAt
import Derived.Deep.DeepHandedRow
namespace Go.Proofs.YthhjfedegbldfadDoor.encoderTold
open Go.ChangeShapes Go.WideShapes Go.ChangeAt Go.RowKit
open Go.ChangeMaps (open_string shut_string)
open Go.Proofs.YthhjfedegbldfadDoor
set_option linter.unusedVariables false

theorem own : ownKnob Tryd.prog.godebug = none := by kernel_rfl
theorem laidOut : laidOutB Tryd.prog = true := by kernel_rfl


set_option maxHeartbeats 6400000 in
set_option maxRecDepth 100000 in
theorem walkKind (n : Int) (v u : Value) (ys zs : List Int) (w : World) (hT : Tb w) (hY : Ints w v ys) (hZ : Ints w u zs) (hly : ys.length ≤ 1048576) (hlz : zs.length ≤ 1048576) (hn : ¬ (1 ≤ n ∧ n ≤ 7)) : Calls Tryd.prog 5 #[.int .i64 n, v, u] w fun e w' => e = .returned (.bool true) ∧ Below w.heap.size w w' := by
  have G := hide (encoderBegun_any w hT)
  have E1 : Hid (∀ (w' : World), Below w.heap.size w w' → Calls Tryd.prog 9 #[.int .i64 n, .int .i64 1, v] w' fun e w'' => e = .returned (.tuple #[.string ⟨#[]⟩, .int .i64 6]) ∧ Below w'.heap.size w' w'') := hide (fun w' _ => by obtain ⟨ay, cy, rfl, -, -, -⟩ := hY; exact Enc_kind n 1 ay ys.length cy w' hn)
  have E2 : Hid (∀ (w' : World), Below w.heap.size w w' → Calls Tryd.prog 9 #[.int .i64 n, .int .i64 1, u] w' fun e w'' => e = .returned (.tuple #[.string ⟨#[]⟩, .int .i64 6]) ∧ Below w'.heap.size w' w'') := hide (fun w' _ => by obtain ⟨ay, cy, rfl, -, -, -⟩ := hZ; exact Enc_kind n 1 ay zs.length cy w' hn)
  have E3 : Hid (∀ (w' : World) (ao : Option Addr) (cap : Nat), Below w.heap.size w w' → Ints w' (.slice ao (ys.length + zs.length) cap) (ys ++ zs) → Calls Tryd.prog 9 #[.int .i64 n, .int .i64 1, .slice ao (ys.length + zs.length) cap] w' fun e w'' => e = .returned (.tuple #[.string ⟨#[]⟩, .int .i64 6]) ∧ Below w'.heap.size w' w'') := hide (fun w' ao cap _ _ => Enc_kind n 1 ao _ cap w' hn)
  have E4 : Hid (∀ (w' : World), Below w.heap.size w w' → Calls Tryd.prog 9 #[.int .i64 n, .int .i64 0, v] w' fun e w'' => e = .returned (.tuple #[.string ⟨#[]⟩, .int .i64 6]) ∧ Below w'.heap.size w' w'') := hide (fun w' _ => by obtain ⟨ay, cy, rfl, -, -, -⟩ := hY; exact Enc_kind n 0 ay ys.length cy w' hn)
  have HY := hide hY
  have HZ := hide hZ
  obtain ⟨ay, cy, rfl, -, -, -⟩ := hY
  obtain ⟨az, cz, rfl, -, -, -⟩ := hZ
  clear hT
  go_enter Tryd.func5, Tryd.ntmps5
  go_wp2_with fail
  refine (unhide G).mono ?_
  rintro e0 w1 ⟨rfl, hb⟩
  have HB1 := hide hb
  clear hb G
  go_wp2_with fail
  refine (unhide E1 _ (unhide HB1)).mono ?_
  rintro e0 w2 ⟨rfl, hb⟩
  have HB2 := hide (bstep (unhide HB1) hb)
  clear hb E1
  go_wp2_with fail
  refine (unhide E2 _ (unhide HB2)).mono ?_
  rintro e0 w3 ⟨rfl, hb⟩
  have HB3 := hide (bstep (unhide HB2) hb)
  clear hb E2
  have o6 := World.ownsRow_made (base := w3.heap.size) (e := 3) (size := 1) w3 #[] 0 (Nat.le_refl _) (by simp) rfl
  go_wp2_with (at_builtin; refine append_intsL rfl (.tmp 31) (.tmp 32) rfl w3.heap.size _ [] rfl o6 _ ys rfl (((unhide HY).below (unhide HB3)).below (balloc _ _)) (by simp; omega) (by simp) ?_)
  intro v7 w7 ho7 hb7
  obtain ⟨ao7, cap7, hsh7⟩ := owns_shape ho7
  subst hsh7
  have HB7 : Hid (Below w3.heap.size w3 w7) := hide ((balloc _ _).trans hb7)
  have hz7 := (unhide HB7).size
  clear o6 hb7
  go_wp2_with (at_builtin; refine append_intsL rfl (.tmp 33) (.tmp 34) rfl w3.heap.size _ ys rfl ho7 _ zs rfl ((unhide HZ).below (bstep (unhide HB3) (unhide HB7))) (by omega) (by omega) ?_)
  intro v8 w8 ho8 hb8
  obtain ⟨ao8, cap8, hsh8⟩ := owns_shape ho8
  subst hsh8
  have HB8 : Hid (Below w3.heap.size w3 w8) := hide ((unhide HB7).trans hb8)
  have HB8' := hide (bstep (unhide HB3) (unhide HB8))
  have I8 := hide (Ints.of_owns (xs := ys ++ zs) (by simpa using ho8))
  clear ho7 ho8 hb8 HB7
  go_wp2_with fail
  refine (unhide E3 _ _ _ (unhide HB8') (by simpa using unhide I8)).mono ?_
  rintro e0 w9 ⟨rfl, hb⟩
  have HB9 := hide (bstep (unhide HB8') hb)
  clear hb E3
  go_wp2_with fail
  refine (unhide E4 _ (unhide HB9)).mono ?_
  rintro e0 w10 ⟨rfl, hb⟩
  have HB10 := hide (bstep (unhide HB9) hb)
  clear hb E4
  go_wp2_with fail
  go_ret
  exact ⟨rfl, unhide HB10⟩

set_option maxHeartbeats 6400000 in
set_option maxRecDepth 100000 in
theorem walkYes (n : Int) (v u : Value) (ys zs : List Int) (w : World) (hT : Tb w) (hY : Ints w v ys) (hZ : Ints w u zs) (hly : ys.length ≤ 1048576) (hlz : zs.length ≤ 1048576) (hn : 1 ≤ n ∧ n ≤ 7) : Calls Tryd.prog 5 #[.int .i64 n, v, u] w fun e w' => e = .returned (.bool true) ∧ Below w.heap.size w w' := by
  have G := hide (encoderBegun_any w hT)
  have E1 := hide (fun (w' : World) (hb : Below w.heap.size w w') => Enc_all n 1 w' (hT.below hb) hn (.inr rfl) (hY.below hb))
  have E2 := hide (fun (w' : World) (hb : Below w.heap.size w w') => Enc_all n 1 w' (hT.below hb) hn (.inr rfl) (hZ.below hb))
  have E3 := hide (fun (w' : World) (ao : Option Addr) (cap : Nat) (hb : Below w.heap.size w w') (h : Ints w' (.slice ao (ys.length + zs.length) cap) (ys ++ zs)) => Enc_all n 1 w' (hT.below hb) hn (.inr rfl) h)
  have E4 := hide (fun (w' : World) (hb : Below w.heap.size w w') => Enc_all n 0 w' (hT.below hb) hn (.inl rfl) (hY.below hb))
  have HT := hide (told_is n ys zs)
  generalize encP n 1 ys = q1 at *
  generalize encP n 1 zs = q2 at *
  generalize encP n 1 (ys ++ zs) = q3 at *
  generalize encP n 0 ys = q4 at *
  obtain ⟨A, e⟩ := q1
  obtain ⟨B, f⟩ := q2
  obtain ⟨C, g⟩ := q3
  obtain ⟨S, h⟩ := q4
  simp only at E1 E2 E3 E4 HT
  clear hn
  have HY := hide hY
  have HZ := hide hZ
  obtain ⟨ay, cy, rfl, -, -, -⟩ := hY
  obtain ⟨az, cz, rfl, -, -, -⟩ := hZ
  clear hT
  go_enter Tryd.func5, Tryd.ntmps5
  go_wp2_with fail
  refine (unhide G).mono ?_
  rintro e0 w1 ⟨rfl, hb⟩
  have HB1 := hide hb
  clear hb G
  go_wp2_with fail
  refine (unhide E1 _ (unhide HB1)).mono ?_
  rintro e0 w2 ⟨rfl, hb⟩
  have HB2 := hide (bstep (unhide HB1) hb)
  clear hb E1
  go_wp2_with fail
  refine (unhide E2 _ (unhide HB2)).mono ?_
  rintro e0 w3 ⟨rfl, hb⟩
  have HB3 := hide (bstep (unhide HB2) hb)
  clear hb E2
  have o6 := World.ownsRow_made (base := w3.heap.size) (e := 3) (size := 1) w3 #[] 0 (Nat.le_refl _) (by simp) rfl
  go_wp2_with (at_builtin; refine append_intsL rfl (.tmp 31) (.tmp 32) rfl w3.heap.size _ [] rfl o6 _ ys rfl (((unhide HY).below (unhide HB3)).below (balloc _ _)) (by simp; omega) (by simp) ?_)
  intro v7 w7 ho7 hb7
  obtain ⟨ao7, cap7, hsh7⟩ := owns_shape ho7
  subst hsh7
  have HB7 : Hid (Below w3.heap.size w3 w7) := hide ((balloc _ _).trans hb7)
  have hz7 := (unhide HB7).size
  clear o6 hb7
  go_wp2_with (at_builtin; refine append_intsL rfl (.tmp 33) (.tmp 34) rfl w3.heap.size _ ys rfl ho7 _ zs rfl ((unhide HZ).below (bstep (unhide HB3) (unhide HB7))) (by omega) (by omega) ?_)
  intro v8 w8 ho8 hb8
  obtain ⟨ao8, cap8, hsh8⟩ := owns_shape ho8
  subst hsh8
  have HB8 : Hid (Below w3.heap.size w3 w8) := hide ((unhide HB7).trans hb8)
  have HB8' := hide (bstep (unhide HB3) (unhide HB8))
  have I8 := hide (Ints.of_owns (xs := ys ++ zs) (by simpa using ho8))
  clear ho7 ho8 hb8 HB7
  go_wp2_with fail
  refine (unhide E3 _ _ _ (unhide HB8') (by simpa using unhide I8)).mono ?_
  rintro e0 w9 ⟨rfl, hb⟩
  have HB9 := hide (bstep (unhide HB8') hb)
  clear hb E3
  go_wp2_with fail
  refine (unhide E4 _ (unhide HB9)).mono ?_
  rintro e0 w10 ⟨rfl, hb⟩
  have HB10 := hide (bstep (unhide HB9) hb)
  clear hb E4
  rcases unhide HT with ⟨he, hh, hh5, rfl⟩ | ⟨rfl, hh, hr⟩
  · have he' : (e != 0) = true := by simpa using he
    have he2 : (e == 0) = false := by simpa using he
    have hh' : (h == 0) = false := by simpa using hh
    have hh5' : (h == 5) = false := by simpa using hh5
    clear HT he hh hh5
    go_wp2_with fail
    go_ret
    exact ⟨rfl, unhide HB10⟩
  · clear HT
    rcases hh with ⟨rfl, rfl⟩ | rfl
    all_goals
      rcases hr with hf | ⟨rfl, hg⟩ | ⟨rfl, rfl, rfl⟩ | ⟨rfl, rfl, h6, rfl, hs1, hs2⟩
      · have hf' : (f != 0) = true := by simpa using hf
        clear hf
        go_wp2_with fail
        go_ret
        exact ⟨rfl, unhide HB10⟩
      · have hg' : (g != 0) = true := by simpa using hg
        clear hg
        go_wp2_with fail
        go_ret
        exact ⟨rfl, unhide HB10⟩
      · go_wp2_with fail
        go_ret
        exact ⟨rfl, unhide HB10⟩
      · have h6' : (n == 6) = false := by simpa using h6
        clear h6
        go_wp2_with fail
        go_ret
        exact ⟨rfl, unhide HB10⟩

theorem walk (n : Int) (v u : Value) (ys zs : List Int) (w : World) (hT : Tb w) (hY : Ints w v ys) (hZ : Ints w u zs) (hly : ys.length ≤ 1048576) (hlz : zs.length ≤ 1048576) : Calls Tryd.prog 5 #[.int .i64 n, v, u] w fun e w' => e = .returned (.bool true) ∧ Below w.heap.size w w' := by
  by_cases hn : 1 ≤ n ∧ n ≤ 7
  · exact walkYes n v u ys zs w hT hY hZ hly hlz hn
  · exact walkKind n v u ys zs w hT hY hZ hly hlz hn

/-- A row of integers counts as many as it has. -/
theorem bulk_lits {H : Type} (k : IntKind) : ∀ zs : List Int, Rows.uptoBulkAll (lits (H := H) k zs) = zs.length
  | [] => by simp [lits, Rows.uptoBulkAll]
  | z :: zs => by
    have := bulk_lits (H := H) k zs
    simp only [lits, List.map_cons, Rows.uptoBulkAll, Rows.uptoBulk, List.length_cons] at this ⊢
    omega
theorem three {H : Type} {a b c : DataW H} (hk : Rows.uptoSmall H ([a, b, c] ++ []) = true) : Rows.uptoBulk b ≤ 1048576 ∧ Rows.uptoBulk c ≤ 1048576 := by
  have h : Rows.uptoBulkAll ([a, b, c] ++ []) ≤ 1048576 := of_decide_eq_true hk
  simp only [List.append_nil, Rows.uptoBulkAll] at h
  omega

set_option maxRecDepth 100000 in
theorem contract (H : Type) (enc : TypeId × Value → H) (W : World) (base : Nat) (args : Array Value) (ds gs : List (DataW H)) (before : List MemPlace)
    (hval0 : ∀ (j : Nat) t v, Tryd.f5.params[j]? = some t → args[j]? = some v → Value.okWide Tryd.prog W .any base t v)
    (hW : DataW.Whole enc Tryd.prog Tryd.f5.params.toList Rows.encoderToldSpec.vars false W args.toList ds gs before) (hk : Rows.uptoSmall H (ds ++ gs) = true) (hT : Tb W) :
    Calls Tryd.prog 5 args W fun e W' => ∃ v, e = .returned v ∧ Rows.encoderToldSpec.post enc Tryd.prog Tryd.f5 false true false false W args v W' := by
  have hval : ∀ (j : Nat) t v, Tryd.f5.params[j]? = some t → args[j]? = some v → Value.okWide Tryd.prog W .any base t v := hval0
  have hW' := hW
  obtain ⟨p, q, hA0, hV, rfl, hfz, hnd⟩ := hW
  have hA : DataW.TrodAll enc Tryd.prog W 0 (fun _ => true) true Tryd.f5.params.toList args.toList ds p := hA0
  rw [Tryd.params5] at hA hval
  obtain ⟨v0, vs0, d0, ds0, p0, q0, hargs, rfl, rfl, h0, r0⟩ := trodAll_cons hA
  obtain ⟨v1, vs1, d1, ds1, p1, q1, rfl, rfl, rfl, h1, r1⟩ := trodAll_cons r0
  obtain ⟨v2, vs2, d2, ds2, p2, q2, rfl, rfl, rfl, h2, r2⟩ := trodAll_cons r1
  obtain ⟨rfl, rfl, rfl⟩ := trodAll_nil r2
  obtain rfl : args = #[v0, v1, v2] := by cases args; simp_all
  obtain ⟨rfl, rfl⟩ := trodVars_none hV
  obtain ⟨hb1, hb2⟩ := three hk
  obtain ⟨a0, rfl, rfl, rfl, w0⟩ := open_int Tryd.underlying3 (hval 0 3 v0 rfl rfl) h0
  obtain ⟨a1, len1, cap1, rfl⟩ := okWide_slice Tryd.underlying22 (hval 1 22 v1 rfl rfl)
  have k1 := h1
  have lt1 : ∀ x ∈ p1, x.block < W.heap.size := by obtain ⟨m, hm⟩ := k1; exact DataW.trod_lt m _ _ _ hm
  obtain ⟨z1, w1, y1⟩ : ∃ zs, IsRow .i64 W a1 len1 cap1 zs ∧ (zs.take len1).length ≤ Rows.uptoBulk d1 := by
    obtain ⟨fuel, hf⟩ := h1
    rcases open_ints Tryd.underlying22 Tryd.underlying3 (by kernel_rfl) hf with ⟨hcs, _⟩ | ⟨x, l, c, zs, hcs, _, hl, hm, hz, hxx, hcell, hwz⟩
    · simp [Value.cells] at hcs
      obtain ⟨rfl, rfl, rfl⟩ := hcs
      exact ⟨[], .inl ⟨rfl, rfl, rfl, rfl⟩, by simp⟩
    · simp [Value.cells] at hcs
      obtain ⟨rfl, rfl, rfl⟩ := hcs
      refine ⟨zs, .inr ⟨_, rfl, hl, hm, by simpa using hz, hcell, hwz⟩, ?_⟩
      rw [(Prod.mk.inj hxx).1]
      simp only [Rows.uptoBulk, bulk_lits]
      omega
  obtain ⟨a2, len2, cap2, rfl⟩ := okWide_slice Tryd.underlying22 (hval 2 22 v2 rfl rfl)
  have k2 := h2
  have lt2 : ∀ x ∈ p2, x.block < W.heap.size := by obtain ⟨m, hm⟩ := k2; exact DataW.trod_lt m _ _ _ hm
  obtain ⟨z2, w2, y2⟩ : ∃ zs, IsRow .i64 W a2 len2 cap2 zs ∧ (zs.take len2).length ≤ Rows.uptoBulk d2 := by
    obtain ⟨fuel, hf⟩ := h2
    rcases open_ints Tryd.underlying22 Tryd.underlying3 (by kernel_rfl) hf with ⟨hcs, _⟩ | ⟨x, l, c, zs, hcs, _, hl, hm, hz, hxx, hcell, hwz⟩
    · simp [Value.cells] at hcs
      obtain ⟨rfl, rfl, rfl⟩ := hcs
      exact ⟨[], .inl ⟨rfl, rfl, rfl, rfl⟩, by simp⟩
    · simp [Value.cells] at hcs
      obtain ⟨rfl, rfl, rfl⟩ := hcs
      refine ⟨zs, .inr ⟨_, rfl, hl, hm, by simpa using hz, hcell, hwz⟩, ?_⟩
      rw [(Prod.mk.inj hxx).1]
      simp only [Rows.uptoBulk, bulk_lits]
      omega
  clear hA0 hval0
  refine (walk a0 (.slice a1 len1 cap1) (.slice a2 len2 cap2) (z1.take len1) (z2.take len2) W hT (Ints.of_row w1) (Ints.of_row w2) (by omega) (by omega)).mono fun e W' ⟨he, bel⟩ => ?_
  subst he
  exact ⟨_, rfl, _, _, _, [], _, [], hW', trodAll_mk1 (shut_bool Tryd.underlying4 _), (trodAll_cons_mk (shut_int Tryd.underlying3 w0) (trodAll_cons_mk (Below.trod laidOut (by kernel_rfl) (of_decide_eq_true (by kernel_rfl)) k1 bel lt1) (trodAll_cons_mk (Below.trod laidOut (by kernel_rfl) (of_decide_eq_true (by kernel_rfl)) k2 bel lt2) trodAll_mk0))), rfl, bel.frame _, fun h => by cases h⟩

theorem reads (os : Os) {H : Type} (enc : TypeId × Value → H) : ∃ places, DataW.whole enc Tryd.prog ((World.laidAll Tryd.prog os Rows.encoderToldUptoRow.laid).forCall (fun _ _ => 0) ⟨#[], #[.int .i64 0, .slice none 0 0, .slice none 0 0], []⟩).memory Tryd.f5.params.toList Rows.encoderToldSpec.vars false #[Value.int .i64 0, .slice none 0 0, .slice none 0 0].toList 8 = some ([.lit (.int .i64 0), .nil, .nil], [], places) :=
  ⟨[], by kernel_rfl⟩

set_option maxRecDepth 100000 in
theorem liftedUpto (os : Os) (started : os.Started) (H : Type) (enc : TypeId × Value → H) (F : Stop.Interp) :
    ReturnsInHanded {} Tryd.checked os 5 .any ((Rows.OpenSpec.upto Rows.encoderToldSpec).preRow enc Tryd.prog Tryd.f5 Rows.encoderToldUptoRow.domain false Rows.encoderToldUptoRow.laid) (((Rows.OpenSpec.upto Rows.encoderToldSpec).at F).post enc Tryd.prog Tryd.f5 false true false false) := by
  obtain ⟨places, hx⟩ := reads os enc
  refine returnsInHanded_of_row (C := Tryd.checked) (s := Rows.OpenSpec.upto Rows.encoderToldSpec) own started (by kernel_rfl) Tryd.func5
    ⟨World.laidAll Tryd.prog os Rows.encoderToldUptoRow.laid, fun _ _ => 0, ⟨#[], #[.int .i64 0, .slice none 0 0, .slice none 0 0], []⟩, World.laidAll_os _ _ _, World.shaped_of_ZipB (by kernel_rfl) (by kernel_rfl), rfl, (Input.okWide_of_okWideB (by kernel_rfl)).2,
      OpenSpec.preRow_of_cond 8 hx (by kernel_rfl) (fun k hk => by cases hk; kernel_rfl) (by kernel_rfl) (by rw [MakeChecks.laidMetH_plain _ _ _ (by kernel_rfl)]; exact laidMet_laidAll _ (by kernel_rfl) (by kernel_rfl)),
      by simp only [Assume.holds]; exact ⟨by simp, by simp, fun _ => Modest.zero, by simp, by simp⟩⟩ ?_
  intro W base args ds gs before hval hW _ hcond _ hL _ _
  exact contract H enc W base args ds gs before hval hW (hcond _ rfl) (tb_laid hL)

theorem saidUpto : Rows.EncoderToldUptoSaid :=
  OpenClaim.holds_of_cond 5 Tryd.f5 rfl rfl rfl rfl rfl rfl rfl ⟨rfl, rfl, rfl, rfl, rfl⟩ rfl rfl rfl rfl rfl (by kernel_rfl) Tryd.func5 (by kernel_rfl)
    (of_decide_eq_true (by kernel_rfl)) (by unfold Func.isWrapper; first | (rw [if_pos (by decide +kernel)]; kernel_rfl) | (rw [if_neg (by decide +kernel)]; exact ⟨rfl, rfl⟩))
    (fun os started H enc _ F => by rw [OpenClaim.pre_eq_preRow]; exact liftedUpto os started H enc F)

theorem plain (f : FuncId) (fn : Func) (hf : Tryd.pinned.checked.prog.funcNamed Rows.encoderToldUptoRow.func = some f) (hfn : Tryd.pinned.checked.prog.funcs[f]? = some fn) :
    false = Tryd.pinned.checked.prog.looks [] ∧ ∀ (j : Nat) t, fn.params[j]? = some t → Tryd.pinned.checked.prog.wantsStandIn t = false := by
  obtain rfl : f = 5 := Option.some.inj ((show Tryd.prog.funcNamed Rows.encoderToldUptoRow.func = some 5 by kernel_rfl).symm.trans hf) |>.symm
  obtain rfl : fn = Tryd.f5 := (Option.some.inj (Tryd.func5.symm.trans hfn)).symm
  refine ⟨by kernel_rfl, fun j t ht => ?_⟩
  rw [Tryd.params5] at ht
  have hm : t = 3 ∨ t = 22 := by
    have := Array.mem_of_getElem? ht
    simp at this
    omega
  rcases hm with rfl | rfl
  · exact (show Tryd.prog.wantsStandIn 3 = false by kernel_rfl)
  · exact (show Tryd.prog.wantsStandIn 22 = false by kernel_rfl)

theorem cardUpto : Rows.EncoderToldUptoCardSaid :=
  Claim7.holds_tied_plain_at .later [] _ _ _ _ saidUpto (fun _ h => by cases h) (by kernel_rfl) (fun _ h => by cases h) encoderToldUpto_row_tie rfl ⟨rfl, rfl⟩ (by kernel_rfl) rfl plain (by kernel_rfl)
end Go.Proofs.YthhjfedegbldfadDoor.encoderTold

namespace Go.Proofs.YthhjfedegbldfadDoor
theorem encoderTold_upto : Rows.EncoderToldUptoCardSaid := encoderTold.cardUpto
end Go.Proofs.YthhjfedegbldfadDoor
