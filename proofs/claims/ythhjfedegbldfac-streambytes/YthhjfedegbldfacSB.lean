/- Proved: for every integer encoding and every text s the law StreamBytes returns true. No condition. -/
import Derived.Test.YthhjfedegbldfacDG
import Derived.OpenShut
import Derived.ShutString
import Derived.ChangeOld
namespace Go.Proofs.Ythhjfedegbldfac.streamBytes
open Go.ChangeShapes Go.WideShapes Go.ChangeAt Go.RowKit
open Go.ChangeMaps (open_string shut_string)
open Go.Proofs.Ythhjfedegbldfac
set_option linter.unusedVariables false

theorem own : ownKnob Try.prog.godebug = none := by kernel_rfl

def InG (W : World) (e : Int) (r : ByteArray) (t : M.St) (p : ByteArray) (a x f : Value) (wx : World) : Prop :=
  ∃ av cv r' t' L B, a = .slice av L.length cv ∧ x = .pointer (some ⟨B, 0, none⟩) ∧ f = .int .i64 0 ∧ Sc B e r' t' wx ∧ Ints wx (.slice av L.length cv) L ∧ Below W.heap.size W wx ∧ W.heap.size ≤ B ∧
    (L = (M.RE e t (bl r ++ bl p)).1 ∧ bl r' = (M.RE e t (bl r ++ bl p)).2.2 ∧ t' = (M.RE e t (bl r ++ bl p)).2.1)
theorem InG.a {W w1 : World} {e : Int} {r p r' : ByteArray} {t t' : M.St} {av : Option Addr} {cv : Nat} {L : List Int} (HW : Below W.heap.size W w1) (HI : w1.ownsRow W.heap.size 3 1 (.slice av L.length cv) L.length (L.map (Value.int .i64)))
    (h1 : L = (M.RE e t (bl r ++ bl p)).1 ∧ bl r' = (M.RE e t (bl r ++ bl p)).2.2 ∧ t' = (M.RE e t (bl r ++ bl p)).2.1) :
    InG W e r t p (.slice av L.length cv) (.pointer (some ⟨w1.heap.size, 0, none⟩)) (.int .i64 0) (w1.alloc (.cells #[.int .i64 e, .string r', .int .i64 t'.1, .bool t'.2.1, .bool t'.2.2] 40)) :=
  ⟨av, cv, r', t', L, w1.heap.size, rfl, rfl, rfl, Sc.new w1 e r' t', (Ints.of_owns HI).below (balloc _ _), bstep HW (balloc _ _), HW.size, h1⟩
theorem InG.b {W w1 : World} {e : Int} {r p r' : ByteArray} {t t' : M.St} {av : Option Addr} {cv : Nat} {L : List Int} (HW : Below W.heap.size W w1) (HR : Rc W.heap.size w1) (HI : w1.ownsRow (W.heap.size + 1) 3 1 (.slice av L.length cv) L.length (L.map (Value.int .i64)))
    (h1 : L = (M.RE e t (bl r ++ bl p)).1 ∧ bl r' = (M.RE e t (bl r ++ bl p)).2.2 ∧ t' = (M.RE e t (bl r ++ bl p)).2.1) :
    InG W e r t p (.slice av L.length cv) (.pointer (some ⟨W.heap.size, 0, none⟩)) (.int .i64 0) (((((w1.setCell ⟨W.heap.size, 0, none⟩ (.int .i64 e)).setCell ⟨W.heap.size, 1, none⟩ (.string r')).setCell ⟨W.heap.size, 2, none⟩ (.int .i64 t'.1)).setCell ⟨W.heap.size, 3, none⟩ (.bool t'.2.1)).setCell ⟨W.heap.size, 4, none⟩ (.bool t'.2.2)) :=
  ⟨av, cv, r', t', L, W.heap.size, rfl, rfl, rfl, Sc.put HR e r' t', Ints.of_owns (oset5 HI (Nat.lt_succ_self _)), bset5 HW (Nat.le_refl _), Nat.le_refl _, h1⟩
/-- What a round of the law's loop knows. -/
def InB (n : Int) (s : ByteArray) (w3 wr : World) (k : Nat) (v : Value) : Prop :=
  ∃ xs r t, wr.ownsRow (w3.heap.size + 1) 3 1 v xs.length (xs.map (Value.int .i64)) ∧ Sc w3.heap.size n r t wr ∧ Below w3.heap.size w3 wr ∧ M.RE n M.st0 ((bl s).take k) = (xs, t, bl r) ∧ (M.wE n (bl r) = r.size ∧ r.size ≤ 3) ∧ M.Ok n t
theorem bl_mid (s : ByteArray) (i j : Nat) : bl (s.extract i j) = ((bl s).drop i).take (j - i) := by simp [bl, ByteArray.data_extract]
theorem bl_oneb (s : ByteArray) (k : Nat) (h : k < s.size) : bl (s.extract k (k + 1)) = [(s[k].toNat : Int)] := by
  rw [bl_mid, bl_drop s k h, Nat.add_sub_cancel_left]; rfl
theorem take_oneb (s : ByteArray) (k : Nat) (h : k < s.size) : (bl s).take (k + 1) = (bl s).take k ++ bl (s.extract k (k + 1)) := by
  rw [bl_oneb s k h, List.take_succ_eq_append_getElem (by rw [bl_len]; exact h)]
  have h2 := bl_get s k h
  rw [List.getElem?_eq_getElem (by rw [bl_len]; exact h)] at h2
  rw [Option.some.inj h2]

set_option maxHeartbeats 4000000 in
set_option maxRecDepth 100000 in
theorem kind (n : Int) (s : ByteArray) (w : World) (he : ¬ (1 ≤ n ∧ n ≤ 7)) :
    Calls Try.prog 8 #[.int .i64 n, .string s] w fun e w' => e = .returned (.bool true) ∧ Below w.heap.size w w' := by
  go_enter Try.func8, Try.ntmps8
  go_wp2_with fail
  refine (sdecode_kind n s _ he).mono ?_
  rintro e w1 ⟨rfl, hw⟩
  replace hw := hw.symm
  subst hw
  go_wp2_with fail
  refine (begunT_any _).mono ?_
  rintro e w2 ⟨rfl, hb2⟩
  have HB := hide hb2
  clear hb2
  go_wp2_with fail
  go_ret
  exact ⟨rfl, unhide HB⟩

set_option maxHeartbeats 4000000 in
set_option maxRecDepth 100000 in
theorem long (n : Int) (s : ByteArray) (w : World) (he : 1 ≤ n ∧ n ≤ 7) (hs : 3000 < s.size) (hm : s.size ≤ maxLen) :
    Calls Try.prog 8 #[.int .i64 n, .string s] w fun e w' => e = .returned (.bool true) ∧ Below w.heap.size w w' := by
  go_enter Try.func8, Try.ntmps8
  go_wp2_with fail
  refine (sdecode_long n s _ he hs hm).mono ?_
  rintro e w1 ⟨rfl, hb1⟩
  go_wp2_with fail
  refine (begunT_any _).mono ?_
  rintro e w2 ⟨rfl, hb2⟩
  have HB := hide (bstep hb1 hb2)
  clear hb1 hb2
  go_wp2_with fail
  go_ret
  exact ⟨rfl, unhide HB⟩

set_option maxHeartbeats 4000000 in
set_option maxRecDepth 100000 in
theorem main (n : Int) (s : ByteArray) (w : World) (hn : 1 ≤ n ∧ n ≤ 7) (hs : s.size ≤ 3000) :
    Calls Try.prog 8 #[.int .i64 n, .string s] w fun e w' => e = .returned (.bool true) ∧ Below w.heap.size w w' := by
  go_enter Try.func8, Try.ntmps8
  go_wp2_with fail
  refine (sdecode_any n s _ hn hs).mono ?_
  rintro e w1 ⟨v0, rfl, hI0, hb1⟩
  obtain ⟨L0, HE0⟩ : ∃ L, Hid (L = M.decE n (bl s)) := ⟨_, hide rfl⟩
  rw [← unhide HE0] at hI0
  obtain ⟨a0, c0, hs0, -⟩ := id hI0
  subst hs0
  go_wp2_with fail
  refine (begunT_any _).mono ?_
  rintro e w2 ⟨rfl, hb2⟩
  have HD1 := hide (hI0.below hb2)
  have HB1 := hide (bstep hb1 hb2)
  clear hI0 hb1 hb2
  go_wp2_with fail
  refine (open_yes n _ hn).mono ?_
  rintro e w3 ⟨rfl, hb3⟩
  have HD0 := hide ((unhide HD1).below hb3)
  have HB0 := hide (bstep (unhide HB1) hb3)
  have HI : Hid (InB n s w3 (w3.alloc (.cells #[.int .i64 n, .string ⟨#[]⟩, .int .i64 0, .bool false, .bool false] 40)) 0 (.slice none 0 0)) := hide ⟨[], ⟨#[]⟩, M.st0, World.ownsRow_nil _ _ _ _, Sc.new w3 n ⟨#[]⟩ M.st0, balloc _ _, M.Run_wait (M.Steps.nil (M.FE_steps n) M.st0), chk_beg hn, M.Ok_st0 n⟩
  clear hb3 HD1 HB1
  unfold sv M.st0
  go_wp2_with fail
  go_loopw [8, 9] (fun v i wr => ∃ k : Nat, k ≤ s.size ∧ i = .int .i64 k ∧ InB n s w3 wr k v) (fun _ i _ => s.size - (intOf i).toNat)
  case atStart => exact ⟨0, by omega, rfl, unhide HI⟩
  case round =>
    obtain ⟨k, hk, rfl, xs, r, t, hO, hS, hB, hE, hr, ht⟩ := hrel
    clear HI
    have HO := hide hO
    have HS := hide hS
    have HB := hide hB
    have HE := hide hE
    obtain ⟨av, cv, hsv⟩ := owns_shape hO
    subst hsv
    have hlw := hS.lt
    have hxl : Hid (xs.length ≤ 3000) := hide (by have := M.RE_out hn M.st0 ((bl s).take k); rw [hE, List.length_take, bl_len] at this; show xs.length ≤ 3000; have h3 : xs.length ≤ min k s.size := this; omega)
    clear hO hB hE
    by_cases hks : k < s.size
    · have FM := fun w => feed_more n r t (s.extract k (k + 1)) w hn hr ht (by simp; omega)
      unfold sv at FM
      have hsl : ∀ wx, (Instr.slice 9 (.string s) (some (.int .i64 (k : Int))) (some (.int .i64 ((k : Int) + 1))) none).run Try.prog wx = .ok (.string (s.extract k (k + 1))) wx :=
        fun wx => run_slice_string (P := Try.prog) wx 9 s .i64 .i64 (k : Int) ((k : Int) + 1) Try.underlying9 (by omega) (by omega) (by omega)
      have hwr : IntKind.i64.wrap ((k : Int) + 1) = (k : Int) + 1 := by rw [IntKind.wrap_i64]; omega
      have HN : Hid (∀ L r' t', L = (M.RE n t (bl r ++ bl (s.extract k (k + 1)))).1 → bl r' = (M.RE n t (bl r ++ bl (s.extract k (k + 1)))).2.2 → t' = (M.RE n t (bl r ++ bl (s.extract k (k + 1)))).2.1 → M.RE n M.st0 ((bl s).take (k + 1)) = (xs ++ L, t', bl r')) := hide (fun L r' t' e1 e2 e3 => by
        rw [take_oneb s k hks, M.RE_app, unhide HE, e1, e2, e3])
      have HCA : Hid (∀ r', bl r' = (M.RE n t (bl r ++ bl (s.extract k (k + 1)))).2.2 → (M.wE n (bl r') = r'.size ∧ r'.size ≤ 3) ∧ M.Ok n (M.RE n t (bl r ++ bl (s.extract k (k + 1)))).2.1) := hide (fun r' h => chk_after hn ht _ h)
      obtain ⟨p0, p1, p2, p3, p4, f0, f1, f2, f3, f4⟩ := hS
      go_upto_region 11 with fail
      go_cut [10, 11, 12] from 34 to 62 (fun a x f wx => InG wr n r t (s.extract k (k + 1)) a x f wx)
      case first =>
        go_region_law ((go_simp; go_at_call 19; refine (FM _).mono ?_; rintro e' z1 ⟨v, r', t', L, rfl, hI, hb, k1, -⟩; obtain ⟨av1, cv1, hsv1⟩ := owns_shape hI; subst hsv1; unfold sv; (first
            | (have HW : Hid (Below wr.heap.size wr z1) := hide ((below_drewN (Below.refl _ wr) 1).trans hb); have HI : Hid (z1.ownsRow wr.heap.size 3 1 (.slice av1 L.length cv1) L.length (L.map (Value.int .i64))) := hide hI; have HK := hide (k1 rfl))
            | (have HW : Hid (Below wr.heap.size wr z1) := hide ((below_drewN ((Below.refl _ wr).alloc (Nat.le_refl _) _) 1).trans (hb.mono (by simp))); have HI : Hid (z1.ownsRow (wr.heap.size + 1) 3 1 (.slice av1 L.length cv1) L.length (L.map (Value.int .i64))) := hide (by simpa using hI); have HRc := hide (Rc.made hb); obtain ⟨b0, b1, b2, b3, b4, g0, g1, g2, g3, g4⟩ := unhide HRc; have hq : wr.heap.size < z1.heap.size := World.block_lt_of_cell? z1 _ b0; have HK := hide (k1 rfl))); clear hI hb k1))
        all_goals
          go_wp2_with fail
          go_meet
          case rel => first | exact InG.a (unhide HW) (unhide HI) (unhide HK) | exact InG.b (unhide HW) (unhide HRc) (unhide HI) (unhide HK)
      case rest =>
        obtain ⟨av1, cv1, r1, t1, L1, B, rfl, rfl, rfl, hS1, hI1, hb1, hBg, e1, e2, e3⟩ := hcut
        have HR := hide (unhide HN L1 r1 t1 e1 e2 e3)
        have hck := unhide HCA r1 e2
        rw [← e3] at hck
        have hr3 := hck.1.2
        have HCK := hide hck
        have HI1 := hide hI1
        have HB1 := hide ((unhide HB).trans (hb1.mono (unhide HB).size))
        have HO1 := hide (owns_below (unhide HO) hb1)
        have HS1 := hide ((unhide HS).on hb1)
        have HY1 := hide hS1
        have hne : (Value.slice av xs.length cv).ownBlock ≠ some B := fun h => by have h1 := owns_lt (unhide HO) _ h; omega
        have hL1 : Hid (L1.length ≤ 3000) := hide (by have := M.RE_out hn M.st0 ((bl s).take (k + 1)); rw [unhide HR, List.length_take, bl_len] at this; have h3 : (xs ++ L1).length ≤ min (k + 1) s.size := this; rw [List.length_append] at h3; omega)
        have hzc : w3.heap.size + 1 ≤ wc.heap.size := by have := (unhide HS1).lt; omega
        have hBl := hS1.lt
        obtain ⟨y0, y1, y2, y3, y4, -, -, -, -, -⟩ := hS1
        clear hI1 hb1 e1 e2 e3 hck p0 p1 p2 p3 p4 f0 f1 f2 f3 f4 FM hsl hwr
        go_wp2_with (at_builtin; refine append_keep rfl (.tmp 59) (.tmp 60) rfl (w3.heap.size + 1) _ xs rfl (unhide HO1) _ L1 rfl (unhide HI1) (by have := unhide hxl; have := unhide hL1; omega) hzc ?_)
        intro ao2 cap2 w4 ho2 hb2 hk2
        have HO2 : Hid (w4.ownsRow (w3.heap.size + 1) 3 1 (.slice ao2 (xs.length + L1.length) cap2) (xs ++ L1).length ((xs ++ L1).map (Value.int .i64))) := hide (by simpa using ho2)
        have HS2 := hide ((unhide HS1).below hb2 (Nat.lt_succ_self _))
        have HB2 := hide ((unhide HB1).trans (hb2.mono (Nat.le_succ _)))
        have q0 := (hk2 B 0 hBl hne).trans y0
        have q1 := (hk2 B 1 hBl hne).trans y1
        have q2 := (hk2 B 2 hBl hne).trans y2
        have q3 := (hk2 B 3 hBl hne).trans y3
        have q4 := (hk2 B 4 hBl hne).trans y4
        have hBl2 : B < w4.heap.size := World.block_lt_of_cell? w4 _ q0
        have hol2 := (unhide HS2).lt
        obtain ⟨p0, p1, p2, p3, p4, f0, f1, f2, f3, f4⟩ := unhide HS2
        have hnb : ¬ (w3.heap.size = B) := by omega
        have hnb' : ¬ (B = w3.heap.size) := by omega
        clear ho2 hb2 hk2 y0 y1 y2 y3 y4 hne
        go_wp2_with fail
        go_roundw
        case rel => exact ⟨k + 1, by omega, by go_num, xs ++ L1, r1, t1, oset5 (by simpa using unhide HO2) (Nat.lt_succ_self _), (unhide HS2).rc n r1 t1, bset5 (unhide HB2) (Nat.le_refl _), unhide HR, (unhide HCK).1, (unhide HCK).2⟩
        case measure => simp [intOf]; omega
    · have et : (bl s).take k = bl s := List.take_of_length_le (by rw [bl_len]; omega)
      rw [et] at HE
      have FL := fun w => feed_last n r t ⟨#[]⟩ w hn hr ht (by decide)
      unfold sv at FL
      have HALL : Hid (xs ++ (M.TE n t (bl r ++ bl ⟨#[]⟩)).1 = L0) := hide (by
        have h1 := M.TE_run n M.st0 (bl s)
        rw [unhide HE] at h1
        rw [unhide HE0]; unfold M.decE
        rw [h1, show bl ⟨#[]⟩ = [] from rfl, List.append_nil])
      have HLen : Hid (L0.length ≤ 3000) := hide (by rw [unhide HE0]; have := M.TE_few n _ M.st0 (bl s) (Nat.le_refl _); rw [bl_len] at this; exact Nat.le_trans this hs)
      obtain ⟨p0, p1, p2, p3, p4, -, -, -, -, -⟩ := hS
      have HDr := hide ((unhide HD0).below (unhide HB))
      clear et HE
      go_wp2_with fail
      refine (FL _).mono ?_
      rintro e z1 ⟨v, r', t', L, rfl, hI, hb, -, k2⟩
      obtain ⟨e1, e2, e3⟩ := k2 rfl
      subst e2 e3
      rw [← e1] at HALL
      obtain ⟨av1, cv1, hsv1⟩ := owns_shape hI
      subst hsv1
      have HI1 := hide (Ints.of_owns hI)
      have HO1 := hide (owns_below (unhide HO) hb)
      have HD1 := hide ((unhide HDr).below hb)
      have HB1 := hide ((unhide HB).trans (hb.mono (unhide HB).size))
      have hzz : w3.heap.size + 1 ≤ z1.heap.size := by have := hb.size; omega
      have hlen := congrArg List.length (unhide HALL)
      rw [List.length_append] at hlen
      have HLs : Hid (xs.length + L.length ≤ 3000) := hide (by rw [hlen]; exact unhide HLen)
      clear hI hb k2 e1 p0 p1 p2 p3 p4 hlen FL
      unfold sv M.st0
      go_wp2_with (at_builtin; refine append_ints rfl (.tmp 76) (.tmp 77) rfl (w3.heap.size + 1) _ xs rfl (owns_a (unhide HO1) _) _ L rfl ((unhide HI1).below (balloc _ _)) (by have := unhide HLs; omega) (by simp; omega) ?_)
      intro v4 w4 ho4 hb4
      obtain ⟨ao4, cap4, hsh4⟩ := owns_shape ho4
      subst hsh4
      have HI4 : Hid (Ints w4 (.slice ao4 (xs.length + L.length) cap4) L0) := hide (by rw [← unhide HALL]; exact Ints.of_owns (by simpa using ho4))
      have HD4 := hide ((unhide HD0).below (((unhide HB1).alloc (unhide HB1).size (.cells #[.int .i64 n, .string ⟨#[]⟩, .int .i64 0, .bool false, .bool false] 40)).trans (hb4.mono (Nat.le_succ _))))
      have HB4 := hide (bstep (unhide HB0) (((unhide HB1).alloc (unhide HB1).size (.cells #[.int .i64 n, .string ⟨#[]⟩, .int .i64 0, .bool false, .bool false] 40)).trans (hb4.mono (Nat.le_succ _))))
      clear ho4 hb4
      go_wp2_with fail
      refine (same_any _ (unhide HI4) (unhide HD4)).mono ?_
      rintro e w5 ⟨rfl, hb5⟩
      rw [show (L0 == L0) = true from by simp]
      have HB5 := hide (bstep (unhide HB4) hb5)
      clear hb5
      go_wp2_with fail
      go_ret
      exact ⟨rfl, unhide HB5⟩

theorem walk (n : Int) (s : ByteArray) (w : World) (hnw : (Lit.int .i64 n).wf = true) (hsm : s.size ≤ maxLen) :
    Calls Try.prog 8 #[.int .i64 n, .string s] w fun e w' => e = .returned (.bool true) ∧ Below w.heap.size w w' := by
  by_cases hn : 1 ≤ n ∧ n ≤ 7
  · by_cases hs : 3000 < s.size
    · exact long n s w hn hs hsm
    · exact main n s w hn (by omega)
  · exact kind n s w hn

set_option maxRecDepth 100000 in
theorem lifted (os : Os) (started : os.Started) (H : Type) (enc : TypeId × Value → H) :
    ReturnsInHanded {} Try.checked os 8 .any (Rows.streamBytesSpec.pre6 enc Try.prog Try.f8 Rows.streamBytesRow.domain false) (Rows.streamBytesSpec.post enc Try.prog Try.f8 false true false false) := by
  refine returnsInHanded_of_change (C := Try.checked) own started (by kernel_rfl) Try.func8
    (ChangeSpec.witness6 (enc := enc) (C := Try.checked) false ⟨#[], #[.int .i64 0, .string ByteArray.empty], []⟩ 8 (by kernel_rfl) (by kernel_rfl) (by kernel_rfl) (by kernel_rfl)) ?_
  intro W base args ds gs before hval0 hW hcnd _
  have hval : ∀ (j : Nat) t v, Try.f8.params[j]? = some t → args[j]? = some v → Value.okWide Try.prog W .any base t v := hval0
  have hW' := hW
  obtain ⟨p, q, hA0, hV, rfl, hfz, hnd⟩ := hW
  have hA : DataW.TrodAll enc Try.prog W 0 (fun _ => true) true Try.f8.params.toList args.toList ds p := hA0
  rw [Try.params8] at hA hval
  obtain ⟨v0, vs0, d0, ds0, p0, q0, hargs, rfl, rfl, h0, r0⟩ := trodAll_cons hA
  obtain ⟨v1, vs1, d1, ds1, p1, q1, rfl, rfl, rfl, h1, r1⟩ := trodAll_cons r0
  obtain ⟨rfl, rfl, rfl⟩ := trodAll_nil r1
  obtain rfl : args = #[v0, v1] := by cases args; simp_all
  obtain ⟨rfl, rfl⟩ := trodVars_none hV
  obtain ⟨a0, rfl, rfl, rfl, w0⟩ := open_int Try.underlying3 (hval 0 3 v0 rfl rfl) h0
  obtain ⟨a1, rfl, rfl, rfl, w1⟩ := open_string Try.underlying9 (hval 1 9 v1 rfl rfl) h1
  clear hA0 hval0
  refine (walk a0 a1 W w0 w1).mono fun e W' ⟨he, bel⟩ => ?_
  subst he
  exact ⟨_, rfl, _, _, _, [], _, [], hW', trodAll_mk1 (shut_bool Try.underlying4 _), (trodAll_cons_mk (shut_int Try.underlying3 w0) (trodAll_cons_mk (shut_string Try.underlying9 w1) trodAll_mk0)), rfl, bel.frame _, fun h => by cases h⟩

theorem over : Rows.streamBytesRow.holds Try.pinned (OpenSpec.ofChange Rows.streamBytesSpec) :=
  OpenClaim.holds_of_wide 8 Try.f8 rfl rfl rfl rfl rfl rfl rfl ⟨rfl, rfl, rfl, rfl, rfl⟩ rfl rfl rfl rfl rfl (by kernel_rfl) Try.func8 (by kernel_rfl)
    (of_decide_eq_true (by kernel_rfl)) (by unfold Func.isWrapper; first | (rw [if_pos (by decide +kernel)]; kernel_rfl) | (rw [if_neg (by decide +kernel)]; exact ⟨rfl, rfl⟩))
    (fun os started H enc _ => lifted os started H enc)
end Go.Proofs.Ythhjfedegbldfac.streamBytes

namespace Go.Proofs.Ythhjfedegbldfac
theorem streamBytes_holds : Rows.StreamBytesSaid := streamBytes.over
end Go.Proofs.Ythhjfedegbldfac
