/- The contracts of a decoder's tell, take, feed and end: what it has told, and its state then, by the plain functions; what was there below its own block is as it was. -/
import Derived.Test.YtpjhcecfcjbgoaaDB
import Derived.Test.YtpjhcecfcjbgoaaMathY
namespace Go.Proofs.Ytpjhcecfcjbgoaa
open Go.RowKit
set_option linter.unusedVariables false

theorem Dl.lt {D : Nat} {e : Int} {r : ByteArray} {t : M.St} {xs : List Int} {w : World} (h : Dl D e r t xs w) : D < w.heap.size := by
  obtain ⟨v, hC, _⟩ := h
  exact hC.lt
theorem Dl.below {D : Nat} {e : Int} {r : ByteArray} {t : M.St} {xs : List Int} {w w2 : World} (h : Dl D e r t xs w) (hb : Below w.heap.size w w2) : Dl D e r t xs w2 := by
  have hl := h.lt
  obtain ⟨v, hC, ho⟩ := h
  exact ⟨v, hC.below (hb.mono hl), owns_below ho hb⟩
theorem TE_5 {e : Int} (he : 1 ≤ e ∧ e ≤ 5) (t : M.St) (l : List Int) : M.TE e t l = (M.decE e l, t) := by
  obtain rfl | rfl | rfl | rfl | rfl : e = 1 ∨ e = 2 ∨ e = 3 ∨ e = 4 ∨ e = 5 := by omega
  · rw [M.TE_8, decE_1]
  · rw [decE_2, show (2 : Int) = (if false then 3 else 2) from rfl, M.TE_16]
  · rw [decE_3, show (3 : Int) = (if true then 3 else 2) from rfl, M.TE_16]
  · rw [decE_4, show (4 : Int) = (if false then 5 else 4) from rfl, M.TE_S]
  · rw [decE_5, show (5 : Int) = (if true then 5 else 4) from rfl, M.TE_S]
theorem dtell_any (D : Nat) (e : Int) (r : ByteArray) (t : M.St) (xs : List Int) (s : ByteArray) (w : World) (he : 1 ≤ e ∧ e ≤ 7) (hk : M.Sg t.1) (hs : s.size ≤ 3000) (hx : xs.length ≤ 20000) (hD : Dl D e r t xs w) :
    Calls Try.prog 22 #[.pointer (some ⟨D, 0, none⟩), .string s] w fun e' w' => e' = .returned (.tuple #[]) ∧ Told D e r t xs (bl s) w w' := by
  by_cases h5 : e ≤ 5
  · have hl := M.TE_few e _ t (bl s) (Nat.le_refl _)
    rw [TE_5 ⟨he.1, h5⟩, bl_len] at hl
    exact tell_plain D e r t xs s w ⟨he.1, h5⟩ hs hx (TE_5 ⟨he.1, h5⟩ t (bl s)) (Nat.le_trans hl hs) hD
  · obtain rfl | rfl : e = 6 ∨ e = 7 := by omega
    · exact tell_kana D r t xs s w hk (by omega) hx hD
    · cases ht : t.2.2
      · exact tell_stop D r t xs s w hx ht hD
      · exact tell_stopped D r t xs s w ht hD

/-- What take leaves: all is told but what waits. -/
def Taken (D : Nat) (e : Int) (t : M.St) (xs l : List Int) (w w' : World) : Prop :=
  ∃ r', bl r' = (M.RE e t l).2.2 ∧ Dl D e r' (M.RE e t l).2.1 (xs ++ (M.RE e t l).1) w' ∧ Below D w w'

set_option maxHeartbeats 1600000 in
set_option maxRecDepth 100000 in
theorem take_any (D : Nat) (e : Int) (r : ByteArray) (t : M.St) (xs : List Int) (p : ByteArray) (w : World) (he : 1 ≤ e ∧ e ≤ 7) (hk : M.Sg t.1) (hs : r.size + p.size ≤ 3000) (hx : xs.length ≤ 20000) (hD : Dl D e r t xs w) :
    Calls Try.prog 21 #[.pointer (some ⟨D, 0, none⟩), .string p] w fun e' w' => e' = .returned (.tuple #[]) ∧ Taken D e t xs (bl r ++ bl p) w w' := by
  have hsz : (r ++ p).size = r.size + p.size := by rw [← bl_len, bl_app, List.length_append, bl_len, bl_len]
  have hwb := M.wE_bd he (bl (r ++ p))
  rw [bl_len, hsz] at hwb
  have H := fun w => waits_any e (r ++ p) w he (by rw [hsz]; unfold maxLen; omega) (fun _ => by rw [hsz]; exact hs)
  have HT := M.TE_take he t (bl (r ++ p))
  have HR := M.RE_rest he t (bl (r ++ p))
  rw [bl_len, hsz] at HT HR
  rw [← bl_app]
  obtain ⟨n, hn⟩ : ∃ n : Nat, M.wE e (bl (r ++ p)) = n := ⟨(M.wE e (bl (r ++ p))).toNat, by omega⟩
  rw [hn] at H hwb HT HR
  rw [Int.toNat_natCast] at HT HR
  obtain ⟨k, hkk⟩ : ∃ k : Nat, r.size + p.size = k + n := ⟨r.size + p.size - n, by omega⟩
  rw [hkk, Nat.add_sub_cancel] at HT HR
  have hk3 : k ≤ 3000 := by omega
  have hn3 : n ≤ 3 := by omega
  obtain ⟨q, HQ⟩ : ∃ q, Hid (r ++ p = q) := ⟨_, hide rfl⟩
  have hqs : q.size = k + n := by rw [← unhide HQ, hsz, hkk]
  have HT1 : Hid (M.TE e t (bl (q.extract 0 k)) = ((M.RE e t (bl q)).1, (M.RE e t (bl q)).2.1)) := hide (by rw [bl_take, ← unhide HQ]; exact HT)
  have HR1 : Hid (bl (q.extract k q.size) = (M.RE e t (bl q)).2.2) := hide (by rw [bl_extract, ← unhide HQ]; exact HR.symm)
  rw [unhide HQ] at H
  rw [unhide HQ]
  have hrp : r.size + p.size ≤ 3000 := hs
  have HD := hide hD
  have hDs := hD.lt
  obtain ⟨v, hC, ho⟩ := hD
  obtain ⟨c0, c1, c2, c3, c4, c5, f0, f1, f2, f3, f4, f5⟩ := hC
  have hqk : (q.size : Int) - (n : Int) = (k : Int) := by omega
  have HQS := hide hqs
  have hr0 : r.size ≤ 3000 := by omega
  have hp0 : p.size ≤ 3000 := by omega
  have hcat := unhide HQ
  clear hsz hwb HT HR hn hkk hqs ho hs
  go_enter Try.func21, Try.ntmps21
  go_wp2_with fail
  refine (H _).mono ?_
  rintro e' w1 ⟨rfl, hb1⟩
  have HD1 := hide ((unhide HD).below hb1)
  have HB1 := hide hb1
  have hkq : k ≤ q.size := by have := unhide HQS; omega
  clear hb1 H hcat
  go_wp2_with fail
  refine (dtell_any D e r t xs (q.extract 0 k) _ he hk (by have := unhide HQS; simp; omega) hx (unhide HD1)).mono ?_
  rintro e' w2 ⟨rfl, hD2, hb2⟩
  rw [unhide HT1] at hD2
  have HD2 := hide hD2
  have HB2 := hide (((unhide HB1).mono (Nat.le_of_lt hDs)).trans hb2)
  clear hD2 hb2
  have hcl : (q.extract k q.size).size ≤ 3000 := by have := unhide HQS; simp; omega
  go_wp2_with fail
  refine (clone_any (q.extract k q.size) _ hcl).mono ?_
  rintro e' w3 ⟨rfl, hb3⟩
  have HD3 := hide ((unhide HD2).below hb3)
  have HB3 := hide ((unhide HB2).trans (hb3.mono (Nat.le_of_lt (unhide HD2).lt)))
  obtain ⟨v3, hC3, ho3⟩ := unhide HD3
  have HC3 := hide hC3
  have HO3 := hide ho3
  obtain ⟨d0, d1, d2, d3, d4, d5, k0, k1, k2, k3, k4, k5⟩ := hC3
  have hD3 : D < w3.heap.size := World.block_lt_of_cell? w3 _ d0
  clear hb3 ho3
  generalize q.extract k q.size = z at *
  go_wp2_with fail
  go_end0
  exact ⟨rfl, z, unhide HR1, ⟨v3, (unhide HC3).set1 z, owns_set (unhide HO3) ⟨D, 1, none⟩ (Nat.lt_succ_self _) _⟩, bset (unhide HB3) ⟨D, 1, none⟩ _ (Nat.le_refl _)⟩

theorem Taken.app {D : Nat} {e : Int} {t : M.St} {xs l m : List Int} {w w1 w2 : World} (h1 : Below D w w1) (h2 : Taken D e (M.RE e t l).2.1 (xs ++ (M.RE e t l).1) ((M.RE e t l).2.2 ++ m) w1 w2) : Taken D e t xs (l ++ m) w w2 := by
  obtain ⟨r', e1, e2, e3⟩ := h2
  refine ⟨r', ?_, ?_, h1.trans e3⟩
  · rw [M.RE_app]; exact e1
  · rw [M.RE_app]; rw [List.append_assoc] at e2; exact e2

set_option maxHeartbeats 1600000 in
set_option maxRecDepth 100000 in
theorem feed_short (D : Nat) (e : Int) (r : ByteArray) (t : M.St) (xs : List Int) (p : ByteArray) (w : World) (he : 1 ≤ e ∧ e ≤ 7) (hk : M.Sg t.1) (hr : r.size ≤ 3) (hs : p.size ≤ 2997) (hx : xs.length ≤ 10000) (hD : Dl D e r t xs w) :
    Calls Try.prog 11 #[.pointer (some ⟨D, 0, none⟩), .string p] w fun e' w' => e' = .returned (.tuple #[]) ∧ Taken D e t xs (bl r ++ bl p) w w' := by
  have H := take_any D e r t xs p w he hk (by omega) (by omega) hD
  go_enter Try.func11, Try.ntmps11
  go_wp2_with fail
  refine wp_loop_rounds 1 ?_
  rw [rounds_succ]
  go_wp2_with fail
  refine H.mono ?_
  rintro e' w1 ⟨rfl, hT⟩
  have HT := hide hT
  clear hT H
  go_wp2_with fail
  go_end0
  exact ⟨rfl, unhide HT⟩
set_option maxHeartbeats 1600000 in
set_option maxRecDepth 100000 in
theorem feed_great (D : Nat) (e : Int) (r : ByteArray) (t : M.St) (xs : List Int) (p : ByteArray) (w : World) (he : 1 ≤ e ∧ e ≤ 7) (hk : M.Ok e t) (hr : r.size ≤ 3) (hs : 2997 < p.size) (hs2 : p.size ≤ 3000) (hx : xs.length ≤ 10000) (hD : Dl D e r t xs w) :
    Calls Try.prog 11 #[.pointer (some ⟨D, 0, none⟩), .string p] w fun e' w' => e' = .returned (.tuple #[]) ∧ Taken D e t xs (bl r ++ bl p) w w' := by
  have H1 := take_any D e r t xs (p.extract 0 2997) w he hk.1 (by simp; omega) (by omega) hD
  have hO := M.Ok_run he hk (bl r ++ bl (p.extract 0 2997))
  have hF := M.RE_few he t (bl r ++ bl (p.extract 0 2997))
  have hL := M.RE_out he t (bl r ++ bl (p.extract 0 2997))
  rw [List.length_append, bl_len, bl_len] at hL
  have hz1 : (p.extract 0 2997).size = 2997 := by simp; omega
  have hz2 : (p.extract 2997 p.size).size ≤ 3 := by simp; omega
  rw [hz1] at hL
  have HS : Hid (bl r ++ bl p = (bl r ++ bl (p.extract 0 2997)) ++ bl (p.extract 2997 p.size)) := hide (by rw [bl_take, bl_extract, List.append_assoc, List.take_append_drop])
  have HG : Hid (∀ w1 w2, Below D w w1 → Taken D e (M.RE e t (bl r ++ bl (p.extract 0 2997))).2.1 (xs ++ (M.RE e t (bl r ++ bl (p.extract 0 2997))).1) ((M.RE e t (bl r ++ bl (p.extract 0 2997))).2.2 ++ bl (p.extract 2997 p.size)) w1 w2 → Taken D e t xs (bl r ++ bl p) w w2) := hide (fun w1 w2 h1 h2 => by
    rw [unhide HS]; exact Taken.app h1 h2)
  generalize hRE : M.RE e t (bl r ++ bl (p.extract 0 2997)) = R at *
  have hz3 : (p.extract 2997 p.size).size ≤ 2997 := by omega
  obtain ⟨b, HBq⟩ : ∃ b, Hid (p.extract 2997 p.size = b) := ⟨_, hide rfl⟩
  rw [unhide HBq] at hz2 hz3 HG
  have hbq := unhide HBq
  have hb0 : b.size ≤ 3 := hz2
  go_enter Try.func11, Try.ntmps11
  go_wp2_with fail
  refine wp_loop_rounds 2 ?_
  rw [rounds_succ]
  go_wp2_with fail
  refine H1.mono ?_
  rintro e' w1 ⟨rfl, r', hr', hD1, hB1⟩
  rw [hRE] at hr' hD1
  have hr3 : r'.size ≤ 3 := by rw [← bl_len, hr']; exact hF
  have H2 := take_any D e r' R.2.1 (xs ++ R.1) b w1 he hO.1 (by omega) (by simp; omega) hD1
  rw [hr'] at H2
  have HB1 := hide hB1
  clear H1 hD1 hB1
  go_wp2_with fail
  rw [rounds_succ]
  go_wp2_with fail
  refine H2.mono ?_
  rintro e' w2 ⟨rfl, hT⟩
  have HT := hide (unhide HG w1 w2 (unhide HB1) hT)
  clear hT H2
  go_wp2_with fail
  go_end0
  exact ⟨rfl, unhide HT⟩

set_option maxHeartbeats 1600000 in
set_option maxRecDepth 100000 in
theorem end_any (D : Nat) (e : Int) (r : ByteArray) (t : M.St) (xs : List Int) (w : World) (he : 1 ≤ e ∧ e ≤ 7) (hk : M.Sg t.1) (hr : r.size ≤ 3) (hx : xs.length ≤ 20000) (hD : Dl D e r t xs w) :
    Calls Try.prog 12 #[.pointer (some ⟨D, 0, none⟩)] w fun e' w' => e' = .returned (.tuple #[]) ∧ Dl D e ⟨#[]⟩ M.st0 (xs ++ (M.TE e t (bl r)).1) w' ∧ Below D w w' := by
  have H := dtell_any D e r t xs r w he hk (by omega) hx hD
  have hDs := hD.lt
  obtain ⟨v, hC, ho⟩ := hD
  obtain ⟨c0, c1, c2, c3, c4, c5, f0, f1, f2, f3, f4, f5⟩ := hC
  clear ho
  go_enter Try.func12, Try.ntmps12
  go_wp2_with fail
  refine H.mono ?_
  rintro e' w1 ⟨rfl, hD1, hB1⟩
  have HB1 := hide hB1
  obtain ⟨v1, hC1, ho1⟩ := hD1
  have HC1 := hide hC1
  have HO1 := hide ho1
  generalize (M.TE e t (bl r)).2 = t1 at *
  obtain ⟨d0, d1, d2, d3, d4, d5, k0, k1, k2, k3, k4, k5⟩ := hC1
  have hD1 : D < w1.heap.size := World.block_lt_of_cell? w1 _ d0
  clear H hB1 ho1
  go_wp2_with fail
  go_end0
  refine ⟨rfl, ⟨v1, ?_, ?_⟩, ?_⟩
  · exact (((((unhide HC1).set0 e).set1 ⟨#[]⟩).set2 0).set3 false).set4 false
  · exact owns_set (owns_set (owns_set (owns_set (owns_set (unhide HO1) ⟨D, 0, none⟩ (Nat.lt_succ_self _) _) ⟨D, 1, none⟩ (Nat.lt_succ_self _) _) ⟨D, 2, none⟩ (Nat.lt_succ_self _) _) ⟨D, 3, none⟩ (Nat.lt_succ_self _) _) ⟨D, 4, none⟩ (Nat.lt_succ_self _) _
  · exact bset (bset (bset (bset (bset (unhide HB1) ⟨D, 0, none⟩ _ (Nat.le_refl _)) ⟨D, 1, none⟩ _ (Nat.le_refl _)) ⟨D, 2, none⟩ _ (Nat.le_refl _)) ⟨D, 3, none⟩ _ (Nat.le_refl _)) ⟨D, 4, none⟩ _ (Nat.le_refl _)
end Go.Proofs.Ytpjhcecfcjbgoaa
