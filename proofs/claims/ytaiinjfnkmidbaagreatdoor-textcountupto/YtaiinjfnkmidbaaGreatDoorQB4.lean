/- Laws that the statements of this seat lean on, part 4 (DC DD DE DF DG MathG6 KD KE KF Law RK RM): each a contract of a function, or a plain fact; conditions stand at each. -/
import Derived.Deep.CutRange
import Derived.Deep.RegionHeld3
import Derived.Lib.AppendStr
import Derived.Test.YtaiinjfnkmidbaaGreatDoorQB3
namespace Go.Proofs.YtaiinjfnkmidbaaGreatDoor
open Go.RowKit
set_option linter.unusedVariables false

theorem Dl.lt {D : Nat} {e : Int} {r : ByteArray} {t : M.St} {xs : List Int} {w : World} (h : Dl D e r t xs w) : D < w.heap.size := by
  obtain ⟨v, hC, _⟩ := h
  exact hC.lt
theorem Dl.below {D : Nat} {e : Int} {r : ByteArray} {t : M.St} {xs : List Int} {w w2 : World} (h : Dl D e r t xs w) (hb : Below w.heap.size w w2) : Dl D e r t xs w2 := by
  have hl := h.lt
  obtain ⟨v, hC, ho⟩ := h
  exact ⟨v, hC.below (hb.mono hl), owns_below ho hb⟩
theorem TE_5 {e : Int} (he : 1 ≤ e ∧ e ≤ 5) (t : M.St) (l : List Int) : M.TE e t l = (M.decE e l, t) := by
  obtain rfl | rfl | rfl | rfl | rfl : e = 1 ∨ e = 2 ∨ e = 3 ∨ e = 4 ∨ e = 5 := by omega
  · rw [M.TE_8, decE_1]
  · rw [decE_2, show (2 : Int) = (if false then 3 else 2) from rfl, M.TE_16]
  · rw [decE_3, show (3 : Int) = (if true then 3 else 2) from rfl, M.TE_16]
  · rw [decE_4, show (4 : Int) = (if false then 5 else 4) from rfl, M.TE_S]
  · rw [decE_5, show (5 : Int) = (if true then 5 else 4) from rfl, M.TE_S]
theorem dtell_any (D : Nat) (e : Int) (r : ByteArray) (t : M.St) (xs : List Int) (s : ByteArray) (w : World) (he : 1 ≤ e ∧ e ≤ 7) (hk : M.Sg t.1) (hs : s.size ≤ 3000) (hx : xs.length ≤ 20000) (hD : Dl D e r t xs w) :
    Calls Tryz.prog 162 #[.pointer (some ⟨D, 0, none⟩), .string s] w fun e' w' => e' = .returned (.tuple #[]) ∧ ToldD D e r t xs (bl s) w w' := by
  by_cases h5 : e ≤ 5
  · have hl := M.TE_few e _ t (bl s) (Nat.le_refl _)
    rw [TE_5 ⟨he.1, h5⟩, bl_len] at hl
    exact tell_plain D e r t xs s w ⟨he.1, h5⟩ hs hx (TE_5 ⟨he.1, h5⟩ t (bl s)) (Nat.le_trans hl hs) hD
  · obtain rfl | rfl : e = 6 ∨ e = 7 := by omega
    · exact tell_kana D r t xs s w hk (by omega) hx hD
    · cases ht : t.2.2
      · exact tell_stop D r t xs s w hx ht hD
      · exact tell_stopped D r t xs s w ht hD

/-- What take leaves: all is told but what waits. -/
def Taken (D : Nat) (e : Int) (t : M.St) (xs l : List Int) (w w' : World) : Prop :=
  ∃ r', bl r' = (M.RE e t l).2.2 ∧ Dl D e r' (M.RE e t l).2.1 (xs ++ (M.RE e t l).1) w' ∧ Below D w w'

set_option maxHeartbeats 1600000 in
set_option maxRecDepth 100000 in
theorem take_any (D : Nat) (e : Int) (r : ByteArray) (t : M.St) (xs : List Int) (p : ByteArray) (w : World) (he : 1 ≤ e ∧ e ≤ 7) (hk : M.Sg t.1) (hs : r.size + p.size ≤ 3000) (hx : xs.length ≤ 20000) (hD : Dl D e r t xs w) :
    Calls Tryz.prog 161 #[.pointer (some ⟨D, 0, none⟩), .string p] w fun e' w' => e' = .returned (.tuple #[]) ∧ Taken D e t xs (bl r ++ bl p) w w' := by
  have hsz : (r ++ p).size = r.size + p.size := by rw [← bl_len, bl_app, List.length_append, bl_len, bl_len]
  have hwb := M.wE_bd he (bl (r ++ p))
  rw [bl_len, hsz] at hwb
  have H := fun w => waits_any e (r ++ p) w he (by rw [hsz]; unfold maxLen; omega) (fun _ => by rw [hsz]; exact hs)
  have HT := M.TE_take he t (bl (r ++ p))
  have HR := M.RE_rest he t (bl (r ++ p))
  rw [bl_len, hsz] at HT HR
  rw [← bl_app]
  obtain ⟨n, hn⟩ : ∃ n : Nat, M.wE e (bl (r ++ p)) = n := ⟨(M.wE e (bl (r ++ p))).toNat, by omega⟩
  rw [hn] at H hwb HT HR
  rw [Int.toNat_natCast] at HT HR
  obtain ⟨k, hkk⟩ : ∃ k : Nat, r.size + p.size = k + n := ⟨r.size + p.size - n, by omega⟩
  rw [hkk, Nat.add_sub_cancel] at HT HR
  have hk3 : k ≤ 3000 := by omega
  have hn3 : n ≤ 3 := by omega
  obtain ⟨q, HQ⟩ : ∃ q, Hid (r ++ p = q) := ⟨_, hide rfl⟩
  have hqs : q.size = k + n := by rw [← unhide HQ, hsz, hkk]
  have HT1 : Hid (M.TE e t (bl (q.extract 0 k)) = ((M.RE e t (bl q)).1, (M.RE e t (bl q)).2.1)) := hide (by rw [bl_take, ← unhide HQ]; exact HT)
  have HR1 : Hid (bl (q.extract k q.size) = (M.RE e t (bl q)).2.2) := hide (by rw [bl_extract, ← unhide HQ]; exact HR.symm)
  rw [unhide HQ] at H
  rw [unhide HQ]
  have hrp : r.size + p.size ≤ 3000 := hs
  have HD := hide hD
  have hDs := hD.lt
  obtain ⟨v, hC, ho⟩ := hD
  obtain ⟨c0, c1, c2, c3, c4, c5, f0, f1, f2, f3, f4, f5⟩ := hC
  have hqk : (q.size : Int) - (n : Int) = (k : Int) := by omega
  have HQS := hide hqs
  have hr0 : r.size ≤ 3000 := by omega
  have hp0 : p.size ≤ 3000 := by omega
  have hcat := unhide HQ
  clear hsz hwb HT HR hn hkk hqs ho hs
  go_enter Tryz.func161, Tryz.ntmps161
  go_wp2_with fail
  refine (H _).mono ?_
  rintro e' w1 ⟨rfl, hb1⟩
  have HD1 := hide ((unhide HD).below hb1)
  have HB1 := hide hb1
  have hkq : k ≤ q.size := by have := unhide HQS; omega
  clear hb1 H hcat
  go_wp2_with fail
  refine (dtell_any D e r t xs (q.extract 0 k) _ he hk (by have := unhide HQS; simp; omega) hx (unhide HD1)).mono ?_
  rintro e' w2 ⟨rfl, hD2, hb2⟩
  rw [unhide HT1] at hD2
  have HD2 := hide hD2
  have HB2 := hide (((unhide HB1).mono (Nat.le_of_lt hDs)).trans hb2)
  clear hD2 hb2
  have hcl : (q.extract k q.size).size ≤ 3000 := by have := unhide HQS; simp; omega
  go_wp2_with fail
  refine (clone_any (q.extract k q.size) _ (Nat.le_trans hcl (by decide))).mono ?_
  rintro e' w3 ⟨rfl, hb3⟩
  have HD3 := hide ((unhide HD2).below hb3)
  have HB3 := hide ((unhide HB2).trans (hb3.mono (Nat.le_of_lt (unhide HD2).lt)))
  obtain ⟨v3, hC3, ho3⟩ := unhide HD3
  have HC3 := hide hC3
  have HO3 := hide ho3
  obtain ⟨d0, d1, d2, d3, d4, d5, k0, k1, k2, k3, k4, k5⟩ := hC3
  have hD3 : D < w3.heap.size := World.block_lt_of_cell? w3 _ d0
  clear hb3 ho3
  generalize q.extract k q.size = z at *
  go_wp2_with fail
  go_end0
  exact ⟨rfl, z, unhide HR1, ⟨v3, (unhide HC3).set1 z, owns_set (unhide HO3) ⟨D, 1, none⟩ (Nat.lt_succ_self _) _⟩, bset (unhide HB3) ⟨D, 1, none⟩ _ (Nat.le_refl _)⟩

theorem Taken.app {D : Nat} {e : Int} {t : M.St} {xs l m : List Int} {w w1 w2 : World} (h1 : Below D w w1) (h2 : Taken D e (M.RE e t l).2.1 (xs ++ (M.RE e t l).1) ((M.RE e t l).2.2 ++ m) w1 w2) : Taken D e t xs (l ++ m) w w2 := by
  obtain ⟨r', e1, e2, e3⟩ := h2
  refine ⟨r', ?_, ?_, h1.trans e3⟩
  · rw [M.RE_app]; exact e1
  · rw [M.RE_app]; rw [List.append_assoc] at e2; exact e2

set_option maxHeartbeats 1600000 in
set_option maxRecDepth 100000 in
theorem feed_short (D : Nat) (e : Int) (r : ByteArray) (t : M.St) (xs : List Int) (p : ByteArray) (w : World) (he : 1 ≤ e ∧ e ≤ 7) (hk : M.Sg t.1) (hr : r.size ≤ 3) (hs : p.size ≤ 2997) (hx : xs.length ≤ 10000) (hD : Dl D e r t xs w) :
    Calls Tryz.prog 100 #[.pointer (some ⟨D, 0, none⟩), .string p] w fun e' w' => e' = .returned (.tuple #[]) ∧ Taken D e t xs (bl r ++ bl p) w w' := by
  have H := take_any D e r t xs p w he hk (by omega) (by omega) hD
  go_enter Tryz.func100, Tryz.ntmps100
  go_wp2_with fail
  refine wp_loop_rounds 1 ?_
  rw [rounds_succ]
  go_wp2_with fail
  refine H.mono ?_
  rintro e' w1 ⟨rfl, hT⟩
  have HT := hide hT
  clear hT H
  go_wp2_with fail
  go_end0
  exact ⟨rfl, unhide HT⟩
set_option maxHeartbeats 1600000 in
set_option maxRecDepth 100000 in
theorem feed_great (D : Nat) (e : Int) (r : ByteArray) (t : M.St) (xs : List Int) (p : ByteArray) (w : World) (he : 1 ≤ e ∧ e ≤ 7) (hk : M.Ok e t) (hr : r.size ≤ 3) (hs : 2997 < p.size) (hs2 : p.size ≤ 3000) (hx : xs.length ≤ 10000) (hD : Dl D e r t xs w) :
    Calls Tryz.prog 100 #[.pointer (some ⟨D, 0, none⟩), .string p] w fun e' w' => e' = .returned (.tuple #[]) ∧ Taken D e t xs (bl r ++ bl p) w w' := by
  have H1 := take_any D e r t xs (p.extract 0 2997) w he hk.1 (by simp; omega) (by omega) hD
  have hO := M.Ok_run he hk (bl r ++ bl (p.extract 0 2997))
  have hF := M.RE_few he t (bl r ++ bl (p.extract 0 2997))
  have hL := M.RE_out he t (bl r ++ bl (p.extract 0 2997))
  rw [List.length_append, bl_len, bl_len] at hL
  have hz1 : (p.extract 0 2997).size = 2997 := by simp; omega
  have hz2 : (p.extract 2997 p.size).size ≤ 3 := by simp; omega
  rw [hz1] at hL
  have HS : Hid (bl r ++ bl p = (bl r ++ bl (p.extract 0 2997)) ++ bl (p.extract 2997 p.size)) := hide (by rw [bl_take, bl_extract, List.append_assoc, List.take_append_drop])
  have HG : Hid (∀ w1 w2, Below D w w1 → Taken D e (M.RE e t (bl r ++ bl (p.extract 0 2997))).2.1 (xs ++ (M.RE e t (bl r ++ bl (p.extract 0 2997))).1) ((M.RE e t (bl r ++ bl (p.extract 0 2997))).2.2 ++ bl (p.extract 2997 p.size)) w1 w2 → Taken D e t xs (bl r ++ bl p) w w2) := hide (fun w1 w2 h1 h2 => by
    rw [unhide HS]; exact Taken.app h1 h2)
  generalize hRE : M.RE e t (bl r ++ bl (p.extract 0 2997)) = R at *
  have hz3 : (p.extract 2997 p.size).size ≤ 2997 := by omega
  obtain ⟨b, HBq⟩ : ∃ b, Hid (p.extract 2997 p.size = b) := ⟨_, hide rfl⟩
  rw [unhide HBq] at hz2 hz3 HG
  have hbq := unhide HBq
  have hb0 : b.size ≤ 3 := hz2
  go_enter Tryz.func100, Tryz.ntmps100
  go_wp2_with fail
  refine wp_loop_rounds 2 ?_
  rw [rounds_succ]
  go_wp2_with fail
  refine H1.mono ?_
  rintro e' w1 ⟨rfl, r', hr', hD1, hB1⟩
  rw [hRE] at hr' hD1
  have hr3 : r'.size ≤ 3 := by rw [← bl_len, hr']; exact hF
  have H2 := take_any D e r' R.2.1 (xs ++ R.1) b w1 he hO.1 (by omega) (by simp; omega) hD1
  rw [hr'] at H2
  have HB1 := hide hB1
  clear H1 hD1 hB1
  go_wp2_with fail
  rw [rounds_succ]
  go_wp2_with fail
  refine H2.mono ?_
  rintro e' w2 ⟨rfl, hT⟩
  have HT := hide (unhide HG w1 w2 (unhide HB1) hT)
  clear hT H2
  go_wp2_with fail
  go_end0
  exact ⟨rfl, unhide HT⟩

set_option maxHeartbeats 1600000 in
set_option maxRecDepth 100000 in
theorem end_any (D : Nat) (e : Int) (r : ByteArray) (t : M.St) (xs : List Int) (w : World) (he : 1 ≤ e ∧ e ≤ 7) (hk : M.Sg t.1) (hr : r.size ≤ 3) (hx : xs.length ≤ 20000) (hD : Dl D e r t xs w) :
    Calls Tryz.prog 101 #[.pointer (some ⟨D, 0, none⟩)] w fun e' w' => e' = .returned (.tuple #[]) ∧ Dl D e ⟨#[]⟩ M.st0 (xs ++ (M.TE e t (bl r)).1) w' ∧ Below D w w' := by
  have H := dtell_any D e r t xs r w he hk (by omega) hx hD
  have hDs := hD.lt
  obtain ⟨v, hC, ho⟩ := hD
  obtain ⟨c0, c1, c2, c3, c4, c5, f0, f1, f2, f3, f4, f5⟩ := hC
  clear ho
  go_enter Tryz.func101, Tryz.ntmps101
  go_wp2_with fail
  refine H.mono ?_
  rintro e' w1 ⟨rfl, hD1, hB1⟩
  have HB1 := hide hB1
  obtain ⟨v1, hC1, ho1⟩ := hD1
  have HC1 := hide hC1
  have HO1 := hide ho1
  generalize (M.TE e t (bl r)).2 = t1 at *
  obtain ⟨d0, d1, d2, d3, d4, d5, k0, k1, k2, k3, k4, k5⟩ := hC1
  have hD1 : D < w1.heap.size := World.block_lt_of_cell? w1 _ d0
  clear H hB1 ho1
  go_wp2_with fail
  go_end0
  refine ⟨rfl, ⟨v1, ?_, ?_⟩, ?_⟩
  · exact (((((unhide HC1).set0 e).set1 ⟨#[]⟩).set2 0).set3 false).set4 false
  · exact owns_set (owns_set (owns_set (owns_set (owns_set (unhide HO1) ⟨D, 0, none⟩ (Nat.lt_succ_self _) _) ⟨D, 1, none⟩ (Nat.lt_succ_self _) _) ⟨D, 2, none⟩ (Nat.lt_succ_self _) _) ⟨D, 3, none⟩ (Nat.lt_succ_self _) _) ⟨D, 4, none⟩ (Nat.lt_succ_self _) _
  · exact bset (bset (bset (bset (bset (unhide HB1) ⟨D, 0, none⟩ _ (Nat.le_refl _)) ⟨D, 1, none⟩ _ (Nat.le_refl _)) ⟨D, 2, none⟩ _ (Nat.le_refl _)) ⟨D, 3, none⟩ _ (Nat.le_refl _)) ⟨D, 4, none⟩ _ (Nat.le_refl _)
end Go.Proofs.YtaiinjfnkmidbaaGreatDoor

namespace Go.Proofs.YtaiinjfnkmidbaaGreatDoor
open Go.RowKit
set_option linter.unusedVariables false

/-- A state as a value. -/
def sv (e : Int) (r : ByteArray) (t : M.St) : Value := .agg #[.int .i64 e, .string r, .int .i64 t.1, .bool t.2.1, .bool t.2.2]

set_option maxHeartbeats 800000 in
set_option maxRecDepth 100000 in
theorem check_kind (e : Int) (r : ByteArray) (g : Int) (fr st : Bool) (w : World) (he : ¬ (1 ≤ e ∧ e ≤ 7)) :
    Calls Tryz.prog 60 #[.agg #[.int .i64 e, .string r, .int .i64 g, .bool fr, .bool st]] w fun e' w' => e' = .returned (.int .i64 6) ∧ Below w.heap.size w w' := by
  have H := fun w => kind_no e w he
  go_enter Tryz.func60, Tryz.ntmps60
  go_wp2_with fail
  refine (H _).mono ?_
  rintro e' w1 ⟨rfl, hb⟩
  have HB := hide (bstep (balloc _ _) hb)
  clear hb H
  go_wp2_with fail
  go_ret
  exact ⟨rfl, unhide HB⟩

set_option maxHeartbeats 1600000 in
set_option maxRecDepth 100000 in
theorem check_form (e : Int) (r : ByteArray) (g : Int) (fr st : Bool) (w : World) (n : Int) (hm : r.size ≤ maxLen) (he : 1 ≤ e ∧ e ≤ 7) (HW : ∀ w : World, Calls Tryz.prog 121 #[.int .i64 e, .string r] w fun e' w' => e' = .returned (.int .i64 n) ∧ Below w.heap.size w w') (hn : (n != (r.size : Int)) = true) :
    Calls Tryz.prog 60 #[.agg #[.int .i64 e, .string r, .int .i64 g, .bool fr, .bool st]] w fun e' w' => e' = .returned (.int .i64 1) ∧ Below w.heap.size w w' := by
  have H := fun w => kind_yes e w he
  unfold maxLen at hm
  go_enter Tryz.func60, Tryz.ntmps60
  go_wp2_with fail
  refine (H _).mono ?_
  rintro e' w1 ⟨rfl, hb1⟩
  have HB1 := hide (bstep (balloc _ _) hb1)
  have c0 : w1.cell? ⟨w.heap.size, 0, none⟩ = some (.int .i64 e) := (hb1.cell (p := ⟨w.heap.size, 0, none⟩) (by simp)).trans (by simp [go_sem])
  have c1 : w1.cell? ⟨w.heap.size, 1, none⟩ = some (.string r) := (hb1.cell (p := ⟨w.heap.size, 1, none⟩) (by simp)).trans (by simp [go_sem])
  have c2 : w1.cell? ⟨w.heap.size, 2, none⟩ = some (.int .i64 g) := (hb1.cell (p := ⟨w.heap.size, 2, none⟩) (by simp)).trans (by simp [go_sem])
  have c3 : w1.cell? ⟨w.heap.size, 3, none⟩ = some (.bool fr) := (hb1.cell (p := ⟨w.heap.size, 3, none⟩) (by simp)).trans (by simp [go_sem])
  have c4 : w1.cell? ⟨w.heap.size, 4, none⟩ = some (.bool st) := (hb1.cell (p := ⟨w.heap.size, 4, none⟩) (by simp)).trans (by simp [go_sem])
  have hlt : w.heap.size < w1.heap.size := World.block_lt_of_cell? w1 _ c0
  clear hb1 H
  go_wp2_with fail
  go_region_held3 (fun w' => w'.cell? ⟨w.heap.size, 0, none⟩ = some (.int .i64 e) ∧ w'.cell? ⟨w.heap.size, 1, none⟩ = some (.string r))
    (first | go_keep | (go_split_ands; refine ⟨(hb2.cell (p := ⟨w.heap.size, 0, none⟩) hlt).trans c0, (hb2.cell (p := ⟨w.heap.size, 1, none⟩) hlt).trans c1⟩))
    ((go_at_call 121; refine (HW _).mono ?_; rintro e' w2 ⟨rfl, hb2⟩))
  have HB2 := hide (bstep (unhide HB1) ((below_drewN (Below.refl _ w1) 1).trans hb2))
  have d0 : w2.cell? ⟨w.heap.size, 0, none⟩ = some (.int .i64 e) := (hb2.cell (p := ⟨w.heap.size, 0, none⟩) hlt).trans c0
  have d1 : w2.cell? ⟨w.heap.size, 1, none⟩ = some (.string r) := (hb2.cell (p := ⟨w.heap.size, 1, none⟩) hlt).trans c1
  have d2 : w2.cell? ⟨w.heap.size, 2, none⟩ = some (.int .i64 g) := (hb2.cell (p := ⟨w.heap.size, 2, none⟩) hlt).trans c2
  have d3 : w2.cell? ⟨w.heap.size, 3, none⟩ = some (.bool fr) := (hb2.cell (p := ⟨w.heap.size, 3, none⟩) hlt).trans c3
  have d4 : w2.cell? ⟨w.heap.size, 4, none⟩ = some (.bool st) := (hb2.cell (p := ⟨w.heap.size, 4, none⟩) hlt).trans c4
  have hlt2 : w.heap.size < w2.heap.size := World.block_lt_of_cell? w2 _ d0
  clear hb2
  go_wp2_with fail
  go_ret
  exact ⟨rfl, unhide HB2⟩

set_option maxHeartbeats 1600000 in
set_option maxRecDepth 100000 in
theorem check_low (e : Int) (r : ByteArray) (g : Int) (fr st : Bool) (w : World) (n : Int) (hm : r.size ≤ maxLen) (he : 1 ≤ e ∧ e ≤ 7) (HW : ∀ w : World, Calls Tryz.prog 121 #[.int .i64 e, .string r] w fun e' w' => e' = .returned (.int .i64 n) ∧ Below w.heap.size w w') (hn : (n != (r.size : Int)) = false) (hg : g < 0) :
    Calls Tryz.prog 60 #[.agg #[.int .i64 e, .string r, .int .i64 g, .bool fr, .bool st]] w fun e' w' => e' = .returned (.int .i64 4) ∧ Below w.heap.size w w' := by
  have H := fun w => kind_yes e w he
  unfold maxLen at hm
  go_enter Tryz.func60, Tryz.ntmps60
  go_wp2_with fail
  refine (H _).mono ?_
  rintro e' w1 ⟨rfl, hb1⟩
  have HB1 := hide (bstep (balloc _ _) hb1)
  have c0 : w1.cell? ⟨w.heap.size, 0, none⟩ = some (.int .i64 e) := (hb1.cell (p := ⟨w.heap.size, 0, none⟩) (by simp)).trans (by simp [go_sem])
  have c1 : w1.cell? ⟨w.heap.size, 1, none⟩ = some (.string r) := (hb1.cell (p := ⟨w.heap.size, 1, none⟩) (by simp)).trans (by simp [go_sem])
  have c2 : w1.cell? ⟨w.heap.size, 2, none⟩ = some (.int .i64 g) := (hb1.cell (p := ⟨w.heap.size, 2, none⟩) (by simp)).trans (by simp [go_sem])
  have c3 : w1.cell? ⟨w.heap.size, 3, none⟩ = some (.bool fr) := (hb1.cell (p := ⟨w.heap.size, 3, none⟩) (by simp)).trans (by simp [go_sem])
  have c4 : w1.cell? ⟨w.heap.size, 4, none⟩ = some (.bool st) := (hb1.cell (p := ⟨w.heap.size, 4, none⟩) (by simp)).trans (by simp [go_sem])
  have hlt : w.heap.size < w1.heap.size := World.block_lt_of_cell? w1 _ c0
  clear hb1 H
  go_wp2_with fail
  go_region_held3 (fun w' => w'.cell? ⟨w.heap.size, 0, none⟩ = some (.int .i64 e) ∧ w'.cell? ⟨w.heap.size, 1, none⟩ = some (.string r))
    (first | go_keep | (go_split_ands; refine ⟨(hb2.cell (p := ⟨w.heap.size, 0, none⟩) hlt).trans c0, (hb2.cell (p := ⟨w.heap.size, 1, none⟩) hlt).trans c1⟩))
    ((go_at_call 121; refine (HW _).mono ?_; rintro e' w2 ⟨rfl, hb2⟩))
  have HB2 := hide (bstep (unhide HB1) ((below_drewN (Below.refl _ w1) 1).trans hb2))
  have d0 : w2.cell? ⟨w.heap.size, 0, none⟩ = some (.int .i64 e) := (hb2.cell (p := ⟨w.heap.size, 0, none⟩) hlt).trans c0
  have d1 : w2.cell? ⟨w.heap.size, 1, none⟩ = some (.string r) := (hb2.cell (p := ⟨w.heap.size, 1, none⟩) hlt).trans c1
  have d2 : w2.cell? ⟨w.heap.size, 2, none⟩ = some (.int .i64 g) := (hb2.cell (p := ⟨w.heap.size, 2, none⟩) hlt).trans c2
  have d3 : w2.cell? ⟨w.heap.size, 3, none⟩ = some (.bool fr) := (hb2.cell (p := ⟨w.heap.size, 3, none⟩) hlt).trans c3
  have d4 : w2.cell? ⟨w.heap.size, 4, none⟩ = some (.bool st) := (hb2.cell (p := ⟨w.heap.size, 4, none⟩) hlt).trans c4
  have hlt2 : w.heap.size < w2.heap.size := World.block_lt_of_cell? w2 _ d0
  clear hb2
  go_wp2_with fail
  go_ret
  exact ⟨rfl, unhide HB2⟩

set_option maxHeartbeats 1600000 in
set_option maxRecDepth 100000 in
theorem check_high (e : Int) (r : ByteArray) (g : Int) (fr st : Bool) (w : World) (n : Int) (hm : r.size ≤ maxLen) (he : 1 ≤ e ∧ e ≤ 7) (HW : ∀ w : World, Calls Tryz.prog 121 #[.int .i64 e, .string r] w fun e' w' => e' = .returned (.int .i64 n) ∧ Below w.heap.size w w') (hn : (n != (r.size : Int)) = false) (hg : 2 < g) :
    Calls Tryz.prog 60 #[.agg #[.int .i64 e, .string r, .int .i64 g, .bool fr, .bool st]] w fun e' w' => e' = .returned (.int .i64 4) ∧ Below w.heap.size w w' := by
  have H := fun w => kind_yes e w he
  unfold maxLen at hm
  go_enter Tryz.func60, Tryz.ntmps60
  go_wp2_with fail
  refine (H _).mono ?_
  rintro e' w1 ⟨rfl, hb1⟩
  have HB1 := hide (bstep (balloc _ _) hb1)
  have c0 : w1.cell? ⟨w.heap.size, 0, none⟩ = some (.int .i64 e) := (hb1.cell (p := ⟨w.heap.size, 0, none⟩) (by simp)).trans (by simp [go_sem])
  have c1 : w1.cell? ⟨w.heap.size, 1, none⟩ = some (.string r) := (hb1.cell (p := ⟨w.heap.size, 1, none⟩) (by simp)).trans (by simp [go_sem])
  have c2 : w1.cell? ⟨w.heap.size, 2, none⟩ = some (.int .i64 g) := (hb1.cell (p := ⟨w.heap.size, 2, none⟩) (by simp)).trans (by simp [go_sem])
  have c3 : w1.cell? ⟨w.heap.size, 3, none⟩ = some (.bool fr) := (hb1.cell (p := ⟨w.heap.size, 3, none⟩) (by simp)).trans (by simp [go_sem])
  have c4 : w1.cell? ⟨w.heap.size, 4, none⟩ = some (.bool st) := (hb1.cell (p := ⟨w.heap.size, 4, none⟩) (by simp)).trans (by simp [go_sem])
  have hlt : w.heap.size < w1.heap.size := World.block_lt_of_cell? w1 _ c0
  clear hb1 H
  go_wp2_with fail
  go_region_held3 (fun w' => w'.cell? ⟨w.heap.size, 0, none⟩ = some (.int .i64 e) ∧ w'.cell? ⟨w.heap.size, 1, none⟩ = some (.string r))
    (first | go_keep | (go_split_ands; refine ⟨(hb2.cell (p := ⟨w.heap.size, 0, none⟩) hlt).trans c0, (hb2.cell (p := ⟨w.heap.size, 1, none⟩) hlt).trans c1⟩))
    ((go_at_call 121; refine (HW _).mono ?_; rintro e' w2 ⟨rfl, hb2⟩))
  have HB2 := hide (bstep (unhide HB1) ((below_drewN (Below.refl _ w1) 1).trans hb2))
  have d0 : w2.cell? ⟨w.heap.size, 0, none⟩ = some (.int .i64 e) := (hb2.cell (p := ⟨w.heap.size, 0, none⟩) hlt).trans c0
  have d1 : w2.cell? ⟨w.heap.size, 1, none⟩ = some (.string r) := (hb2.cell (p := ⟨w.heap.size, 1, none⟩) hlt).trans c1
  have d2 : w2.cell? ⟨w.heap.size, 2, none⟩ = some (.int .i64 g) := (hb2.cell (p := ⟨w.heap.size, 2, none⟩) hlt).trans c2
  have d3 : w2.cell? ⟨w.heap.size, 3, none⟩ = some (.bool fr) := (hb2.cell (p := ⟨w.heap.size, 3, none⟩) hlt).trans c3
  have d4 : w2.cell? ⟨w.heap.size, 4, none⟩ = some (.bool st) := (hb2.cell (p := ⟨w.heap.size, 4, none⟩) hlt).trans c4
  have hlt2 : w.heap.size < w2.heap.size := World.block_lt_of_cell? w2 _ d0
  clear hb2
  go_wp2_with fail
  go_ret
  exact ⟨rfl, unhide HB2⟩

set_option maxHeartbeats 1600000 in
set_option maxRecDepth 100000 in
theorem check_signs (e : Int) (r : ByteArray) (g : Int) (fr st : Bool) (w : World) (n : Int) (hm : r.size ≤ maxLen) (he : 1 ≤ e ∧ e ≤ 7) (HW : ∀ w : World, Calls Tryz.prog 121 #[.int .i64 e, .string r] w fun e' w' => e' = .returned (.int .i64 n) ∧ Below w.heap.size w w') (hn : (n != (r.size : Int)) = false) (hg0 : 0 ≤ g) (hg2 : g ≤ 2) (h6 : (e != 6) = true) (hg : (g != 0) = true) :
    Calls Tryz.prog 60 #[.agg #[.int .i64 e, .string r, .int .i64 g, .bool fr, .bool st]] w fun e' w' => e' = .returned (.int .i64 4) ∧ Below w.heap.size w w' := by
  have H := fun w => kind_yes e w he
  unfold maxLen at hm
  go_enter Tryz.func60, Tryz.ntmps60
  go_wp2_with fail
  refine (H _).mono ?_
  rintro e' w1 ⟨rfl, hb1⟩
  have HB1 := hide (bstep (balloc _ _) hb1)
  have c0 : w1.cell? ⟨w.heap.size, 0, none⟩ = some (.int .i64 e) := (hb1.cell (p := ⟨w.heap.size, 0, none⟩) (by simp)).trans (by simp [go_sem])
  have c1 : w1.cell? ⟨w.heap.size, 1, none⟩ = some (.string r) := (hb1.cell (p := ⟨w.heap.size, 1, none⟩) (by simp)).trans (by simp [go_sem])
  have c2 : w1.cell? ⟨w.heap.size, 2, none⟩ = some (.int .i64 g) := (hb1.cell (p := ⟨w.heap.size, 2, none⟩) (by simp)).trans (by simp [go_sem])
  have c3 : w1.cell? ⟨w.heap.size, 3, none⟩ = some (.bool fr) := (hb1.cell (p := ⟨w.heap.size, 3, none⟩) (by simp)).trans (by simp [go_sem])
  have c4 : w1.cell? ⟨w.heap.size, 4, none⟩ = some (.bool st) := (hb1.cell (p := ⟨w.heap.size, 4, none⟩) (by simp)).trans (by simp [go_sem])
  have hlt : w.heap.size < w1.heap.size := World.block_lt_of_cell? w1 _ c0
  clear hb1 H
  go_wp2_with fail
  go_region_held3 (fun w' => w'.cell? ⟨w.heap.size, 0, none⟩ = some (.int .i64 e) ∧ w'.cell? ⟨w.heap.size, 1, none⟩ = some (.string r))
    (first | go_keep | (go_split_ands; refine ⟨(hb2.cell (p := ⟨w.heap.size, 0, none⟩) hlt).trans c0, (hb2.cell (p := ⟨w.heap.size, 1, none⟩) hlt).trans c1⟩))
    ((go_at_call 121; refine (HW _).mono ?_; rintro e' w2 ⟨rfl, hb2⟩))
  have HB2 := hide (bstep (unhide HB1) ((below_drewN (Below.refl _ w1) 1).trans hb2))
  have d0 : w2.cell? ⟨w.heap.size, 0, none⟩ = some (.int .i64 e) := (hb2.cell (p := ⟨w.heap.size, 0, none⟩) hlt).trans c0
  have d1 : w2.cell? ⟨w.heap.size, 1, none⟩ = some (.string r) := (hb2.cell (p := ⟨w.heap.size, 1, none⟩) hlt).trans c1
  have d2 : w2.cell? ⟨w.heap.size, 2, none⟩ = some (.int .i64 g) := (hb2.cell (p := ⟨w.heap.size, 2, none⟩) hlt).trans c2
  have d3 : w2.cell? ⟨w.heap.size, 3, none⟩ = some (.bool fr) := (hb2.cell (p := ⟨w.heap.size, 3, none⟩) hlt).trans c3
  have d4 : w2.cell? ⟨w.heap.size, 4, none⟩ = some (.bool st) := (hb2.cell (p := ⟨w.heap.size, 4, none⟩) hlt).trans c4
  have hlt2 : w.heap.size < w2.heap.size := World.block_lt_of_cell? w2 _ d0
  clear hb2
  go_wp2_with fail
  go_ret
  exact ⟨rfl, unhide HB2⟩

set_option maxHeartbeats 1600000 in
set_option maxRecDepth 100000 in
theorem check_fresh (e : Int) (r : ByteArray) (g : Int) (fr st : Bool) (w : World) (n : Int) (hm : r.size ≤ maxLen) (he : 1 ≤ e ∧ e ≤ 7) (HW : ∀ w : World, Calls Tryz.prog 121 #[.int .i64 e, .string r] w fun e' w' => e' = .returned (.int .i64 n) ∧ Below w.heap.size w w') (hn : (n != (r.size : Int)) = false) (h6 : (e != 6) = true) (hg : g = 0) (hf : fr = true) :
    Calls Tryz.prog 60 #[.agg #[.int .i64 e, .string r, .int .i64 g, .bool fr, .bool st]] w fun e' w' => e' = .returned (.int .i64 4) ∧ Below w.heap.size w w' := by
  have H := fun w => kind_yes e w he
  unfold maxLen at hm
  subst hg hf
  go_enter Tryz.func60, Tryz.ntmps60
  go_wp2_with fail
  refine (H _).mono ?_
  rintro e' w1 ⟨rfl, hb1⟩
  have HB1 := hide (bstep (balloc _ _) hb1)
  have c0 : w1.cell? ⟨w.heap.size, 0, none⟩ = some (.int .i64 e) := (hb1.cell (p := ⟨w.heap.size, 0, none⟩) (by simp)).trans (by simp [go_sem])
  have c1 : w1.cell? ⟨w.heap.size, 1, none⟩ = some (.string r) := (hb1.cell (p := ⟨w.heap.size, 1, none⟩) (by simp)).trans (by simp [go_sem])
  have c2 : w1.cell? ⟨w.heap.size, 2, none⟩ = some (.int .i64 0) := (hb1.cell (p := ⟨w.heap.size, 2, none⟩) (by simp)).trans (by simp [go_sem])
  have c3 : w1.cell? ⟨w.heap.size, 3, none⟩ = some (.bool true) := (hb1.cell (p := ⟨w.heap.size, 3, none⟩) (by simp)).trans (by simp [go_sem])
  have c4 : w1.cell? ⟨w.heap.size, 4, none⟩ = some (.bool st) := (hb1.cell (p := ⟨w.heap.size, 4, none⟩) (by simp)).trans (by simp [go_sem])
  have hlt : w.heap.size < w1.heap.size := World.block_lt_of_cell? w1 _ c0
  clear hb1 H
  go_wp2_with fail
  go_region_held3 (fun w' => w'.cell? ⟨w.heap.size, 0, none⟩ = some (.int .i64 e) ∧ w'.cell? ⟨w.heap.size, 1, none⟩ = some (.string r))
    (first | go_keep | (go_split_ands; refine ⟨(hb2.cell (p := ⟨w.heap.size, 0, none⟩) hlt).trans c0, (hb2.cell (p := ⟨w.heap.size, 1, none⟩) hlt).trans c1⟩))
    ((go_at_call 121; refine (HW _).mono ?_; rintro e' w2 ⟨rfl, hb2⟩))
  have HB2 := hide (bstep (unhide HB1) ((below_drewN (Below.refl _ w1) 1).trans hb2))
  have d0 : w2.cell? ⟨w.heap.size, 0, none⟩ = some (.int .i64 e) := (hb2.cell (p := ⟨w.heap.size, 0, none⟩) hlt).trans c0
  have d1 : w2.cell? ⟨w.heap.size, 1, none⟩ = some (.string r) := (hb2.cell (p := ⟨w.heap.size, 1, none⟩) hlt).trans c1
  have d2 : w2.cell? ⟨w.heap.size, 2, none⟩ = some (.int .i64 0) := (hb2.cell (p := ⟨w.heap.size, 2, none⟩) hlt).trans c2
  have d3 : w2.cell? ⟨w.heap.size, 3, none⟩ = some (.bool true) := (hb2.cell (p := ⟨w.heap.size, 3, none⟩) hlt).trans c3
  have d4 : w2.cell? ⟨w.heap.size, 4, none⟩ = some (.bool st) := (hb2.cell (p := ⟨w.heap.size, 4, none⟩) hlt).trans c4
  have hlt2 : w.heap.size < w2.heap.size := World.block_lt_of_cell? w2 _ d0
  clear hb2
  go_wp2_with fail
  go_ret
  exact ⟨rfl, unhide HB2⟩

set_option maxHeartbeats 1600000 in
set_option maxRecDepth 100000 in
theorem check_stopk (e : Int) (r : ByteArray) (g : Int) (fr st : Bool) (w : World) (n : Int) (hm : r.size ≤ maxLen) (he : 1 ≤ e ∧ e ≤ 7) (HW : ∀ w : World, Calls Tryz.prog 121 #[.int .i64 e, .string r] w fun e' w' => e' = .returned (.int .i64 n) ∧ Below w.heap.size w w') (hn : (n != (r.size : Int)) = false) (h6 : e = 6) (hg0 : 0 ≤ g) (hg2 : g ≤ 2) (hs : st = true) :
    Calls Tryz.prog 60 #[.agg #[.int .i64 e, .string r, .int .i64 g, .bool fr, .bool st]] w fun e' w' => e' = .returned (.int .i64 4) ∧ Below w.heap.size w w' := by
  have H := fun w => kind_yes e w he
  unfold maxLen at hm
  subst h6 hs
  go_enter Tryz.func60, Tryz.ntmps60
  go_wp2_with fail
  refine (H _).mono ?_
  rintro e' w1 ⟨rfl, hb1⟩
  have HB1 := hide (bstep (balloc _ _) hb1)
  have c0 : w1.cell? ⟨w.heap.size, 0, none⟩ = some (.int .i64 6) := (hb1.cell (p := ⟨w.heap.size, 0, none⟩) (by simp)).trans (by simp [go_sem])
  have c1 : w1.cell? ⟨w.heap.size, 1, none⟩ = some (.string r) := (hb1.cell (p := ⟨w.heap.size, 1, none⟩) (by simp)).trans (by simp [go_sem])
  have c2 : w1.cell? ⟨w.heap.size, 2, none⟩ = some (.int .i64 g) := (hb1.cell (p := ⟨w.heap.size, 2, none⟩) (by simp)).trans (by simp [go_sem])
  have c3 : w1.cell? ⟨w.heap.size, 3, none⟩ = some (.bool fr) := (hb1.cell (p := ⟨w.heap.size, 3, none⟩) (by simp)).trans (by simp [go_sem])
  have c4 : w1.cell? ⟨w.heap.size, 4, none⟩ = some (.bool true) := (hb1.cell (p := ⟨w.heap.size, 4, none⟩) (by simp)).trans (by simp [go_sem])
  have hlt : w.heap.size < w1.heap.size := World.block_lt_of_cell? w1 _ c0
  clear hb1 H
  go_wp2_with fail
  go_region_held3 (fun w' => w'.cell? ⟨w.heap.size, 0, none⟩ = some (.int .i64 6) ∧ w'.cell? ⟨w.heap.size, 1, none⟩ = some (.string r))
    (first | go_keep | (go_split_ands; refine ⟨(hb2.cell (p := ⟨w.heap.size, 0, none⟩) hlt).trans c0, (hb2.cell (p := ⟨w.heap.size, 1, none⟩) hlt).trans c1⟩))
    ((go_at_call 121; refine (HW _).mono ?_; rintro e' w2 ⟨rfl, hb2⟩))
  have HB2 := hide (bstep (unhide HB1) ((below_drewN (Below.refl _ w1) 1).trans hb2))
  have d0 : w2.cell? ⟨w.heap.size, 0, none⟩ = some (.int .i64 6) := (hb2.cell (p := ⟨w.heap.size, 0, none⟩) hlt).trans c0
  have d1 : w2.cell? ⟨w.heap.size, 1, none⟩ = some (.string r) := (hb2.cell (p := ⟨w.heap.size, 1, none⟩) hlt).trans c1
  have d2 : w2.cell? ⟨w.heap.size, 2, none⟩ = some (.int .i64 g) := (hb2.cell (p := ⟨w.heap.size, 2, none⟩) hlt).trans c2
  have d3 : w2.cell? ⟨w.heap.size, 3, none⟩ = some (.bool fr) := (hb2.cell (p := ⟨w.heap.size, 3, none⟩) hlt).trans c3
  have d4 : w2.cell? ⟨w.heap.size, 4, none⟩ = some (.bool true) := (hb2.cell (p := ⟨w.heap.size, 4, none⟩) hlt).trans c4
  have hlt2 : w.heap.size < w2.heap.size := World.block_lt_of_cell? w2 _ d0
  clear hb2
  go_wp2_with fail
  go_ret
  exact ⟨rfl, unhide HB2⟩

set_option maxHeartbeats 1600000 in
set_option maxRecDepth 100000 in
theorem check_stopo (e : Int) (r : ByteArray) (g : Int) (fr st : Bool) (w : World) (n : Int) (hm : r.size ≤ maxLen) (he : 1 ≤ e ∧ e ≤ 7) (HW : ∀ w : World, Calls Tryz.prog 121 #[.int .i64 e, .string r] w fun e' w' => e' = .returned (.int .i64 n) ∧ Below w.heap.size w w') (hn : (n != (r.size : Int)) = false) (h6 : (e != 6) = true) (h7 : (e != 7) = true) (hg : g = 0) (hf : fr = false) (hs : st = true) :
    Calls Tryz.prog 60 #[.agg #[.int .i64 e, .string r, .int .i64 g, .bool fr, .bool st]] w fun e' w' => e' = .returned (.int .i64 4) ∧ Below w.heap.size w w' := by
  have H := fun w => kind_yes e w he
  unfold maxLen at hm
  subst hg hf hs
  go_enter Tryz.func60, Tryz.ntmps60
  go_wp2_with fail
  refine (H _).mono ?_
  rintro e' w1 ⟨rfl, hb1⟩
  have HB1 := hide (bstep (balloc _ _) hb1)
  have c0 : w1.cell? ⟨w.heap.size, 0, none⟩ = some (.int .i64 e) := (hb1.cell (p := ⟨w.heap.size, 0, none⟩) (by simp)).trans (by simp [go_sem])
  have c1 : w1.cell? ⟨w.heap.size, 1, none⟩ = some (.string r) := (hb1.cell (p := ⟨w.heap.size, 1, none⟩) (by simp)).trans (by simp [go_sem])
  have c2 : w1.cell? ⟨w.heap.size, 2, none⟩ = some (.int .i64 0) := (hb1.cell (p := ⟨w.heap.size, 2, none⟩) (by simp)).trans (by simp [go_sem])
  have c3 : w1.cell? ⟨w.heap.size, 3, none⟩ = some (.bool false) := (hb1.cell (p := ⟨w.heap.size, 3, none⟩) (by simp)).trans (by simp [go_sem])
  have c4 : w1.cell? ⟨w.heap.size, 4, none⟩ = some (.bool true) := (hb1.cell (p := ⟨w.heap.size, 4, none⟩) (by simp)).trans (by simp [go_sem])
  have hlt : w.heap.size < w1.heap.size := World.block_lt_of_cell? w1 _ c0
  clear hb1 H
  go_wp2_with fail
  go_region_held3 (fun w' => w'.cell? ⟨w.heap.size, 0, none⟩ = some (.int .i64 e) ∧ w'.cell? ⟨w.heap.size, 1, none⟩ = some (.string r))
    (first | go_keep | (go_split_ands; refine ⟨(hb2.cell (p := ⟨w.heap.size, 0, none⟩) hlt).trans c0, (hb2.cell (p := ⟨w.heap.size, 1, none⟩) hlt).trans c1⟩))
    ((go_at_call 121; refine (HW _).mono ?_; rintro e' w2 ⟨rfl, hb2⟩))
  have HB2 := hide (bstep (unhide HB1) ((below_drewN (Below.refl _ w1) 1).trans hb2))
  have d0 : w2.cell? ⟨w.heap.size, 0, none⟩ = some (.int .i64 e) := (hb2.cell (p := ⟨w.heap.size, 0, none⟩) hlt).trans c0
  have d1 : w2.cell? ⟨w.heap.size, 1, none⟩ = some (.string r) := (hb2.cell (p := ⟨w.heap.size, 1, none⟩) hlt).trans c1
  have d2 : w2.cell? ⟨w.heap.size, 2, none⟩ = some (.int .i64 0) := (hb2.cell (p := ⟨w.heap.size, 2, none⟩) hlt).trans c2
  have d3 : w2.cell? ⟨w.heap.size, 3, none⟩ = some (.bool false) := (hb2.cell (p := ⟨w.heap.size, 3, none⟩) hlt).trans c3
  have d4 : w2.cell? ⟨w.heap.size, 4, none⟩ = some (.bool true) := (hb2.cell (p := ⟨w.heap.size, 4, none⟩) hlt).trans c4
  have hlt2 : w.heap.size < w2.heap.size := World.block_lt_of_cell? w2 _ d0
  clear hb2
  go_wp2_with fail
  go_ret
  exact ⟨rfl, unhide HB2⟩

set_option maxHeartbeats 1600000 in
set_option maxRecDepth 100000 in
theorem check_okk (e : Int) (r : ByteArray) (g : Int) (fr st : Bool) (w : World) (n : Int) (hm : r.size ≤ maxLen) (he : 1 ≤ e ∧ e ≤ 7) (HW : ∀ w : World, Calls Tryz.prog 121 #[.int .i64 e, .string r] w fun e' w' => e' = .returned (.int .i64 n) ∧ Below w.heap.size w w') (hn : (n != (r.size : Int)) = false) (h6 : e = 6) (hg0 : 0 ≤ g) (hg2 : g ≤ 2) (hs : st = false) :
    Calls Tryz.prog 60 #[.agg #[.int .i64 e, .string r, .int .i64 g, .bool fr, .bool st]] w fun e' w' => e' = .returned (.int .i64 0) ∧ Below w.heap.size w w' := by
  have H := fun w => kind_yes e w he
  unfold maxLen at hm
  subst h6 hs
  go_enter Tryz.func60, Tryz.ntmps60
  go_wp2_with fail
  refine (H _).mono ?_
  rintro e' w1 ⟨rfl, hb1⟩
  have HB1 := hide (bstep (balloc _ _) hb1)
  have c0 : w1.cell? ⟨w.heap.size, 0, none⟩ = some (.int .i64 6) := (hb1.cell (p := ⟨w.heap.size, 0, none⟩) (by simp)).trans (by simp [go_sem])
  have c1 : w1.cell? ⟨w.heap.size, 1, none⟩ = some (.string r) := (hb1.cell (p := ⟨w.heap.size, 1, none⟩) (by simp)).trans (by simp [go_sem])
  have c2 : w1.cell? ⟨w.heap.size, 2, none⟩ = some (.int .i64 g) := (hb1.cell (p := ⟨w.heap.size, 2, none⟩) (by simp)).trans (by simp [go_sem])
  have c3 : w1.cell? ⟨w.heap.size, 3, none⟩ = some (.bool fr) := (hb1.cell (p := ⟨w.heap.size, 3, none⟩) (by simp)).trans (by simp [go_sem])
  have c4 : w1.cell? ⟨w.heap.size, 4, none⟩ = some (.bool false) := (hb1.cell (p := ⟨w.heap.size, 4, none⟩) (by simp)).trans (by simp [go_sem])
  have hlt : w.heap.size < w1.heap.size := World.block_lt_of_cell? w1 _ c0
  clear hb1 H
  go_wp2_with fail
  go_region_held3 (fun w' => w'.cell? ⟨w.heap.size, 0, none⟩ = some (.int .i64 6) ∧ w'.cell? ⟨w.heap.size, 1, none⟩ = some (.string r))
    (first | go_keep | (go_split_ands; refine ⟨(hb2.cell (p := ⟨w.heap.size, 0, none⟩) hlt).trans c0, (hb2.cell (p := ⟨w.heap.size, 1, none⟩) hlt).trans c1⟩))
    ((go_at_call 121; refine (HW _).mono ?_; rintro e' w2 ⟨rfl, hb2⟩))
  have HB2 := hide (bstep (unhide HB1) ((below_drewN (Below.refl _ w1) 1).trans hb2))
  have d0 : w2.cell? ⟨w.heap.size, 0, none⟩ = some (.int .i64 6) := (hb2.cell (p := ⟨w.heap.size, 0, none⟩) hlt).trans c0
  have d1 : w2.cell? ⟨w.heap.size, 1, none⟩ = some (.string r) := (hb2.cell (p := ⟨w.heap.size, 1, none⟩) hlt).trans c1
  have d2 : w2.cell? ⟨w.heap.size, 2, none⟩ = some (.int .i64 g) := (hb2.cell (p := ⟨w.heap.size, 2, none⟩) hlt).trans c2
  have d3 : w2.cell? ⟨w.heap.size, 3, none⟩ = some (.bool fr) := (hb2.cell (p := ⟨w.heap.size, 3, none⟩) hlt).trans c3
  have d4 : w2.cell? ⟨w.heap.size, 4, none⟩ = some (.bool false) := (hb2.cell (p := ⟨w.heap.size, 4, none⟩) hlt).trans c4
  have hlt2 : w.heap.size < w2.heap.size := World.block_lt_of_cell? w2 _ d0
  clear hb2
  go_wp2_with fail
  go_ret
  exact ⟨rfl, unhide HB2⟩

set_option maxHeartbeats 1600000 in
set_option maxRecDepth 100000 in
theorem check_okx (e : Int) (r : ByteArray) (g : Int) (fr st : Bool) (w : World) (n : Int) (hm : r.size ≤ maxLen) (he : 1 ≤ e ∧ e ≤ 7) (HW : ∀ w : World, Calls Tryz.prog 121 #[.int .i64 e, .string r] w fun e' w' => e' = .returned (.int .i64 n) ∧ Below w.heap.size w w') (hn : (n != (r.size : Int)) = false) (h7 : e = 7) (hg : g = 0) (hf : fr = false) :
    Calls Tryz.prog 60 #[.agg #[.int .i64 e, .string r, .int .i64 g, .bool fr, .bool st]] w fun e' w' => e' = .returned (.int .i64 0) ∧ Below w.heap.size w w' := by
  have H := fun w => kind_yes e w he
  unfold maxLen at hm
  subst h7 hg hf
  go_enter Tryz.func60, Tryz.ntmps60
  go_wp2_with fail
  refine (H _).mono ?_
  rintro e' w1 ⟨rfl, hb1⟩
  have HB1 := hide (bstep (balloc _ _) hb1)
  have c0 : w1.cell? ⟨w.heap.size, 0, none⟩ = some (.int .i64 7) := (hb1.cell (p := ⟨w.heap.size, 0, none⟩) (by simp)).trans (by simp [go_sem])
  have c1 : w1.cell? ⟨w.heap.size, 1, none⟩ = some (.string r) := (hb1.cell (p := ⟨w.heap.size, 1, none⟩) (by simp)).trans (by simp [go_sem])
  have c2 : w1.cell? ⟨w.heap.size, 2, none⟩ = some (.int .i64 0) := (hb1.cell (p := ⟨w.heap.size, 2, none⟩) (by simp)).trans (by simp [go_sem])
  have c3 : w1.cell? ⟨w.heap.size, 3, none⟩ = some (.bool false) := (hb1.cell (p := ⟨w.heap.size, 3, none⟩) (by simp)).trans (by simp [go_sem])
  have c4 : w1.cell? ⟨w.heap.size, 4, none⟩ = some (.bool st) := (hb1.cell (p := ⟨w.heap.size, 4, none⟩) (by simp)).trans (by simp [go_sem])
  have hlt : w.heap.size < w1.heap.size := World.block_lt_of_cell? w1 _ c0
  clear hb1 H
  go_wp2_with fail
  go_region_held3 (fun w' => w'.cell? ⟨w.heap.size, 0, none⟩ = some (.int .i64 7) ∧ w'.cell? ⟨w.heap.size, 1, none⟩ = some (.string r))
    (first | go_keep | (go_split_ands; refine ⟨(hb2.cell (p := ⟨w.heap.size, 0, none⟩) hlt).trans c0, (hb2.cell (p := ⟨w.heap.size, 1, none⟩) hlt).trans c1⟩))
    ((go_at_call 121; refine (HW _).mono ?_; rintro e' w2 ⟨rfl, hb2⟩))
  have HB2 := hide (bstep (unhide HB1) ((below_drewN (Below.refl _ w1) 1).trans hb2))
  have d0 : w2.cell? ⟨w.heap.size, 0, none⟩ = some (.int .i64 7) := (hb2.cell (p := ⟨w.heap.size, 0, none⟩) hlt).trans c0
  have d1 : w2.cell? ⟨w.heap.size, 1, none⟩ = some (.string r) := (hb2.cell (p := ⟨w.heap.size, 1, none⟩) hlt).trans c1
  have d2 : w2.cell? ⟨w.heap.size, 2, none⟩ = some (.int .i64 0) := (hb2.cell (p := ⟨w.heap.size, 2, none⟩) hlt).trans c2
  have d3 : w2.cell? ⟨w.heap.size, 3, none⟩ = some (.bool false) := (hb2.cell (p := ⟨w.heap.size, 3, none⟩) hlt).trans c3
  have d4 : w2.cell? ⟨w.heap.size, 4, none⟩ = some (.bool st) := (hb2.cell (p := ⟨w.heap.size, 4, none⟩) hlt).trans c4
  have hlt2 : w.heap.size < w2.heap.size := World.block_lt_of_cell? w2 _ d0
  clear hb2
  go_wp2_with fail
  go_ret
  exact ⟨rfl, unhide HB2⟩

set_option maxHeartbeats 1600000 in
set_option maxRecDepth 100000 in
theorem check_oko (e : Int) (r : ByteArray) (g : Int) (fr st : Bool) (w : World) (n : Int) (hm : r.size ≤ maxLen) (he : 1 ≤ e ∧ e ≤ 7) (HW : ∀ w : World, Calls Tryz.prog 121 #[.int .i64 e, .string r] w fun e' w' => e' = .returned (.int .i64 n) ∧ Below w.heap.size w w') (hn : (n != (r.size : Int)) = false) (h6 : (e != 6) = true) (h7 : (e != 7) = true) (hg : g = 0) (hf : fr = false) (hs : st = false) :
    Calls Tryz.prog 60 #[.agg #[.int .i64 e, .string r, .int .i64 g, .bool fr, .bool st]] w fun e' w' => e' = .returned (.int .i64 0) ∧ Below w.heap.size w w' := by
  have H := fun w => kind_yes e w he
  unfold maxLen at hm
  subst hg hf hs
  go_enter Tryz.func60, Tryz.ntmps60
  go_wp2_with fail
  refine (H _).mono ?_
  rintro e' w1 ⟨rfl, hb1⟩
  have HB1 := hide (bstep (balloc _ _) hb1)
  have c0 : w1.cell? ⟨w.heap.size, 0, none⟩ = some (.int .i64 e) := (hb1.cell (p := ⟨w.heap.size, 0, none⟩) (by simp)).trans (by simp [go_sem])
  have c1 : w1.cell? ⟨w.heap.size, 1, none⟩ = some (.string r) := (hb1.cell (p := ⟨w.heap.size, 1, none⟩) (by simp)).trans (by simp [go_sem])
  have c2 : w1.cell? ⟨w.heap.size, 2, none⟩ = some (.int .i64 0) := (hb1.cell (p := ⟨w.heap.size, 2, none⟩) (by simp)).trans (by simp [go_sem])
  have c3 : w1.cell? ⟨w.heap.size, 3, none⟩ = some (.bool false) := (hb1.cell (p := ⟨w.heap.size, 3, none⟩) (by simp)).trans (by simp [go_sem])
  have c4 : w1.cell? ⟨w.heap.size, 4, none⟩ = some (.bool false) := (hb1.cell (p := ⟨w.heap.size, 4, none⟩) (by simp)).trans (by simp [go_sem])
  have hlt : w.heap.size < w1.heap.size := World.block_lt_of_cell? w1 _ c0
  clear hb1 H
  go_wp2_with fail
  go_region_held3 (fun w' => w'.cell? ⟨w.heap.size, 0, none⟩ = some (.int .i64 e) ∧ w'.cell? ⟨w.heap.size, 1, none⟩ = some (.string r))
    (first | go_keep | (go_split_ands; refine ⟨(hb2.cell (p := ⟨w.heap.size, 0, none⟩) hlt).trans c0, (hb2.cell (p := ⟨w.heap.size, 1, none⟩) hlt).trans c1⟩))
    ((go_at_call 121; refine (HW _).mono ?_; rintro e' w2 ⟨rfl, hb2⟩))
  have HB2 := hide (bstep (unhide HB1) ((below_drewN (Below.refl _ w1) 1).trans hb2))
  have d0 : w2.cell? ⟨w.heap.size, 0, none⟩ = some (.int .i64 e) := (hb2.cell (p := ⟨w.heap.size, 0, none⟩) hlt).trans c0
  have d1 : w2.cell? ⟨w.heap.size, 1, none⟩ = some (.string r) := (hb2.cell (p := ⟨w.heap.size, 1, none⟩) hlt).trans c1
  have d2 : w2.cell? ⟨w.heap.size, 2, none⟩ = some (.int .i64 0) := (hb2.cell (p := ⟨w.heap.size, 2, none⟩) hlt).trans c2
  have d3 : w2.cell? ⟨w.heap.size, 3, none⟩ = some (.bool false) := (hb2.cell (p := ⟨w.heap.size, 3, none⟩) hlt).trans c3
  have d4 : w2.cell? ⟨w.heap.size, 4, none⟩ = some (.bool false) := (hb2.cell (p := ⟨w.heap.size, 4, none⟩) hlt).trans c4
  have hlt2 : w.heap.size < w2.heap.size := World.block_lt_of_cell? w2 _ d0
  clear hb2
  go_wp2_with fail
  go_ret
  exact ⟨rfl, unhide HB2⟩

/-- What Check answers. -/
def chk (e : Int) (r : ByteArray) (t : M.St) : Int :=
  if ¬ (1 ≤ e ∧ e ≤ 7) then 6 else if ¬ (M.wE e (bl r) = r.size ∧ r.size ≤ 3) then 1 else if t.1 < 0 ∨ 2 < t.1 then 4 else if e ≠ 6 ∧ (t.1 ≠ 0 ∨ t.2.1 = true) then 4 else if e ≠ 7 ∧ t.2.2 = true then 4 else 0
theorem waits_val (e : Int) (r : ByteArray) (hm : r.size ≤ maxLen) (he : 1 ≤ e ∧ e ≤ 7) : ∃ n : Int, (∀ w : World, Calls Tryz.prog 121 #[.int .i64 e, .string r] w fun e' w' => e' = .returned (.int .i64 n) ∧ Below w.heap.size w w') ∧ (n = r.size ↔ M.wE e (bl r) = r.size ∧ r.size ≤ 3) := by
  have hb := M.wE_bd he (bl r)
  by_cases h8 : e = 1 → r.size ≤ 3000
  · exact ⟨_, fun w => waits_any e r w he hm h8, ⟨fun h => ⟨h, by omega⟩, fun h => h.1⟩⟩
  · have h1 : e = 1 := Classical.byContradiction (fun q => h8 (fun h => absurd h q))
    subst h1
    have h2 : 3000 < r.size := Nat.lt_of_not_le (fun q => h8 (fun _ => q))
    exact ⟨0, fun w => waits_long r w hm h2, ⟨fun h => by omega, fun h => by omega⟩⟩
theorem check_any (e : Int) (r : ByteArray) (t : M.St) (w : World) (hm : r.size ≤ maxLen) :
    Calls Tryz.prog 60 #[sv e r t] w fun e' w' => e' = .returned (.int .i64 (chk e r t)) ∧ Below w.heap.size w w' := by
  obtain ⟨g, fr, st⟩ := t
  unfold sv chk
  show Calls Tryz.prog 60 #[.agg #[.int .i64 e, .string r, .int .i64 g, .bool fr, .bool st]] w _
  by_cases he : 1 ≤ e ∧ e ≤ 7
  · rw [if_neg (fun q => q he)]
    obtain ⟨n, HW, hn⟩ := waits_val e r hm he
    by_cases hr : M.wE e (bl r) = r.size ∧ r.size ≤ 3
    · rw [if_neg (fun q => q hr)]
      have hn1 : (n != (r.size : Int)) = false := by simpa using hn.2 hr
      by_cases hg : g < 0 ∨ 2 < g
      · rw [if_pos hg]
        rcases hg with hg | hg
        · exact check_low e r g fr st w n hm he HW hn1 hg
        · exact check_high e r g fr st w n hm he HW hn1 hg
      · rw [if_neg hg]
        by_cases h6 : e = 6
        · rw [if_neg (fun q => q.1 h6)]
          cases st
          · rw [if_neg (by simp)]
            exact check_okk e r g fr false w n hm he HW hn1 h6 (by omega) (by omega) rfl
          · rw [if_pos ⟨by omega, rfl⟩]
            exact check_stopk e r g fr true w n hm he HW hn1 h6 (by omega) (by omega) rfl
        · have h6' : (e != 6) = true := by simpa using h6
          by_cases hg0 : g = 0
          · cases fr
            · rw [if_neg (by simp [hg0])]
              by_cases h7 : e = 7
              · rw [if_neg (fun q => q.1 h7)]
                exact check_okx e r g false st w n hm he HW hn1 h7 hg0 rfl
              · have h7' : (e != 7) = true := by simpa using h7
                cases st
                · rw [if_neg (by simp)]
                  exact check_oko e r g false false w n hm he HW hn1 h6' h7' hg0 rfl rfl
                · rw [if_pos ⟨h7, rfl⟩]
                  exact check_stopo e r g false true w n hm he HW hn1 h6' h7' hg0 rfl rfl
            · rw [if_pos ⟨h6, .inr rfl⟩]
              exact check_fresh e r g true st w n hm he HW hn1 h6' hg0 rfl
          · rw [if_pos ⟨h6, .inl hg0⟩]
            exact check_signs e r g fr st w n hm he HW hn1 (by omega) (by omega) h6' (by simpa using hg0)
    · rw [if_pos hr]
      have hn1 : (n != (r.size : Int)) = true := by simpa using fun h => hr (hn.1 h)
      exact check_form e r g fr st w n hm he HW hn1
  · rw [if_pos he]
    exact check_kind e r g fr st w he
theorem chk_ok {e : Int} {r : ByteArray} {t : M.St} : chk e r t = 0 ↔ (1 ≤ e ∧ e ≤ 7) ∧ (M.wE e (bl r) = r.size ∧ r.size ≤ 3) ∧ M.Ok e t := by
  unfold chk M.Ok M.Sg
  constructor
  · intro h
    split at h
    · omega
    · rename_i h1
      split at h
      · omega
      · rename_i h2
        split at h
        · omega
        · rename_i h3
          split at h
          · omega
          · rename_i h4
            split at h
            · omega
            · rename_i h5
              have h1' : 1 ≤ e ∧ e ≤ 7 := Classical.byContradiction h1
              have h2' : M.wE e (bl r) = r.size ∧ r.size ≤ 3 := Classical.byContradiction h2
              refine ⟨h1', h2', by omega, fun q => ?_, fun q => ?_⟩
              · refine ⟨Classical.byContradiction (fun z => h4 ⟨q, .inl z⟩), ?_⟩
                cases hf : t.2.1
                · rfl
                · exact absurd ⟨q, .inr hf⟩ h4
              · cases hf : t.2.2
                · rfl
                · exact absurd ⟨q, hf⟩ h5
  · rintro ⟨h1, h2, h3, h4, h5⟩
    rw [if_neg (fun q => q h1), if_neg (fun q => q h2), if_neg (by omega), if_neg, if_neg]
    · rintro ⟨q, z⟩; rw [h5 q] at z; cases z
    · rintro ⟨q, z⟩
      rcases z with z | z
      · exact z (h4 q).1
      · rw [(h4 q).2] at z; cases z
end Go.Proofs.YtaiinjfnkmidbaaGreatDoor

namespace Go.Proofs.YtaiinjfnkmidbaaGreatDoor
open Go.RowKit
set_option linter.unusedVariables false

/-- The cells of a state that is answered. -/
structure Rc (B : Nat) (w : World) : Prop where
  b0 : w.cell? ⟨B, 0, none⟩ = some (.int .i64 0)
  b1 : w.cell? ⟨B, 1, none⟩ = some (.string ⟨#[]⟩)
  b2 : w.cell? ⟨B, 2, none⟩ = some (.int .i64 0)
  b3 : w.cell? ⟨B, 3, none⟩ = some (.bool false)
  b4 : w.cell? ⟨B, 4, none⟩ = some (.bool false)
  g0 : w.frozen? ⟨B, 0, none⟩ = false
  g1 : w.frozen? ⟨B, 1, none⟩ = false
  g2 : w.frozen? ⟨B, 2, none⟩ = false
  g3 : w.frozen? ⟨B, 3, none⟩ = false
  g4 : w.frozen? ⟨B, 4, none⟩ = false
theorem Rc.below {B D : Nat} {w w2 : World} (h : Rc B w) (hb : Below D w w2) (hB : B < D) : Rc B w2 where
  b0 := (hb.cell (p := ⟨B, 0, none⟩) hB).trans h.b0
  b1 := (hb.cell (p := ⟨B, 1, none⟩) hB).trans h.b1
  b2 := (hb.cell (p := ⟨B, 2, none⟩) hB).trans h.b2
  b3 := (hb.cell (p := ⟨B, 3, none⟩) hB).trans h.b3
  b4 := (hb.cell (p := ⟨B, 4, none⟩) hB).trans h.b4
  g0 := (hb.frozen (p := ⟨B, 0, none⟩) hB).trans h.g0
  g1 := (hb.frozen (p := ⟨B, 1, none⟩) hB).trans h.g1
  g2 := (hb.frozen (p := ⟨B, 2, none⟩) hB).trans h.g2
  g3 := (hb.frozen (p := ⟨B, 3, none⟩) hB).trans h.g3
  g4 := (hb.frozen (p := ⟨B, 4, none⟩) hB).trans h.g4

set_option maxHeartbeats 800000 in
set_option maxRecDepth 100000 in
theorem open_yes (e : Int) (w : World) (he : 1 ≤ e ∧ e ≤ 7) : Calls Tryz.prog 45 #[.int .i64 e] w fun e' w' => e' = .returned (.tuple #[sv e ⟨#[]⟩ M.st0, .int .i64 0]) ∧ Below w.heap.size w w' := by
  have H := fun w => kind_yes e w he
  go_enter Tryz.func45, Tryz.ntmps45
  go_wp2_with fail
  refine (H _).mono ?_
  rintro e' w1 ⟨rfl, hb1⟩
  have hR : Rc w.heap.size w1 := Rc.below (w := w.alloc (.cells #[.int .i64 0, .string ⟨#[]⟩, .int .i64 0, .bool false, .bool false] 23)) (by constructor <;> simp [go_sem]) hb1 (by simp)
  obtain ⟨b0, b1, b2, b3, b4, g0, g1, g2, g3, g4⟩ := hR
  have hlt : w.heap.size < w1.heap.size := World.block_lt_of_cell? w1 _ b0
  have HB := hide (bstep (balloc _ _) hb1)
  clear hb1 H
  go_wp2_with fail
  refine bodyPost_ret (v := .tuple #[sv e ⟨#[]⟩ M.st0, .int .i64 0]) (by simp [results, Tryz.results45, go_sem, b0, b1, b2, b3, b4, sv, M.st0]) rfl ⟨rfl, ?_⟩
  exact bset (bset (bset (bset (bset (unhide HB) ⟨w.heap.size, 0, none⟩ _ (Nat.le_refl _)) ⟨w.heap.size, 1, none⟩ _ (Nat.le_refl _)) ⟨w.heap.size, 2, none⟩ _ (Nat.le_refl _)) ⟨w.heap.size, 3, none⟩ _ (Nat.le_refl _)) ⟨w.heap.size, 4, none⟩ _ (Nat.le_refl _)
theorem feed_all (D : Nat) (e : Int) (r : ByteArray) (t : M.St) (xs : List Int) (p : ByteArray) (w : World) (he : 1 ≤ e ∧ e ≤ 7) (hk : M.Ok e t) (hr : r.size ≤ 3) (hs : p.size ≤ 3000) (hx : xs.length ≤ 10000) (hD : Dl D e r t xs w) :
    Calls Tryz.prog 100 #[.pointer (some ⟨D, 0, none⟩), .string p] w fun e' w' => e' = .returned (.tuple #[]) ∧ Taken D e t xs (bl r ++ bl p) w w' := by
  by_cases h : p.size ≤ 2997
  · exact feed_short D e r t xs p w he hk.1 hr h hx hD
  · exact feed_great D e r t xs p w he hk hr (by omega) hs hx hD

/-- What Feed answers: what is told, and the state then. -/
def Fed (e : Int) (r : ByteArray) (t : M.St) (p : ByteArray) (last : Bool) (w : World) (e' : Ending) (w' : World) : Prop :=
  ∃ v r' t' L, e' = .returned (.tuple #[v, sv e r' t', .int .i64 0]) ∧ w'.ownsRow w.heap.size 3 1 v L.length (L.map (Value.int .i64)) ∧ Below w.heap.size w w' ∧
    (last = false → L = (M.RE e t (bl r ++ bl p)).1 ∧ bl r' = (M.RE e t (bl r ++ bl p)).2.2 ∧ t' = (M.RE e t (bl r ++ bl p)).2.1) ∧
    (last = true → L = (M.TE e t (bl r ++ bl p)).1 ∧ r' = ⟨#[]⟩ ∧ t' = M.st0)

set_option maxHeartbeats 3000000 in
set_option maxRecDepth 100000 in
theorem feed_more (e : Int) (r : ByteArray) (t : M.St) (p : ByteArray) (w : World) (he : 1 ≤ e ∧ e ≤ 7) (hr : M.wE e (bl r) = r.size ∧ r.size ≤ 3) (hk : M.Ok e t) (hs : p.size ≤ 3000) :
    Calls Tryz.prog 46 #[sv e r t, .string p, .bool false] w (Fed e r t p false w) := by
  have HC := fun w => check_any e r t w (by unfold maxLen; omega)
  rw [chk_ok.2 ⟨he, hr, hk⟩] at HC
  have hr3 := hr.2
  clear hr
  unfold sv at *
  go_enter Tryz.func46, Tryz.ntmps46
  go_wp2_with fail
  refine (HC _).mono ?_
  rintro e' w1 ⟨rfl, hb1⟩
  have HR1 : Hid (Rc (w.heap.size + 1) w1) := hide (Rc.below (w := (w.alloc (.cells #[.int .i64 e, .string r, .int .i64 t.1, .bool t.2.1, .bool t.2.2] 23)).alloc (.cells #[.int .i64 0, .string ⟨#[]⟩, .int .i64 0, .bool false, .bool false] 23)) (by constructor <;> simp [go_sem]) hb1 (by simp))
  have a0 : w1.cell? ⟨w.heap.size, 0, none⟩ = some (.int .i64 e) := (hb1.cell (p := ⟨w.heap.size, 0, none⟩) (by simp; omega)).trans (by simp [go_sem])
  have a1 : w1.cell? ⟨w.heap.size, 1, none⟩ = some (.string r) := (hb1.cell (p := ⟨w.heap.size, 1, none⟩) (by simp; omega)).trans (by simp [go_sem])
  have a2 : w1.cell? ⟨w.heap.size, 2, none⟩ = some (.int .i64 t.1) := (hb1.cell (p := ⟨w.heap.size, 2, none⟩) (by simp; omega)).trans (by simp [go_sem])
  have a3 : w1.cell? ⟨w.heap.size, 3, none⟩ = some (.bool t.2.1) := (hb1.cell (p := ⟨w.heap.size, 3, none⟩) (by simp; omega)).trans (by simp [go_sem])
  have a4 : w1.cell? ⟨w.heap.size, 4, none⟩ = some (.bool t.2.2) := (hb1.cell (p := ⟨w.heap.size, 4, none⟩) (by simp; omega)).trans (by simp [go_sem])
  have HB1 := hide (bstep (bstep (balloc _ _) (balloc _ _)) hb1)
  have hz1 : w.heap.size + 2 ≤ w1.heap.size := by have := hb1.size; simp at this; omega
  have hlt0 : w.heap.size < w1.heap.size := by omega
  clear hb1 HC
  go_wp2_with fail
  have HDl : Hid (Dl w1.heap.size e r t [] (w1.alloc (.cells #[.int .i64 e, .string r, .int .i64 t.1, .bool t.2.1, .bool t.2.2, .slice none 0 0] 125))) := hide ⟨.slice none 0 0, by constructor <;> simp [go_sem], World.ownsRow_nil _ _ _ _⟩
  refine (feed_all w1.heap.size e r t [] p _ he hk hr3 hs (by simp) (unhide HDl)).mono ?_
  rintro e' w2 ⟨rfl, r2, hr2, hD2, hB2⟩
  rw [List.nil_append] at hD2
  have HR2 := hide (((unhide HR1).below (balloc w1 (.cells #[.int .i64 e, .string r, .int .i64 t.1, .bool t.2.1, .bool t.2.2, .slice none 0 0] 125)) (by omega)).below hB2 (by omega))
  have HB2 := hide ((bstep (unhide HB1) (balloc w1 (.cells #[.int .i64 e, .string r, .int .i64 t.1, .bool t.2.1, .bool t.2.2, .slice none 0 0] 125))).trans (hB2.mono (by omega)))
  have HFew := hide (M.RE_few he t (bl r ++ bl p))
  have HOut := hide (M.RE_out he t (bl r ++ bl p))
  have HOk := hide (M.Ok_run he hk (bl r ++ bl p))
  have hlen : (bl r ++ bl p).length ≤ 3003 := by rw [List.length_append, bl_len, bl_len]; omega
  have HTE := hide (M.TE_run e t (bl r ++ bl p))
  have HDX := hide hD2
  have HRX := HR2
  have HBX := HB2
  have HL : Hid ((M.RE e t (bl r ++ bl p)).1 = (M.RE e t (bl r ++ bl p)).1) := hide rfl
  have HR' := hide hr2
  have HT' : Hid ((M.RE e t (bl r ++ bl p)).2.1 = (M.RE e t (bl r ++ bl p)).2.1) := hide rfl
  obtain ⟨D, hDD⟩ : ∃ D, w1.heap.size = D := ⟨_, rfl⟩
  rw [hDD] at hz1 hlt0 HDX
  clear hB2 HDl HOut HOk HFew HTE hD2 hr2
  generalize hL0 : (M.RE e t (bl r ++ bl p)).1 = L at HDX HL
  generalize hT0 : (M.RE e t (bl r ++ bl p)).2.1 = t2 at HDX HT'
  have HL0 := hide hL0
  have HT0 := hide hT0
  clear hL0 hT0
  obtain ⟨vv, hCx, hox⟩ := unhide HDX
  obtain ⟨ax, cx, hsx⟩ := owns_shape hox
  subst hsx
  have HIX := hide hox
  obtain ⟨d0, d1, d2, d3, d4, d5, k0, k1, k2, k3, k4, k5⟩ := hCx
  obtain ⟨b0, b1, b2, b3, b4, g0, g1, g2, g3, g4⟩ := unhide HRX
  have hDX : D < w2.heap.size := World.block_lt_of_cell? w2 _ d0
  have hBX : w.heap.size + 1 < w2.heap.size := by omega
  have hne : ¬ (w.heap.size + 1 = D) := by omega
  have hne' : ¬ (D = w.heap.size + 1) := by omega
  clear hox
  go_wp2_with fail
  go_region
  all_goals
    go_wp2_with fail
    refine bodyPost_ret (v := .tuple #[.slice ax L.length cx, .agg #[.int .i64 e, .string r2, .int .i64 t2.1, .bool t2.2.1, .bool t2.2.2], .int .i64 0]) (by simp [results, Tryz.results46, go_sem, b0, b1, b2, b3, b4]) rfl ?_
    refine ⟨.slice ax L.length cx, r2, t2, L, rfl, ?_, ?_, ?_, ?_⟩
    · exact owns_below (owns_mono (owns_set (owns_set (owns_set (owns_set (owns_set (unhide HIX) ⟨w.heap.size + 1, 0, none⟩ (by simp; omega) _) ⟨w.heap.size + 1, 1, none⟩ (by simp; omega) _) ⟨w.heap.size + 1, 2, none⟩ (by simp; omega) _) ⟨w.heap.size + 1, 3, none⟩ (by simp; omega) _) ⟨w.heap.size + 1, 4, none⟩ (by simp; omega) _) (by omega)) (below_drewN (Below.refl _ _) 1)
    · exact below_drewN (bset (bset (bset (bset (bset (unhide HBX) ⟨w.heap.size + 1, 0, none⟩ _ (by simp)) ⟨w.heap.size + 1, 1, none⟩ _ (by simp)) ⟨w.heap.size + 1, 2, none⟩ _ (by simp)) ⟨w.heap.size + 1, 3, none⟩ _ (by simp)) ⟨w.heap.size + 1, 4, none⟩ _ (by simp)) 1
    · intro _; exact ⟨(unhide HL0).symm, unhide HR', (unhide HT0).symm⟩
    · intro h; cases h

set_option maxHeartbeats 3000000 in
set_option maxRecDepth 100000 in
theorem feed_last (e : Int) (r : ByteArray) (t : M.St) (p : ByteArray) (w : World) (he : 1 ≤ e ∧ e ≤ 7) (hr : M.wE e (bl r) = r.size ∧ r.size ≤ 3) (hk : M.Ok e t) (hs : p.size ≤ 3000) :
    Calls Tryz.prog 46 #[sv e r t, .string p, .bool true] w (Fed e r t p true w) := by
  have HC := fun w => check_any e r t w (by unfold maxLen; omega)
  rw [chk_ok.2 ⟨he, hr, hk⟩] at HC
  have hr3 := hr.2
  clear hr
  unfold sv at *
  go_enter Tryz.func46, Tryz.ntmps46
  go_wp2_with fail
  refine (HC _).mono ?_
  rintro e' w1 ⟨rfl, hb1⟩
  have HR1 : Hid (Rc (w.heap.size + 1) w1) := hide (Rc.below (w := (w.alloc (.cells #[.int .i64 e, .string r, .int .i64 t.1, .bool t.2.1, .bool t.2.2] 23)).alloc (.cells #[.int .i64 0, .string ⟨#[]⟩, .int .i64 0, .bool false, .bool false] 23)) (by constructor <;> simp [go_sem]) hb1 (by simp))
  have a0 : w1.cell? ⟨w.heap.size, 0, none⟩ = some (.int .i64 e) := (hb1.cell (p := ⟨w.heap.size, 0, none⟩) (by simp; omega)).trans (by simp [go_sem])
  have a1 : w1.cell? ⟨w.heap.size, 1, none⟩ = some (.string r) := (hb1.cell (p := ⟨w.heap.size, 1, none⟩) (by simp; omega)).trans (by simp [go_sem])
  have a2 : w1.cell? ⟨w.heap.size, 2, none⟩ = some (.int .i64 t.1) := (hb1.cell (p := ⟨w.heap.size, 2, none⟩) (by simp; omega)).trans (by simp [go_sem])
  have a3 : w1.cell? ⟨w.heap.size, 3, none⟩ = some (.bool t.2.1) := (hb1.cell (p := ⟨w.heap.size, 3, none⟩) (by simp; omega)).trans (by simp [go_sem])
  have a4 : w1.cell? ⟨w.heap.size, 4, none⟩ = some (.bool t.2.2) := (hb1.cell (p := ⟨w.heap.size, 4, none⟩) (by simp; omega)).trans (by simp [go_sem])
  have HB1 := hide (bstep (bstep (balloc _ _) (balloc _ _)) hb1)
  have hz1 : w.heap.size + 2 ≤ w1.heap.size := by have := hb1.size; simp at this; omega
  have hlt0 : w.heap.size < w1.heap.size := by omega
  clear hb1 HC
  go_wp2_with fail
  have HDl : Hid (Dl w1.heap.size e r t [] (w1.alloc (.cells #[.int .i64 e, .string r, .int .i64 t.1, .bool t.2.1, .bool t.2.2, .slice none 0 0] 125))) := hide ⟨.slice none 0 0, by constructor <;> simp [go_sem], World.ownsRow_nil _ _ _ _⟩
  refine (feed_all w1.heap.size e r t [] p _ he hk hr3 hs (by simp) (unhide HDl)).mono ?_
  rintro e' w2 ⟨rfl, r2, hr2, hD2, hB2⟩
  rw [List.nil_append] at hD2
  have HR2 := hide (((unhide HR1).below (balloc w1 (.cells #[.int .i64 e, .string r, .int .i64 t.1, .bool t.2.1, .bool t.2.2, .slice none 0 0] 125)) (by omega)).below hB2 (by omega))
  have HB2 := hide ((bstep (unhide HB1) (balloc w1 (.cells #[.int .i64 e, .string r, .int .i64 t.1, .bool t.2.1, .bool t.2.2, .slice none 0 0] 125))).trans (hB2.mono (by omega)))
  have HFew := hide (M.RE_few he t (bl r ++ bl p))
  have HOut := hide (M.RE_out he t (bl r ++ bl p))
  have HOk := hide (M.Ok_run he hk (bl r ++ bl p))
  have hlen : (bl r ++ bl p).length ≤ 3003 := by rw [List.length_append, bl_len, bl_len]; omega
  have HTE := hide (M.TE_run e t (bl r ++ bl p))
  have hr23 : r2.size ≤ 3 := by rw [← bl_len, hr2]; exact unhide HFew
  have HE := end_any w1.heap.size e r2 _ _ w2 he (unhide HOk).1 hr23 (by have := unhide HOut; omega) hD2
  have HL : Hid ((M.RE e t (bl r ++ bl p)).1 ++ (M.TE e (M.RE e t (bl r ++ bl p)).2.1 (bl r2)).1 = (M.TE e t (bl r ++ bl p)).1) := hide (by rw [hr2, unhide HTE])
  generalize (M.RE e t (bl r ++ bl p)).1 ++ (M.TE e (M.RE e t (bl r ++ bl p)).2.1 (bl r2)).1 = L at *
  have hD2c := hD2
  obtain ⟨v2, hC2, ho2⟩ := hD2c
  obtain ⟨m0, m1, m2, m3, m4, m5, n0, n1, n2, n3, n4, n5⟩ := hC2
  clear hB2 ho2 HDl HOut HOk HFew HTE
  obtain ⟨D, hDD⟩ : ∃ D, w1.heap.size = D := ⟨_, rfl⟩
  rw [hDD] at hz1 hlt0 HE
  go_wp2_with fail
  refine HE.mono ?_
  rintro e' w3 ⟨rfl, hD3, hB3⟩
  have HDX := hide hD3
  have HRX := hide ((unhide HR2).below hB3 (by omega))
  have HBX := hide ((unhide HB2).trans (hB3.mono (by omega)))
  clear HE hD3 hB3 hD2
  obtain ⟨vv, hCx, hox⟩ := unhide HDX
  obtain ⟨ax, cx, hsx⟩ := owns_shape hox
  subst hsx
  have HIX := hide hox
  obtain ⟨d0, d1, d2, d3, d4, d5, k0, k1, k2, k3, k4, k5⟩ := hCx
  obtain ⟨b0, b1, b2, b3, b4, g0, g1, g2, g3, g4⟩ := unhide HRX
  have hDX : D < w3.heap.size := World.block_lt_of_cell? w3 _ d0
  have hBX : w.heap.size + 1 < w3.heap.size := by omega
  have hne : ¬ (w.heap.size + 1 = D) := by omega
  have hne' : ¬ (D = w.heap.size + 1) := by omega
  clear hox
  go_wp2_with fail
  go_region
  all_goals
    go_wp2_with fail
    refine bodyPost_ret (v := .tuple #[.slice ax L.length cx, .agg #[.int .i64 e, .string ⟨#[]⟩, .int .i64 M.st0.1, .bool M.st0.2.1, .bool M.st0.2.2], .int .i64 0]) (by simp [results, Tryz.results46, go_sem, b0, b1, b2, b3, b4]) rfl ?_
    refine ⟨.slice ax L.length cx, ⟨#[]⟩, M.st0, L, rfl, ?_, ?_, ?_, ?_⟩
    · exact owns_below (owns_mono (owns_set (owns_set (owns_set (owns_set (owns_set (unhide HIX) ⟨w.heap.size + 1, 0, none⟩ (by simp; omega) _) ⟨w.heap.size + 1, 1, none⟩ (by simp; omega) _) ⟨w.heap.size + 1, 2, none⟩ (by simp; omega) _) ⟨w.heap.size + 1, 3, none⟩ (by simp; omega) _) ⟨w.heap.size + 1, 4, none⟩ (by simp; omega) _) (by omega)) (below_drewN (Below.refl _ _) 1)
    · exact below_drewN (bset (bset (bset (bset (bset (unhide HBX) ⟨w.heap.size + 1, 0, none⟩ _ (by simp)) ⟨w.heap.size + 1, 1, none⟩ _ (by simp)) ⟨w.heap.size + 1, 2, none⟩ _ (by simp)) ⟨w.heap.size + 1, 3, none⟩ _ (by simp)) ⟨w.heap.size + 1, 4, none⟩ _ (by simp)) 1
    · intro h; cases h
    · intro _; exact ⟨unhide HL, rfl, rfl⟩
end Go.Proofs.YtaiinjfnkmidbaaGreatDoor

namespace Go.Proofs.YtaiinjfnkmidbaaGreatDoor
open Go.RowKit
set_option linter.unusedVariables false

theorem bl_inj {r : ByteArray} {xs : List Int} (h : bl r = xs) : r = strOfNums xs := by rw [← h, str_bl]
/-- A state in memory. -/
structure Sc (B : Nat) (e : Int) (r : ByteArray) (t : M.St) (w : World) : Prop where
  c0 : w.cell? ⟨B, 0, none⟩ = some (.int .i64 e)
  c1 : w.cell? ⟨B, 1, none⟩ = some (.string r)
  c2 : w.cell? ⟨B, 2, none⟩ = some (.int .i64 t.1)
  c3 : w.cell? ⟨B, 3, none⟩ = some (.bool t.2.1)
  c4 : w.cell? ⟨B, 4, none⟩ = some (.bool t.2.2)
  f0 : w.frozen? ⟨B, 0, none⟩ = false
  f1 : w.frozen? ⟨B, 1, none⟩ = false
  f2 : w.frozen? ⟨B, 2, none⟩ = false
  f3 : w.frozen? ⟨B, 3, none⟩ = false
  f4 : w.frozen? ⟨B, 4, none⟩ = false
theorem Sc.below {B D : Nat} {e : Int} {r : ByteArray} {t : M.St} {w w2 : World} (h : Sc B e r t w) (hb : Below D w w2) (hB : B < D) : Sc B e r t w2 where
  c0 := (hb.cell (p := ⟨B, 0, none⟩) hB).trans h.c0
  c1 := (hb.cell (p := ⟨B, 1, none⟩) hB).trans h.c1
  c2 := (hb.cell (p := ⟨B, 2, none⟩) hB).trans h.c2
  c3 := (hb.cell (p := ⟨B, 3, none⟩) hB).trans h.c3
  c4 := (hb.cell (p := ⟨B, 4, none⟩) hB).trans h.c4
  f0 := (hb.frozen (p := ⟨B, 0, none⟩) hB).trans h.f0
  f1 := (hb.frozen (p := ⟨B, 1, none⟩) hB).trans h.f1
  f2 := (hb.frozen (p := ⟨B, 2, none⟩) hB).trans h.f2
  f3 := (hb.frozen (p := ⟨B, 3, none⟩) hB).trans h.f3
  f4 := (hb.frozen (p := ⟨B, 4, none⟩) hB).trans h.f4
theorem Sc.lt {B : Nat} {e : Int} {r : ByteArray} {t : M.St} {w : World} (h : Sc B e r t w) : B < w.heap.size := World.block_lt_of_cell? w _ h.c0
theorem Sc.on {B : Nat} {e : Int} {r : ByteArray} {t : M.St} {w w2 : World} (h : Sc B e r t w) (hb : Below w.heap.size w w2) : Sc B e r t w2 := h.below hb h.lt
theorem Sc.new (w : World) (e : Int) (r : ByteArray) (t : M.St) : Sc w.heap.size e r t (w.alloc (.cells #[.int .i64 e, .string r, .int .i64 t.1, .bool t.2.1, .bool t.2.2] 23)) := by constructor <;> simp [go_sem]
theorem Sc.put {B : Nat} {w : World} (h : Rc B w) (e : Int) (r : ByteArray) (t : M.St) : Sc B e r t (((((w.setCell ⟨B, 0, none⟩ (.int .i64 e)).setCell ⟨B, 1, none⟩ (.string r)).setCell ⟨B, 2, none⟩ (.int .i64 t.1)).setCell ⟨B, 3, none⟩ (.bool t.2.1)).setCell ⟨B, 4, none⟩ (.bool t.2.2)) := by
  obtain ⟨b0, b1, b2, b3, b4, g0, g1, g2, g3, g4⟩ := h
  constructor <;> simp [go_sem, b0, b1, b2, b3, b4, g0, g1, g2, g3, g4]
theorem Sc.rc {B : Nat} {w : World} {r : ByteArray} {e : Int} {t : M.St} (h : Sc B e r t w) (e2 : Int) (r2 : ByteArray) (t2 : M.St) : Sc B e2 r2 t2 (((((w.setCell ⟨B, 0, none⟩ (.int .i64 e2)).setCell ⟨B, 1, none⟩ (.string r2)).setCell ⟨B, 2, none⟩ (.int .i64 t2.1)).setCell ⟨B, 3, none⟩ (.bool t2.2.1)).setCell ⟨B, 4, none⟩ (.bool t2.2.2)) := by
  obtain ⟨b0, b1, b2, b3, b4, g0, g1, g2, g3, g4⟩ := h
  constructor <;> simp [go_sem, b0, b1, b2, b3, b4, g0, g1, g2, g3, g4]
theorem bset5 {B D : Nat} {w0 w : World} {e : Int} {r : ByteArray} {t : M.St} (h : Below D w0 w) (hB : D ≤ B) : Below D w0 (((((w.setCell ⟨B, 0, none⟩ (.int .i64 e)).setCell ⟨B, 1, none⟩ (.string r)).setCell ⟨B, 2, none⟩ (.int .i64 t.1)).setCell ⟨B, 3, none⟩ (.bool t.2.1)).setCell ⟨B, 4, none⟩ (.bool t.2.2)) := (bset (bset (bset (bset (bset h ⟨B, 0, none⟩ _ hB) ⟨B, 1, none⟩ _ hB) ⟨B, 2, none⟩ _ hB) ⟨B, 3, none⟩ _ hB) ⟨B, 4, none⟩ _ hB)
theorem oset5 {B D : Nat} {w : World} {e : Int} {r : ByteArray} {t : M.St} {v : Value} {n : Nat} {xs : List Value} (h : w.ownsRow D 3 1 v n xs) (hB : B < D) : (((((w.setCell ⟨B, 0, none⟩ (.int .i64 e)).setCell ⟨B, 1, none⟩ (.string r)).setCell ⟨B, 2, none⟩ (.int .i64 t.1)).setCell ⟨B, 3, none⟩ (.bool t.2.1)).setCell ⟨B, 4, none⟩ (.bool t.2.2)).ownsRow D 3 1 v n xs := (owns_set (owns_set (owns_set (owns_set (owns_set h ⟨B, 0, none⟩ hB _) ⟨B, 1, none⟩ hB _) ⟨B, 2, none⟩ hB _) ⟨B, 3, none⟩ hB _) ⟨B, 4, none⟩ hB _)
def s1 : ByteArray := ⟨#[97, 226, 130]⟩
def s2 : ByteArray := ⟨#[172, 226]⟩
def s3 : ByteArray := ⟨#[120, 121, 122]⟩
def s4 : ByteArray := ⟨#[226, 130]⟩
theorem re_b : M.RE 1 M.st0 (bl ⟨#[]⟩ ++ bl s1) = ([97], M.st0, [226, 130]) := by decide +kernel
theorem te_b : (M.TE 1 M.st0 (bl s4 ++ bl s2)).1 = [8364, 65533] := by decide +kernel
theorem de_b : M.decE 7 (bl s3) = [65533] := by decide +kernel
theorem ck_b : chk 1 s4 M.st0 = 0 := by decide +kernel

set_option maxHeartbeats 3000000 in
set_option maxRecDepth 100000 in
theorem begunT_any (w : World) : Calls Tryz.prog 39 #[] w fun e w' => e = .returned (.bool true) ∧ Below w.heap.size w w' := by
  go_enter Tryz.func39, Tryz.ntmps39
  go_wp2_with fail
  refine (open_yes 1 _ (by omega)).mono ?_
  rintro e w1 ⟨rfl, hb1⟩
  have HB1 := hide hb1
  clear hb1
  unfold sv M.st0
  go_wp2_with fail
  refine (feed_more 1 ⟨#[]⟩ M.st0 s1 _ (by omega) ⟨by decide +kernel, by decide⟩ (M.Ok_st0 1) (by decide)).mono ?_
  rintro e w2 ⟨v2, r2, t2, L2, rfl, hI2, hb2, h1, -⟩
  obtain ⟨e1, e2, e3⟩ := h1 rfl
  rw [re_b] at e1 e2 e3
  have e2' : r2 = s4 := bl_inj e2
  subst e1 e2' e3
  obtain ⟨a2, c2, hs2⟩ := owns_shape hI2
  subst hs2
  have HI2 := hide (Ints.of_owns hI2)
  have HO2 := hide ((Sc.new w1 1 ⟨#[]⟩ M.st0).on hb2)
  have HB2 := hide (bstep (unhide HB1) (bstep (balloc w1 (.cells #[.int .i64 1, .string ⟨#[]⟩, .int .i64 0, .bool false, .bool false] 23)) hb2))
  clear hI2 hb2 h1 e2 HB1
  unfold sv M.st0 s4
  go_wp2_with fail
  refine (feed_last 1 s4 M.st0 s2 _ (by omega) ⟨by decide +kernel, by decide⟩ (M.Ok_st0 1) (by decide)).mono ?_
  rintro e w3 ⟨v3, r3, t3, L3, rfl, hI3, hb3, -, h1⟩
  obtain ⟨e1, e2, e3⟩ := h1 rfl
  rw [te_b] at e1
  subst e1 e2 e3
  obtain ⟨a3, c3, hs3⟩ := owns_shape hI3
  subst hs3
  have hst := bstep (balloc w2 (.cells #[.int .i64 1, .string s4, .int .i64 0, .bool false, .bool false] 23)) hb3
  have HI3 := hide (Ints.of_owns hI3)
  have HT3 := hide ((Sc.new w2 1 s4 M.st0).on hb3)
  have HO3 := hide ((unhide HO2).on hst)
  have HI23 := hide ((unhide HI2).below hst)
  have HB3 := hide (bstep (unhide HB2) hst)
  clear hI3 hb3 h1 hst HO2 HI2 HB2
  unfold sv M.st0
  go_wp2_with fail
  refine (sdecode_any 7 s3 _ (by omega) (by decide)).mono ?_
  rintro e w4 ⟨v4, rfl, hI4, hb4⟩
  rw [de_b] at hI4
  obtain ⟨a4, c4, hs4, -⟩ := id hI4
  subst hs4
  have hst := bstep (balloc w3 (.cells #[.int .i64 1, .string ⟨#[]⟩, .int .i64 0, .bool false, .bool false] 23)) hb4
  have HI4 := hide hI4
  have HU4 := hide ((Sc.new w3 1 ⟨#[]⟩ M.st0).on hb4)
  have HT4 := hide ((unhide HT3).on hst)
  have HO4 := hide ((unhide HO3).on hst)
  have HI24 := hide ((unhide HI23).below hst)
  have HI34 := hide ((unhide HI3).below hst)
  have HB4 := hide (bstep (unhide HB3) hst)
  clear hI4 hb4 hst HT3 HO3 HI23 HI3 HB3
  obtain ⟨p0, p1, p2, p3, p4, -, -, -, -, -⟩ := unhide HT4
  have hp := (unhide HT4).lt
  unfold M.st0 at p2 p3 p4
  unfold s4 at p1
  go_wp2_with fail
  refine (check_any 1 s4 M.st0 _ (by decide)).mono ?_
  rintro e w5 ⟨rfl, hb5⟩
  rw [ck_b]
  have HI45 := hide ((unhide HI4).below hb5)
  have HU5 := hide ((unhide HU4).on hb5)
  have HT5 := hide ((unhide HT4).on hb5)
  have HO5 := hide ((unhide HO4).on hb5)
  have HI25 := hide ((unhide HI24).below hb5)
  have HI35 := hide ((unhide HI34).below hb5)
  have HB5 := hide (bstep (unhide HB4) hb5)
  clear hb5 p0 p1 p2 p3 p4 hp HU4 HT4 HO4 HI24 HI34 HB4 HI4
  go_wp2_with fail
  refine (same_any _ ((unhide HI25).below (balloc _ _)) (one_int _ _)).mono ?_
  rintro e w6 ⟨rfl, hb6⟩
  rw [show ([97] == ([97] : List Int)) = true from by decide]
  have hst := bstep (balloc w5 (.cells #[.int .i64 97] 3)) hb6
  have HI46 := hide ((unhide HI45).below hst)
  have HU6 := hide ((unhide HU5).on hst)
  have HT6 := hide ((unhide HT5).on hst)
  have HO6 := hide ((unhide HO5).on hst)
  have HI36 := hide ((unhide HI35).below hst)
  have HB6 := hide (bstep (unhide HB5) hst)
  clear hb6 hst HU5 HT5 HO5 HI25 HI35 HB5 HI45
  obtain ⟨p0, p1, p2, p3, p4, -, -, -, -, -⟩ := unhide HT6
  have hp := (unhide HT6).lt
  unfold s4 at p1
  go_wp2_with fail
  refine (same_any _ ((unhide HI36).below (balloc _ _)) (two_ints _ _ _)).mono ?_
  rintro e w7 ⟨rfl, hb7⟩
  rw [show ([8364, 65533] == ([8364, 65533] : List Int)) = true from by decide]
  have hst := bstep (balloc w6 (.cells #[.int .i64 8364, .int .i64 65533] 3)) hb7
  have HI47 := hide ((unhide HI46).below hst)
  have HU7 := hide ((unhide HU6).on hst)
  have HO7 := hide ((unhide HO6).on hst)
  have HB7 := hide (bstep (unhide HB6) hst)
  clear hb7 hst HU6 HT6 HO6 HI36 HB6 HI46 p0 p1 p2 p3 p4 hp
  obtain ⟨p0, p1, p2, p3, p4, -, -, -, -, -⟩ := unhide HU7
  have hp := (unhide HU7).lt
  obtain ⟨q0, q1, q2, q3, q4, -, -, -, -, -⟩ := unhide HO7
  have hq := (unhide HO7).lt
  unfold M.st0 at p2 p3 p4 q2 q3 q4
  go_wp2_with fail
  refine (same_any _ ((unhide HI47).below (balloc _ _)) (one_int _ _)).mono ?_
  rintro e w8 ⟨rfl, hb8⟩
  rw [show ([65533] == ([65533] : List Int)) = true from by decide]
  have HB8 := hide (bstep (unhide HB7) (bstep (balloc w7 (.cells #[.int .i64 65533] 3)) hb8))
  clear hb8
  go_wp2_with fail
  go_ret
  exact ⟨rfl, unhide HB8⟩
end Go.Proofs.YtaiinjfnkmidbaaGreatDoor

namespace Go.Proofs.YtaiinjfnkmidbaaGreatDoor
open Go.RowKit
set_option linter.unusedVariables false

def InF (W : World) (e : Int) (r : ByteArray) (t : M.St) (p : ByteArray) (last : Bool) (a x f : Value) (wx : World) : Prop :=
  ∃ av cv r' t' L B, a = .slice av L.length cv ∧ x = .pointer (some ⟨B, 0, none⟩) ∧ f = .int .i64 0 ∧ Sc B e r' t' wx ∧ Ints wx (.slice av L.length cv) L ∧ Below W.heap.size W wx ∧
    (last = false → L = (M.RE e t (bl r ++ bl p)).1 ∧ bl r' = (M.RE e t (bl r ++ bl p)).2.2 ∧ t' = (M.RE e t (bl r ++ bl p)).2.1) ∧
    (last = true → L = (M.TE e t (bl r ++ bl p)).1 ∧ r' = ⟨#[]⟩ ∧ t' = M.st0)
theorem InF.a {W w1 : World} {e : Int} {r p r' : ByteArray} {t t' : M.St} {last : Bool} {av : Option Addr} {cv : Nat} {L : List Int} (HW : Below W.heap.size W w1) (HI : w1.ownsRow W.heap.size 3 1 (.slice av L.length cv) L.length (L.map (Value.int .i64)))
    (h1 : last = false → L = (M.RE e t (bl r ++ bl p)).1 ∧ bl r' = (M.RE e t (bl r ++ bl p)).2.2 ∧ t' = (M.RE e t (bl r ++ bl p)).2.1) (h2 : last = true → L = (M.TE e t (bl r ++ bl p)).1 ∧ r' = ⟨#[]⟩ ∧ t' = M.st0) :
    InF W e r t p last (.slice av L.length cv) (.pointer (some ⟨w1.heap.size, 0, none⟩)) (.int .i64 0) (w1.alloc (.cells #[.int .i64 e, .string r', .int .i64 t'.1, .bool t'.2.1, .bool t'.2.2] 23)) :=
  ⟨av, cv, r', t', L, w1.heap.size, rfl, rfl, rfl, Sc.new w1 e r' t', (Ints.of_owns HI).below (balloc _ _), bstep HW (balloc _ _), h1, h2⟩
theorem InF.b {W w1 : World} {e : Int} {r p r' : ByteArray} {t t' : M.St} {last : Bool} {av : Option Addr} {cv : Nat} {L : List Int} (HW : Below W.heap.size W w1) (HR : Rc W.heap.size w1) (HI : w1.ownsRow (W.heap.size + 1) 3 1 (.slice av L.length cv) L.length (L.map (Value.int .i64)))
    (h1 : last = false → L = (M.RE e t (bl r ++ bl p)).1 ∧ bl r' = (M.RE e t (bl r ++ bl p)).2.2 ∧ t' = (M.RE e t (bl r ++ bl p)).2.1) (h2 : last = true → L = (M.TE e t (bl r ++ bl p)).1 ∧ r' = ⟨#[]⟩ ∧ t' = M.st0) :
    InF W e r t p last (.slice av L.length cv) (.pointer (some ⟨W.heap.size, 0, none⟩)) (.int .i64 0) (((((w1.setCell ⟨W.heap.size, 0, none⟩ (.int .i64 e)).setCell ⟨W.heap.size, 1, none⟩ (.string r')).setCell ⟨W.heap.size, 2, none⟩ (.int .i64 t'.1)).setCell ⟨W.heap.size, 3, none⟩ (.bool t'.2.1)).setCell ⟨W.heap.size, 4, none⟩ (.bool t'.2.2)) :=
  ⟨av, cv, r', t', L, W.heap.size, rfl, rfl, rfl, Sc.put HR e r' t', Ints.of_owns (oset5 HI (Nat.lt_succ_self _)), bset5 HW (Nat.le_refl _), h1, h2⟩
theorem M.TE_app (e : Int) (t : M.St) (l m : List Int) : M.TE e t (l ++ m) = ((M.RE e t l).1 ++ (M.TE e (M.RE e t l).2.1 ((M.RE e t l).2.2 ++ m)).1, (M.TE e (M.RE e t l).2.1 ((M.RE e t l).2.2 ++ m)).2) := by
  rw [M.TE_run e t (l ++ m), M.RE_app e t l m, M.TE_run e (M.RE e t l).2.1 ((M.RE e t l).2.2 ++ m)]
  simp [List.append_assoc]
end Go.Proofs.YtaiinjfnkmidbaaGreatDoor

namespace Go.Proofs.YtaiinjfnkmidbaaGreatDoor
open Go.RowKit
set_option linter.unusedVariables false

/-- A front. -/
structure Fr where
  L : ByteArray
  enc : Int
  why : Int
  W : ByteArray
  e : Int
  r : ByteArray
  t : M.St
def Fr.v (f : Fr) : Value := .agg #[.string f.L, .int .i64 f.enc, .int .i64 f.why, .string f.W, .int .i64 f.e, .string f.r, .int .i64 f.t.1, .bool f.t.2.1, .bool f.t.2.2]
/-- The front at the beginning. -/
def Fr.new (L : ByteArray) : Fr := ⟨L, 0, 0, ⟨#[]⟩, 0, ⟨#[]⟩, M.st0⟩
/-- The error of a front, or 0. -/
def Fr.chk (f : Fr) : Int :=
  if 3000 < f.L.size ∨ 3000 < f.W.size then 2 else if ¬ (0 ≤ f.enc ∧ f.enc ≤ 7) then 6 else if ¬ (0 ≤ f.why ∧ f.why ≤ 4) ∨ (f.why = 0 ∧ f.enc ≠ 0) ∨ (f.why ≠ 0 ∧ f.enc = 0) then 4
  else if (f.why = 0 ∧ ¬ (f.e = 0 ∧ f.r.size = 0 ∧ f.t = M.st0)) ∨ (f.why ≠ 0 ∧ (f.W.size ≠ 0 ∨ f.e ≠ f.enc)) then 1
  else if f.why = 0 then (if enF f.L (bl f.W) = true then 4 else 0) else Go.Proofs.YtaiinjfnkmidbaaGreatDoor.chk f.e f.r f.t
/-- A front that has chosen from bytes l: what it has told, and itself. -/
def Fr.got (L : ByteArray) (l : List Int) : Fr := ⟨L, (chI L l).1, (chI L l).2.1, ⟨#[]⟩, (chI L l).1, strOfNums (M.RE (chI L l).1 M.st0 (l.drop (chI L l).2.2.toNat)).2.2, (M.RE (chI L l).1 M.st0 (l.drop (chI L l).2.2.toNat)).2.1⟩
def gotO (L : ByteArray) (l : List Int) : List Int := (M.RE (chI L l).1 M.st0 (l.drop (chI L l).2.2.toNat)).1
/-- What is told of bytes that come, and the front then. -/
def Fr.outs (f : Fr) (p : ByteArray) (last : Bool) : List Int :=
  if f.why = 0 then (if last = true then whI f.L (bl f.W ++ bl p) else if enF f.L (bl f.W ++ bl p) = true then gotO f.L (bl f.W ++ bl p) else [])
  else if last = true then (M.TE f.e f.t (bl f.r ++ bl p)).1 else (M.RE f.e f.t (bl f.r ++ bl p)).1
def Fr.nxt (f : Fr) (p : ByteArray) (last : Bool) : Fr :=
  if last = true then Fr.new f.L
  else if f.why = 0 then (if enF f.L (bl f.W ++ bl p) = true then Fr.got f.L (bl f.W ++ bl p) else ⟨f.L, f.enc, f.why, f.W ++ p, f.e, f.r, f.t⟩)
  else ⟨f.L, f.enc, f.why, f.W, f.e, strOfNums (M.RE f.e f.t (bl f.r ++ bl p)).2.2, (M.RE f.e f.t (bl f.r ++ bl p)).2.1⟩
/-- What a front is behind bytes x, and what it has told. -/
def Infr (L : ByteArray) (x : ByteArray) (f : Fr) (out : List Int) : Prop :=
  (enF L (bl x) = false ∧ f = ⟨L, 0, 0, x, 0, ⟨#[]⟩, M.st0⟩ ∧ out = []) ∨ (enF L (bl x) = true ∧ f = Fr.got L (bl x) ∧ out = gotO L (bl x))
theorem enF_nil (L : ByteArray) : enF L [] = false := by
  unfold enF
  rw [show (M.sn []).1 = 0 from by decide]
  simp
theorem Infr.start (L : ByteArray) : Infr L ⟨#[]⟩ (Fr.new L) [] := .inl ⟨by rw [show bl ⟨#[]⟩ = [] from rfl]; exact enF_nil L, rfl, rfl⟩
theorem chI_ne (L : ByteArray) (l : List Int) : (chI L l).2.1 ≠ 0 := by have := chI_bd L l; omega
theorem rest_byt {e : Int} (he : 1 ≤ e ∧ e ≤ 7) (t : M.St) {l : List Int} (h : ∀ x ∈ l, 0 ≤ x ∧ x ≤ 255) : bl (strOfNums (M.RE e t l).2.2) = (M.RE e t l).2.2 :=
  bl_str _ (by rw [M.RE_rest he]; intro x hx; exact h x (List.mem_of_mem_drop hx))
theorem drop_app {l m : List Int} {k : Int} (h : k ≤ l.length) : (l ++ m).drop k.toNat = l.drop k.toNat ++ m := by
  rw [List.drop_append_of_le_length (by omega)]
theorem byt_drop {x : ByteArray} (k : Nat) : ∀ y ∈ (bl x).drop k, 0 ≤ y ∧ y ≤ 255 := fun y hy => bl_byt x y (List.mem_of_mem_drop hy)
theorem Infr.step {L x : ByteArray} {f : Fr} {out : List Int} (h : Infr L x f out) (p : ByteArray) : Infr L (x ++ p) (f.nxt p false) (out ++ f.outs p false) := by
  unfold Infr
  rw [bl_app]
  rcases h with ⟨he, rfl, rfl⟩ | ⟨he, rfl, rfl⟩
  · unfold Fr.nxt Fr.outs
    simp only [if_true, Bool.false_eq_true, if_false]
    cases hq : enF L (bl x ++ bl p)
    · exact .inl ⟨rfl, by simp, by simp⟩
    · exact .inr ⟨rfl, by simp, by simp⟩
  · have hm := chI_more he (bl p)
    have hb := chI_bd L (bl x)
    refine .inr ⟨enF_more he _, ?_, ?_⟩
    · unfold Fr.nxt Fr.got
      simp only [Bool.false_eq_true, if_false, chI_ne, hm]
      rw [drop_app hb.2.2.2.2, rest_byt hb.1 _ (byt_drop _), M.RE_app _ M.st0 ((bl x).drop (chI L (bl x)).2.2.toNat)]
    · unfold Fr.outs gotO Fr.got
      simp only [Bool.false_eq_true, if_false, chI_ne, hm]
      rw [drop_app hb.2.2.2.2, rest_byt hb.1 _ (byt_drop _), M.RE_app _ M.st0 ((bl x).drop (chI L (bl x)).2.2.toNat)]
theorem Infr.last {L x : ByteArray} {f : Fr} {out : List Int} (h : Infr L x f out) (p : ByteArray) : f.nxt p true = Fr.new L ∧ out ++ f.outs p true = whI L (bl (x ++ p)) := by
  rw [bl_app]
  rcases h with ⟨he, rfl, rfl⟩ | ⟨he, rfl, rfl⟩
  · exact ⟨rfl, by unfold Fr.outs; simp⟩
  · have hm := chI_more he (bl p)
    have hb := chI_bd L (bl x)
    refine ⟨rfl, ?_⟩
    unfold Fr.outs gotO Fr.got whI M.decE
    simp only [if_true, chI_ne, if_false, hm]
    rw [drop_app hb.2.2.2.2, rest_byt hb.1 _ (byt_drop _), M.TE_app _ M.st0 ((bl x).drop (chI L (bl x)).2.2.toNat)]
theorem got_chk {L : ByteArray} {x : ByteArray} (hL : L.size ≤ 3000) : (Fr.got L (bl x)).chk = 0 := by
  have hb := chI_bd L (bl x)
  have hk : Go.Proofs.YtaiinjfnkmidbaaGreatDoor.chk (Fr.got L (bl x)).e (Fr.got L (bl x)).r (Fr.got L (bl x)).t = 0 := by
    rw [chk_ok]
    unfold Fr.got
    simp only
    have hr := rest_byt hb.1 M.st0 (byt_drop (x := x) (chI L (bl x)).2.2.toNat)
    refine ⟨hb.1, ⟨?_, ?_⟩, M.Ok_run hb.1 (M.Ok_st0 _) _⟩
    · rw [hr, strOfNums_size]; exact M.RE_left hb.1 _ _
    · rw [strOfNums_size]; exact M.RE_few hb.1 _ _
  unfold Fr.chk
  rw [hk]
  have hw := chI_ne L (bl x)
  unfold Fr.got
  simp only
  have z : (⟨#[]⟩ : ByteArray).size = 0 := rfl
  rw [if_neg (by rw [z]; omega), if_neg (by omega), if_neg (by omega), if_neg (by rw [z]; rintro (h | h); exact hw h.1; exact h.2.elim (fun q => q rfl) (fun q => q rfl)), if_neg hw]
theorem Infr.chk {L x : ByteArray} {f : Fr} {out : List Int} (h : Infr L x f out) (hL : L.size ≤ 3000) : f.chk = 0 := by
  rcases h with ⟨he, rfl, rfl⟩ | ⟨he, rfl, rfl⟩
  · have := enF_few he
    rw [bl_len] at this
    unfold Fr.chk
    simp only
    have z : (⟨#[]⟩ : ByteArray).size = 0 := rfl
    rw [if_neg (by omega), if_neg (by omega), if_neg (by omega), if_neg (by rw [z]; rintro (h | h); exact h.2 ⟨by trivial, by trivial, by trivial⟩; exact h.1 (by trivial)), he]
    rfl
  · exact got_chk hL
/-- A front that has chosen has chosen as the whole text tells. -/
theorem Infr.chosen {L x : ByteArray} {f : Fr} {out : List Int} (h : Infr L x f out) (p : ByteArray) : f.why = 0 ∨ (f.why = (chI L (bl (x ++ p))).2.1 ∧ f.enc = (chI L (bl (x ++ p))).1) := by
  rcases h with ⟨he, rfl, rfl⟩ | ⟨he, rfl, rfl⟩
  · exact .inl rfl
  · rw [bl_app, chI_more he]; exact .inr ⟨rfl, rfl⟩
end Go.Proofs.YtaiinjfnkmidbaaGreatDoor

namespace Go.Proofs.YtaiinjfnkmidbaaGreatDoor
open Go.RowKit
set_option linter.unusedVariables false

namespace M
/-- The one byte that can be a code point's, by signs. -/
def bo (g n : Int) : Int := if g = 2 then n - 65344 else if g = 1 ∧ n = 165 then 92 else if g = 1 ∧ n = 8254 then 126 else n
theorem bo_ksn {g c n : Int} (hg : Sg g) (h0 : 0 ≤ c) (h1 : c < 128) (h27 : c ≠ 27) (hk : ksn g c = n) (hn : n ≠ 65533) : bo g n = c := by
  subst hk
  rcases hg with rfl | rfl | rfl <;> (simp only [ksn, bo] at *; (repeat' split at hn) <;> (repeat' split) <;> first | omega | simp_all)
theorem hasK_bo {g n : Int} (hg : Sg g) : hasK g n = true ↔ 0 ≤ bo g n ∧ bo g n < 128 ∧ kpt g (bo g n) = n := by
  rw [hasK_iff]
  constructor
  · rintro ⟨c, h1, h2, h3, h4⟩
    have e := bo_ksn hg (by omega) (by omega) (by omega) h3 h4
    rw [e]
    refine ⟨by omega, by omega, ?_⟩
    unfold kpt; rw [if_neg (by omega)]; exact h3
  · rintro ⟨h1, h2, h3⟩
    have hq : bo g n ≠ 27 ∧ n ≠ 65533 := by
      unfold kpt ksn at h3
      rcases hg with rfl | rfl | rfl <;> (simp only [bo] at *; (repeat' split at h3) <;> (try split at h1) <;> first | omega | (constructor <;> omega) | simp_all)
    refine ⟨(bo g n).toNat, by omega, by omega, ?_, hq.2⟩
    rw [show (((bo g n).toNat : Nat) : Int) = bo g n from by omega]
    unfold kpt at h3; rw [if_neg hq.1] at h3; exact h3
theorem kby_bo {g n : Int} (hg : Sg g) (h : hasK g n = true) : kby g n = bo g n := by
  obtain ⟨c, h1, h2, h3, h4⟩ := kby_spec h
  obtain ⟨_, _, _, _, h5⟩ := (hasK_iff g n).1 h
  rw [h2, bo_ksn hg (by omega) (by omega) (by omega) h4 h5]
end M

/-- Is an integer one of Go's? -/
def Gi (n : Int) : Prop := -9223372036854775808 ≤ n ∧ n ≤ 9223372036854775807

set_option maxHeartbeats 1000000 in
set_option maxRecDepth 100000 in
theorem byteOf_no (g n : Int) (hg : M.Sg g) (hn : Gi n) (hb : M.bo g n < 0 ∨ 128 ≤ M.bo g n) (w : World) :
    Calls Tryz.prog 235 #[.int .i64 g, .int .i64 n] w fun e w' => e = .returned (.tuple #[.int .u8 0, .bool false]) ∧ w' = w := by
  unfold Gi at hn
  rcases hg with rfl | rfl | rfl
  · have hb' : n < 0 ∨ 128 ≤ n := hb
    clear hb
    rcases hb' with hb | hb
    · go_enter Tryz.func235, Tryz.ntmps235
      go_wp2
      go_ret2
      exact ⟨rfl, rfl⟩
    · go_enter Tryz.func235, Tryz.ntmps235
      go_wp2
      go_ret2
      exact ⟨rfl, rfl⟩
  · have h1 : n ≠ 165 := fun h => by subst h; simp [M.bo] at hb
    have h2 : n ≠ 8254 := fun h => by subst h; simp [M.bo] at hb
    have hb' : n < 0 ∨ 128 ≤ n := by simpa [M.bo, h1, h2] using hb
    have e1 : (n == 165) = false := by simp [h1]
    have e2 : (n == 8254) = false := by simp [h2]
    clear hb
    rcases hb' with hb | hb
    · go_enter Tryz.func235, Tryz.ntmps235
      go_wp2
      go_ret2
      exact ⟨rfl, rfl⟩
    · go_enter Tryz.func235, Tryz.ntmps235
      go_wp2
      go_ret2
      exact ⟨rfl, rfl⟩
  · have hb' : n < 65344 ∨ 65472 ≤ n := by simp only [M.bo, if_true] at hb; omega
    clear hb
    rcases hb' with hb | hb
    · by_cases hlo : -9223372036854710431 ≤ n
      · go_enter Tryz.func235, Tryz.ntmps235
        go_wp2
        go_ret2
        exact ⟨rfl, rfl⟩
      · obtain ⟨v, hv⟩ : ∃ v, wrap64 (wrap64 (n - 65377) + 33) = v := ⟨_, rfl⟩
        have hvb : v < 0 ∨ 128 ≤ v := by rw [← hv]; unfold wrap64; omega
        rcases hvb with hvb | hvb
        · go_enter Tryz.func235, Tryz.ntmps235
          go_wp2
          go_ret2
          exact ⟨rfl, rfl⟩
        · go_enter Tryz.func235, Tryz.ntmps235
          go_wp2
          go_ret2
          exact ⟨rfl, rfl⟩
    · go_enter Tryz.func235, Tryz.ntmps235
      go_wp2
      go_ret2
      exact ⟨rfl, rfl⟩

set_option maxHeartbeats 1000000 in
set_option maxRecDepth 100000 in
theorem byteOf_yes (g n b : Int) (hg : M.Sg g) (hb : M.bo g n = b) (hb0 : 0 ≤ b) (hb1 : b < 128) (hp : M.kpt g b = n) (w : World) :
    Calls Tryz.prog 235 #[.int .i64 g, .int .i64 n] w fun e w' => e = .returned (.tuple #[.int .u8 b, .bool true]) ∧ w' = w := by
  have hpo : ∀ (w : World), Calls Tryz.prog 224 #[.int .i64 g, .int .u8 b] w fun e w' => e = .returned (.int .i64 n) ∧ w' = w := fun w => by
    have := pointOf_any g b hg (by omega) (by omega) w
    rwa [hp] at this
  clear hp
  rcases hg with rfl | rfl | rfl
  · have e : n = b := hb
    subst e
    clear hb
    go_enter Tryz.func235, Tryz.ntmps235
    go_wp2_with fail
    refine (hpo _).mono ?_
    rintro e w1 ⟨rfl, hw⟩
    replace hw := hw.symm
    subst hw
    clear hpo
    go_wp2_with fail
    go_ret2
    exact ⟨rfl, rfl⟩
  · by_cases h1 : n = 165
    · subst h1
      have e : b = 92 := hb.symm
      subst e
      clear hb hb0 hb1
      go_enter Tryz.func235, Tryz.ntmps235
      go_wp2_with fail
      refine (hpo _).mono ?_
      rintro e w1 ⟨rfl, hw⟩
      replace hw := hw.symm
      subst hw
      clear hpo
      go_wp2_with fail
      go_ret2
      exact ⟨rfl, rfl⟩
    · by_cases h2 : n = 8254
      · subst h2
        have e : b = 126 := hb.symm
        subst e
        clear hb hb0 hb1 h1
        go_enter Tryz.func235, Tryz.ntmps235
        go_wp2_with fail
        refine (hpo _).mono ?_
        rintro e w1 ⟨rfl, hw⟩
        replace hw := hw.symm
        subst hw
        clear hpo
        go_wp2_with fail
        go_ret2
        exact ⟨rfl, rfl⟩
      · have e : n = b := by simpa [M.bo, h1, h2] using hb
        subst e
        have e1 : (n == 165) = false := by simp [h1]
        have e2 : (n == 8254) = false := by simp [h2]
        clear hb h1 h2
        go_enter Tryz.func235, Tryz.ntmps235
        go_wp2_with fail
        refine (hpo _).mono ?_
        rintro e w1 ⟨rfl, hw⟩
        replace hw := hw.symm
        subst hw
        clear hpo
        go_wp2_with fail
        go_ret2
        exact ⟨rfl, rfl⟩
  · have e : n = b + 65344 := by simp only [M.bo, if_true] at hb; omega
    have hpo' : ∀ (w : World), Calls Tryz.prog 224 #[.int .i64 2, .int .u8 (n - 65377 + 33)] w fun e w' => e = .returned (.int .i64 n) ∧ w' = w := by
      rw [show n - 65377 + 33 = b from by omega]; exact hpo
    have HN := hide (show n - 65377 + 33 = b from by omega)
    have hn0 : 65344 ≤ n := by omega
    have hn1 : n < 65472 := by omega
    clear hpo e hb hb0 hb1
    go_enter Tryz.func235, Tryz.ntmps235
    go_wp2_with fail
    refine (hpo' _).mono ?_
    rintro e w1 ⟨rfl, hw⟩
    replace hw := hw.symm
    subst hw
    clear hpo'
    go_wp2_with fail
    go_ret2
    exact ⟨by rw [← unhide HN]; rfl, rfl⟩

set_option maxHeartbeats 1000000 in
set_option maxRecDepth 100000 in
theorem byteOf_not (g n b p : Int) (hg : M.Sg g) (hb : M.bo g n = b) (hb0 : 0 ≤ b) (hb1 : b < 128) (hp : M.kpt g b = p) (hq : (p != n) = true) (w : World) :
    Calls Tryz.prog 235 #[.int .i64 g, .int .i64 n] w fun e w' => e = .returned (.tuple #[.int .u8 0, .bool false]) ∧ w' = w := by
  have hpo : ∀ (w : World), Calls Tryz.prog 224 #[.int .i64 g, .int .u8 b] w fun e w' => e = .returned (.int .i64 p) ∧ w' = w := fun w => by
    have := pointOf_any g b hg (by omega) (by omega) w
    rwa [hp] at this
  clear hp
  rcases hg with rfl | rfl | rfl
  · have e : n = b := hb
    subst e
    clear hb
    go_enter Tryz.func235, Tryz.ntmps235
    go_wp2_with fail
    refine (hpo _).mono ?_
    rintro e w1 ⟨rfl, hw⟩
    replace hw := hw.symm
    subst hw
    clear hpo
    go_wp2_with fail
    go_ret2
    exact ⟨rfl, rfl⟩
  · by_cases h1 : n = 165
    · subst h1
      have e : b = 92 := hb.symm
      subst e
      clear hb hb0 hb1
      go_enter Tryz.func235, Tryz.ntmps235
      go_wp2_with fail
      refine (hpo _).mono ?_
      rintro e w1 ⟨rfl, hw⟩
      replace hw := hw.symm
      subst hw
      clear hpo
      go_wp2_with fail
      go_ret2
      exact ⟨rfl, rfl⟩
    · by_cases h2 : n = 8254
      · subst h2
        have e : b = 126 := hb.symm
        subst e
        clear hb hb0 hb1 h1
        go_enter Tryz.func235, Tryz.ntmps235
        go_wp2_with fail
        refine (hpo _).mono ?_
        rintro e w1 ⟨rfl, hw⟩
        replace hw := hw.symm
        subst hw
        clear hpo
        go_wp2_with fail
        go_ret2
        exact ⟨rfl, rfl⟩
      · have e : n = b := by simpa [M.bo, h1, h2] using hb
        subst e
        have e1 : (n == 165) = false := by simp [h1]
        have e2 : (n == 8254) = false := by simp [h2]
        clear hb h1 h2
        go_enter Tryz.func235, Tryz.ntmps235
        go_wp2_with fail
        refine (hpo _).mono ?_
        rintro e w1 ⟨rfl, hw⟩
        replace hw := hw.symm
        subst hw
        clear hpo
        go_wp2_with fail
        go_ret2
        exact ⟨rfl, rfl⟩
  · have e : n = b + 65344 := by simp only [M.bo, if_true] at hb; omega
    have hpo' : ∀ (w : World), Calls Tryz.prog 224 #[.int .i64 2, .int .u8 (n - 65377 + 33)] w fun e w' => e = .returned (.int .i64 p) ∧ w' = w := by
      rw [show n - 65377 + 33 = b from by omega]; exact hpo
    have HN := hide (show n - 65377 + 33 = b from by omega)
    have hn0 : 65344 ≤ n := by omega
    have hn1 : n < 65472 := by omega
    clear hpo e hb hb0 hb1
    go_enter Tryz.func235, Tryz.ntmps235
    go_wp2_with fail
    refine (hpo' _).mono ?_
    rintro e w1 ⟨rfl, hw⟩
    replace hw := hw.symm
    subst hw
    clear hpo'
    go_wp2_with fail
    go_ret2
    exact ⟨rfl, rfl⟩

theorem byteOf_any (g n : Int) (hg : M.Sg g) (hn : Gi n) (w : World) :
    Calls Tryz.prog 235 #[.int .i64 g, .int .i64 n] w fun e w' => e = .returned (.tuple #[.int .u8 (if M.hasK g n then M.kby g n else 0), .bool (M.hasK g n)]) ∧ w' = w := by
  have hB := M.hasK_bo (n := n) hg
  by_cases hr : 0 ≤ M.bo g n ∧ M.bo g n < 128
  · by_cases hk : M.kpt g (M.bo g n) = n
    · have h1 := hB.2 ⟨hr.1, hr.2, hk⟩
      rw [h1, if_pos rfl, M.kby_bo hg h1]
      exact byteOf_yes g n _ hg rfl hr.1 hr.2 hk w
    · have h1 : M.hasK g n = false := Bool.eq_false_iff.2 (fun h => hk (hB.1 h).2.2)
      rw [h1]
      exact byteOf_not g n _ _ hg rfl hr.1 hr.2 rfl (by simpa using hk) w
  · have h1 : M.hasK g n = false := Bool.eq_false_iff.2 (fun h => hr ⟨(hB.1 h).1, (hB.1 h).2.1⟩)
    rw [h1]
    exact byteOf_no g n hg hn (by omega) w

set_option maxHeartbeats 400000 in
set_option maxRecDepth 100000 in
theorem escapeTo_any (g : Int) (hg : M.Sg g) (w : World) :
    Calls Tryz.prog 221 #[.int .i64 g] w fun e w' => e = .returned (.string (strOfNums [27, 40, M.esc g])) ∧ w' = w := by
  have hz : (⟨#[66, 74, 73]⟩ : ByteArray).size = 3 := rfl
  rcases hg with rfl | rfl | rfl
  · have HE : Hid ((⟨#[27, 40]⟩ : ByteArray) ++ (⟨#[66, 74, 73]⟩ : ByteArray).extract 0 1 = strOfNums [27, 40, M.esc 0]) := hide (by decide)
    go_enter Tryz.func221, Tryz.ntmps221
    go_wp2
    go_ret
    exact ⟨by rw [← unhide HE]; rfl, rfl⟩
  · have HE : Hid ((⟨#[27, 40]⟩ : ByteArray) ++ (⟨#[66, 74, 73]⟩ : ByteArray).extract 1 2 = strOfNums [27, 40, M.esc 1]) := hide (by decide)
    go_enter Tryz.func221, Tryz.ntmps221
    go_wp2
    go_ret
    exact ⟨by rw [← unhide HE]; rfl, rfl⟩
  · have HE : Hid ((⟨#[27, 40]⟩ : ByteArray) ++ (⟨#[66, 74, 73]⟩ : ByteArray).extract 2 3 = strOfNums [27, 40, M.esc 2]) := hide (by decide)
    go_enter Tryz.func221, Tryz.ntmps221
    go_wp2
    go_ret
    exact ⟨by rw [← unhide HE]; rfl, rfl⟩
end Go.Proofs.YtaiinjfnkmidbaaGreatDoor

namespace Go.Proofs.YtaiinjfnkmidbaaGreatDoor
open Go.RowKit
set_option linter.unusedVariables false

def four (now : Int) : List Int := [now, 0, 1, 2]
theorem four_sg {now : Int} (h : M.Sg now) {k : Nat} (hk : k < 4) : M.Sg ((four now).getD k 0) := by
  match k, hk with
  | 0, _ => exact h
  | 1, _ => exact .inl rfl
  | 2, _ => exact .inr (.inl rfl)
  | 3, _ => exact .inr (.inr rfl)
theorem any_of {x n : Int} (h : M.Sg x) (hq : M.hasK x n = true) : M.anyK n = true := by
  rcases h with rfl | rfl | rfl <;> simp [M.anyK, hq]
theorem want_at {now n : Int} (hn : M.Sg now) {k : Nat} (hk : k < 4) (h : ∀ j, j < k → M.hasK ((four now).getD j 0) n = false) (hq : M.hasK ((four now).getD k 0) n = true) : M.want now n = (four now).getD k 0 ∧ M.anyK n = true := by
  refine ⟨?_, any_of (four_sg hn hk) hq⟩
  unfold M.want
  match k, hk with
  | 0, _ =>
    have hq' : M.hasK now n = true := hq
    rw [if_pos hq']; rfl
  | 1, _ =>
    have h0 : M.hasK now n = false := h 0 (by omega)
    have hq' : M.hasK 0 n = true := hq
    rw [if_neg (by simp [h0]), if_pos hq']; rfl
  | 2, _ =>
    have h0 : M.hasK now n = false := h 0 (by omega)
    have h1 : M.hasK 0 n = false := h 1 (by omega)
    have hq' : M.hasK 1 n = true := hq
    rw [if_neg (by simp [h0]), if_neg (by simp [h1]), if_pos hq']; rfl
  | 3, _ =>
    have h0 : M.hasK now n = false := h 0 (by omega)
    have h1 : M.hasK 0 n = false := h 1 (by omega)
    have h2 : M.hasK 1 n = false := h 2 (by omega)
    rw [if_neg (by simp [h0]), if_neg (by simp [h1]), if_neg (by simp [h2])]; rfl
theorem any_no {now n : Int} (h : ∀ j, j < 4 → M.hasK ((four now).getD j 0) n = false) : M.anyK n = false := by
  have h1 : M.hasK 0 n = false := h 1 (by omega)
  have h2 : M.hasK 1 n = false := h 2 (by omega)
  have h3 : M.hasK 2 n = false := h 3 (by omega)
  simp [M.anyK, h1, h2, h3]

/-- What choose answers. -/
def chosen (now n : Int) : Value := .tuple #[.int .i64 (if M.anyK n then M.want now n else 0), .int .u8 (if M.anyK n then M.kby (M.want now n) n else 0), .bool (M.anyK n)]
theorem chosen_no {now n : Int} (h : M.anyK n = false) : chosen now n = .tuple #[.int .i64 0, .int .u8 0, .bool false] := by unfold chosen; rw [h]; rfl
theorem chosen_yes {now n : Int} (h : M.anyK n = true) : chosen now n = .tuple #[.int .i64 (M.want now n), .int .u8 (M.kby (M.want now n) n), .bool true] := by unfold chosen; rw [h]; rfl

set_option maxHeartbeats 800000 in
set_option maxRecDepth 100000 in
theorem choose_any (now n : Int) (hs : M.Sg now) (hn : Gi n) (w : World) :
    Calls Tryz.prog 220 #[.int .i64 now, .int .i64 n] w fun e w' => e = .returned (chosen now n) ∧ Below w.heap.size w w' := by
  go_enter Tryz.func220, Tryz.ntmps220
  go_wp2_with fail
  generalize hW : w.alloc (Obj.cells #[Value.int IntKind.i64 now, Value.int IntKind.i64 0, Value.int IntKind.i64 1, Value.int IntKind.i64 2] 3) = W
  have HB : Hid (Below w.heap.size w W) := hide (by subst hW; exact balloc _ _)
  have HC : Hid (∀ k, k < 4 → W.cell? ⟨w.heap.size, k, none⟩ = some (.int .i64 ((four now).getD k 0))) := hide (by
    subst hW
    intro k hk
    match k, hk with
    | 0, _ => simp [go_sem, four]
    | 1, _ => simp [go_sem, four]
    | 2, _ => simp [go_sem, four]
    | 3, _ => simp [go_sem, four])
  have hWs : w.heap.size < W.heap.size := by subst hW; simp
  clear hW
  go_loopw [14] (fun i wr => ∃ k : Nat, k ≤ 4 ∧ i = .int .i64 k ∧ wr = W ∧ Hid (∀ j, j < k → M.hasK ((four now).getD j 0) n = false)) (fun i _ => 4 - (intOf i).toNat)
  case atStart => exact ⟨0, by omega, rfl, rfl, hide (fun j hj => by omega)⟩
  case round =>
    obtain ⟨k, hk, rfl, hwr, HN⟩ := hrel
    subst hwr
    by_cases hlt : k < 4
    · have hc := unhide HC k hlt
      have hx := four_sg hs hlt
      have HQ := hide (fun hq => want_at (n := n) hs hlt (unhide HN) hq)
      have HS : Hid (M.hasK ((four now).getD k 0) n = false → ∀ j, j < k + 1 → M.hasK ((four now).getD j 0) n = false) := hide (fun h j hj => by
        by_cases e : j = k
        · rw [e]; exact h
        · exact unhide HN j (by omega))
      obtain ⟨x, hX⟩ : ∃ x, (four now).getD k 0 = x := ⟨_, rfl⟩
      rw [hX] at hc hx HQ HS
      have hby := fun w => byteOf_any x n hx hn w
      obtain ⟨q, hq⟩ : ∃ q, M.hasK x n = q := ⟨_, rfl⟩
      rw [hq] at hby HQ HS
      clear hX HN
      cases q
      · go_wp2_with fail
        refine (hby _).mono ?_
        rintro e w1 ⟨rfl, hw⟩
        replace hw := hw.symm
        subst hw
        go_wp2_with fail
        go_roundw
        case rel => exact ⟨k + 1, by omega, by go_num, by first | rfl | trivial, hide (unhide HS (by simp))⟩
        case measure => simp [intOf]; omega
      · obtain ⟨q1, q2⟩ := unhide HQ rfl
        have HR := hide q1
        have HA := hide q2
        clear q1 q2 HQ HS
        go_wp2_with fail
        refine (hby _).mono ?_
        rintro e w1 ⟨rfl, hw⟩
        replace hw := hw.symm
        subst hw
        clear hby
        go_wp2_with fail
        go_ret3
        refine ⟨?_, unhide HB⟩
        rw [chosen_yes (unhide HA), unhide HR]
        rfl
    · have e4 : k = 4 := by omega
      subst e4
      have HA := hide (any_no (unhide HN))
      clear HN
      go_wp2_with fail
      go_ret3
      refine ⟨?_, unhide HB⟩
      rw [chosen_no (unhide HA)]
      rfl

/-- An append of a text's bytes, and of one byte, to a row of bytes. -/
theorem append_str {w : World} {ops : Array Oper} {rest : List Oper} {o : Oper} {a : Act} {Q : Exit → Act → World → Prop} (hgd : o.guard = none) (sl x : Operand)
    (ho : o.op = .call { callee := .builtin .append, args := #[sl, x], argTypes := #[151, 9] }) (base : Nat) (v : Value) (ns : List Int) (hs : a.eval sl = v)
    (hown : w.ownsRow base 5 1 v ns.length (ns.map (Value.int .u8))) (ms : List Int) (hms : ∀ x ∈ ms, 0 ≤ x ∧ x ≤ 255) (hx : a.eval x = .string (strOfNums ms)) (hlen : ns.length + ms.length ≤ 200000) (hbase : base ≤ w.heap.size)
    (h : ∀ ao cap w', w'.ownsRow base 5 1 (.slice ao (ns ++ ms).length cap) (ns ++ ms).length ((ns ++ ms).map (Value.int .u8)) → Below base w w' → wpList Tryz.prog ops Q rest (a.put o.dst (.slice ao (ns ++ ms).length cap)) w') : wpList Tryz.prog ops Q (o :: rest) a w := by
  obtain ⟨i0, hi, hz0, hz1, hz2⟩ := info_parts info5
  have hsz : (strOfNums ms).size = ms.length := by rw [← bl_len, bl_str ms hms]
  have hcs : Lib.strCells (strOfNums ms) = ms.map (Value.int .u8) := by
    have e : (strOfNums ms).data.toList.map (fun b => (b.toNat : Int)) = ms := bl_str ms hms
    unfold Lib.strCells
    conv => rhs; rw [← e, List.map_map]
    rfl
  refine Lib.wpList_append_own_string _ hgd sl x 151 9 ho base 5 i0 Tryz.underlying151 Tryz.underlying9 hi hz0 hz1 hz2 v _ _ hs hown (strOfNums ms) hx (by rw [hsz]; unfold maxLen; omega) (by rw [hsz]; omega) hbase ?_
  intro v' w' h1 h2 _
  rw [hsz, hcs] at h1
  have h1' : w'.ownsRow base 5 1 v' (ns ++ ms).length ((ns ++ ms).map (Value.int .u8)) := by simpa using h1
  obtain ⟨ao', cap', hsh⟩ := owns_shape h1'
  subst hsh
  exact h ao' cap' w' h1' ((Below.refl _ _).grown h2 hbase (fun k hk => (hown.lt k hk).1))
theorem append_byte {w : World} {ops : Array Oper} {rest : List Oper} {o : Oper} {a : Act} {Q : Exit → Act → World → Prop} (hgd : o.guard = none) (sl x : Operand)
    (ho : o.op = .call { callee := .builtin .append, args := #[sl, x], argTypes := #[151, 151] }) (base : Nat) (v : Value) (ns : List Int) (hs : a.eval sl = v)
    (hown : w.ownsRow base 5 1 v ns.length (ns.map (Value.int .u8))) (c : Int) (hx : a.eval x = .slice (some ⟨w.heap.size, 0, none⟩) 1 1) (hlen : ns.length + 1 ≤ 200000) (hbase : base ≤ w.heap.size)
    (h : ∀ ao cap w', w'.ownsRow base 5 1 (.slice ao (ns ++ [c]).length cap) (ns ++ [c]).length ((ns ++ [c]).map (Value.int .u8)) → Below base w w' → wpList Tryz.prog ops Q rest (a.put o.dst (.slice ao (ns ++ [c]).length cap)) w') :
    wpList Tryz.prog ops Q (o :: rest) a (w.alloc (.cells #[.int .u8 c] 5)) := by
  obtain ⟨i0, hi, hz0, hz1, hz2⟩ := info_parts info5
  refine wpList_append_own _ hgd sl x 151 ho base 5 i0 (.int .u8 0) 1 1 Tryz.underlying151 hi hz0 hz1 hz2 rfl (by decide) v _ _ hs (owns_a hown _) ⟨w.heap.size, 0, none⟩ 1 1 [.int .u8 c] hx rfl ?_ ?_ (by unfold maxLen; omega) (by omega) (by simp; omega) ?_
  · intro j u hj
    match j, hj with
    | 0, hj => simp at hj; subst hj; simp [Addr.add]
  · intro u hu; simp at hu; subst hu; rfl
  · intro v' w' h1 h2 _
    have h1' : w'.ownsRow base 5 1 v' (ns ++ [c]).length ((ns ++ [c]).map (Value.int .u8)) := by simpa using h1
    obtain ⟨ao', cap', hsh⟩ := owns_shape h1'
    subst hsh
    exact h ao' cap' w' h1' (((Below.refl _ _).alloc hbase _).grown h2 (by simp; omega) (fun k hk => by have := (hown.lt k hk).1; omega))

theorem esc_byt (g : Int) : ∀ x ∈ [27, 40, M.esc g], 0 ≤ x ∧ x ≤ 255 := by
  intro x hx
  have : M.esc g = 66 ∨ M.esc g = 74 ∨ M.esc g = 73 := by unfold M.esc; repeat' split
                                                          all_goals simp
  simp at hx
  omega
/-- What a round of Write's loop knows. -/
def InW (xs : List Int) (w wr : World) (k : Nat) (v : Value) : Prop :=
  wr.ownsRow w.heap.size 5 1 v (M.kbody 0 (xs.take k)).length ((M.kbody 0 (xs.take k)).map (Value.int .u8)) ∧ Below w.heap.size w wr ∧ (xs.take k).all M.anyK = true
theorem take_getD {xs : List Int} {k : Nat} (h : k < xs.length) {p : Int} (hp : xs.getD k 0 = p) : xs.take (k + 1) = xs.take k ++ [p] := by
  rw [take_snoc xs k h, hp]
theorem all_no {xs : List Int} {k : Nat} (h : k < xs.length) {p : Int} (hp : xs.getD k 0 = p) {f : Int → Bool} (hf : f p = false) : xs.all f = false := by
  rw [List.all_eq_false]
  exact ⟨xs.getD k 0, by simp [h], by rw [hp, hf]; simp⟩

/-- What Write answers, and Encode. -/
def wrote (xs : List Int) : Value := if xs.all M.anyK then .tuple #[.string (strOfNums (M.kenc xs)), .bool true] else .tuple #[.string ByteArray.empty, .bool false]
def encodedK (xs : List Int) : Value := if xs.all M.anyK then .tuple #[.string (strOfNums (M.kenc xs)), .int .i64 0] else .tuple #[.string ByteArray.empty, .int .i64 5]

set_option maxHeartbeats 1600000 in
set_option maxRecDepth 100000 in
theorem write_any (v : Value) (xs : List Int) (w : World) (hI : Ints w v xs) (hlen : xs.length ≤ 30000) (hgi : ∀ n ∈ xs, Gi n) :
    Calls Tryz.prog 195 #[v] w fun e w' => e = .returned (wrote xs) ∧ Below w.heap.size w w' := by
  obtain ⟨ao, cap, rfl, -, -, hc⟩ := hI
  have HC := hide hc
  have HG := hide hgi
  have HI : Hid (InW xs w w 0 (.slice none 0 0)) := hide ⟨World.ownsRow_nil _ _ _ _, Below.refl _ _, by simp⟩
  clear hc hgi
  go_enter Tryz.func195, Tryz.ntmps195
  go_wp2_with fail
  go_loopw [4, 5, 13] (fun v now i wr => ∃ k : Nat, k ≤ xs.length ∧ i = .int .i64 k ∧ now = .int .i64 (M.kst 0 (xs.take k)) ∧ InW xs w wr k v) (fun _ _ i _ => xs.length - (intOf i).toNat)
  case atStart => exact ⟨0, by omega, rfl, rfl, unhide HI⟩
  case round =>
    obtain ⟨k, hk, rfl, rfl, hI⟩ := hrel
    clear HI
    have hz := hI.2.1.size
    have hnow := M.kst_sg (xs.take k) (now := 0) (.inl rfl)
    have hl : Hid ((M.kbody 0 (xs.take k)).length ≤ 4 * k) := hide (by have := M.kbody_len (xs.take k) 0; rw [List.length_take] at this; omega)
    obtain ⟨now, HNow⟩ : ∃ now, Hid (M.kst 0 (xs.take k) = now) := ⟨_, hide rfl⟩
    rw [unhide HNow] at hnow
    rw [unhide HNow]
    obtain ⟨av, capv, hsh⟩ := owns_shape hI.1
    subst hsh
    obtain ⟨ns, HNs⟩ : ∃ ns, Hid (M.kbody 0 (xs.take k) = ns) := ⟨_, hide rfl⟩
    rw [unhide HNs] at hl
    obtain ⟨hown, hbw, hall⟩ := hI
    rw [unhide HNs] at hown
    rw [unhide HNs]
    have HO := hide hown
    have HBW := hide hbw
    have HA := hide hall
    clear hown hbw hall
    by_cases hlt : k < xs.length
    · obtain ⟨b, off, rfl, hc⟩ : ∃ b off, ao = some ⟨b, off, none⟩ ∧ ∀ i, i < xs.length → w.cell? ⟨b, off + i, none⟩ = some (.int .i64 (xs.getD i 0)) := by
        rcases unhide HC with h | h
        · subst h; simp at hlt
        · exact h
      have hcell : wr.cell? ⟨b, off + k, none⟩ = some (.int .i64 (xs.getD k 0)) := ((unhide HBW).cell (p := ⟨b, off + k, none⟩) (World.block_lt_of_cell? w _ (hc k hlt))).trans (hc k hlt)
      have hbr : b < wr.heap.size := World.block_lt_of_cell? wr _ hcell
      have hgp := unhide HG (xs.getD k 0) (by simp [hlt])
      obtain ⟨p, HP⟩ : ∃ p, Hid (xs.getD k 0 = p) := ⟨_, hide rfl⟩
      rw [unhide HP] at hcell hgp
      clear hc
      have hch := fun w => choose_any now p hnow hgp w
      cases hq : M.anyK p
      · rw [chosen_no hq] at hch
        have HW : Hid (wrote xs = .tuple #[.string ByteArray.empty, .bool false]) := hide (by unfold wrote; rw [all_no hlt (unhide HP) hq]; rfl)
        clear hq
        go_wp2_with fail
        refine (hch _).mono ?_
        rintro e w1 ⟨rfl, hb⟩
        have HB1 := hide hb
        clear hb hch
        go_wp2_with fail
        go_ret2
        refine ⟨?_, bstep (unhide HBW) (unhide HB1)⟩
        rw [unhide HW]; rfl
      · rw [chosen_yes hq] at hch
        have hsg := M.want_sg (n := p) hnow
        obtain ⟨c, hc1, hc2, hc3, hc4⟩ := M.kby_spec (M.want_has (now := now) hq)
        have HE1 : Hid (xs.take (k + 1) = xs.take k ++ [p]) := hide (take_getD hlt (unhide HP))
        have HK1 : Hid (M.kst 0 (xs.take (k + 1)) = M.want now p) := hide (by rw [unhide HE1, M.kst_snoc, unhide HNow])
        have HA1 : Hid ((xs.take (k + 1)).all M.anyK = true) := hide (by rw [unhide HE1, List.all_append, unhide HA]; simp [hq])
        have HN1 : Hid (M.kbody 0 (xs.take (k + 1)) = ns ++ M.kpc now p) := hide (by rw [unhide HE1, M.kbody_snoc, unhide HNow, unhide HNs])
        obtain ⟨x, HX⟩ : ∃ x, Hid (M.want now p = x) := ⟨_, hide rfl⟩
        rw [unhide HX] at hch hsg HK1 hc2
        rw [hc2] at hch
        have HP1 : Hid (M.kpc now p = (if x = now then [] else [27, 40, M.esc x]) ++ [(c : Int)]) := hide (by unfold M.kpc; rw [unhide HX, hc2])
        clear hq hc2 hc3 hc4
        have hln := unhide hl
        by_cases hxn : x = now
        · subst hxn
          rw [if_pos rfl] at HP1
          go_wp2_with fail
          refine (hch _).mono ?_
          rintro e w1 ⟨rfl, hb⟩
          have hz1 := hb.size
          have HB1 := hide hb
          have HO1 := hide (owns_below (unhide HO) hb)
          clear hb hch
          go_wp2_with (at_builtin; refine append_byte rfl (.tmp 34) (.tmp 36) rfl w.heap.size _ ns rfl (unhide HO1) (c : Int) rfl (by omega) (by omega) ?_)
          intro ao2 cap2 w2 ho2 hb2
          have HJ : Hid (InW xs w w2 (k + 1) (.slice ao2 (ns ++ [(c : Int)]).length cap2)) := hide ⟨by rw [unhide HN1, unhide HP1]; simpa using ho2, (bstep (unhide HBW) (unhide HB1)).trans hb2, unhide HA1⟩
          clear ho2 hb2
          go_wp2_with fail
          go_roundw
          case rel => exact ⟨k + 1, by omega, by go_num, by rw [unhide HK1], by simpa using unhide HJ⟩
          case measure => simp [intOf]; omega
        · rw [if_neg hxn] at HP1
          have hne : (x == now) = false := by simpa using hxn
          have hes := fun w => escapeTo_any x hsg w
          go_wp2_with fail
          refine (hch _).mono ?_
          rintro e w1 ⟨rfl, hb⟩
          have hz1 := hb.size
          have HB1 := hide hb
          have HO1 := hide (owns_below (unhide HO) hb)
          clear hb hch
          go_wp2_with fail
          refine (hes _).mono ?_
          rintro e w1' ⟨rfl, hw⟩
          replace hw := hw.symm
          subst hw
          go_wp2_with (at_builtin; refine append_str rfl (.tmp 29) (.tmp 31) rfl w.heap.size _ ns rfl (unhide HO1) [27, 40, M.esc x] (esc_byt x) rfl (by simp; omega) (by omega) ?_)
          intro ao2 cap2 w2 ho2 hb2
          have hz2 := hb2.size
          have HO2 : Hid (w2.ownsRow w.heap.size 5 1 (.slice ao2 (ns.length + 3) cap2) (ns ++ [27, 40, M.esc x]).length ((ns ++ [27, 40, M.esc x]).map (Value.int .u8))) := hide (by simpa using ho2)
          have HB2 := hide hb2
          clear ho2 hb2 hes
          go_wp2_with (at_builtin; refine append_byte rfl (.tmp 34) (.tmp 36) rfl w.heap.size _ (ns ++ [27, 40, M.esc x]) rfl (unhide HO2) (c : Int) rfl (by simp; omega) (by omega) ?_)
          intro ao3 cap3 w3 ho3 hb3
          have HJ : Hid (InW xs w w3 (k + 1) (.slice ao3 (ns ++ [27, 40, M.esc x] ++ [(c : Int)]).length cap3)) := hide ⟨by rw [unhide HN1, unhide HP1, ← List.append_assoc]; simpa using ho3, ((bstep (unhide HBW) (unhide HB1)).trans (unhide HB2)).trans hb3, unhide HA1⟩
          clear ho3 hb3
          go_wp2_with fail
          go_roundw
          case rel => exact ⟨k + 1, by omega, by go_num, by rw [unhide HK1], by simpa using unhide HJ⟩
          case measure => simp [intOf]; omega
    · have et : xs.take k = xs := List.take_of_length_le (by omega)
      rw [et] at HNow HNs HA
      have HW : Hid (wrote xs = .tuple #[.string (strOfNums (ns ++ M.ktail now)), .bool true]) := hide (by unfold wrote; rw [unhide HA, if_pos rfl]; unfold M.kenc; rw [unhide HNow, unhide HNs])
      have hln := unhide hl
      by_cases hn0 : now = 0
      · subst hn0
        have hcv := conv_owned (unhide HO)
        have ht : M.ktail 0 = [] := rfl
        rw [ht, List.append_nil] at HW
        clear ht
        go_wp2_with fail
        go_ret2
        refine ⟨?_, unhide HBW⟩
        rw [unhide HW]; rfl
      · have hne : (now == 0) = false := by simpa using hn0
        have ht : M.ktail now = [27, 40, M.esc 0] := by unfold M.ktail; rw [if_neg hn0]; rfl
        rw [ht] at HW
        have hes := fun w => escapeTo_any 0 (.inl rfl) w
        clear ht
        go_wp2_with fail
        refine (hes _).mono ?_
        rintro e w1' ⟨rfl, hw⟩
        replace hw := hw.symm
        subst hw
        go_wp2_with (at_builtin; refine append_str rfl (.tmp 41) (.tmp 42) rfl w.heap.size _ ns rfl (unhide HO) [27, 40, M.esc 0] (esc_byt 0) rfl (by simp; omega) (by omega) ?_)
        intro ao2 cap2 w2 ho2 hb2
        have hcv := conv_owned (v := .slice ao2 (ns.length + 3) cap2) (xs := ns ++ [27, 40, M.esc 0]) (by simpa using ho2)
        have HB2 := hide hb2
        clear ho2 hb2 hes
        go_wp2_with fail
        go_ret2
        refine ⟨?_, (unhide HBW).trans (unhide HB2)⟩
        rw [unhide HW]; rfl
end Go.Proofs.YtaiinjfnkmidbaaGreatDoor

namespace Go.Proofs.YtaiinjfnkmidbaaGreatDoor
open Go.RowKit
set_option linter.unusedVariables false

theorem wrote_yes {xs : List Int} (h : xs.all M.anyK = true) : wrote xs = .tuple #[.string (strOfNums (M.kenc xs)), .bool true] := by unfold wrote; rw [if_pos h]
theorem wrote_no {xs : List Int} (h : xs.all M.anyK = false) : wrote xs = .tuple #[.string ByteArray.empty, .bool false] := by unfold wrote; rw [if_neg (by simp [h])]
theorem encodedK_yes {xs : List Int} (h : xs.all M.anyK = true) : encodedK xs = .tuple #[.string (strOfNums (M.kenc xs)), .int .i64 0] := by unfold encodedK; rw [if_pos h]
theorem encodedK_no {xs : List Int} (h : xs.all M.anyK = false) : encodedK xs = .tuple #[.string ByteArray.empty, .int .i64 5] := by unfold encodedK; rw [if_neg (by simp [h])]

set_option maxHeartbeats 800000 in
set_option maxRecDepth 100000 in
theorem kencode_any (v : Value) (xs : List Int) (w : World) (hI : Ints w v xs) (hlen : xs.length ≤ 3000) (hgi : ∀ n ∈ xs, Gi n) :
    Calls Tryz.prog 146 #[v] w fun e w' => e = .returned (encodedK xs) ∧ Below w.heap.size w w' := by
  have hw := write_any v xs w hI (by omega) hgi
  obtain ⟨ao, cap, rfl, -⟩ := hI
  cases hq : xs.all M.anyK
  · rw [wrote_no hq] at hw
    rw [encodedK_no hq]
    clear hq hgi
    go_enter Tryz.func146, Tryz.ntmps146
    go_wp2_with fail
    refine hw.mono ?_
    rintro e w1 ⟨rfl, hb⟩
    have HB := hide hb
    clear hb hw
    go_wp2_with fail
    go_ret2
    exact ⟨rfl, unhide HB⟩
  · rw [wrote_yes hq] at hw
    rw [encodedK_yes hq]
    clear hq hgi
    generalize strOfNums (M.kenc xs) = s at hw
    go_enter Tryz.func146, Tryz.ntmps146
    go_wp2_with fail
    refine hw.mono ?_
    rintro e w1 ⟨rfl, hb⟩
    have HB := hide hb
    clear hb hw
    go_wp2_with fail
    go_ret2
    exact ⟨rfl, unhide HB⟩
end Go.Proofs.YtaiinjfnkmidbaaGreatDoor

namespace Go.Proofs.YtaiinjfnkmidbaaGreatDoor
open Go.RowKit
set_option linter.unusedVariables false

set_option maxHeartbeats 400000 in
set_option maxRecDepth 100000 in
theorem tooLong_no (s : ByteArray) (w : World) (hs : s.size ≤ 3000) : Calls Tryz.prog 15 #[.string s] w fun e w' => e = .returned (.int .i64 0) ∧ w' = w := by
  go_enter Tryz.func15, Tryz.ntmps15
  go_wp2
  go_ret
  exact ⟨rfl, rfl⟩
set_option maxHeartbeats 400000 in
set_option maxRecDepth 100000 in
theorem tooLong_yes (s : ByteArray) (w : World) (hs : 3000 < s.size) (hm : s.size ≤ maxLen) : Calls Tryz.prog 15 #[.string s] w fun e w' => e = .returned (.int .i64 2) ∧ w' = w := by
  unfold maxLen at hm
  go_enter Tryz.func15, Tryz.ntmps15
  go_wp2
  go_ret
  exact ⟨rfl, rfl⟩
set_option maxHeartbeats 400000 in
set_option maxRecDepth 100000 in
theorem isScalar_any (n : Int) (w : World) : Calls Tryz.prog 80 #[.int .i64 n] w fun e w' => e = .returned (.bool (M.sclr n)) ∧ w' = w := by
  have HS : Hid (M.sclr n = ((decide (0 ≤ n) && decide (n ≤ 55295)) || (decide (57344 ≤ n) && decide (n ≤ 1114111)))) := by
    show M.sclr n = _
    rw [Bool.eq_iff_iff]; simp [M.sclr]; omega
  by_cases h : 0 ≤ n ∧ n ≤ 55295
  · have hd : (decide (0 ≤ n) && decide (n ≤ 55295)) = true := by simp; omega
    go_enter Tryz.func80, Tryz.ntmps80
    go_wp2_with (go_at_call 51; refine (between_any _ _ _ _).mono ?_; rintro e w1 ⟨rfl, hw⟩; replace hw := hw.symm; subst hw)
    go_ret
    exact ⟨ret_bool (by rw [unhide HS, hd]; simp), rfl⟩
  · have hd : (decide (0 ≤ n) && decide (n ≤ 55295)) = false := by simp; omega
    go_enter Tryz.func80, Tryz.ntmps80
    go_wp2_with (go_at_call 51; refine (between_any _ _ _ _).mono ?_; rintro e w1 ⟨rfl, hw⟩; replace hw := hw.symm; subst hw)
    go_ret
    exact ⟨ret_bool (by rw [unhide HS, hd]; simp), rfl⟩
set_option maxHeartbeats 400000 in
set_option maxRecDepth 100000 in
theorem check_many (ao : Option Addr) (len cap : Nat) (w : World) (h : 3000 < len) (hm : len ≤ maxLen) :
    Calls Tryz.prog 33 #[.slice ao len cap] w fun e w' => e = .returned (.int .i64 2) ∧ w' = w := by
  unfold maxLen at hm
  go_enter Tryz.func33, Tryz.ntmps33
  go_wp2
  go_ret
  exact ⟨rfl, rfl⟩
/-- What CheckPoints answers of at most 3000 integers. -/
def chkRes (xs : List Int) : Value := if xs.all M.sclr then .int .i64 0 else .int .i64 3
theorem chkRes_yes {xs : List Int} (h : xs.all M.sclr = true) : chkRes xs = .int .i64 0 := by unfold chkRes; rw [if_pos h]
theorem chkRes_no {xs : List Int} (h : xs.all M.sclr = false) : chkRes xs = .int .i64 3 := by unfold chkRes; rw [if_neg (by simp [h])]
set_option maxHeartbeats 400000 in
set_option maxRecDepth 100000 in
theorem check_none (ao : Option Addr) (cap : Nat) (w : World) : Calls Tryz.prog 33 #[.slice ao 0 cap] w fun e w' => e = .returned (.int .i64 0) ∧ w' = w := by
  go_enter Tryz.func33, Tryz.ntmps33
  go_wp2
  refine wp_loop_rounds 1 ?_
  rw [rounds_succ]
  go_wp2
  go_ret
  exact ⟨rfl, rfl⟩
set_option maxHeartbeats 400000 in
set_option maxRecDepth 100000 in
theorem check_some (b off cap : Nat) (xs : List Int) (w : World) (h0 : xs ≠ []) (h : xs.length ≤ 3000) (hc : ∀ i, i < xs.length → w.cell? ⟨b, off + i, none⟩ = some (.int .i64 (xs.getD i 0))) :
    Calls Tryz.prog 33 #[.slice (some ⟨b, off, none⟩) xs.length cap] w fun e w' => e = .returned (chkRes xs) ∧ w' = w := by
  have hlen : 0 < xs.length := List.length_pos_iff.2 h0
  have HC := hide hc
  clear hc h0
  go_enter Tryz.func33, Tryz.ntmps33
  go_wp2_with fail
  go_loop [3] (fun i => ∃ k : Nat, k ≤ xs.length ∧ i = .int .i64 k ∧ Hid ((xs.take k).all M.sclr = true)) (fun i => xs.length - (intOf i).toNat)
  case atStart => exact ⟨0, by omega, rfl, rfl⟩
  case round =>
    obtain ⟨k, hk, rfl, HA⟩ := hrel
    by_cases hlt : k < xs.length
    · have hcell := unhide HC k hlt
      obtain ⟨p, HP⟩ : ∃ p, Hid (xs.getD k 0 = p) := ⟨_, rfl⟩
      rw [unhide HP] at hcell
      obtain ⟨q, HQ⟩ : ∃ q, Hid (M.sclr p = q) := ⟨_, rfl⟩
      go_wp2_with fail
      refine (isScalar_any _ _).mono ?_
      rintro e w1 ⟨rfl, hw⟩
      replace hw := hw.symm
      subst hw
      rw [unhide HQ]
      cases q
      · go_wp2_with fail
        go_ret
        have : xs.all M.sclr = false := by
          rw [List.all_eq_false]
          refine ⟨xs.getD k 0, ?_, by rw [unhide HP, unhide HQ]; simp⟩
          simp [hlt]
        refine ⟨?_, rfl⟩
        rw [chkRes_no this]; rfl
      · have HA' : Hid ((xs.take (k + 1)).all M.sclr = true) := by
          show (xs.take (k + 1)).all M.sclr = true
          rw [take_snoc xs k hlt, List.all_append, unhide HA, unhide HP]
          simpa using unhide HQ
        go_wp2_with fail
        go_round
        case rel => exact ⟨k + 1, by omega, by go_num, HA'⟩
        case measure => simp [intOf]; omega
    · go_wp2_with fail
      go_ret
      have := unhide HA
      rw [List.take_of_length_le (by omega)] at this
      refine ⟨?_, rfl⟩
      rw [chkRes_yes this]; rfl
theorem pcheck_any {v : Value} {xs : List Int} (w : World) (hx : Ints w v xs) (h : xs.length ≤ 3000) :
    Calls Tryz.prog 33 #[v] w fun e w' => e = .returned (chkRes xs) ∧ w' = w := by
  obtain ⟨ao, cap, rfl, hm, -, hx⟩ := hx
  by_cases h0 : xs = []
  · subst h0; exact check_none ao cap w
  · rcases hx with hx | ⟨b, off, rfl, hc⟩
    · exact absurd hx h0
    · exact check_some b off cap xs w h0 h hc
set_option maxHeartbeats 400000 in
set_option maxRecDepth 100000 in
theorem intsAre_ok {v u : Value} {xs : List Int} (w : World) (hx : Ints w v xs) (hu : Ints w u xs) :
    Calls Tryz.prog 21 #[v, .int .i64 0, .int .i64 0, u] w fun e w' => e = .returned (.bool true) ∧ Below w.heap.size w w' := by
  obtain ⟨ao, cap, hv, -⟩ := id hx
  obtain ⟨ao', cap', hv', -⟩ := id hu
  subst hv hv'
  have HX := hide hx
  have HU := hide hu
  clear hx hu
  go_enter Tryz.func21, Tryz.ntmps21
  go_wp2_with fail
  refine (same_any _ (unhide HX) (unhide HU)).mono ?_
  rintro e w1 ⟨rfl, hb⟩
  rw [show (xs == xs) = true from by simp]
  go_wp2_with fail
  go_ret
  exact ⟨rfl, hb⟩
end Go.Proofs.YtaiinjfnkmidbaaGreatDoor

namespace Go.Proofs.YtaiinjfnkmidbaaGreatDoor
open Go.RowKit
set_option linter.unusedVariables false

set_option maxHeartbeats 800000 in
set_option maxRecDepth 100000 in
theorem kanaSign_any (g c : Int) (hg : M.Sg g) (h0 : 0 ≤ c) (h1 : c < 256) (w : World) :
    Calls Tryz.prog 174 #[.int .i64 g, .int .i64 c] w fun e w' => e = .returned (.int .i64 (M.ksn g c)) ∧ w' = w := by
  rcases hg with rfl | rfl | rfl
  · go_enter Tryz.func174, Tryz.ntmps174
    go_wp2
    all_goals (go_ret; refine ⟨ret_int ?_, rfl⟩; try simp only [beq_iff_eq, beq_eq_false_iff_ne] at *)
    all_goals (simp only [M.ksn]; (repeat' split) <;> first | omega | simp_all)
  · go_enter Tryz.func174, Tryz.ntmps174
    go_wp2
    all_goals (go_ret; refine ⟨ret_int ?_, rfl⟩; try simp only [beq_iff_eq, beq_eq_false_iff_ne] at *)
    all_goals (simp only [M.ksn]; (repeat' split) <;> first | omega | simp_all)
  · by_cases hin : 33 ≤ c ∧ c ≤ 95
    · have hd : (decide (33 ≤ c) && decide (c ≤ 95)) = true := by simp; omega
      go_enter Tryz.func174, Tryz.ntmps174
      go_wp2_with (go_at_call 51; refine (between_any _ _ _ _).mono ?_; rintro e w1 ⟨rfl, hw⟩; replace hw := hw.symm; subst hw; rw [hd])
      go_ret
      refine ⟨ret_int ?_, rfl⟩
      simp only [M.ksn]; rw [if_pos trivial, if_pos hin]
    · have hd : (decide (33 ≤ c) && decide (c ≤ 95)) = false := by simp; omega
      go_enter Tryz.func174, Tryz.ntmps174
      go_wp2_with (go_at_call 51; refine (between_any _ _ _ _).mono ?_; rintro e w1 ⟨rfl, hw⟩; replace hw := hw.symm; subst hw; rw [hd])
      go_ret
      refine ⟨ret_int ?_, rfl⟩
      simp only [M.ksn]; rw [if_pos trivial, if_neg hin]

/-- What kanaByte answers. -/
def kbv (g n : Int) : Int := if M.hasK g n then M.kby g n else -1
theorem kbv_hit {g n : Int} {k : Nat} (hk : k < 128) (h : ∀ j, j < k → M.kis g n j = false) (hh : M.kis g n k = true) : kbv g n = k := by
  have hf : (List.range 128).find? (M.kis g n) = some k := by
    rw [List.find?_range_eq_some]
    refine ⟨hh, by simpa using hk, fun j hj => by simpa using h j hj⟩
  have ha : M.hasK g n = true := by
    unfold M.hasK; rw [List.any_eq_true]; exact ⟨k, by simpa using hk, hh⟩
  unfold kbv M.kby
  rw [ha, hf]; rfl
theorem kbv_miss {g n : Int} (h : ∀ j, j < 128 → M.kis g n j = false) : kbv g n = -1 := by
  have ha : M.hasK g n = false := by
    unfold M.hasK; rw [List.any_eq_false]
    intro x hx; simpa using h x (by simpa using hx)
  unfold kbv; rw [ha]; rfl
theorem kbv_yes {g n : Int} (h : M.hasK g n = true) : kbv g n = M.kby g n ∧ 0 ≤ kbv g n ∧ kbv g n < 128 := by
  obtain ⟨c, h1, h2, _⟩ := M.kby_spec h
  have e : kbv g n = M.kby g n := by unfold kbv; rw [h]; rfl
  exact ⟨e, by omega, by omega⟩
theorem kbv_no {g n : Int} (h : M.hasK g n = false) : kbv g n = -1 := by unfold kbv; rw [h]; rfl
theorem kis_cases (g n : Int) (k : Nat) : M.kis g n k = (k != 27 && M.ksn g k == n && n != 65533) := rfl

set_option maxHeartbeats 800000 in
set_option maxRecDepth 100000 in
theorem kanaByte_any (g n : Int) (hg : M.Sg g) (w : World) :
    Calls Tryz.prog 141 #[.int .i64 g, .int .i64 n] w fun e w' => e = .returned (.int .i64 (kbv g n)) ∧ w' = w := by
  go_enter Tryz.func141, Tryz.ntmps141
  go_wp2_with fail
  go_loop [5] (fun i => ∃ k : Nat, k ≤ 128 ∧ i = .int .i64 k ∧ Hid (∀ j, j < k → M.kis g n j = false)) (fun i => 128 - (intOf i).toNat)
  case atStart => exact ⟨0, by omega, rfl, hide (fun j hj => by omega)⟩
  case round =>
    obtain ⟨k, hk, rfl, HN⟩ := hrel
    by_cases hlt : k < 128
    · have hsg := fun w => kanaSign_any g (k : Int) hg (by omega) (by omega) w
      have HC := hide (kis_cases g n k)
      have HS : Hid (M.kis g n k = false → ∀ j, j < k + 1 → M.kis g n j = false) := hide (fun h j hj => by
        by_cases e : j = k
        · rw [e]; exact h
        · exact unhide HN j (by omega))
      have HH : Hid (M.kis g n k = true → kbv g n = k) := hide (fun h => kbv_hit hlt (unhide HN) h)
      obtain ⟨x, hx⟩ : ∃ x, M.ksn g (k : Int) = x := ⟨_, rfl⟩
      rw [hx] at hsg HC
      clear HN hx
      by_cases h27 : k = 27
      · have HF : Hid (M.kis g n k = false) := hide (by rw [unhide HC, h27]; rfl)
        have e1 : ((k : Int) != 27) = false := by rw [h27]; rfl
        clear hsg h27
        go_wp2_with fail
        go_round
        case rel => exact ⟨k + 1, by omega, by go_num, hide (unhide HS (unhide HF))⟩
        case measure => simp [intOf]; omega
      · have e1 : ((k : Int) != 27) = true := by simp; omega
        have e1' : (k != 27) = true := by simp; omega
        rw [e1'] at HC
        by_cases hxn : x = n
        · subst hxn
          by_cases hb : x = 65533
          · have HF : Hid (M.kis g x k = false) := hide (by rw [unhide HC, hb]; rfl)
            have e2 : (x != 65533) = false := by rw [hb]; rfl
            clear e1' hb
            go_wp2_with fail
            refine (hsg _).mono ?_
            rintro e w1 ⟨rfl, hw⟩
            replace hw := hw.symm
            subst hw
            clear hsg
            go_wp2_with fail
            go_round
            case rel => exact ⟨k + 1, by omega, by go_num, hide (unhide HS (unhide HF))⟩
            case measure => simp [intOf]; omega
          · have e2 : (x != 65533) = true := by simpa using hb
            have HF : Hid (M.kis g x k = true) := hide (by rw [unhide HC, e2]; simp)
            have HR := hide (unhide HH (unhide HF))
            clear e1' hb HF HC HS HH
            go_wp2_with fail
            refine (hsg _).mono ?_
            rintro e w1 ⟨rfl, hw⟩
            replace hw := hw.symm
            subst hw
            clear hsg
            go_wp2_with fail
            go_ret
            exact ⟨ret_int (unhide HR).symm, rfl⟩
        · have e2 : (x == n) = false := by simpa using hxn
          have HF : Hid (M.kis g n k = false) := hide (by rw [unhide HC, e2]; rfl)
          clear e1' hxn
          go_wp2_with fail
          refine (hsg _).mono ?_
          rintro e w1 ⟨rfl, hw⟩
          replace hw := hw.symm
          subst hw
          clear hsg
          go_wp2_with fail
          go_round
          case rel => exact ⟨k + 1, by omega, by go_num, hide (unhide HS (unhide HF))⟩
          case measure => simp [intOf]; omega
    · have e : k = 128 := by omega
      subst e
      have HR := hide (kbv_miss (unhide HN))
      clear HN
      go_wp2_with fail
      go_ret
      exact ⟨ret_int (unhide HR).symm, rfl⟩

theorem kbv_pos (g n : Int) : decide (0 ≤ kbv g n) = M.hasK g n := by
  cases h : M.hasK g n
  · rw [kbv_no h]; rfl
  · exact decide_eq_true (kbv_yes h).2.1
set_option maxHeartbeats 800000 in
set_option maxRecDepth 100000 in
theorem hasKana_any (n : Int) (w : World) :
    Calls Tryz.prog 139 #[.int .i64 n] w fun e w' => e = .returned (.bool (M.anyK n)) ∧ w' = w := by
  have k0 := fun w => kanaByte_any 0 n (.inl rfl) w
  have k1 := fun w => kanaByte_any 1 n (.inr (.inl rfl)) w
  have k2 := fun w => kanaByte_any 2 n (.inr (.inr rfl)) w
  have HA : Hid (M.anyK n = (decide (0 ≤ kbv 0 n) || decide (0 ≤ kbv 1 n) || decide (0 ≤ kbv 2 n))) := hide (by rw [kbv_pos, kbv_pos, kbv_pos]; rfl)
  generalize kbv 0 n = a0 at *
  generalize kbv 1 n = a1 at *
  generalize kbv 2 n = a2 at *
  have fin3' : ∀ q : Bool, (decide (0 ≤ a0) || decide (0 ≤ a1) || decide (0 ≤ a2)) = q → M.anyK n = q := fun q hq => by rw [unhide HA]; exact hq
  have HF := hide fin3'
  clear fin3' HA
  by_cases h0 : 0 ≤ a0
  · have HR := hide (unhide HF true (by simp [h0]))
    clear HF
    go_enter Tryz.func139, Tryz.ntmps139
    go_wp2_with fail
    refine (k0 _).mono ?_
    rintro e w1 ⟨rfl, hw⟩
    replace hw := hw.symm
    subst hw
    go_wp2_with fail
    go_ret
    exact ⟨ret_bool (unhide HR).symm, rfl⟩
  · by_cases h1 : 0 ≤ a1
    · have HR := hide (unhide HF true (by simp [h1]))
      clear HF
      go_enter Tryz.func139, Tryz.ntmps139
      go_wp2_with fail
      refine (k0 _).mono ?_
      rintro e w1 ⟨rfl, hw⟩
      replace hw := hw.symm
      subst hw
      go_wp2_with fail
      refine (k1 _).mono ?_
      rintro e w1 ⟨rfl, hw⟩
      replace hw := hw.symm
      subst hw
      go_wp2_with fail
      go_ret
      exact ⟨ret_bool (unhide HR).symm, rfl⟩
    · have HR := hide (unhide HF (decide (0 ≤ a2)) (by simp [h0, h1]))
      clear HF
      go_enter Tryz.func139, Tryz.ntmps139
      go_wp2_with fail
      refine (k0 _).mono ?_
      rintro e w1 ⟨rfl, hw⟩
      replace hw := hw.symm
      subst hw
      go_wp2_with fail
      refine (k1 _).mono ?_
      rintro e w1 ⟨rfl, hw⟩
      replace hw := hw.symm
      subst hw
      go_wp2_with fail
      refine (k2 _).mono ?_
      rintro e w1 ⟨rfl, hw⟩
      replace hw := hw.symm
      subst hw
      go_wp2_with fail
      go_ret
      refine ⟨?_, rfl⟩
      rw [unhide HR]
      exact ret_bool (by simp; omega)
end Go.Proofs.YtaiinjfnkmidbaaGreatDoor

namespace Go.Proofs.YtaiinjfnkmidbaaGreatDoor
open Go.RowKit
set_option linter.unusedVariables false

/-- How signs are shifted, in memory. -/
structure Pc (B : Nat) (g : Int) (fr : Bool) (w : World) : Prop where
  c0 : w.cell? ⟨B, 0, none⟩ = some (.int .i64 g)
  c1 : w.cell? ⟨B, 1, none⟩ = some (.bool fr)
  f0 : w.frozen? ⟨B, 0, none⟩ = false
  f1 : w.frozen? ⟨B, 1, none⟩ = false
theorem Pc.lt {B : Nat} {g : Int} {fr : Bool} {w : World} (h : Pc B g fr w) : B < w.heap.size := World.block_lt_of_cell? w _ h.c0
theorem Pc.below {B D : Nat} {g : Int} {fr : Bool} {w w2 : World} (h : Pc B g fr w) (hb : Below D w w2) (hB : B < D) : Pc B g fr w2 where
  c0 := (hb.cell (p := ⟨B, 0, none⟩) hB).trans h.c0
  c1 := (hb.cell (p := ⟨B, 1, none⟩) hB).trans h.c1
  f0 := (hb.frozen (p := ⟨B, 0, none⟩) hB).trans h.f0
  f1 := (hb.frozen (p := ⟨B, 1, none⟩) hB).trans h.f1
theorem Pc.set0 {B : Nat} {g : Int} {fr : Bool} {w : World} (h : Pc B g fr w) (x : Int) : Pc B x fr (w.setCell ⟨B, 0, none⟩ (.int .i64 x)) where
  c0 := World.cell?_setCell_same _ _ _ h.c0
  c1 := (World.cell?_setCell_other _ _ _ _ (by simp)).trans h.c1
  f0 := by rw [World.frozen?_setCell]; exact h.f0
  f1 := by rw [World.frozen?_setCell]; exact h.f1
theorem Pc.set1 {B : Nat} {g : Int} {fr : Bool} {w : World} (h : Pc B g fr w) (x : Bool) : Pc B g x (w.setCell ⟨B, 1, none⟩ (.bool x)) where
  c0 := (World.cell?_setCell_other _ _ _ _ (by simp)).trans h.c0
  c1 := World.cell?_setCell_same _ _ _ h.c1
  f0 := by rw [World.frozen?_setCell]; exact h.f0
  f1 := by rw [World.frozen?_setCell]; exact h.f1
theorem Pc.far {B : Nat} {g : Int} {fr : Bool} {w : World} (h : Pc B g fr w) (p : Addr) (u : Value) (hp : p.block ≠ B) : Pc B g fr (w.setCell p u) where
  c0 := (World.cell?_setCell_other _ _ _ _ (by intro e; rw [e] at hp; exact hp rfl)).trans h.c0
  c1 := (World.cell?_setCell_other _ _ _ _ (by intro e; rw [e] at hp; exact hp rfl)).trans h.c1
  f0 := by rw [World.frozen?_setCell]; exact h.f0
  f1 := by rw [World.frozen?_setCell]; exact h.f1
/-- What a round of DecodeKana's loop knows. -/
def InK (g0 : Int) (fr0 : Bool) (s : ByteArray) (w wr : World) (k : Nat) (v : Value) : Prop :=
  ∃ xs g fr, wr.ownsRow (w.heap.size + 2) 3 1 v xs.length (xs.map (Value.int .i64)) ∧ Pc w.heap.size g fr wr ∧ Pc (w.heap.size + 1) 0 false wr ∧ Below w.heap.size w wr ∧ M.Sg g ∧ xs.length ≤ k ∧
    M.Tot M.gk (g0, fr0) (bl s) = (xs ++ (M.Tot M.gk (g, fr) ((bl s).drop k)).1, (M.Tot M.gk (g, fr) ((bl s).drop k)).2)
/-- The round's end. -/
theorem InK.step {g0 : Int} {fr0 : Bool} {s : ByteArray} {w w2 : World} {k z : Nat} {xs o : List Int} {g g' : Int} {fr fr' : Bool} {v2 : Value} (hk : k < s.size)
    (hE : M.Tot M.gk (g0, fr0) (bl s) = (xs ++ (M.Tot M.gk (g, fr) ((bl s).drop k)).1, (M.Tot M.gk (g, fr) ((bl s).drop k)).2)) (hx : xs.length ≤ k) (hg : M.Sg g) (hq : M.gk (g, fr) ((bl s).drop k) = (o, z, (g', fr')))
    (ho : w2.ownsRow (w.heap.size + 2) 3 1 v2 (xs ++ o).length ((xs ++ o).map (Value.int .i64))) (hp : Pc w.heap.size g' fr' w2) (hr : Pc (w.heap.size + 1) 0 false w2) (hb : Below w.heap.size w w2) : InK g0 fr0 s w w2 (k + z) v2 := by
  have hne : (bl s).drop k ≠ [] := fun e => by have := congrArg List.length e; simp [bl_len] at this; omega
  have hst := M.Tot_step M.gk_size hne hq
  have hfew := gk_few (g, fr) ((bl s).drop k)
  have hsg := gk_sg (fr := fr) ((bl s).drop k) hg
  rw [hq] at hfew hsg
  refine ⟨xs ++ o, g', fr', ho, hp, hr, hb, hsg, by simp at hfew; simp; omega, ?_⟩
  rw [hE, hst, List.drop_drop]
  simp [List.append_assoc]
theorem gk_none {g : Int} {fr : Bool} {l : List Int} {c : Int} (h : M.kesc l = none) (hc : l.headD 0 = c) : M.gk (g, fr) l = ([M.kpt g c], 1, (g, false)) := by unfold M.gk; rw [h, hc]
theorem gk_some {g g' : Int} {fr : Bool} {l : List Int} (h : M.kesc l = some g') : M.gk (g, fr) l = (M.bads fr, 3, (g', true)) := by unfold M.gk; rw [h]
theorem kesc_at (u : ByteArray) (h3 : 3 ≤ u.size) (h0 : (bl u).headD 0 = 27) {b d : Int} (hb : ((u[1]'(by omega)).toNat : Int) = b) (hd : ((u[2]'(by omega)).toNat : Int) = d) : M.kesc (bl u) = if b = 40 then (if fin3 d = -1 then none else some (fin3 d)) else none := by
  have e0 : ((u[0]'(by omega)).toNat : Int) = 27 := by rw [bl_0 u (by omega)] at h0; exact h0
  rw [kesc_three u h3, hd]
  by_cases h : b = 40
  · rw [if_pos h, if_pos (by omega)]
  · rw [if_neg h, if_neg (by omega)]
theorem kpt_27 (g : Int) : M.kpt g 27 = 65533 := by unfold M.kpt; rw [if_pos rfl]

set_option maxHeartbeats 2000000 in
set_option maxRecDepth 100000 in
theorem decodeKana_last (g0 : Int) (fr0 : Bool) (s : ByteArray) (w : World) (hg0 : M.Sg g0) (hs : s.size ≤ 3300) :
    Calls Tryz.prog 120 #[.agg #[.int .i64 g0, .bool fr0], .string s, .bool true] w fun e w' => ∃ v, e = .returned (.tuple #[v, .agg #[.int .i64 (M.Tot M.gk (g0, fr0) (bl s)).2.1, .bool (M.Tot M.gk (g0, fr0) (bl s)).2.2], .string ⟨#[]⟩]) ∧ w'.ownsRow w.heap.size 3 1 v (M.Tot M.gk (g0, fr0) (bl s)).1.length ((M.Tot M.gk (g0, fr0) (bl s)).1.map (Value.int .i64)) ∧ Below w.heap.size w w' := by
  go_enter Tryz.func120, Tryz.ntmps120
  go_wp2_with fail
  generalize hW : (w.alloc (Obj.cells #[Value.int IntKind.i64 g0, Value.bool fr0] 144)).alloc (Obj.cells #[Value.int IntKind.i64 0, Value.bool false] 144) = W
  have HI : Hid (InK g0 fr0 s w W 0 (.slice none 0 0)) := hide ⟨[], g0, fr0, World.ownsRow_nil _ _ _ _, by subst hW; constructor <;> simp [go_sem], by subst hW; constructor <;> simp [go_sem], by subst hW; exact bstep (balloc _ _) (balloc _ _), hg0, Nat.le_refl _, rfl⟩
  clear hW
  go_loopw [9, 10] (fun v i wr => ∃ k : Nat, k ≤ s.size ∧ i = .int .i64 k ∧ InK g0 fr0 s w wr k v) (fun _ i _ => s.size - (intOf i).toNat)
  case atStart => exact ⟨0, by omega, rfl, unhide HI⟩
  case round =>
    obtain ⟨k, hk, rfl, xs, g, fr, ho, hP, hR, hB, hg, hxk, hE⟩ := hrel
    clear HI
    have HO := hide ho
    have HP := hide hP
    have HR := hide hR
    have HB := hide hB
    have HE := hide hE
    have HX := hide hxk
    have hxs : xs.length ≤ 3300 := by omega
    obtain ⟨av, cv, hsv⟩ := owns_shape ho
    subst hsv
    have hl1 := hR.lt
    have hl0 := hP.lt
    obtain ⟨p0, p1, q0, q1⟩ := hP
    clear ho hB hE hxk
    by_cases hks : k < s.size
    · clear hR
      obtain ⟨c, hc⟩ : ∃ c : Int, (s[k].toNat : Int) = c := ⟨_, rfl⟩
      have hc0 : 0 ≤ c := by omega
      have hc1 : c < 256 := by have := s[k].toNat_lt; omega
      have hk0 : (0 : Int) ≤ (k : Int) := by omega
      have hk1 : (k : Int) < (s.size : Int) := by omega
      have hhd : ((bl s).drop k).headD 0 = c := by rw [bl_drop s k hks, ← hc]; rfl
      by_cases h27 : c = 27
      · obtain ⟨u, hu⟩ : ∃ u, s.extract k s.size = u := ⟨_, rfl⟩
        have hbu : bl u = (bl s).drop k := by rw [← hu, bl_extract]
        have husz : u.size = s.size - k := by rw [← hu]; simp
        rw [h27] at hhd
        have HST : Hid (∀ o z g' fr' w2 v2, M.gk (g, fr) ((bl s).drop k) = (o, z, (g', fr')) → w2.ownsRow (w.heap.size + 2) 3 1 v2 (xs ++ o).length ((xs ++ o).map (Value.int .i64)) → Pc w.heap.size g' fr' w2 → Pc (w.heap.size + 1) 0 false w2 → Below w.heap.size w w2 → InK g0 fr0 s w w2 (k + z) v2) := hide (fun o z g' fr' w2 v2 a1 a2 a3 a4 a5 => InK.step hks (unhide HE) (unhide HX) hg a1 a2 a3 a4 a5)
        have e27 : (c != 27) = false := by rw [h27]; rfl
        have hz2 : w.heap.size + 2 ≤ wr.heap.size := by omega
        have hu0 : (bl u).headD 0 = 27 := by rw [hbu]; exact hhd
        by_cases h3 : u.size < 3
        · have hkn := kesc_short u h3
          have hlu : (u.size : Int) < 3 := by omega
          have HG : Hid (M.gk (g, fr) ((bl s).drop k) = ([65533], 1, (g, false))) := hide (by have := gk_none (g := g) (fr := fr) (hbu ▸ hkn) hhd; rwa [kpt_27] at this)
          clear hkn hhd hbu
          go_wp2_with (at_builtin; refine append_ints rfl (.tmp 68) (.tmp 69) rfl (w.heap.size + 2) _ xs rfl (owns_a (unhide HO) _) _ [65533] rfl (one_int _ _) (by simp; omega) (by simp; omega) ?_)
          intro v2 w2 ho2 hb2
          obtain ⟨ao2, cap2, hsh2⟩ := owns_shape ho2
          subst hsh2
          have HO2 := hide ho2
          have hb3 := ((Below.refl (w.heap.size + 2) wr).alloc hz2 (.cells #[.int .i64 65533] 3)).trans hb2
          have HP2 := hide ((unhide HP).below hb3 (by omega))
          have HR2 := hide ((unhide HR).below hb3 (by omega))
          have HB2 := hide ((unhide HB).trans (hb3.mono (by omega)))
          obtain ⟨a0, a1, b0, b1⟩ := unhide HP2
          have hl2 := (unhide HP2).lt
          clear ho2 hb2 hb3
          go_wp2_with fail
          go_roundw
          case rel => exact ⟨k + 1, by omega, by go_num, unhide HST _ _ _ _ _ _ (unhide HG) (by simpa using owns_set (unhide HO2) ⟨w.heap.size, 1, none⟩ (by simp) _) ((unhide HP2).set1 false) ((unhide HR2).far _ _ (by simp)) (bset (unhide HB2) ⟨w.heap.size, 1, none⟩ _ (Nat.le_refl _))⟩
          case measure => simp [intOf]; omega
        · have h3' : 3 ≤ u.size := by omega
          have hlu : (3 : Int) ≤ (u.size : Int) := by omega
          have husz' : k + 3 ≤ s.size := by omega
          obtain ⟨b, hb⟩ : ∃ b : Int, ((u[1]'(by omega)).toNat : Int) = b := ⟨_, rfl⟩
          obtain ⟨d, hd⟩ : ∃ d : Int, ((u[2]'(by omega)).toNat : Int) = d := ⟨_, rfl⟩
          have hka := kesc_at u h3' hu0 hb hd
          have hb0 : 0 ≤ b := by omega
          have hb1 : b < 256 := by have := (u[1]'(by omega)).toNat_lt; omega
          have hd0 : 0 ≤ d := by omega
          have hd1 : d < 256 := by have := (u[2]'(by omega)).toNat_lt; omega
          by_cases hb40 : b = 40
          · rw [if_pos hb40] at hka
            have eb : (b == 40) = true := by simpa using hb40
            obtain hd66 | hd74 | hd73 | hdn : d = 66 ∨ d = 74 ∨ d = 73 ∨ (d ≠ 66 ∧ d ≠ 74 ∧ d ≠ 73) := by omega
            · have hkn : M.kesc (bl u) = some 0 := by rw [hka, hd66]; rfl
              clear hka
              have HG : Hid (M.gk (g, fr) ((bl s).drop k) = (M.bads fr, 3, (0, true))) := hide (gk_some (g := g) (fr := fr) (hbu ▸ hkn))
              clear hkn hhd hbu
              cases fr
              · go_wp2_with fail
                go_roundw
                case rel => exact ⟨k + 3, by omega, by go_num, unhide HST _ _ _ _ _ _ (unhide HG) (by simpa [M.bads] using owns_set (owns_set (unhide HO) ⟨w.heap.size, 0, none⟩ (by simp) _) ⟨w.heap.size, 1, none⟩ (by simp) _) (((unhide HP).set0 0).set1 true) (((unhide HR).far _ _ (by simp)).far _ _ (by simp)) (bset (bset (unhide HB) ⟨w.heap.size, 0, none⟩ _ (Nat.le_refl _)) ⟨w.heap.size, 1, none⟩ _ (Nat.le_refl _))⟩
                case measure => simp [intOf]; omega
              · go_wp2_with (at_builtin; refine append_ints rfl (.tmp 76) (.tmp 77) rfl (w.heap.size + 2) _ xs rfl (owns_a (unhide HO) _) _ [65533] rfl (one_int _ _) (by simp; omega) (by simp; omega) ?_)
                intro v2 w2 ho2 hb2
                obtain ⟨ao2, cap2, hsh2⟩ := owns_shape ho2
                subst hsh2
                have HO2 := hide ho2
                have hb3 := ((Below.refl (w.heap.size + 2) wr).alloc hz2 (.cells #[.int .i64 65533] 3)).trans hb2
                have HP2 := hide ((unhide HP).below hb3 (by omega))
                have HR2 := hide ((unhide HR).below hb3 (by omega))
                have HB2 := hide ((unhide HB).trans (hb3.mono (by omega)))
                obtain ⟨a0, a1, b0, b1⟩ := unhide HP2
                have hl2 := (unhide HP2).lt
                clear ho2 hb2 hb3
                go_wp2_with fail
                go_roundw
                case rel => exact ⟨k + 3, by omega, by go_num, unhide HST _ _ _ _ _ _ (unhide HG) (by simpa [M.bads] using owns_set (owns_set (unhide HO2) ⟨w.heap.size, 0, none⟩ (by simp) _) ⟨w.heap.size, 1, none⟩ (by simp) _) (((unhide HP2).set0 0).set1 true) (((unhide HR2).far _ _ (by simp)).far _ _ (by simp)) (bset (bset (unhide HB2) ⟨w.heap.size, 0, none⟩ _ (Nat.le_refl _)) ⟨w.heap.size, 1, none⟩ _ (Nat.le_refl _))⟩
                case measure => simp [intOf]; omega
            · have hkn : M.kesc (bl u) = some 1 := by rw [hka, hd74]; rfl
              clear hka
              have HG : Hid (M.gk (g, fr) ((bl s).drop k) = (M.bads fr, 3, (1, true))) := hide (gk_some (g := g) (fr := fr) (hbu ▸ hkn))
              clear hkn hhd hbu
              cases fr
              · go_wp2_with fail
                go_roundw
                case rel => exact ⟨k + 3, by omega, by go_num, unhide HST _ _ _ _ _ _ (unhide HG) (by simpa [M.bads] using owns_set (owns_set (unhide HO) ⟨w.heap.size, 0, none⟩ (by simp) _) ⟨w.heap.size, 1, none⟩ (by simp) _) (((unhide HP).set0 1).set1 true) (((unhide HR).far _ _ (by simp)).far _ _ (by simp)) (bset (bset (unhide HB) ⟨w.heap.size, 0, none⟩ _ (Nat.le_refl _)) ⟨w.heap.size, 1, none⟩ _ (Nat.le_refl _))⟩
                case measure => simp [intOf]; omega
              · go_wp2_with (at_builtin; refine append_ints rfl (.tmp 76) (.tmp 77) rfl (w.heap.size + 2) _ xs rfl (owns_a (unhide HO) _) _ [65533] rfl (one_int _ _) (by simp; omega) (by simp; omega) ?_)
                intro v2 w2 ho2 hb2
                obtain ⟨ao2, cap2, hsh2⟩ := owns_shape ho2
                subst hsh2
                have HO2 := hide ho2
                have hb3 := ((Below.refl (w.heap.size + 2) wr).alloc hz2 (.cells #[.int .i64 65533] 3)).trans hb2
                have HP2 := hide ((unhide HP).below hb3 (by omega))
                have HR2 := hide ((unhide HR).below hb3 (by omega))
                have HB2 := hide ((unhide HB).trans (hb3.mono (by omega)))
                obtain ⟨a0, a1, b0, b1⟩ := unhide HP2
                have hl2 := (unhide HP2).lt
                clear ho2 hb2 hb3
                go_wp2_with fail
                go_roundw
                case rel => exact ⟨k + 3, by omega, by go_num, unhide HST _ _ _ _ _ _ (unhide HG) (by simpa [M.bads] using owns_set (owns_set (unhide HO2) ⟨w.heap.size, 0, none⟩ (by simp) _) ⟨w.heap.size, 1, none⟩ (by simp) _) (((unhide HP2).set0 1).set1 true) (((unhide HR2).far _ _ (by simp)).far _ _ (by simp)) (bset (bset (unhide HB2) ⟨w.heap.size, 0, none⟩ _ (Nat.le_refl _)) ⟨w.heap.size, 1, none⟩ _ (Nat.le_refl _))⟩
                case measure => simp [intOf]; omega
            · have hkn : M.kesc (bl u) = some 2 := by rw [hka, hd73]; rfl
              clear hka
              have HG : Hid (M.gk (g, fr) ((bl s).drop k) = (M.bads fr, 3, (2, true))) := hide (gk_some (g := g) (fr := fr) (hbu ▸ hkn))
              clear hkn hhd hbu
              cases fr
              · go_wp2_with fail
                go_roundw
                case rel => exact ⟨k + 3, by omega, by go_num, unhide HST _ _ _ _ _ _ (unhide HG) (by simpa [M.bads] using owns_set (owns_set (unhide HO) ⟨w.heap.size, 0, none⟩ (by simp) _) ⟨w.heap.size, 1, none⟩ (by simp) _) (((unhide HP).set0 2).set1 true) (((unhide HR).far _ _ (by simp)).far _ _ (by simp)) (bset (bset (unhide HB) ⟨w.heap.size, 0, none⟩ _ (Nat.le_refl _)) ⟨w.heap.size, 1, none⟩ _ (Nat.le_refl _))⟩
                case measure => simp [intOf]; omega
              · go_wp2_with (at_builtin; refine append_ints rfl (.tmp 76) (.tmp 77) rfl (w.heap.size + 2) _ xs rfl (owns_a (unhide HO) _) _ [65533] rfl (one_int _ _) (by simp; omega) (by simp; omega) ?_)
                intro v2 w2 ho2 hb2
                obtain ⟨ao2, cap2, hsh2⟩ := owns_shape ho2
                subst hsh2
                have HO2 := hide ho2
                have hb3 := ((Below.refl (w.heap.size + 2) wr).alloc hz2 (.cells #[.int .i64 65533] 3)).trans hb2
                have HP2 := hide ((unhide HP).below hb3 (by omega))
                have HR2 := hide ((unhide HR).below hb3 (by omega))
                have HB2 := hide ((unhide HB).trans (hb3.mono (by omega)))
                obtain ⟨a0, a1, b0, b1⟩ := unhide HP2
                have hl2 := (unhide HP2).lt
                clear ho2 hb2 hb3
                go_wp2_with fail
                go_roundw
                case rel => exact ⟨k + 3, by omega, by go_num, unhide HST _ _ _ _ _ _ (unhide HG) (by simpa [M.bads] using owns_set (owns_set (unhide HO2) ⟨w.heap.size, 0, none⟩ (by simp) _) ⟨w.heap.size, 1, none⟩ (by simp) _) (((unhide HP2).set0 2).set1 true) (((unhide HR2).far _ _ (by simp)).far _ _ (by simp)) (bset (bset (unhide HB2) ⟨w.heap.size, 0, none⟩ _ (Nat.le_refl _)) ⟨w.heap.size, 1, none⟩ _ (Nat.le_refl _))⟩
                case measure => simp [intOf]; omega
            · have hf : fin3 d = -1 := by unfold fin3; rw [if_neg hdn.1, if_neg hdn.2.1, if_neg hdn.2.2]
              have hkn : M.kesc (bl u) = none := by rw [hka, hf]; rfl
              have ed1 : (d == 66) = false := by simpa using hdn.1
              have ed2 : (d == 74) = false := by simpa using hdn.2.1
              have ed3 : (d == 73) = false := by simpa using hdn.2.2
              clear hka hf hdn
              have HG : Hid (M.gk (g, fr) ((bl s).drop k) = ([65533], 1, (g, false))) := hide (by have := gk_none (g := g) (fr := fr) (hbu ▸ hkn) hhd; rwa [kpt_27] at this)
              clear hkn hhd hbu
              go_wp2_with (at_builtin; refine append_ints rfl (.tmp 68) (.tmp 69) rfl (w.heap.size + 2) _ xs rfl (owns_a (unhide HO) _) _ [65533] rfl (one_int _ _) (by simp; omega) (by simp; omega) ?_)
              intro v2 w2 ho2 hb2
              obtain ⟨ao2, cap2, hsh2⟩ := owns_shape ho2
              subst hsh2
              have HO2 := hide ho2
              have hb3 := ((Below.refl (w.heap.size + 2) wr).alloc hz2 (.cells #[.int .i64 65533] 3)).trans hb2
              have HP2 := hide ((unhide HP).below hb3 (by omega))
              have HR2 := hide ((unhide HR).below hb3 (by omega))
              have HB2 := hide ((unhide HB).trans (hb3.mono (by omega)))
              obtain ⟨a0, a1, b0, b1⟩ := unhide HP2
              have hl2 := (unhide HP2).lt
              clear ho2 hb2 hb3
              go_wp2_with fail
              go_roundw
              case rel => exact ⟨k + 1, by omega, by go_num, unhide HST _ _ _ _ _ _ (unhide HG) (by simpa using owns_set (unhide HO2) ⟨w.heap.size, 1, none⟩ (by simp) _) ((unhide HP2).set1 false) ((unhide HR2).far _ _ (by simp)) (bset (unhide HB2) ⟨w.heap.size, 1, none⟩ _ (Nat.le_refl _))⟩
              case measure => simp [intOf]; omega
          · rw [if_neg hb40] at hka
            have hkn := hka
            have eb : (b == 40) = false := by simpa using hb40
            clear hka
            have HG : Hid (M.gk (g, fr) ((bl s).drop k) = ([65533], 1, (g, false))) := hide (by have := gk_none (g := g) (fr := fr) (hbu ▸ hkn) hhd; rwa [kpt_27] at this)
            clear hkn hhd hbu
            go_wp2_with (at_builtin; refine append_ints rfl (.tmp 68) (.tmp 69) rfl (w.heap.size + 2) _ xs rfl (owns_a (unhide HO) _) _ [65533] rfl (one_int _ _) (by simp; omega) (by simp; omega) ?_)
            intro v2 w2 ho2 hb2
            obtain ⟨ao2, cap2, hsh2⟩ := owns_shape ho2
            subst hsh2
            have HO2 := hide ho2
            have hb3 := ((Below.refl (w.heap.size + 2) wr).alloc hz2 (.cells #[.int .i64 65533] 3)).trans hb2
            have HP2 := hide ((unhide HP).below hb3 (by omega))
            have HR2 := hide ((unhide HR).below hb3 (by omega))
            have HB2 := hide ((unhide HB).trans (hb3.mono (by omega)))
            obtain ⟨a0, a1, b0, b1⟩ := unhide HP2
            have hl2 := (unhide HP2).lt
            clear ho2 hb2 hb3
            go_wp2_with fail
            go_roundw
            case rel => exact ⟨k + 1, by omega, by go_num, unhide HST _ _ _ _ _ _ (unhide HG) (by simpa using owns_set (unhide HO2) ⟨w.heap.size, 1, none⟩ (by simp) _) ((unhide HP2).set1 false) ((unhide HR2).far _ _ (by simp)) (bset (unhide HB2) ⟨w.heap.size, 1, none⟩ _ (Nat.le_refl _))⟩
            case measure => simp [intOf]; omega
      · have hn : M.kesc ((bl s).drop k) = none := by
          rw [bl_drop s k hks, hc]
          match hd : (bl s).drop (k + 1) with
          | [] => rfl
          | [_] => rfl
          | a :: b :: t => simp [M.kesc, h27]
        have HG := hide (gk_none (g := g) (fr := fr) hn hhd)
        have hkp : M.kpt g c = M.ksn g c := by unfold M.kpt; rw [if_neg h27]
        rw [hkp] at HG
        have hsg := fun w => kanaSign_any g c hg hc0 hc1 w
        obtain ⟨p, hp⟩ : ∃ p, M.ksn g c = p := ⟨_, rfl⟩
        rw [hp] at hsg HG
        have e27 : (c != 27) = true := by simpa using h27
        have hwc : IntKind.i64.wrap c = c := by rw [IntKind.wrap_i64]; omega
        have hz2 : w.heap.size + 2 ≤ wr.heap.size := by omega
        clear hn hkp hp hhd
        go_wp2_with fail
        go_region_law ((first
          | (refine step_append_ints (by rfl) _ _ (by rfl) (w.heap.size + 2) _ xs (by rfl) (((unhide HO).alloc _).drew) _ [p] (by rfl) ((one_int _ _).drew) (by simp; omega) (by simp; omega) ?_; intro ao2 cap2 w2 ho2 hb2; have HO2 := hide ho2; have hb3 := (below_drewN ((Below.refl (w.heap.size + 2) wr).alloc hz2 (.cells #[.int .i64 p] 3)) 1).trans hb2; have HP2 := hide ((unhide HP).below hb3 (by omega)); have HR2 := hide ((unhide HR).below hb3 (by omega)); have HB2 := hide ((unhide HB).trans (hb3.mono (by omega))); obtain ⟨a0, a1, b0, b1⟩ := unhide HP2; have hl2 := (unhide HP2).lt; clear ho2 hb2 hb3)
          | (go_simp; go_at_call 174; refine (hsg _).mono ?_; rintro e w1 ⟨rfl, hw⟩; replace hw := hw.symm; subst hw)))
        all_goals
          go_wp2_with fail
          go_roundw
          case rel => exact ⟨k + 1, by omega, by go_num, InK.step hks (unhide HE) (unhide HX) hg (unhide HG) (by simpa using owns_set (unhide HO2) ⟨w.heap.size, 1, none⟩ (by simp) _) ((unhide HP2).set1 false) ((unhide HR2).far _ _ (by simp)) (bset (unhide HB2) ⟨w.heap.size, 1, none⟩ _ (Nat.le_refl _))⟩
          case measure => simp [intOf]; omega
    · have ek : (bl s).drop k = [] := List.drop_of_length_le (by rw [bl_len]; omega)
      rw [ek, M.Tot_nil, List.append_nil] at HE
      obtain ⟨b0, b1, g0', g1'⟩ := hR
      clear ek
      go_wp2_with fail
      go_region
      all_goals
        go_wp2_with fail
        refine bodyPost_ret (v := .tuple #[.slice av xs.length cv, .agg #[.int .i64 g, .bool fr], .string ⟨#[]⟩]) (by simp [results, Tryz.results120, go_sem, b0, b1]) rfl ?_
        refine ⟨.slice av xs.length cv, ?_, ?_, ?_⟩
        · rw [unhide HE]
        · rw [unhide HE]
          exact owns_below (owns_mono (owns_set (owns_set (unhide HO) ⟨w.heap.size + 1, 0, none⟩ (by simp) _) ⟨w.heap.size + 1, 1, none⟩ (by simp) _) (by omega)) (below_drewN (Below.refl _ _) 1)
        · exact below_drewN (bset (bset (unhide HB) ⟨w.heap.size + 1, 0, none⟩ _ (by simp)) ⟨w.heap.size + 1, 1, none⟩ _ (by simp)) 1
end Go.Proofs.YtaiinjfnkmidbaaGreatDoor
