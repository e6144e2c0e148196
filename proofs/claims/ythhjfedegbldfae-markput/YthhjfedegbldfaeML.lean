/- The contracts of mark.Sniff, May and Put: each returns what the plain function of its name computes; nothing that was there is written. -/
import Derived.Test.YthhjfedegbldfaeMK
namespace Go.Proofs.Ythhjfedegbldfae
open Go.RowKit
set_option linter.unusedVariables false

theorem enterSniff : ∀ args w, (callFunc 14 args).run Try.prog w = .ok (.enter 14 args) w := enters_of Try.func14 (by kernel_rfl) rfl
theorem enterMay : ∀ args w, (callFunc 16 args).run Try.prog w = .ok (.enter 16 args) w := enters_of Try.func16 (by kernel_rfl) rfl
theorem enterPut : ∀ args w, (callFunc 10 args).run Try.prog w = .ok (.enter 10 args) w := enters_of Try.func10 (by kernel_rfl) rfl

set_option maxHeartbeats 400000 in
set_option maxRecDepth 100000 in
theorem Sniff_any (s : ByteArray) (w : World) (hs : s.size ≤ maxLen) :
    Calls Try.prog 6 #[.string s] w fun e w' => e = .returned (.tuple #[.int .i64 (M.sn (bl s)).1, .int .i64 (M.sn (bl s)).2]) ∧ Below w.heap.size w w' := by
  have hc : (w.alloc (.cells #[.string s] 9)).cell? ⟨w.heap.size, 0, none⟩ = some (.string s) := by simp
  have HP := hide (firstM 14 (fun x => hasP s x.2) w.heap.size (.string s) _ hc enterSniff (fun m a w' h1 h2 => sniffIs s hs _ m a w' h1 h2))
  have HE := hide (fmk_sniff s)
  have HB := hide (balloc w (.cells #[.string s] 9))
  generalize fmk (fun x => hasP s x.2) mks = r at *
  generalize M.sn (bl s) = t at *
  obtain ⟨r1, r2⟩ := r
  obtain ⟨t1, t2⟩ := t
  have HE1 : Hid (r1 = t1) := hide (congrArg Prod.fst (unhide HE))
  have HE2 : Hid ((r2.size : Int) = t2) := hide (congrArg Prod.snd (unhide HE))
  clear hc hs HE
  go_enter Try.func6, Try.ntmps6
  go_wp2_with fail
  refine (unhide HP).mono ?_
  rintro e w4 ⟨rfl, hb4⟩
  have hf0 := @mfield_0
  have hf1 := @mfield_1
  have HB4 := hide hb4
  clear hb4
  go_wp2_with fail
  go_region
  all_goals
    go_wp2_with fail
    go_ret2
    refine ⟨?_, below_drewN (bstep (bstep (unhide HB) (unhide HB4)) (balloc _ _)) 1⟩
    rw [← unhide HE1, ← unhide HE2]
    rfl

set_option maxHeartbeats 400000 in
set_option maxRecDepth 100000 in
theorem May_any (s : ByteArray) (w : World) (hs : s.size ≤ maxLen) :
    Calls Try.prog 7 #[.string s] w fun e w' => e = .returned (.bool (M.may (bl s))) ∧ Below w.heap.size w w' := by
  have hc : (w.alloc (.cells #[.string s] 9)).cell? ⟨w.heap.size, 0, none⟩ = some (.string s) := by simp
  have HP := hide (firstM 16 (fun x => hasP x.2 s) w.heap.size (.string s) _ hc enterMay (fun m a w' h1 h2 => mayIs s hs _ m a w' h1 h2))
  have HE := hide (fmk_may s)
  have HB := hide (balloc w (.cells #[.string s] 9))
  generalize fmk (fun x => hasP x.2 s) mks = r at *
  generalize M.may (bl s) = t at *
  obtain ⟨r1, r2⟩ := r
  simp only at HE
  clear hc
  go_enter Try.func7, Try.ntmps7
  go_wp2_with fail
  refine (unhide HP).mono ?_
  rintro e w4 ⟨rfl, hb4⟩
  have hf0 := @mfield_0
  have hf1 := @mfield_1
  have hcs : w4.cell? ⟨w.heap.size, 0, none⟩ = some (.string s) := by rw [hb4.cell (p := ⟨w.heap.size, 0, none⟩) (by simp)]; simp
  have HB4 := hide hb4
  have hz4 := hb4.size
  simp only [World.size_alloc] at hz4
  have hlt : w.heap.size < w4.heap.size := by omega
  clear hb4
  go_wp2_with fail
  go_ret
  refine ⟨?_, bstep (bstep (unhide HB) (unhide HB4)) (balloc _ _)⟩
  rw [← unhide HE]
  first | rfl | simp

set_option maxHeartbeats 400000 in
set_option maxRecDepth 100000 in
theorem putIn (r1 : Int) (r2 s : ByteArray) (B : Nat) (w : World) (hs : s.size ≤ 3000) (hr : r2.size ≤ 3) (hc0 : w.cell? ⟨B, 0, none⟩ = some (.int .i64 r1)) (hc1 : w.cell? ⟨B, 1, none⟩ = some (.string r2)) :
    Calls Try.prog 12 #[.string s, .pointer (some ⟨B, 0, none⟩)] w fun e w' => e = .returned (.string (r2 ++ s)) ∧ Below w.heap.size w w' := by
  have hl := World.block_lt_of_cell? w _ hc1
  simp only at hl
  have H := fun w => clone_any (r2 ++ s) w (by rw [ByteArray.size_append]; omega)
  go_enter Try.func12, Try.ntmps12
  go_wp2_with fail
  refine (H _).mono ?_
  rintro e w1 ⟨rfl, hb⟩
  have HB := hide hb
  clear hb
  go_wp2_with fail
  go_ret
  exact ⟨rfl, unhide HB⟩

set_option maxHeartbeats 800000 in
set_option maxRecDepth 100000 in
theorem Put_any (n : Int) (s : ByteArray) (w : World) (hn : 1 ≤ n ∧ n ≤ 7) (hs : s.size ≤ 3000) :
    Calls Try.prog 5 #[.int .i64 n, .string s] w fun e w' => ∃ t, e = .returned (.tuple #[.string t, .int .i64 0]) ∧ bl t = M.mkL n ++ bl s ∧ Below w.heap.size w w' := by
  have HN := hide (fun w => Name_yes n w hn)
  generalize nameI n = nam at HN
  have HE := hide (fmk_put n)
  have HF := hide (fun (w : World) (B : Nat) (hc : w.cell? ⟨B, 0, none⟩ = some (.int .i64 n)) => firstM 10 (fun x => x.1 == n) B (.int .i64 n) w hc enterPut (fun m a w' h1 h2 => putIs n _ m a w' h1 h2))
  generalize fmk (fun x => x.1 == n) mks = r at *
  obtain ⟨r1, r2⟩ := r
  simp only at HE HF
  clear hn
  go_enter Try.func5, Try.ntmps5
  go_wp2_with fail
  refine (unhide HN _).mono ?_
  rintro e w1 ⟨rfl, hb1⟩
  have hz1 := hb1.size
  simp only [World.size_alloc] at hz1
  have hcs : w1.cell? ⟨w.heap.size, 0, none⟩ = some (.int .i64 n) := by rw [hb1.cell (p := ⟨w.heap.size, 0, none⟩) (by simp)]; simp
  have HB1 := hide (bstep (balloc w (.cells #[.int .i64 n] 3)) hb1)
  clear hb1 HN
  go_wp2_with fail
  refine (unhide HF _ _ hcs).mono ?_
  rintro e w4 ⟨rfl, hb4⟩
  have hf0 := @mfield_0
  have hf1 := @mfield_1
  have hz4 := hb4.size
  have HB4 := hide (bstep (unhide HB1) hb4)
  clear hb4
  have hr3 := (unhide HE).2
  go_wp2_with (first | (go_at_call 12; refine (putIn r1 r2 s _ _ hs hr3 (by simp) (by simp)).mono ?_; rintro e w5 ⟨rfl, hb5⟩; have HB5 := hide hb5; clear hb5) | (go_at_call 11; go_in))
  go_ret2
  refine ⟨_, rfl, ?_, bstep (bstep (unhide HB4) (balloc _ _)) (unhide HB5)⟩
  rw [bl_app, (unhide HE).1]

set_option maxHeartbeats 800000 in
set_option maxRecDepth 100000 in
theorem Put_long (n : Int) (s : ByteArray) (w : World) (hn : 1 ≤ n ∧ n ≤ 7) (hs : 3000 < s.size) (hm : s.size ≤ maxLen) :
    Calls Try.prog 5 #[.int .i64 n, .string s] w fun e w' => e = .returned (.tuple #[.string ⟨#[]⟩, .int .i64 2]) ∧ Below w.heap.size w w' := by
  unfold maxLen at hm
  have HN := hide (fun w => Name_yes n w hn)
  generalize nameI n = nam at HN
  have HF := hide (fun (w : World) (B : Nat) (hc : w.cell? ⟨B, 0, none⟩ = some (.int .i64 n)) => firstM 10 (fun x => x.1 == n) B (.int .i64 n) w hc enterPut (fun m a w' h1 h2 => putIs n _ m a w' h1 h2))
  generalize fmk (fun x => x.1 == n) mks = r at *
  obtain ⟨r1, r2⟩ := r
  simp only at HF
  clear hn
  go_enter Try.func5, Try.ntmps5
  go_wp2_with fail
  refine (unhide HN _).mono ?_
  rintro e w1 ⟨rfl, hb1⟩
  have hz1 := hb1.size
  simp only [World.size_alloc] at hz1
  have hcs : w1.cell? ⟨w.heap.size, 0, none⟩ = some (.int .i64 n) := by rw [hb1.cell (p := ⟨w.heap.size, 0, none⟩) (by simp)]; simp
  have HB1 := hide (bstep (balloc w (.cells #[.int .i64 n] 3)) hb1)
  clear hb1 HN
  go_wp2_with fail
  refine (unhide HF _ _ hcs).mono ?_
  rintro e w4 ⟨rfl, hb4⟩
  have hf0 := @mfield_0
  have hf1 := @mfield_1
  have HB4 := hide (bstep (unhide HB1) hb4)
  clear hb4
  go_wp2_with (go_at_call 11; go_in)
  go_ret2
  exact ⟨rfl, bstep (unhide HB4) (balloc _ _)⟩

set_option maxHeartbeats 400000 in
set_option maxRecDepth 100000 in
theorem Put_no (n : Int) (s : ByteArray) (w : World) (hn : ¬ (1 ≤ n ∧ n ≤ 7)) :
    Calls Try.prog 5 #[.int .i64 n, .string s] w fun e w' => e = .returned (.tuple #[.string ⟨#[]⟩, .int .i64 6]) ∧ Below w.heap.size w w' := by
  have HN := hide (fun w => Name_no n w hn)
  clear hn
  go_enter Try.func5, Try.ntmps5
  go_wp2_with fail
  refine (unhide HN _).mono ?_
  rintro e w1 ⟨rfl, hb1⟩
  have HB1 := hide (bstep (balloc w (.cells #[.int .i64 n] 3)) hb1)
  clear hb1 HN
  go_wp2_with fail
  go_ret2
  exact ⟨rfl, unhide HB1⟩
end Go.Proofs.Ythhjfedegbldfae
