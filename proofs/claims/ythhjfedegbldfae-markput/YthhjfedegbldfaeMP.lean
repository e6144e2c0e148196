/- Proved: for all texts s and more and every integer the law MarkPut returns true and leaves all as they were. No condition. -/
import Derived.Test.YthhjfedegbldfaeMB
import Derived.OpenShut
import Derived.ShutString
import Derived.ChangeOld
import Derived.SizedLaws
namespace Go.Proofs.Ythhjfedegbldfae.markPut
open Go.ChangeShapes Go.WideShapes Go.ChangeAt Go.RowKit
open Go.ChangeMaps (open_string shut_string)
open Go.Proofs.Ythhjfedegbldfae
set_option linter.unusedVariables false

theorem own : ownKnob Try.prog.godebug = none := by kernel_rfl


set_option maxHeartbeats 1600000 in
set_option maxRecDepth 100000 in
theorem walkNoA (s more : ByteArray) (n : Int) (w : World) (hs : s.size ≤ 140737488351232) (hm : more.size ≤ 140737488351232) (hn : ¬ (1 ≤ n ∧ n ≤ 7)) (hx : (M.sn (bl s)).1 ≠ 0) : Calls Try.prog 3 #[.string s, .string more, .int .i64 n] w fun e w' => e = .returned (.bool true) ∧ Below w.heap.size w w' := by
  have G := hide (fun w => markBegun_any w)
  have SA := hide (fun w => Sniff_any (s ++ more) w (by rw [ByteArray.size_append]; unfold maxLen; omega))
  rw [bl_app, (M.sn_some hx (bl more)).1] at SA
  have MA := hide (fun w => May_any s w (by unfold maxLen; omega))
  rw [(M.sn_some hx (bl more)).2] at MA
  have S1 := hide (fun w => Sniff_any s w (by unfold maxLen; omega))
  have hx' : ((M.sn (bl s)).1 == 0) = false := by simpa using hx
  clear hx
  generalize (M.sn (bl s)).1 = x at *
  generalize (M.sn (bl s)).2 = y at *
  have P := hide (fun w => Put_no n s w hn)
  go_enter Try.func3, Try.ntmps3
  go_wp2_with fail
  refine (unhide G _).mono ?_
  rintro e w1 ⟨rfl, hb1⟩
  have HB1 := hide hb1
  clear hb1
  go_wp2_with fail
  refine (unhide P _).mono ?_
  rintro e w2 ⟨rfl, hb2⟩
  have HB2 := hide (bstep (unhide HB1) hb2)
  clear hb2
  go_wp2_with fail
  refine (unhide S1 _).mono ?_
  rintro e w4 ⟨rfl, hb4⟩
  have HB4 := hide (bstep (unhide HB2) hb4)
  clear hb4
  go_wp2_with fail
  refine (unhide SA _).mono ?_
  rintro e w5 ⟨rfl, hb5⟩
  have HB5 := hide (bstep (unhide HB4) hb5)
  clear hb5
  go_wp2_with fail
  refine (unhide MA _).mono ?_
  rintro e w6 ⟨rfl, hb6⟩
  have HB6 := hide (bstep (unhide HB5) hb6)
  clear hb6
  go_wp2_with fail
  go_ret
  exact ⟨rfl, unhide HB6⟩

set_option maxHeartbeats 1600000 in
set_option maxRecDepth 100000 in
theorem walkNoB (s more : ByteArray) (n : Int) (w : World) (hs : s.size ≤ 140737488351232) (hm : more.size ≤ 140737488351232) (hn : ¬ (1 ≤ n ∧ n ≤ 7)) (hx : (M.sn (bl s)).1 = 0) (hy : M.may (bl s) = true) : Calls Try.prog 3 #[.string s, .string more, .int .i64 n] w fun e w' => e = .returned (.bool true) ∧ Below w.heap.size w w' := by
  have G := hide (fun w => markBegun_any w)
  have S1 := hide (fun w => Sniff_any s w (by unfold maxLen; omega))
  rw [M.sn_zero hx] at S1
  have MA := hide (fun w => May_any s w (by unfold maxLen; omega))
  rw [hy] at MA
  simp only at S1
  clear hx hy
  have P := hide (fun w => Put_no n s w hn)
  go_enter Try.func3, Try.ntmps3
  go_wp2_with fail
  refine (unhide G _).mono ?_
  rintro e w1 ⟨rfl, hb1⟩
  have HB1 := hide hb1
  clear hb1
  go_wp2_with fail
  refine (unhide P _).mono ?_
  rintro e w2 ⟨rfl, hb2⟩
  have HB2 := hide (bstep (unhide HB1) hb2)
  clear hb2
  go_wp2_with fail
  refine (unhide S1 _).mono ?_
  rintro e w4 ⟨rfl, hb4⟩
  have HB4 := hide (bstep (unhide HB2) hb4)
  clear hb4
  go_wp2_with fail
  refine (unhide MA _).mono ?_
  rintro e w5 ⟨rfl, hb5⟩
  have HB5 := hide (bstep (unhide HB4) hb5)
  clear hb5
  go_wp2_with fail
  go_ret
  exact ⟨rfl, unhide HB5⟩

set_option maxHeartbeats 1600000 in
set_option maxRecDepth 100000 in
theorem walkNoC (s more : ByteArray) (n : Int) (w : World) (hs : s.size ≤ 140737488351232) (hm : more.size ≤ 140737488351232) (hn : ¬ (1 ≤ n ∧ n ≤ 7)) (hx : (M.sn (bl s)).1 = 0) (hy : M.may (bl s) = false) : Calls Try.prog 3 #[.string s, .string more, .int .i64 n] w fun e w' => e = .returned (.bool true) ∧ Below w.heap.size w w' := by
  have G := hide (fun w => markBegun_any w)
  have S1 := hide (fun w => Sniff_any s w (by unfold maxLen; omega))
  rw [M.sn_zero hx] at S1
  have MA := hide (fun w => May_any s w (by unfold maxLen; omega))
  rw [hy] at MA
  have SA := hide (fun w => Sniff_any (s ++ more) w (by rw [ByteArray.size_append]; unfold maxLen; omega))
  rw [bl_app, M.sn_zero (M.sn_none hx hy (bl more))] at SA
  simp only at S1 SA
  clear hx hy
  have P := hide (fun w => Put_no n s w hn)
  go_enter Try.func3, Try.ntmps3
  go_wp2_with fail
  refine (unhide G _).mono ?_
  rintro e w1 ⟨rfl, hb1⟩
  have HB1 := hide hb1
  clear hb1
  go_wp2_with fail
  refine (unhide P _).mono ?_
  rintro e w2 ⟨rfl, hb2⟩
  have HB2 := hide (bstep (unhide HB1) hb2)
  clear hb2
  go_wp2_with fail
  refine (unhide S1 _).mono ?_
  rintro e w4 ⟨rfl, hb4⟩
  have HB4 := hide (bstep (unhide HB2) hb4)
  clear hb4
  go_wp2_with fail
  refine (unhide MA _).mono ?_
  rintro e w5 ⟨rfl, hb5⟩
  have HB5 := hide (bstep (unhide HB4) hb5)
  clear hb5
  go_wp2_with fail
  refine (unhide SA _).mono ?_
  rintro e w6 ⟨rfl, hb6⟩
  have HB6 := hide (bstep (unhide HB5) hb6)
  clear hb6
  go_wp2_with fail
  go_ret
  exact ⟨rfl, unhide HB6⟩

set_option maxHeartbeats 1600000 in
set_option maxRecDepth 100000 in
theorem walkLongA (s more : ByteArray) (n : Int) (w : World) (hs : s.size ≤ 140737488351232) (hm : more.size ≤ 140737488351232) (hn : 1 ≤ n ∧ n ≤ 7) (hl : 3000 < s.size) (hx : (M.sn (bl s)).1 ≠ 0) : Calls Try.prog 3 #[.string s, .string more, .int .i64 n] w fun e w' => e = .returned (.bool true) ∧ Below w.heap.size w w' := by
  have G := hide (fun w => markBegun_any w)
  have SA := hide (fun w => Sniff_any (s ++ more) w (by rw [ByteArray.size_append]; unfold maxLen; omega))
  rw [bl_app, (M.sn_some hx (bl more)).1] at SA
  have MA := hide (fun w => May_any s w (by unfold maxLen; omega))
  rw [(M.sn_some hx (bl more)).2] at MA
  have S1 := hide (fun w => Sniff_any s w (by unfold maxLen; omega))
  have hx' : ((M.sn (bl s)).1 == 0) = false := by simpa using hx
  clear hx
  generalize (M.sn (bl s)).1 = x at *
  generalize (M.sn (bl s)).2 = y at *
  have P := hide (fun w => Put_long n s w hn hl (by unfold maxLen; omega))
  go_enter Try.func3, Try.ntmps3
  go_wp2_with fail
  refine (unhide G _).mono ?_
  rintro e w1 ⟨rfl, hb1⟩
  have HB1 := hide hb1
  clear hb1
  go_wp2_with fail
  refine (unhide P _).mono ?_
  rintro e w2 ⟨rfl, hb2⟩
  have HB2 := hide (bstep (unhide HB1) hb2)
  clear hb2
  go_wp2_with fail
  refine (unhide S1 _).mono ?_
  rintro e w4 ⟨rfl, hb4⟩
  have HB4 := hide (bstep (unhide HB2) hb4)
  clear hb4
  go_wp2_with fail
  refine (unhide SA _).mono ?_
  rintro e w5 ⟨rfl, hb5⟩
  have HB5 := hide (bstep (unhide HB4) hb5)
  clear hb5
  go_wp2_with fail
  refine (unhide MA _).mono ?_
  rintro e w6 ⟨rfl, hb6⟩
  have HB6 := hide (bstep (unhide HB5) hb6)
  clear hb6
  go_wp2_with fail
  go_ret
  exact ⟨rfl, unhide HB6⟩

set_option maxHeartbeats 1600000 in
set_option maxRecDepth 100000 in
theorem walkLongB (s more : ByteArray) (n : Int) (w : World) (hs : s.size ≤ 140737488351232) (hm : more.size ≤ 140737488351232) (hn : 1 ≤ n ∧ n ≤ 7) (hl : 3000 < s.size) (hx : (M.sn (bl s)).1 = 0) (hy : M.may (bl s) = true) : Calls Try.prog 3 #[.string s, .string more, .int .i64 n] w fun e w' => e = .returned (.bool true) ∧ Below w.heap.size w w' := by
  have G := hide (fun w => markBegun_any w)
  have S1 := hide (fun w => Sniff_any s w (by unfold maxLen; omega))
  rw [M.sn_zero hx] at S1
  have MA := hide (fun w => May_any s w (by unfold maxLen; omega))
  rw [hy] at MA
  simp only at S1
  clear hx hy
  have P := hide (fun w => Put_long n s w hn hl (by unfold maxLen; omega))
  go_enter Try.func3, Try.ntmps3
  go_wp2_with fail
  refine (unhide G _).mono ?_
  rintro e w1 ⟨rfl, hb1⟩
  have HB1 := hide hb1
  clear hb1
  go_wp2_with fail
  refine (unhide P _).mono ?_
  rintro e w2 ⟨rfl, hb2⟩
  have HB2 := hide (bstep (unhide HB1) hb2)
  clear hb2
  go_wp2_with fail
  refine (unhide S1 _).mono ?_
  rintro e w4 ⟨rfl, hb4⟩
  have HB4 := hide (bstep (unhide HB2) hb4)
  clear hb4
  go_wp2_with fail
  refine (unhide MA _).mono ?_
  rintro e w5 ⟨rfl, hb5⟩
  have HB5 := hide (bstep (unhide HB4) hb5)
  clear hb5
  go_wp2_with fail
  go_ret
  exact ⟨rfl, unhide HB5⟩

set_option maxHeartbeats 1600000 in
set_option maxRecDepth 100000 in
theorem walkLongC (s more : ByteArray) (n : Int) (w : World) (hs : s.size ≤ 140737488351232) (hm : more.size ≤ 140737488351232) (hn : 1 ≤ n ∧ n ≤ 7) (hl : 3000 < s.size) (hx : (M.sn (bl s)).1 = 0) (hy : M.may (bl s) = false) : Calls Try.prog 3 #[.string s, .string more, .int .i64 n] w fun e w' => e = .returned (.bool true) ∧ Below w.heap.size w w' := by
  have G := hide (fun w => markBegun_any w)
  have S1 := hide (fun w => Sniff_any s w (by unfold maxLen; omega))
  rw [M.sn_zero hx] at S1
  have MA := hide (fun w => May_any s w (by unfold maxLen; omega))
  rw [hy] at MA
  have SA := hide (fun w => Sniff_any (s ++ more) w (by rw [ByteArray.size_append]; unfold maxLen; omega))
  rw [bl_app, M.sn_zero (M.sn_none hx hy (bl more))] at SA
  simp only at S1 SA
  clear hx hy
  have P := hide (fun w => Put_long n s w hn hl (by unfold maxLen; omega))
  go_enter Try.func3, Try.ntmps3
  go_wp2_with fail
  refine (unhide G _).mono ?_
  rintro e w1 ⟨rfl, hb1⟩
  have HB1 := hide hb1
  clear hb1
  go_wp2_with fail
  refine (unhide P _).mono ?_
  rintro e w2 ⟨rfl, hb2⟩
  have HB2 := hide (bstep (unhide HB1) hb2)
  clear hb2
  go_wp2_with fail
  refine (unhide S1 _).mono ?_
  rintro e w4 ⟨rfl, hb4⟩
  have HB4 := hide (bstep (unhide HB2) hb4)
  clear hb4
  go_wp2_with fail
  refine (unhide MA _).mono ?_
  rintro e w5 ⟨rfl, hb5⟩
  have HB5 := hide (bstep (unhide HB4) hb5)
  clear hb5
  go_wp2_with fail
  refine (unhide SA _).mono ?_
  rintro e w6 ⟨rfl, hb6⟩
  have HB6 := hide (bstep (unhide HB5) hb6)
  clear hb6
  go_wp2_with fail
  go_ret
  exact ⟨rfl, unhide HB6⟩

set_option maxHeartbeats 1600000 in
set_option maxRecDepth 100000 in
theorem walkNoneA (s more : ByteArray) (n : Int) (w : World) (hs : s.size ≤ 140737488351232) (hm : more.size ≤ 140737488351232) (hn : 1 ≤ n ∧ n ≤ 7) (hl : s.size ≤ 3000) (hk : M.mkL n = []) (hx : (M.sn (bl s)).1 ≠ 0) : Calls Try.prog 3 #[.string s, .string more, .int .i64 n] w fun e w' => e = .returned (.bool true) ∧ Below w.heap.size w w' := by
  have G := hide (fun w => markBegun_any w)
  have SA := hide (fun w => Sniff_any (s ++ more) w (by rw [ByteArray.size_append]; unfold maxLen; omega))
  rw [bl_app, (M.sn_some hx (bl more)).1] at SA
  have MA := hide (fun w => May_any s w (by unfold maxLen; omega))
  rw [(M.sn_some hx (bl more)).2] at MA
  have S1 := hide (fun w => Sniff_any s w (by unfold maxLen; omega))
  have hx' : ((M.sn (bl s)).1 == 0) = false := by simpa using hx
  clear hx
  generalize (M.sn (bl s)).1 = x at *
  generalize (M.sn (bl s)).2 = y at *
  have P := hide (fun w => Put_any n s w hn hl)
  rw [hk] at P
  clear hk
  go_enter Try.func3, Try.ntmps3
  go_wp2_with fail
  refine (unhide G _).mono ?_
  rintro e w1 ⟨rfl, hb1⟩
  have HB1 := hide hb1
  clear hb1
  go_wp2_with fail
  refine (unhide P _).mono ?_
  rintro e w2 ⟨t, rfl, ht, hb2⟩
  have HB2 := hide (bstep (unhide HB1) hb2)
  obtain rfl : t = s := by rw [← str_bl t, ht, List.nil_append, str_bl]
  clear hb2 ht
  go_wp2_with fail
  refine (unhide S1 _).mono ?_
  rintro e w4 ⟨rfl, hb4⟩
  have HB4 := hide (bstep (unhide HB2) hb4)
  clear hb4
  go_wp2_with fail
  refine (unhide SA _).mono ?_
  rintro e w5 ⟨rfl, hb5⟩
  have HB5 := hide (bstep (unhide HB4) hb5)
  clear hb5
  go_wp2_with fail
  refine (unhide MA _).mono ?_
  rintro e w6 ⟨rfl, hb6⟩
  have HB6 := hide (bstep (unhide HB5) hb6)
  clear hb6
  go_wp2_with fail
  go_ret
  exact ⟨rfl, unhide HB6⟩

set_option maxHeartbeats 1600000 in
set_option maxRecDepth 100000 in
theorem walkNoneB (s more : ByteArray) (n : Int) (w : World) (hs : s.size ≤ 140737488351232) (hm : more.size ≤ 140737488351232) (hn : 1 ≤ n ∧ n ≤ 7) (hl : s.size ≤ 3000) (hk : M.mkL n = []) (hx : (M.sn (bl s)).1 = 0) (hy : M.may (bl s) = true) : Calls Try.prog 3 #[.string s, .string more, .int .i64 n] w fun e w' => e = .returned (.bool true) ∧ Below w.heap.size w w' := by
  have G := hide (fun w => markBegun_any w)
  have S1 := hide (fun w => Sniff_any s w (by unfold maxLen; omega))
  rw [M.sn_zero hx] at S1
  have MA := hide (fun w => May_any s w (by unfold maxLen; omega))
  rw [hy] at MA
  simp only at S1
  clear hx hy
  have P := hide (fun w => Put_any n s w hn hl)
  rw [hk] at P
  clear hk
  go_enter Try.func3, Try.ntmps3
  go_wp2_with fail
  refine (unhide G _).mono ?_
  rintro e w1 ⟨rfl, hb1⟩
  have HB1 := hide hb1
  clear hb1
  go_wp2_with fail
  refine (unhide P _).mono ?_
  rintro e w2 ⟨t, rfl, ht, hb2⟩
  have HB2 := hide (bstep (unhide HB1) hb2)
  obtain rfl : t = s := by rw [← str_bl t, ht, List.nil_append, str_bl]
  clear hb2 ht
  go_wp2_with fail
  refine (unhide S1 _).mono ?_
  rintro e w4 ⟨rfl, hb4⟩
  have HB4 := hide (bstep (unhide HB2) hb4)
  clear hb4
  go_wp2_with fail
  refine (unhide MA _).mono ?_
  rintro e w5 ⟨rfl, hb5⟩
  have HB5 := hide (bstep (unhide HB4) hb5)
  clear hb5
  go_wp2_with fail
  go_ret
  exact ⟨rfl, unhide HB5⟩

set_option maxHeartbeats 1600000 in
set_option maxRecDepth 100000 in
theorem walkNoneC (s more : ByteArray) (n : Int) (w : World) (hs : s.size ≤ 140737488351232) (hm : more.size ≤ 140737488351232) (hn : 1 ≤ n ∧ n ≤ 7) (hl : s.size ≤ 3000) (hk : M.mkL n = []) (hx : (M.sn (bl s)).1 = 0) (hy : M.may (bl s) = false) : Calls Try.prog 3 #[.string s, .string more, .int .i64 n] w fun e w' => e = .returned (.bool true) ∧ Below w.heap.size w w' := by
  have G := hide (fun w => markBegun_any w)
  have S1 := hide (fun w => Sniff_any s w (by unfold maxLen; omega))
  rw [M.sn_zero hx] at S1
  have MA := hide (fun w => May_any s w (by unfold maxLen; omega))
  rw [hy] at MA
  have SA := hide (fun w => Sniff_any (s ++ more) w (by rw [ByteArray.size_append]; unfold maxLen; omega))
  rw [bl_app, M.sn_zero (M.sn_none hx hy (bl more))] at SA
  simp only at S1 SA
  clear hx hy
  have P := hide (fun w => Put_any n s w hn hl)
  rw [hk] at P
  clear hk
  go_enter Try.func3, Try.ntmps3
  go_wp2_with fail
  refine (unhide G _).mono ?_
  rintro e w1 ⟨rfl, hb1⟩
  have HB1 := hide hb1
  clear hb1
  go_wp2_with fail
  refine (unhide P _).mono ?_
  rintro e w2 ⟨t, rfl, ht, hb2⟩
  have HB2 := hide (bstep (unhide HB1) hb2)
  obtain rfl : t = s := by rw [← str_bl t, ht, List.nil_append, str_bl]
  clear hb2 ht
  go_wp2_with fail
  refine (unhide S1 _).mono ?_
  rintro e w4 ⟨rfl, hb4⟩
  have HB4 := hide (bstep (unhide HB2) hb4)
  clear hb4
  go_wp2_with fail
  refine (unhide MA _).mono ?_
  rintro e w5 ⟨rfl, hb5⟩
  have HB5 := hide (bstep (unhide HB4) hb5)
  clear hb5
  go_wp2_with fail
  refine (unhide SA _).mono ?_
  rintro e w6 ⟨rfl, hb6⟩
  have HB6 := hide (bstep (unhide HB5) hb6)
  clear hb6
  go_wp2_with fail
  go_ret
  exact ⟨rfl, unhide HB6⟩

set_option maxHeartbeats 1600000 in
set_option maxRecDepth 100000 in
theorem walkMarkA (s more : ByteArray) (n : Int) (w : World) (hs : s.size ≤ 140737488351232) (hm : more.size ≤ 140737488351232) (hn : 1 ≤ n ∧ n ≤ 7) (hl : s.size ≤ 3000) (hk : 0 < (M.mkL n).length) (hx : (M.sn (bl s)).1 ≠ 0) : Calls Try.prog 3 #[.string s, .string more, .int .i64 n] w fun e w' => e = .returned (.bool true) ∧ Below w.heap.size w w' := by
  have G := hide (fun w => markBegun_any w)
  have SA := hide (fun w => Sniff_any (s ++ more) w (by rw [ByteArray.size_append]; unfold maxLen; omega))
  rw [bl_app, (M.sn_some hx (bl more)).1] at SA
  have MA := hide (fun w => May_any s w (by unfold maxLen; omega))
  rw [(M.sn_some hx (bl more)).2] at MA
  have S1 := hide (fun w => Sniff_any s w (by unfold maxLen; omega))
  have hx' : ((M.sn (bl s)).1 == 0) = false := by simpa using hx
  clear hx
  generalize (M.sn (bl s)).1 = x at *
  generalize (M.sn (bl s)).2 = y at *
  have P := hide (fun w => Put_any n s w hn hl)
  have HK := hide (fun l => M.sn_mk hk l)
  have HL := hide (M.mkL_len n)
  have HBt := hide (M.mkL_byt n)
  generalize M.mkL n = mk at *
  have HK1 := hide hk
  clear hk
  go_enter Try.func3, Try.ntmps3
  go_wp2_with fail
  refine (unhide G _).mono ?_
  rintro e w1 ⟨rfl, hb1⟩
  have HB1 := hide hb1
  clear hb1
  go_wp2_with fail
  refine (unhide P _).mono ?_
  rintro e w2 ⟨t, rfl, ht, hb2⟩
  have HB2 := hide (bstep (unhide HB1) hb2)
  have htl : t.size = mk.length + s.size := by rw [← bl_len, ht, List.length_append, bl_len]
  have htz : t.size ≤ 3003 := by have := unhide HL; omega
  have hgt : s.size < t.size := by have := unhide HK1; omega
  have ST := hide (fun w => Sniff_any t w (by unfold maxLen; omega))
  rw [ht, unhide HK] at ST
  have hcut : t.extract mk.length t.size = s := by rw [← str_bl (t.extract mk.length t.size), bl_extract, ht, List.drop_left, str_bl]
  have hdi : (t.size : Int) - (s.size : Int) = (mk.length : Int) := by omega
  have hle : mk.length ≤ t.size := by omega
  simp only at ST
  have HTL := hide htl
  clear hb2 ht htl
  generalize mk.length = L at *
  go_wp2_with fail
  refine (unhide ST _).mono ?_
  rintro e w3 ⟨rfl, hb3⟩
  replace HB2 := hide (bstep (unhide HB2) hb3)
  clear hb3
  go_wp2_with fail
  refine (unhide S1 _).mono ?_
  rintro e w4 ⟨rfl, hb4⟩
  have HB4 := hide (bstep (unhide HB2) hb4)
  clear hb4
  go_wp2_with fail
  refine (unhide SA _).mono ?_
  rintro e w5 ⟨rfl, hb5⟩
  have HB5 := hide (bstep (unhide HB4) hb5)
  clear hb5
  go_wp2_with fail
  refine (unhide MA _).mono ?_
  rintro e w6 ⟨rfl, hb6⟩
  have HB6 := hide (bstep (unhide HB5) hb6)
  clear hb6
  go_wp2_with fail
  go_ret
  exact ⟨rfl, unhide HB6⟩

set_option maxHeartbeats 1600000 in
set_option maxRecDepth 100000 in
theorem walkMarkB (s more : ByteArray) (n : Int) (w : World) (hs : s.size ≤ 140737488351232) (hm : more.size ≤ 140737488351232) (hn : 1 ≤ n ∧ n ≤ 7) (hl : s.size ≤ 3000) (hk : 0 < (M.mkL n).length) (hx : (M.sn (bl s)).1 = 0) (hy : M.may (bl s) = true) : Calls Try.prog 3 #[.string s, .string more, .int .i64 n] w fun e w' => e = .returned (.bool true) ∧ Below w.heap.size w w' := by
  have G := hide (fun w => markBegun_any w)
  have S1 := hide (fun w => Sniff_any s w (by unfold maxLen; omega))
  rw [M.sn_zero hx] at S1
  have MA := hide (fun w => May_any s w (by unfold maxLen; omega))
  rw [hy] at MA
  simp only at S1
  clear hx hy
  have P := hide (fun w => Put_any n s w hn hl)
  have HK := hide (fun l => M.sn_mk hk l)
  have HL := hide (M.mkL_len n)
  have HBt := hide (M.mkL_byt n)
  generalize M.mkL n = mk at *
  have HK1 := hide hk
  clear hk
  go_enter Try.func3, Try.ntmps3
  go_wp2_with fail
  refine (unhide G _).mono ?_
  rintro e w1 ⟨rfl, hb1⟩
  have HB1 := hide hb1
  clear hb1
  go_wp2_with fail
  refine (unhide P _).mono ?_
  rintro e w2 ⟨t, rfl, ht, hb2⟩
  have HB2 := hide (bstep (unhide HB1) hb2)
  have htl : t.size = mk.length + s.size := by rw [← bl_len, ht, List.length_append, bl_len]
  have htz : t.size ≤ 3003 := by have := unhide HL; omega
  have hgt : s.size < t.size := by have := unhide HK1; omega
  have ST := hide (fun w => Sniff_any t w (by unfold maxLen; omega))
  rw [ht, unhide HK] at ST
  have hcut : t.extract mk.length t.size = s := by rw [← str_bl (t.extract mk.length t.size), bl_extract, ht, List.drop_left, str_bl]
  have hdi : (t.size : Int) - (s.size : Int) = (mk.length : Int) := by omega
  have hle : mk.length ≤ t.size := by omega
  simp only at ST
  have HTL := hide htl
  clear hb2 ht htl
  generalize mk.length = L at *
  go_wp2_with fail
  refine (unhide ST _).mono ?_
  rintro e w3 ⟨rfl, hb3⟩
  replace HB2 := hide (bstep (unhide HB2) hb3)
  clear hb3
  go_wp2_with fail
  refine (unhide S1 _).mono ?_
  rintro e w4 ⟨rfl, hb4⟩
  have HB4 := hide (bstep (unhide HB2) hb4)
  clear hb4
  go_wp2_with fail
  refine (unhide MA _).mono ?_
  rintro e w5 ⟨rfl, hb5⟩
  have HB5 := hide (bstep (unhide HB4) hb5)
  clear hb5
  go_wp2_with fail
  go_ret
  exact ⟨rfl, unhide HB5⟩

set_option maxHeartbeats 1600000 in
set_option maxRecDepth 100000 in
theorem walkMarkC (s more : ByteArray) (n : Int) (w : World) (hs : s.size ≤ 140737488351232) (hm : more.size ≤ 140737488351232) (hn : 1 ≤ n ∧ n ≤ 7) (hl : s.size ≤ 3000) (hk : 0 < (M.mkL n).length) (hx : (M.sn (bl s)).1 = 0) (hy : M.may (bl s) = false) : Calls Try.prog 3 #[.string s, .string more, .int .i64 n] w fun e w' => e = .returned (.bool true) ∧ Below w.heap.size w w' := by
  have G := hide (fun w => markBegun_any w)
  have S1 := hide (fun w => Sniff_any s w (by unfold maxLen; omega))
  rw [M.sn_zero hx] at S1
  have MA := hide (fun w => May_any s w (by unfold maxLen; omega))
  rw [hy] at MA
  have SA := hide (fun w => Sniff_any (s ++ more) w (by rw [ByteArray.size_append]; unfold maxLen; omega))
  rw [bl_app, M.sn_zero (M.sn_none hx hy (bl more))] at SA
  simp only at S1 SA
  clear hx hy
  have P := hide (fun w => Put_any n s w hn hl)
  have HK := hide (fun l => M.sn_mk hk l)
  have HL := hide (M.mkL_len n)
  have HBt := hide (M.mkL_byt n)
  generalize M.mkL n = mk at *
  have HK1 := hide hk
  clear hk
  go_enter Try.func3, Try.ntmps3
  go_wp2_with fail
  refine (unhide G _).mono ?_
  rintro e w1 ⟨rfl, hb1⟩
  have HB1 := hide hb1
  clear hb1
  go_wp2_with fail
  refine (unhide P _).mono ?_
  rintro e w2 ⟨t, rfl, ht, hb2⟩
  have HB2 := hide (bstep (unhide HB1) hb2)
  have htl : t.size = mk.length + s.size := by rw [← bl_len, ht, List.length_append, bl_len]
  have htz : t.size ≤ 3003 := by have := unhide HL; omega
  have hgt : s.size < t.size := by have := unhide HK1; omega
  have ST := hide (fun w => Sniff_any t w (by unfold maxLen; omega))
  rw [ht, unhide HK] at ST
  have hcut : t.extract mk.length t.size = s := by rw [← str_bl (t.extract mk.length t.size), bl_extract, ht, List.drop_left, str_bl]
  have hdi : (t.size : Int) - (s.size : Int) = (mk.length : Int) := by omega
  have hle : mk.length ≤ t.size := by omega
  simp only at ST
  have HTL := hide htl
  clear hb2 ht htl
  generalize mk.length = L at *
  go_wp2_with fail
  refine (unhide ST _).mono ?_
  rintro e w3 ⟨rfl, hb3⟩
  replace HB2 := hide (bstep (unhide HB2) hb3)
  clear hb3
  go_wp2_with fail
  refine (unhide S1 _).mono ?_
  rintro e w4 ⟨rfl, hb4⟩
  have HB4 := hide (bstep (unhide HB2) hb4)
  clear hb4
  go_wp2_with fail
  refine (unhide MA _).mono ?_
  rintro e w5 ⟨rfl, hb5⟩
  have HB5 := hide (bstep (unhide HB4) hb5)
  clear hb5
  go_wp2_with fail
  refine (unhide SA _).mono ?_
  rintro e w6 ⟨rfl, hb6⟩
  have HB6 := hide (bstep (unhide HB5) hb6)
  clear hb6
  go_wp2_with fail
  go_ret
  exact ⟨rfl, unhide HB6⟩

theorem walk (s more : ByteArray) (n : Int) (w : World) (hs : s.size ≤ 140737488351232) (hm : more.size ≤ 140737488351232) (hw : (Lit.int .i64 n).wf = true) : Calls Try.prog 3 #[.string s, .string more, .int .i64 n] w fun e w' => e = .returned (.bool true) ∧ Below w.heap.size w w' := by
  by_cases hx : (M.sn (bl s)).1 = 0
  · cases hy : M.may (bl s)
    · by_cases hn : 1 ≤ n ∧ n ≤ 7
      · by_cases hl : s.size ≤ 3000
        · by_cases hk : M.mkL n = []
          · exact walkNoneC s more n w hs hm hn hl hk hx hy
          · exact walkMarkC s more n w hs hm hn hl (List.length_pos_iff.2 hk) hx hy
        · exact walkLongC s more n w hs hm hn (by omega) hx hy
      · exact walkNoC s more n w hs hm hn hx hy
    · by_cases hn : 1 ≤ n ∧ n ≤ 7
      · by_cases hl : s.size ≤ 3000
        · by_cases hk : M.mkL n = []
          · exact walkNoneB s more n w hs hm hn hl hk hx hy
          · exact walkMarkB s more n w hs hm hn hl (List.length_pos_iff.2 hk) hx hy
        · exact walkLongB s more n w hs hm hn (by omega) hx hy
      · exact walkNoB s more n w hs hm hn hx hy
  · by_cases hn : 1 ≤ n ∧ n ≤ 7
    · by_cases hl : s.size ≤ 3000
      · by_cases hk : M.mkL n = []
        · exact walkNoneA s more n w hs hm hn hl hk hx
        · exact walkMarkA s more n w hs hm hn hl (List.length_pos_iff.2 hk) hx
      · exact walkLongA s more n w hs hm hn (by omega) hx
    · exact walkNoA s more n w hs hm hn hx

set_option maxRecDepth 100000 in
theorem lifted (os : Os) (started : os.Started) (H : Type) (enc : TypeId × Value → H) :
    ReturnsInHanded {} Try.checked os 3 .any (Rows.markPutSpec.pre6 enc Try.prog Try.f3 Rows.markPutRow.domain false) (Rows.markPutSpec.post enc Try.prog Try.f3 false true false false) := by
  refine returnsInHanded_of_change_sized (C := Try.checked) own started (by kernel_rfl) Try.func3
    (ChangeSpec.witness6 (enc := enc) (C := Try.checked) false ⟨#[], #[.string ByteArray.empty, .string ByteArray.empty, .int .i64 0], []⟩ 8 (by kernel_rfl) (by kernel_rfl) (by kernel_rfl) (by kernel_rfl)) ?_
  intro W base args ds gs before hval0 hW hcnd hsz0 _
  have hval : ∀ (j : Nat) t v, Try.f3.params[j]? = some t → args[j]? = some v → Value.okWide Try.prog W .any base t v := hval0
  have hW' := hW
  obtain ⟨p, q, hA0, hV, rfl, hfz, hnd⟩ := hW
  have hA : DataW.TrodAll enc Try.prog W 0 (fun _ => true) true Try.f3.params.toList args.toList ds p := hA0
  rw [Try.params3] at hA hval
  obtain ⟨v0, vs0, d0, ds0, p0, q0, hargs, rfl, rfl, h0, r0⟩ := trodAll_cons hA
  obtain ⟨v1, vs1, d1, ds1, p1, q1, rfl, rfl, rfl, h1, r1⟩ := trodAll_cons r0
  obtain ⟨v2, vs2, d2, ds2, p2, q2, rfl, rfl, rfl, h2, r2⟩ := trodAll_cons r1
  obtain ⟨rfl, rfl, rfl⟩ := trodAll_nil r2
  obtain rfl : args = #[v0, v1, v2] := by cases args; simp_all
  obtain ⟨rfl, rfl⟩ := trodVars_none hV
  obtain ⟨a0, rfl, rfl, rfl, w0⟩ := open_string Try.underlying9 (hval 0 9 v0 rfl rfl) h0
  obtain ⟨a1, rfl, rfl, rfl, w1⟩ := open_string Try.underlying9 (hval 1 9 v1 rfl rfl) h1
  obtain ⟨a2, rfl, rfl, rfl, w2⟩ := open_int Try.underlying3 (hval 2 3 v2 rfl rfl) h2
  have hsz : (DataW.weightsEach Try.prog (Try.f3.params.toList ++ Rows.markPutSpec.plain.varTypes Try.prog) ([.lit (.string a0.data.toList), .lit (.string a1.data.toList), .lit (.int .i64 a2)] ++ [])).all (fun x => decide (x ≤ reachBytes)) = true := hsz0
  rw [Try.params3] at hsz
  have sz0 : a0.size ≤ 140737488351232 := by
    have := sized_string hsz (j := 0) (t := 9) rfl rfl
    simp only [reachBytes] at this
    simpa using this
  have sz1 : a1.size ≤ 140737488351232 := by
    have := sized_string hsz (j := 1) (t := 9) rfl rfl
    simp only [reachBytes] at this
    simpa using this
  clear hA0 hval0
  refine (walk a0 a1 a2 W sz0 sz1 w2).mono fun e W' ⟨he, bel⟩ => ?_
  subst he
  exact ⟨_, rfl, _, _, _, [], _, [], hW', trodAll_mk1 (shut_bool Try.underlying4 _), (trodAll_cons_mk (shut_string Try.underlying9 w0) (trodAll_cons_mk (shut_string Try.underlying9 w1) (trodAll_cons_mk (shut_int Try.underlying3 w2) trodAll_mk0))), rfl, bel.frame _, fun h => by cases h⟩

theorem over : Rows.markPutRow.holds Try.pinned (OpenSpec.ofChange Rows.markPutSpec) :=
  OpenClaim.holds_of_wide 3 Try.f3 rfl rfl rfl rfl rfl rfl rfl ⟨rfl, rfl, rfl, rfl, rfl⟩ rfl rfl rfl rfl rfl (by kernel_rfl) Try.func3 (by kernel_rfl)
    (of_decide_eq_true (by kernel_rfl)) (by unfold Func.isWrapper; first | (rw [if_pos (by decide +kernel)]; kernel_rfl) | (rw [if_neg (by decide +kernel)]; exact ⟨rfl, rfl⟩))
    (fun os started H enc _ => lifted os started H enc)
end Go.Proofs.Ythhjfedegbldfae.markPut

namespace Go.Proofs.Ythhjfedegbldfae
theorem markPut_holds : Rows.MarkPutSaid := markPut.over
end Go.Proofs.Ythhjfedegbldfae
