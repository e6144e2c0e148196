/- The walk of FrontMark over what front's calls have to answer: true; nothing that was there is written. -/
import Derived.Test.YtaiinjfnkmidbaaGreatDoorQ10
namespace Go.Proofs.YtaiinjfnkmidbaaGreatDoor
open Go.RowKit
set_option linter.unusedVariables false

set_option maxHeartbeats 3200000 in
set_option maxRecDepth 100000 in
theorem fmark_long (hC : ChSays) (hX : ChErrs) (hB : BgSays) (hF : FdSays) (hK : CkSays) (name s : ByteArray) (w : World) (hMx : Mx w) (hn : name.size ≤ maxLen) (hs : s.size ≤ maxLen) (h : 3000 < name.size ∨ 3000 < s.size) :
    Calls Tryz.prog 5 #[.string name, .string s] w fun e w' => e = .returned (.bool true) ∧ Below w.heap.size w w' := by
  have HM := hide hMx
  have GF := hide (fun w h => begunF_any hC hB hF hK w h)
  have GS := hide (fun w h => scanBegun_any metaSays scanSays w h)
  have r1 := hide (fun w hm => hX name s w hn hs h hm)
  clear hC hX hB hF hK hMx h
  go_enter Tryz.func5, Tryz.ntmps5
  go_wp2_with fail
  refine (unhide r1 _ (unhide HM)).mono ?_
  rintro e w1 ⟨rfl, hb1⟩
  have HB1 := hide hb1
  clear hb1 r1
  go_wp2_with fail
  refine (unhide GF _ ((unhide HM).below (unhide HB1))).mono ?_
  rintro e w2 ⟨rfl, hb2⟩
  have HB2 := hide (bstep (unhide HB1) hb2)
  clear hb2 HB1
  go_wp2_with fail
  refine (markBegun_any _).mono ?_
  rintro e w3 ⟨rfl, hb3⟩
  have HB3 := hide (bstep (unhide HB2) hb3)
  clear hb3 HB2
  go_wp2_with fail
  refine (labelBegun_any _).mono ?_
  rintro e w4 ⟨rfl, hb4⟩
  have HB4 := hide (bstep (unhide HB3) hb4)
  clear hb4 HB3
  go_wp2_with fail
  refine (unhide GS _ ((unhide HM).below (unhide HB4))).mono ?_
  rintro e w5 ⟨rfl, hb5⟩
  have HB5 := hide (bstep (unhide HB4) hb5)
  clear hb5 HB4
  go_wp2_with fail
  go_ret
  exact ⟨rfl, unhide HB5⟩
set_option maxHeartbeats 3200000 in
set_option maxRecDepth 100000 in
theorem fmark_fine (hC : ChSays) (hX : ChErrs) (hB : BgSays) (hF : FdSays) (hK : CkSays) (name s : ByteArray) (w : World) (hMx : Mx w) (hn : name.size ≤ maxLen) (hs : s.size ≤ maxLen) (h0 : name.size ≤ 3000) (h1 : s.size ≤ 3000) :
    Calls Tryz.prog 5 #[.string name, .string s] w fun e w' => e = .returned (.bool true) ∧ Below w.heap.size w w' := by
  have HM := hide hMx
  have GF := hide (fun w h => begunF_any hC hB hF hK w h)
  have GS := hide (fun w h => scanBegun_any metaSays scanSays w h)
  have r1 := hide (fun w hm => hC name s w h0 h1 hm)
  have r2 := hide (fun w => Sniff_any s w hs)
  have r3 := hide (fun w => Find_ok name w h0)
  have r4 := hide (fun w hm => Scan_ok s w h1 hm)
  have R1 := hide (fun h => chI_mark (name := name) (l := bl s) h)
  have R2 := hide (fun h h1 => chI_label (name := name) (l := bl s) h h1)
  have R3 := hide (fun h h1 h2 => chI_meta (name := name) (l := bl s) h h1 h2)
  have R4 := hide (fun h h1 h2 => chI_none (name := name) (l := bl s) h h1 h2)
  clear hC hX hB hF hK hMx
  generalize chI name (bl s) = ch at *
  obtain ⟨n, y, m⟩ := ch
  dsimp only at r1
  generalize (M.sn (bl s)).1 = a at *
  generalize (M.sn (bl s)).2 = b at *
  generalize findI name = c at *
  generalize scnI (bl s) = d at *
  go_enter Tryz.func5, Tryz.ntmps5
  go_wp2_with fail
  refine (unhide r1 _ (unhide HM)).mono ?_
  rintro e w1 ⟨rfl, hb1⟩
  have HB1 := hide hb1
  clear hb1 r1
  go_wp2_with fail
  refine (unhide GF _ ((unhide HM).below (unhide HB1))).mono ?_
  rintro e w2 ⟨rfl, hb2⟩
  have HB2 := hide (bstep (unhide HB1) hb2)
  clear hb2 HB1
  go_wp2_with fail
  refine (markBegun_any _).mono ?_
  rintro e w3 ⟨rfl, hb3⟩
  have HB3 := hide (bstep (unhide HB2) hb3)
  clear hb3 HB2
  go_wp2_with fail
  refine (labelBegun_any _).mono ?_
  rintro e w4 ⟨rfl, hb4⟩
  have HB4 := hide (bstep (unhide HB3) hb4)
  clear hb4 HB3
  go_wp2_with fail
  refine (unhide GS _ ((unhide HM).below (unhide HB4))).mono ?_
  rintro e w5 ⟨rfl, hb5⟩
  have HB5 := hide (bstep (unhide HB4) hb5)
  clear hb5 HB4
  go_wp2_with fail
  refine (unhide r2 _).mono ?_
  rintro e w6 ⟨rfl, hb6⟩
  have HB6 := hide (bstep (unhide HB5) hb6)
  clear hb6 HB5 r2
  go_wp2_with fail
  refine (unhide r3 _).mono ?_
  rintro e w7 ⟨rfl, hb7⟩
  have HB7 := hide (bstep (unhide HB6) hb7)
  clear hb7 HB6 r3
  go_wp2_with fail
  refine (unhide r4 _ ((unhide HM).below (unhide HB7))).mono ?_
  rintro e w8 ⟨rfl, hb8⟩
  have HB8 := hide (bstep (unhide HB7) hb8)
  clear hb8 HB7 r4
  by_cases h0' : a = 0
  · subst h0'
    by_cases h1' : c = 0
    · subst h1'
      by_cases h2' : d = 0
      · subst h2'
        have hR := unhide R4 (by trivial) (by trivial) (by trivial)
        simp only [Prod.mk.injEq] at hR
        obtain ⟨rfl, rfl, rfl⟩ := hR
        clear R1 R2 R3 R4
        go_wp2_with fail
        go_ret
        exact ⟨rfl, unhide HB8⟩
      · have hR := unhide R3 (by trivial) (by trivial) h2'
        simp only [Prod.mk.injEq] at hR
        obtain ⟨rfl, rfl, rfl⟩ := hR
        have hne : (n != 0) = true := bne_iff_ne.2 h2'
        clear R1 R2 R3 R4 h2'
        go_wp2_with fail
        go_ret
        exact ⟨ret_bool (by simp), unhide HB8⟩
    · have hR := unhide R2 (by trivial) h1'
      simp only [Prod.mk.injEq] at hR
      obtain ⟨rfl, rfl, rfl⟩ := hR
      have hne : (n != 0) = true := bne_iff_ne.2 h1'
      clear R1 R2 R3 R4 h1'
      go_wp2_with fail
      go_ret
      exact ⟨ret_bool (by simp), unhide HB8⟩
  · have hR := unhide R1 h0'
    simp only [Prod.mk.injEq] at hR
    obtain ⟨rfl, rfl, rfl⟩ := hR
    have hne : (n != 0) = true := bne_iff_ne.2 h0'
    clear R1 R2 R3 R4 h0'
    go_wp2_with fail
    go_ret
    exact ⟨ret_bool (by simp), unhide HB8⟩
theorem fmark_walk (hC : ChSays) (hX : ChErrs) (hB : BgSays) (hF : FdSays) (hK : CkSays) (name s : ByteArray) (w : World) (hMx : Mx w) (hn : name.size ≤ maxLen) (hs : s.size ≤ maxLen) :
    Calls Tryz.prog 5 #[.string name, .string s] w fun e w' => e = .returned (.bool true) ∧ Below w.heap.size w w' := by
  by_cases h : 3000 < name.size ∨ 3000 < s.size
  · exact fmark_long hC hX hB hF hK name s w hMx hn hs h
  · exact fmark_fine hC hX hB hF hK name s w hMx hn hs (by omega) (by omega)
end Go.Proofs.YtaiinjfnkmidbaaGreatDoor
