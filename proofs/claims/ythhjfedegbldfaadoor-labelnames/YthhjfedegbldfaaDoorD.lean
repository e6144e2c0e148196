/- The contracts of label.first with the two closures that are handed to it. -/
import Derived.Test.YthhjfedegbldfaaDoorC
namespace Go.Proofs.YthhjfedegbldfaaDoor
open Go.RowKit
set_option linter.unusedVariables false

set_option maxHeartbeats 400000 in
set_option maxRecDepth 100000 in
theorem isName_any (a n : ByteArray) (m : Int) (B : Nat) (w : World) (hc : w.cell? ⟨B, 0, none⟩ = some (.string n)) :
    Calls Tryd.prog 25 #[.agg #[.string a, .int .i64 m], .pointer (some ⟨B, 0, none⟩)] w fun e w' => e = .returned (.bool (a == n)) ∧ Below w.heap.size w w' := by
  have hl := World.block_lt_of_cell? w _ hc
  simp only at hl
  have hbq := hide (beq_toListBytes a n)
  go_enter Tryd.func25, Tryd.ntmps25
  go_wp2
  go_ret
  exact ⟨by rw [unhide hbq]; rfl, balloc _ _⟩

set_option maxHeartbeats 400000 in
set_option maxRecDepth 100000 in
theorem isNumber_any (a : ByteArray) (m n : Int) (B : Nat) (w : World) (hc : w.cell? ⟨B, 0, none⟩ = some (.int .i64 n)) :
    Calls Tryd.prog 27 #[.agg #[.string a, .int .i64 m], .pointer (some ⟨B, 0, none⟩)] w fun e w' => e = .returned (.bool (m == n)) ∧ Below w.heap.size w w' := by
  have hl := World.block_lt_of_cell? w _ hc
  simp only at hl
  go_enter Tryd.func27, Tryd.ntmps27
  go_wp2
  go_ret
  exact ⟨rfl, balloc _ _⟩

set_option maxHeartbeats 1000000 in
set_option maxRecDepth 100000 in
theorem first_name (l : List (ByteArray × Int)) (n : ByteArray) (b B cap : Nat) (w : World) (hl : l.length ≤ 100) (ht : Tab w b l) (hbw : b < w.heap.size) (hc : w.cell? ⟨B, 0, none⟩ = some (.string n)) :
    Calls Tryd.prog 23 #[.slice (some ⟨b, 0, none⟩) l.length cap, .func (Fn.func 25) #[] #[.pointer (some ⟨B, 0, none⟩)]] w fun e w' =>
      ∃ x, e = .returned (.agg #[.string x, .int .i64 (lk l n)]) ∧ Below w.heap.size w w' := by
  have hB := World.block_lt_of_cell? w _ hc
  simp only at hB
  have HT := hide ht
  clear ht
  go_enter Tryd.func23, Tryd.ntmps23
  go_wp2_with fail
  go_loopw [9] (fun i wr => ∃ k : Nat, k ≤ l.length ∧ i = .int .i64 k ∧ Below (w.heap.size + 1) (w.alloc (.cells #[.string ⟨#[]⟩, .int .i64 0] 39)) wr ∧ Hid (lk l n = lk (l.drop k) n)) (fun i _ => l.length - (intOf i).toNat)
  case atStart => exact ⟨0, by omega, rfl, Below.refl _ _, rfl⟩
  case round =>
    obtain ⟨k, hk, rfl, hbr, HL⟩ := hrel
    have hsz := hbr.size
    simp at hsz
    have r0 : wr.cell? ⟨w.heap.size, 0, none⟩ = some (.string ⟨#[]⟩) := by rw [hbr.cell (p := ⟨w.heap.size, 0, none⟩) (by simp)]; simp
    have r1 : wr.cell? ⟨w.heap.size, 1, none⟩ = some (.int .i64 0) := by rw [hbr.cell (p := ⟨w.heap.size, 1, none⟩) (by simp)]; simp
    have q0 : wr.frozen? ⟨w.heap.size, 0, none⟩ = false := by rw [hbr.frozen (p := ⟨w.heap.size, 0, none⟩) (by simp)]; simp
    have q1 : wr.frozen? ⟨w.heap.size, 1, none⟩ = false := by rw [hbr.frozen (p := ⟨w.heap.size, 1, none⟩) (by simp)]; simp
    by_cases hlt : k < l.length
    · have ht := (unhide HT) k hlt
      have c1 : wr.cell? ⟨b, k * 2, none⟩ = some (.string l[k].1) := ((hbr.cell (p := ⟨b, k * 2, none⟩) (by simp; omega)).trans (World.cell?_alloc_lt _ _ _ hbw)).trans ht.1
      have c2 : wr.cell? ⟨b, k * 2 + 1, none⟩ = some (.int .i64 l[k].2) := ((hbr.cell (p := ⟨b, k * 2 + 1, none⟩) (by simp; omega)).trans (World.cell?_alloc_lt _ _ _ hbw)).trans ht.2
      have c3 : wr.cell? ⟨B, 0, none⟩ = some (.string n) := ((hbr.cell (p := ⟨B, 0, none⟩) (by simp; omega)).trans (World.cell?_alloc_lt _ _ _ hB)).trans hc
      have HD : Hid (lk (l.drop k) n = if (l[k].1 == n) then l[k].2 else lk (l.drop (k + 1)) n) := by
        show _ = _
        rw [List.drop_eq_getElem_cons hlt]; rfl
      obtain ⟨la, HA⟩ : ∃ la, Hid (l[k].1 = la) := ⟨l[k].1, rfl⟩
      obtain ⟨lb, HB⟩ : ∃ lb, Hid (l[k].2 = lb) := ⟨l[k].2, rfl⟩
      rw [unhide HA] at c1 HD
      rw [unhide HB] at c2 HD
      clear ht
      go_wp2_with fail
      refine (isName_any _ _ _ B _ (by rw [World.cell?_alloc_lt _ _ _ (by simp; omega)]; exact c3)).mono ?_
      rintro e w2 ⟨rfl, hb2⟩
      have hs2 := hb2.size
      simp at hs2
      have d0 : w2.cell? ⟨wr.heap.size, 0, none⟩ = some (.string la) := by rw [hb2.cell (p := ⟨wr.heap.size, 0, none⟩) (by simp)]; simp
      have d1 : w2.cell? ⟨wr.heap.size, 1, none⟩ = some (.int .i64 lb) := by rw [hb2.cell (p := ⟨wr.heap.size, 1, none⟩) (by simp)]; simp
      have s0 : w2.cell? ⟨w.heap.size, 0, none⟩ = some (.string ⟨#[]⟩) := by rw [hb2.cell (p := ⟨w.heap.size, 0, none⟩) (by simp; omega), World.cell?_alloc_lt _ _ _ (by simp; omega)]; exact r0
      have s1 : w2.cell? ⟨w.heap.size, 1, none⟩ = some (.int .i64 0) := by rw [hb2.cell (p := ⟨w.heap.size, 1, none⟩) (by simp; omega), World.cell?_alloc_lt _ _ _ (by simp; omega)]; exact r1
      have t0 : w2.frozen? ⟨w.heap.size, 0, none⟩ = false := by exact ((hb2.frozen (p := ⟨w.heap.size, 0, none⟩) (by simp; omega)).trans ((balloc wr _).frozen (p := ⟨w.heap.size, 0, none⟩) (by simp; omega))).trans q0
      have t1 : w2.frozen? ⟨w.heap.size, 1, none⟩ = false := by exact ((hb2.frozen (p := ⟨w.heap.size, 1, none⟩) (by simp; omega)).trans ((balloc wr _).frozen (p := ⟨w.heap.size, 1, none⟩) (by simp; omega))).trans q1
      have HR : Below (w.heap.size + 1) (w.alloc (.cells #[.string ⟨#[]⟩, .int .i64 0] 39)) w2 := (hbr.alloc (by omega) _).trans (hb2.mono (by simp; omega))
      obtain ⟨q, HQ⟩ : ∃ q, Hid ((la == n) = q) := ⟨_, rfl⟩
      rw [unhide HQ] at HD ⊢
      clear c1 c2 c3 r0 r1 q0 q1 hbr hb2
      cases q
      · have HL' : Hid (lk l n = lk (l.drop (k + 1)) n) := by
          show _ = _
          rw [unhide HL, unhide HD]; simp
        go_wp2_with fail
        go_roundw
        case rel => exact ⟨k + 1, by omega, by go_num, HR, HL'⟩
        case measure => simp [intOf]; omega
      · have HL' : Hid (lk l n = lb) := by
          show _ = _
          rw [unhide HL, unhide HD]; simp
        have hzz : w.heap.size < w2.heap.size := by omega
        go_wp2_with fail
        refine bodyPost_ret (v := .agg #[.string la, .int .i64 lb]) (by simp [results, Tryd.results23, go_sem, s0, s1]) rfl ⟨la, by rw [unhide HL'], ?_⟩
        exact ((((Below.refl w.heap.size w).alloc (Nat.le_refl _) _).trans (HR.mono (by omega))).setCell (Nat.le_refl _) _).setCell (Nat.le_refl _) _
    · have ek : k = l.length := by omega
      have HL' : Hid (lk l n = 0) := by
        show _ = _
        rw [unhide HL, ek, List.drop_length]; rfl
      have hzz : w.heap.size < wr.heap.size := by omega
      go_wp2_with fail
      refine bodyPost_ret (v := .agg #[.string ⟨#[]⟩, .int .i64 0]) (by simp [results, Tryd.results23, go_sem, r0, r1]) rfl ⟨⟨#[]⟩, by rw [unhide HL'], ?_⟩
      exact ((((Below.refl w.heap.size w).alloc (Nat.le_refl _) _).trans (hbr.mono (by omega))).setCell (Nat.le_refl _) _).setCell (Nat.le_refl _) _

set_option maxHeartbeats 1000000 in
set_option maxRecDepth 100000 in
theorem first_number (l : List (ByteArray × Int)) (n : Int) (b B cap : Nat) (w : World) (hl : l.length ≤ 100) (ht : Tab w b l) (hbw : b < w.heap.size) (hc : w.cell? ⟨B, 0, none⟩ = some (.int .i64 n)) :
    Calls Tryd.prog 23 #[.slice (some ⟨b, 0, none⟩) l.length cap, .func (Fn.func 27) #[] #[.pointer (some ⟨B, 0, none⟩)]] w fun e w' =>
      ∃ x, e = .returned (.agg #[.string (nm l n), .int .i64 x]) ∧ Below w.heap.size w w' := by
  have hB := World.block_lt_of_cell? w _ hc
  simp only at hB
  have HT := hide ht
  clear ht
  go_enter Tryd.func23, Tryd.ntmps23
  go_wp2_with fail
  go_loopw [9] (fun i wr => ∃ k : Nat, k ≤ l.length ∧ i = .int .i64 k ∧ Below (w.heap.size + 1) (w.alloc (.cells #[.string ⟨#[]⟩, .int .i64 0] 39)) wr ∧ Hid (nm l n = nm (l.drop k) n)) (fun i _ => l.length - (intOf i).toNat)
  case atStart => exact ⟨0, by omega, rfl, Below.refl _ _, rfl⟩
  case round =>
    obtain ⟨k, hk, rfl, hbr, HL⟩ := hrel
    have hsz := hbr.size
    simp at hsz
    have r0 : wr.cell? ⟨w.heap.size, 0, none⟩ = some (.string ⟨#[]⟩) := by rw [hbr.cell (p := ⟨w.heap.size, 0, none⟩) (by simp)]; simp
    have r1 : wr.cell? ⟨w.heap.size, 1, none⟩ = some (.int .i64 0) := by rw [hbr.cell (p := ⟨w.heap.size, 1, none⟩) (by simp)]; simp
    have q0 : wr.frozen? ⟨w.heap.size, 0, none⟩ = false := by rw [hbr.frozen (p := ⟨w.heap.size, 0, none⟩) (by simp)]; simp
    have q1 : wr.frozen? ⟨w.heap.size, 1, none⟩ = false := by rw [hbr.frozen (p := ⟨w.heap.size, 1, none⟩) (by simp)]; simp
    by_cases hlt : k < l.length
    · have ht := (unhide HT) k hlt
      have c1 : wr.cell? ⟨b, k * 2, none⟩ = some (.string l[k].1) := ((hbr.cell (p := ⟨b, k * 2, none⟩) (by simp; omega)).trans (World.cell?_alloc_lt _ _ _ hbw)).trans ht.1
      have c2 : wr.cell? ⟨b, k * 2 + 1, none⟩ = some (.int .i64 l[k].2) := ((hbr.cell (p := ⟨b, k * 2 + 1, none⟩) (by simp; omega)).trans (World.cell?_alloc_lt _ _ _ hbw)).trans ht.2
      have c3 : wr.cell? ⟨B, 0, none⟩ = some (.int .i64 n) := ((hbr.cell (p := ⟨B, 0, none⟩) (by simp; omega)).trans (World.cell?_alloc_lt _ _ _ hB)).trans hc
      have HD : Hid (nm (l.drop k) n = if (l[k].2 == n) then l[k].1 else nm (l.drop (k + 1)) n) := by
        show _ = _
        rw [List.drop_eq_getElem_cons hlt]; rfl
      obtain ⟨la, HA⟩ : ∃ la, Hid (l[k].1 = la) := ⟨l[k].1, rfl⟩
      obtain ⟨lb, HB⟩ : ∃ lb, Hid (l[k].2 = lb) := ⟨l[k].2, rfl⟩
      rw [unhide HA] at c1 HD
      rw [unhide HB] at c2 HD
      clear ht
      go_wp2_with fail
      refine (isNumber_any _ _ _ B _ (by rw [World.cell?_alloc_lt _ _ _ (by simp; omega)]; exact c3)).mono ?_
      rintro e w2 ⟨rfl, hb2⟩
      have hs2 := hb2.size
      simp at hs2
      have d0 : w2.cell? ⟨wr.heap.size, 0, none⟩ = some (.string la) := by rw [hb2.cell (p := ⟨wr.heap.size, 0, none⟩) (by simp)]; simp
      have d1 : w2.cell? ⟨wr.heap.size, 1, none⟩ = some (.int .i64 lb) := by rw [hb2.cell (p := ⟨wr.heap.size, 1, none⟩) (by simp)]; simp
      have s0 : w2.cell? ⟨w.heap.size, 0, none⟩ = some (.string ⟨#[]⟩) := by rw [hb2.cell (p := ⟨w.heap.size, 0, none⟩) (by simp; omega), World.cell?_alloc_lt _ _ _ (by simp; omega)]; exact r0
      have s1 : w2.cell? ⟨w.heap.size, 1, none⟩ = some (.int .i64 0) := by rw [hb2.cell (p := ⟨w.heap.size, 1, none⟩) (by simp; omega), World.cell?_alloc_lt _ _ _ (by simp; omega)]; exact r1
      have t0 : w2.frozen? ⟨w.heap.size, 0, none⟩ = false := by exact ((hb2.frozen (p := ⟨w.heap.size, 0, none⟩) (by simp; omega)).trans ((balloc wr _).frozen (p := ⟨w.heap.size, 0, none⟩) (by simp; omega))).trans q0
      have t1 : w2.frozen? ⟨w.heap.size, 1, none⟩ = false := by exact ((hb2.frozen (p := ⟨w.heap.size, 1, none⟩) (by simp; omega)).trans ((balloc wr _).frozen (p := ⟨w.heap.size, 1, none⟩) (by simp; omega))).trans q1
      have HR : Below (w.heap.size + 1) (w.alloc (.cells #[.string ⟨#[]⟩, .int .i64 0] 39)) w2 := (hbr.alloc (by omega) _).trans (hb2.mono (by simp; omega))
      obtain ⟨q, HQ⟩ : ∃ q, Hid ((lb == n) = q) := ⟨_, rfl⟩
      rw [unhide HQ] at HD ⊢
      clear c1 c2 c3 r0 r1 q0 q1 hbr hb2
      cases q
      · have HL' : Hid (nm l n = nm (l.drop (k + 1)) n) := by
          show _ = _
          rw [unhide HL, unhide HD]; simp
        go_wp2_with fail
        go_roundw
        case rel => exact ⟨k + 1, by omega, by go_num, HR, HL'⟩
        case measure => simp [intOf]; omega
      · have HL' : Hid (nm l n = la) := by
          show _ = _
          rw [unhide HL, unhide HD]; simp
        have hzz : w.heap.size < w2.heap.size := by omega
        go_wp2_with fail
        refine bodyPost_ret (v := .agg #[.string la, .int .i64 lb]) (by simp [results, Tryd.results23, go_sem, s0, s1]) rfl ⟨lb, by rw [unhide HL'], ?_⟩
        exact ((((Below.refl w.heap.size w).alloc (Nat.le_refl _) _).trans (HR.mono (by omega))).setCell (Nat.le_refl _) _).setCell (Nat.le_refl _) _
    · have ek : k = l.length := by omega
      have HL' : Hid (nm l n = ⟨#[]⟩) := by
        show _ = _
        rw [unhide HL, ek, List.drop_length]; rfl
      have hzz : w.heap.size < wr.heap.size := by omega
      go_wp2_with fail
      refine bodyPost_ret (v := .agg #[.string ⟨#[]⟩, .int .i64 0]) (by simp [results, Tryd.results23, go_sem, r0, r1]) rfl ⟨0, by rw [unhide HL'], ?_⟩
      exact ((((Below.refl w.heap.size w).alloc (Nat.le_refl _) _).trans (hbr.mono (by omega))).setCell (Nat.le_refl _) _).setCell (Nat.le_refl _) _

end Go.Proofs.YthhjfedegbldfaaDoor
