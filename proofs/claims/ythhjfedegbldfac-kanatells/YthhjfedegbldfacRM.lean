/- The contract of the reference's DecodeKana where nothing more comes: what a text tells from whatever signs, and how signs are shifted then; nothing that was there is written. -/
import Derived.Test.YthhjfedegbldfacRK
import Derived.Test.YthhjfedegbldfacKC
namespace Go.Proofs.Ythhjfedegbldfac
open Go.RowKit
set_option linter.unusedVariables false

/-- How signs are shifted, in memory. -/
structure Pc (B : Nat) (g : Int) (fr : Bool) (w : World) : Prop where
  c0 : w.cell? ⟨B, 0, none⟩ = some (.int .i64 g)
  c1 : w.cell? ⟨B, 1, none⟩ = some (.bool fr)
  f0 : w.frozen? ⟨B, 0, none⟩ = false
  f1 : w.frozen? ⟨B, 1, none⟩ = false
theorem Pc.lt {B : Nat} {g : Int} {fr : Bool} {w : World} (h : Pc B g fr w) : B < w.heap.size := World.block_lt_of_cell? w _ h.c0
theorem Pc.below {B D : Nat} {g : Int} {fr : Bool} {w w2 : World} (h : Pc B g fr w) (hb : Below D w w2) (hB : B < D) : Pc B g fr w2 where
  c0 := (hb.cell (p := ⟨B, 0, none⟩) hB).trans h.c0
  c1 := (hb.cell (p := ⟨B, 1, none⟩) hB).trans h.c1
  f0 := (hb.frozen (p := ⟨B, 0, none⟩) hB).trans h.f0
  f1 := (hb.frozen (p := ⟨B, 1, none⟩) hB).trans h.f1
theorem Pc.set0 {B : Nat} {g : Int} {fr : Bool} {w : World} (h : Pc B g fr w) (x : Int) : Pc B x fr (w.setCell ⟨B, 0, none⟩ (.int .i64 x)) where
  c0 := World.cell?_setCell_same _ _ _ h.c0
  c1 := (World.cell?_setCell_other _ _ _ _ (by simp)).trans h.c1
  f0 := by rw [World.frozen?_setCell]; exact h.f0
  f1 := by rw [World.frozen?_setCell]; exact h.f1
theorem Pc.set1 {B : Nat} {g : Int} {fr : Bool} {w : World} (h : Pc B g fr w) (x : Bool) : Pc B g x (w.setCell ⟨B, 1, none⟩ (.bool x)) where
  c0 := (World.cell?_setCell_other _ _ _ _ (by simp)).trans h.c0
  c1 := World.cell?_setCell_same _ _ _ h.c1
  f0 := by rw [World.frozen?_setCell]; exact h.f0
  f1 := by rw [World.frozen?_setCell]; exact h.f1
theorem Pc.far {B : Nat} {g : Int} {fr : Bool} {w : World} (h : Pc B g fr w) (p : Addr) (u : Value) (hp : p.block ≠ B) : Pc B g fr (w.setCell p u) where
  c0 := (World.cell?_setCell_other _ _ _ _ (by intro e; rw [e] at hp; exact hp rfl)).trans h.c0
  c1 := (World.cell?_setCell_other _ _ _ _ (by intro e; rw [e] at hp; exact hp rfl)).trans h.c1
  f0 := by rw [World.frozen?_setCell]; exact h.f0
  f1 := by rw [World.frozen?_setCell]; exact h.f1
/-- What a round of DecodeKana's loop knows. -/
def InK (g0 : Int) (fr0 : Bool) (s : ByteArray) (w wr : World) (k : Nat) (v : Value) : Prop :=
  ∃ xs g fr, wr.ownsRow (w.heap.size + 2) 3 1 v xs.length (xs.map (Value.int .i64)) ∧ Pc w.heap.size g fr wr ∧ Pc (w.heap.size + 1) 0 false wr ∧ Below w.heap.size w wr ∧ M.Sg g ∧ xs.length ≤ k ∧
    M.Tot M.gk (g0, fr0) (bl s) = (xs ++ (M.Tot M.gk (g, fr) ((bl s).drop k)).1, (M.Tot M.gk (g, fr) ((bl s).drop k)).2)
/-- The round's end. -/
theorem InK.step {g0 : Int} {fr0 : Bool} {s : ByteArray} {w w2 : World} {k z : Nat} {xs o : List Int} {g g' : Int} {fr fr' : Bool} {v2 : Value} (hk : k < s.size)
    (hE : M.Tot M.gk (g0, fr0) (bl s) = (xs ++ (M.Tot M.gk (g, fr) ((bl s).drop k)).1, (M.Tot M.gk (g, fr) ((bl s).drop k)).2)) (hx : xs.length ≤ k) (hg : M.Sg g) (hq : M.gk (g, fr) ((bl s).drop k) = (o, z, (g', fr')))
    (ho : w2.ownsRow (w.heap.size + 2) 3 1 v2 (xs ++ o).length ((xs ++ o).map (Value.int .i64))) (hp : Pc w.heap.size g' fr' w2) (hr : Pc (w.heap.size + 1) 0 false w2) (hb : Below w.heap.size w w2) : InK g0 fr0 s w w2 (k + z) v2 := by
  have hne : (bl s).drop k ≠ [] := fun e => by have := congrArg List.length e; simp [bl_len] at this; omega
  have hst := M.Tot_step M.gk_size hne hq
  have hfew := gk_few (g, fr) ((bl s).drop k)
  have hsg := gk_sg (fr := fr) ((bl s).drop k) hg
  rw [hq] at hfew hsg
  refine ⟨xs ++ o, g', fr', ho, hp, hr, hb, hsg, by simp at hfew; simp; omega, ?_⟩
  rw [hE, hst, List.drop_drop]
  simp [List.append_assoc]
theorem gk_none {g : Int} {fr : Bool} {l : List Int} {c : Int} (h : M.kesc l = none) (hc : l.headD 0 = c) : M.gk (g, fr) l = ([M.kpt g c], 1, (g, false)) := by unfold M.gk; rw [h, hc]
theorem gk_some {g g' : Int} {fr : Bool} {l : List Int} (h : M.kesc l = some g') : M.gk (g, fr) l = (M.bads fr, 3, (g', true)) := by unfold M.gk; rw [h]
theorem kesc_at (u : ByteArray) (h3 : 3 ≤ u.size) (h0 : (bl u).headD 0 = 27) {b d : Int} (hb : ((u[1]'(by omega)).toNat : Int) = b) (hd : ((u[2]'(by omega)).toNat : Int) = d) : M.kesc (bl u) = if b = 40 then (if fin3 d = -1 then none else some (fin3 d)) else none := by
  have e0 : ((u[0]'(by omega)).toNat : Int) = 27 := by rw [bl_0 u (by omega)] at h0; exact h0
  rw [kesc_three u h3, hd]
  by_cases h : b = 40
  · rw [if_pos h, if_pos (by omega)]
  · rw [if_neg h, if_neg (by omega)]
theorem kpt_27 (g : Int) : M.kpt g 27 = 65533 := by unfold M.kpt; rw [if_pos rfl]

set_option maxHeartbeats 2000000 in
set_option maxRecDepth 100000 in
theorem decodeKana_last (g0 : Int) (fr0 : Bool) (s : ByteArray) (w : World) (hg0 : M.Sg g0) (hs : s.size ≤ 3003) :
    Calls Try.prog 44 #[.agg #[.int .i64 g0, .bool fr0], .string s, .bool true] w fun e w' => ∃ v, e = .returned (.tuple #[v, .agg #[.int .i64 (M.Tot M.gk (g0, fr0) (bl s)).2.1, .bool (M.Tot M.gk (g0, fr0) (bl s)).2.2], .string ⟨#[]⟩]) ∧ w'.ownsRow w.heap.size 3 1 v (M.Tot M.gk (g0, fr0) (bl s)).1.length ((M.Tot M.gk (g0, fr0) (bl s)).1.map (Value.int .i64)) ∧ Below w.heap.size w w' := by
  go_enter Try.func44, Try.ntmps44
  go_wp2_with fail
  generalize hW : (w.alloc (Obj.cells #[Value.int IntKind.i64 g0, Value.bool fr0] 73)).alloc (Obj.cells #[Value.int IntKind.i64 0, Value.bool false] 73) = W
  have HI : Hid (InK g0 fr0 s w W 0 (.slice none 0 0)) := hide ⟨[], g0, fr0, World.ownsRow_nil _ _ _ _, by subst hW; constructor <;> simp [go_sem], by subst hW; constructor <;> simp [go_sem], by subst hW; exact bstep (balloc _ _) (balloc _ _), hg0, Nat.le_refl _, rfl⟩
  clear hW
  go_loopw [9, 10] (fun v i wr => ∃ k : Nat, k ≤ s.size ∧ i = .int .i64 k ∧ InK g0 fr0 s w wr k v) (fun _ i _ => s.size - (intOf i).toNat)
  case atStart => exact ⟨0, by omega, rfl, unhide HI⟩
  case round =>
    obtain ⟨k, hk, rfl, xs, g, fr, ho, hP, hR, hB, hg, hxk, hE⟩ := hrel
    clear HI
    have HO := hide ho
    have HP := hide hP
    have HR := hide hR
    have HB := hide hB
    have HE := hide hE
    have HX := hide hxk
    have hxs : xs.length ≤ 3003 := by omega
    obtain ⟨av, cv, hsv⟩ := owns_shape ho
    subst hsv
    have hl1 := hR.lt
    have hl0 := hP.lt
    obtain ⟨p0, p1, q0, q1⟩ := hP
    clear ho hB hE hxk
    by_cases hks : k < s.size
    · clear hR
      obtain ⟨c, hc⟩ : ∃ c : Int, (s[k].toNat : Int) = c := ⟨_, rfl⟩
      have hc0 : 0 ≤ c := by omega
      have hc1 : c < 256 := by have := s[k].toNat_lt; omega
      have hk0 : (0 : Int) ≤ (k : Int) := by omega
      have hk1 : (k : Int) < (s.size : Int) := by omega
      have hhd : ((bl s).drop k).headD 0 = c := by rw [bl_drop s k hks, ← hc]; rfl
      by_cases h27 : c = 27
      · obtain ⟨u, hu⟩ : ∃ u, s.extract k s.size = u := ⟨_, rfl⟩
        have hbu : bl u = (bl s).drop k := by rw [← hu, bl_extract]
        have husz : u.size = s.size - k := by rw [← hu]; simp
        rw [h27] at hhd
        have HST : Hid (∀ o z g' fr' w2 v2, M.gk (g, fr) ((bl s).drop k) = (o, z, (g', fr')) → w2.ownsRow (w.heap.size + 2) 3 1 v2 (xs ++ o).length ((xs ++ o).map (Value.int .i64)) → Pc w.heap.size g' fr' w2 → Pc (w.heap.size + 1) 0 false w2 → Below w.heap.size w w2 → InK g0 fr0 s w w2 (k + z) v2) := hide (fun o z g' fr' w2 v2 a1 a2 a3 a4 a5 => InK.step hks (unhide HE) (unhide HX) hg a1 a2 a3 a4 a5)
        have e27 : (c != 27) = false := by rw [h27]; rfl
        have hz2 : w.heap.size + 2 ≤ wr.heap.size := by omega
        have hu0 : (bl u).headD 0 = 27 := by rw [hbu]; exact hhd
        by_cases h3 : u.size < 3
        · have hkn := kesc_short u h3
          have hlu : (u.size : Int) < 3 := by omega
          have HG : Hid (M.gk (g, fr) ((bl s).drop k) = ([65533], 1, (g, false))) := hide (by have := gk_none (g := g) (fr := fr) (hbu ▸ hkn) hhd; rwa [kpt_27] at this)
          clear hkn hhd hbu
          go_wp2_with (at_builtin; refine append_ints rfl (.tmp 68) (.tmp 69) rfl (w.heap.size + 2) _ xs rfl (owns_a (unhide HO) _) _ [65533] rfl (one_int _ _) (by simp; omega) (by simp; omega) ?_)
          intro v2 w2 ho2 hb2
          obtain ⟨ao2, cap2, hsh2⟩ := owns_shape ho2
          subst hsh2
          have HO2 := hide ho2
          have hb3 := ((Below.refl (w.heap.size + 2) wr).alloc hz2 (.cells #[.int .i64 65533] 3)).trans hb2
          have HP2 := hide ((unhide HP).below hb3 (by omega))
          have HR2 := hide ((unhide HR).below hb3 (by omega))
          have HB2 := hide ((unhide HB).trans (hb3.mono (by omega)))
          obtain ⟨a0, a1, b0, b1⟩ := unhide HP2
          have hl2 := (unhide HP2).lt
          clear ho2 hb2 hb3
          go_wp2_with fail
          go_roundw
          case rel => exact ⟨k + 1, by omega, by go_num, unhide HST _ _ _ _ _ _ (unhide HG) (by simpa using owns_set (unhide HO2) ⟨w.heap.size, 1, none⟩ (by simp) _) ((unhide HP2).set1 false) ((unhide HR2).far _ _ (by simp)) (bset (unhide HB2) ⟨w.heap.size, 1, none⟩ _ (Nat.le_refl _))⟩
          case measure => simp [intOf]; omega
        · have h3' : 3 ≤ u.size := by omega
          have hlu : (3 : Int) ≤ (u.size : Int) := by omega
          have husz' : k + 3 ≤ s.size := by omega
          obtain ⟨b, hb⟩ : ∃ b : Int, ((u[1]'(by omega)).toNat : Int) = b := ⟨_, rfl⟩
          obtain ⟨d, hd⟩ : ∃ d : Int, ((u[2]'(by omega)).toNat : Int) = d := ⟨_, rfl⟩
          have hka := kesc_at u h3' hu0 hb hd
          have hb0 : 0 ≤ b := by omega
          have hb1 : b < 256 := by have := (u[1]'(by omega)).toNat_lt; omega
          have hd0 : 0 ≤ d := by omega
          have hd1 : d < 256 := by have := (u[2]'(by omega)).toNat_lt; omega
          by_cases hb40 : b = 40
          · rw [if_pos hb40] at hka
            have eb : (b == 40) = true := by simpa using hb40
            obtain hd66 | hd74 | hd73 | hdn : d = 66 ∨ d = 74 ∨ d = 73 ∨ (d ≠ 66 ∧ d ≠ 74 ∧ d ≠ 73) := by omega
            · have hkn : M.kesc (bl u) = some 0 := by rw [hka, hd66]; rfl
              clear hka
              have HG : Hid (M.gk (g, fr) ((bl s).drop k) = (M.bads fr, 3, (0, true))) := hide (gk_some (g := g) (fr := fr) (hbu ▸ hkn))
              clear hkn hhd hbu
              cases fr
              · go_wp2_with fail
                go_roundw
                case rel => exact ⟨k + 3, by omega, by go_num, unhide HST _ _ _ _ _ _ (unhide HG) (by simpa [M.bads] using owns_set (owns_set (unhide HO) ⟨w.heap.size, 0, none⟩ (by simp) _) ⟨w.heap.size, 1, none⟩ (by simp) _) (((unhide HP).set0 0).set1 true) (((unhide HR).far _ _ (by simp)).far _ _ (by simp)) (bset (bset (unhide HB) ⟨w.heap.size, 0, none⟩ _ (Nat.le_refl _)) ⟨w.heap.size, 1, none⟩ _ (Nat.le_refl _))⟩
                case measure => simp [intOf]; omega
              · go_wp2_with (at_builtin; refine append_ints rfl (.tmp 76) (.tmp 77) rfl (w.heap.size + 2) _ xs rfl (owns_a (unhide HO) _) _ [65533] rfl (one_int _ _) (by simp; omega) (by simp; omega) ?_)
                intro v2 w2 ho2 hb2
                obtain ⟨ao2, cap2, hsh2⟩ := owns_shape ho2
                subst hsh2
                have HO2 := hide ho2
                have hb3 := ((Below.refl (w.heap.size + 2) wr).alloc hz2 (.cells #[.int .i64 65533] 3)).trans hb2
                have HP2 := hide ((unhide HP).below hb3 (by omega))
                have HR2 := hide ((unhide HR).below hb3 (by omega))
                have HB2 := hide ((unhide HB).trans (hb3.mono (by omega)))
                obtain ⟨a0, a1, b0, b1⟩ := unhide HP2
                have hl2 := (unhide HP2).lt
                clear ho2 hb2 hb3
                go_wp2_with fail
                go_roundw
                case rel => exact ⟨k + 3, by omega, by go_num, unhide HST _ _ _ _ _ _ (unhide HG) (by simpa [M.bads] using owns_set (owns_set (unhide HO2) ⟨w.heap.size, 0, none⟩ (by simp) _) ⟨w.heap.size, 1, none⟩ (by simp) _) (((unhide HP2).set0 0).set1 true) (((unhide HR2).far _ _ (by simp)).far _ _ (by simp)) (bset (bset (unhide HB2) ⟨w.heap.size, 0, none⟩ _ (Nat.le_refl _)) ⟨w.heap.size, 1, none⟩ _ (Nat.le_refl _))⟩
                case measure => simp [intOf]; omega
            · have hkn : M.kesc (bl u) = some 1 := by rw [hka, hd74]; rfl
              clear hka
              have HG : Hid (M.gk (g, fr) ((bl s).drop k) = (M.bads fr, 3, (1, true))) := hide (gk_some (g := g) (fr := fr) (hbu ▸ hkn))
              clear hkn hhd hbu
              cases fr
              · go_wp2_with fail
                go_roundw
                case rel => exact ⟨k + 3, by omega, by go_num, unhide HST _ _ _ _ _ _ (unhide HG) (by simpa [M.bads] using owns_set (owns_set (unhide HO) ⟨w.heap.size, 0, none⟩ (by simp) _) ⟨w.heap.size, 1, none⟩ (by simp) _) (((unhide HP).set0 1).set1 true) (((unhide HR).far _ _ (by simp)).far _ _ (by simp)) (bset (bset (unhide HB) ⟨w.heap.size, 0, none⟩ _ (Nat.le_refl _)) ⟨w.heap.size, 1, none⟩ _ (Nat.le_refl _))⟩
                case measure => simp [intOf]; omega
              · go_wp2_with (at_builtin; refine append_ints rfl (.tmp 76) (.tmp 77) rfl (w.heap.size + 2) _ xs rfl (owns_a (unhide HO) _) _ [65533] rfl (one_int _ _) (by simp; omega) (by simp; omega) ?_)
                intro v2 w2 ho2 hb2
                obtain ⟨ao2, cap2, hsh2⟩ := owns_shape ho2
                subst hsh2
                have HO2 := hide ho2
                have hb3 := ((Below.refl (w.heap.size + 2) wr).alloc hz2 (.cells #[.int .i64 65533] 3)).trans hb2
                have HP2 := hide ((unhide HP).below hb3 (by omega))
                have HR2 := hide ((unhide HR).below hb3 (by omega))
                have HB2 := hide ((unhide HB).trans (hb3.mono (by omega)))
                obtain ⟨a0, a1, b0, b1⟩ := unhide HP2
                have hl2 := (unhide HP2).lt
                clear ho2 hb2 hb3
                go_wp2_with fail
                go_roundw
                case rel => exact ⟨k + 3, by omega, by go_num, unhide HST _ _ _ _ _ _ (unhide HG) (by simpa [M.bads] using owns_set (owns_set (unhide HO2) ⟨w.heap.size, 0, none⟩ (by simp) _) ⟨w.heap.size, 1, none⟩ (by simp) _) (((unhide HP2).set0 1).set1 true) (((unhide HR2).far _ _ (by simp)).far _ _ (by simp)) (bset (bset (unhide HB2) ⟨w.heap.size, 0, none⟩ _ (Nat.le_refl _)) ⟨w.heap.size, 1, none⟩ _ (Nat.le_refl _))⟩
                case measure => simp [intOf]; omega
            · have hkn : M.kesc (bl u) = some 2 := by rw [hka, hd73]; rfl
              clear hka
              have HG : Hid (M.gk (g, fr) ((bl s).drop k) = (M.bads fr, 3, (2, true))) := hide (gk_some (g := g) (fr := fr) (hbu ▸ hkn))
              clear hkn hhd hbu
              cases fr
              · go_wp2_with fail
                go_roundw
                case rel => exact ⟨k + 3, by omega, by go_num, unhide HST _ _ _ _ _ _ (unhide HG) (by simpa [M.bads] using owns_set (owns_set (unhide HO) ⟨w.heap.size, 0, none⟩ (by simp) _) ⟨w.heap.size, 1, none⟩ (by simp) _) (((unhide HP).set0 2).set1 true) (((unhide HR).far _ _ (by simp)).far _ _ (by simp)) (bset (bset (unhide HB) ⟨w.heap.size, 0, none⟩ _ (Nat.le_refl _)) ⟨w.heap.size, 1, none⟩ _ (Nat.le_refl _))⟩
                case measure => simp [intOf]; omega
              · go_wp2_with (at_builtin; refine append_ints rfl (.tmp 76) (.tmp 77) rfl (w.heap.size + 2) _ xs rfl (owns_a (unhide HO) _) _ [65533] rfl (one_int _ _) (by simp; omega) (by simp; omega) ?_)
                intro v2 w2 ho2 hb2
                obtain ⟨ao2, cap2, hsh2⟩ := owns_shape ho2
                subst hsh2
                have HO2 := hide ho2
                have hb3 := ((Below.refl (w.heap.size + 2) wr).alloc hz2 (.cells #[.int .i64 65533] 3)).trans hb2
                have HP2 := hide ((unhide HP).below hb3 (by omega))
                have HR2 := hide ((unhide HR).below hb3 (by omega))
                have HB2 := hide ((unhide HB).trans (hb3.mono (by omega)))
                obtain ⟨a0, a1, b0, b1⟩ := unhide HP2
                have hl2 := (unhide HP2).lt
                clear ho2 hb2 hb3
                go_wp2_with fail
                go_roundw
                case rel => exact ⟨k + 3, by omega, by go_num, unhide HST _ _ _ _ _ _ (unhide HG) (by simpa [M.bads] using owns_set (owns_set (unhide HO2) ⟨w.heap.size, 0, none⟩ (by simp) _) ⟨w.heap.size, 1, none⟩ (by simp) _) (((unhide HP2).set0 2).set1 true) (((unhide HR2).far _ _ (by simp)).far _ _ (by simp)) (bset (bset (unhide HB2) ⟨w.heap.size, 0, none⟩ _ (Nat.le_refl _)) ⟨w.heap.size, 1, none⟩ _ (Nat.le_refl _))⟩
                case measure => simp [intOf]; omega
            · have hf : fin3 d = -1 := by unfold fin3; rw [if_neg hdn.1, if_neg hdn.2.1, if_neg hdn.2.2]
              have hkn : M.kesc (bl u) = none := by rw [hka, hf]; rfl
              have ed1 : (d == 66) = false := by simpa using hdn.1
              have ed2 : (d == 74) = false := by simpa using hdn.2.1
              have ed3 : (d == 73) = false := by simpa using hdn.2.2
              clear hka hf hdn
              have HG : Hid (M.gk (g, fr) ((bl s).drop k) = ([65533], 1, (g, false))) := hide (by have := gk_none (g := g) (fr := fr) (hbu ▸ hkn) hhd; rwa [kpt_27] at this)
              clear hkn hhd hbu
              go_wp2_with (at_builtin; refine append_ints rfl (.tmp 68) (.tmp 69) rfl (w.heap.size + 2) _ xs rfl (owns_a (unhide HO) _) _ [65533] rfl (one_int _ _) (by simp; omega) (by simp; omega) ?_)
              intro v2 w2 ho2 hb2
              obtain ⟨ao2, cap2, hsh2⟩ := owns_shape ho2
              subst hsh2
              have HO2 := hide ho2
              have hb3 := ((Below.refl (w.heap.size + 2) wr).alloc hz2 (.cells #[.int .i64 65533] 3)).trans hb2
              have HP2 := hide ((unhide HP).below hb3 (by omega))
              have HR2 := hide ((unhide HR).below hb3 (by omega))
              have HB2 := hide ((unhide HB).trans (hb3.mono (by omega)))
              obtain ⟨a0, a1, b0, b1⟩ := unhide HP2
              have hl2 := (unhide HP2).lt
              clear ho2 hb2 hb3
              go_wp2_with fail
              go_roundw
              case rel => exact ⟨k + 1, by omega, by go_num, unhide HST _ _ _ _ _ _ (unhide HG) (by simpa using owns_set (unhide HO2) ⟨w.heap.size, 1, none⟩ (by simp) _) ((unhide HP2).set1 false) ((unhide HR2).far _ _ (by simp)) (bset (unhide HB2) ⟨w.heap.size, 1, none⟩ _ (Nat.le_refl _))⟩
              case measure => simp [intOf]; omega
          · rw [if_neg hb40] at hka
            have hkn := hka
            have eb : (b == 40) = false := by simpa using hb40
            clear hka
            have HG : Hid (M.gk (g, fr) ((bl s).drop k) = ([65533], 1, (g, false))) := hide (by have := gk_none (g := g) (fr := fr) (hbu ▸ hkn) hhd; rwa [kpt_27] at this)
            clear hkn hhd hbu
            go_wp2_with (at_builtin; refine append_ints rfl (.tmp 68) (.tmp 69) rfl (w.heap.size + 2) _ xs rfl (owns_a (unhide HO) _) _ [65533] rfl (one_int _ _) (by simp; omega) (by simp; omega) ?_)
            intro v2 w2 ho2 hb2
            obtain ⟨ao2, cap2, hsh2⟩ := owns_shape ho2
            subst hsh2
            have HO2 := hide ho2
            have hb3 := ((Below.refl (w.heap.size + 2) wr).alloc hz2 (.cells #[.int .i64 65533] 3)).trans hb2
            have HP2 := hide ((unhide HP).below hb3 (by omega))
            have HR2 := hide ((unhide HR).below hb3 (by omega))
            have HB2 := hide ((unhide HB).trans (hb3.mono (by omega)))
            obtain ⟨a0, a1, b0, b1⟩ := unhide HP2
            have hl2 := (unhide HP2).lt
            clear ho2 hb2 hb3
            go_wp2_with fail
            go_roundw
            case rel => exact ⟨k + 1, by omega, by go_num, unhide HST _ _ _ _ _ _ (unhide HG) (by simpa using owns_set (unhide HO2) ⟨w.heap.size, 1, none⟩ (by simp) _) ((unhide HP2).set1 false) ((unhide HR2).far _ _ (by simp)) (bset (unhide HB2) ⟨w.heap.size, 1, none⟩ _ (Nat.le_refl _))⟩
            case measure => simp [intOf]; omega
      · have hn : M.kesc ((bl s).drop k) = none := by
          rw [bl_drop s k hks, hc]
          match hd : (bl s).drop (k + 1) with
          | [] => rfl
          | [_] => rfl
          | a :: b :: t => simp [M.kesc, h27]
        have HG := hide (gk_none (g := g) (fr := fr) hn hhd)
        have hkp : M.kpt g c = M.ksn g c := by unfold M.kpt; rw [if_neg h27]
        rw [hkp] at HG
        have hsg := fun w => kanaSign_any g c hg hc0 hc1 w
        obtain ⟨p, hp⟩ : ∃ p, M.ksn g c = p := ⟨_, rfl⟩
        rw [hp] at hsg HG
        have e27 : (c != 27) = true := by simpa using h27
        have hwc : IntKind.i64.wrap c = c := by rw [IntKind.wrap_i64]; omega
        have hz2 : w.heap.size + 2 ≤ wr.heap.size := by omega
        clear hn hkp hp hhd
        go_wp2_with fail
        go_region_law ((first
          | (refine step_append_ints (by rfl) _ _ (by rfl) (w.heap.size + 2) _ xs (by rfl) (((unhide HO).alloc _).drew) _ [p] (by rfl) ((one_int _ _).drew) (by simp; omega) (by simp; omega) ?_; intro ao2 cap2 w2 ho2 hb2; have HO2 := hide ho2; have hb3 := (below_drewN ((Below.refl (w.heap.size + 2) wr).alloc hz2 (.cells #[.int .i64 p] 3)) 1).trans hb2; have HP2 := hide ((unhide HP).below hb3 (by omega)); have HR2 := hide ((unhide HR).below hb3 (by omega)); have HB2 := hide ((unhide HB).trans (hb3.mono (by omega))); obtain ⟨a0, a1, b0, b1⟩ := unhide HP2; have hl2 := (unhide HP2).lt; clear ho2 hb2 hb3)
          | (go_simp; go_at_call 49; refine (hsg _).mono ?_; rintro e w1 ⟨rfl, hw⟩; replace hw := hw.symm; subst hw)))
        all_goals
          go_wp2_with fail
          go_roundw
          case rel => exact ⟨k + 1, by omega, by go_num, InK.step hks (unhide HE) (unhide HX) hg (unhide HG) (by simpa using owns_set (unhide HO2) ⟨w.heap.size, 1, none⟩ (by simp) _) ((unhide HP2).set1 false) ((unhide HR2).far _ _ (by simp)) (bset (unhide HB2) ⟨w.heap.size, 1, none⟩ _ (Nat.le_refl _))⟩
          case measure => simp [intOf]; omega
    · have ek : (bl s).drop k = [] := List.drop_of_length_le (by rw [bl_len]; omega)
      rw [ek, M.Tot_nil, List.append_nil] at HE
      obtain ⟨b0, b1, g0', g1'⟩ := hR
      clear ek
      go_wp2_with fail
      go_region
      all_goals
        go_wp2_with fail
        refine bodyPost_ret (v := .tuple #[.slice av xs.length cv, .agg #[.int .i64 g, .bool fr], .string ⟨#[]⟩]) (by simp [results, Try.results44, go_sem, b0, b1]) rfl ?_
        refine ⟨.slice av xs.length cv, ?_, ?_, ?_⟩
        · rw [unhide HE]
        · rw [unhide HE]
          exact owns_below (owns_mono (owns_set (owns_set (unhide HO) ⟨w.heap.size + 1, 0, none⟩ (by simp) _) ⟨w.heap.size + 1, 1, none⟩ (by simp) _) (by omega)) (below_drewN (Below.refl _ _) 1)
        · exact below_drewN (bset (bset (unhide HB) ⟨w.heap.size + 1, 0, none⟩ _ (by simp)) ⟨w.heap.size + 1, 1, none⟩ _ (by simp)) 1
end Go.Proofs.Ythhjfedegbldfac
