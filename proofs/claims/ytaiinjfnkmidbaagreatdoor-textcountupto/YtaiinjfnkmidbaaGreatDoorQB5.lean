/- Laws that the statements of this seat lean on, part 5 (RN RW MathF E8 R8 R16 RS): each a contract of a function, or a plain fact; conditions stand at each. -/
import Derived.Test.YtaiinjfnkmidbaaGreatDoorQB4
namespace Go.Proofs.YtaiinjfnkmidbaaGreatDoor
open Go.RowKit
set_option linter.unusedVariables false

theorem b_drew {B : Nat} {a w : World} (h : Below B a w) : Below B a w.drew := below_drewN h 1
theorem o_drew {w : World} {base e size n : Nat} {v : Value} {xs : List Value} (h : w.ownsRow base e size v n xs) : w.drew.ownsRow base e size v n xs := owns_below h (below_drewN (Below.refl _ _) 1)

theorem Sc.far {B : Nat} {e : Int} {r : ByteArray} {t : M.St} {w : World} (h : Sc B e r t w) (p : Addr) (u : Value) (hp : p.block ≠ B) : Sc B e r t (w.setCell p u) where
  c0 := (World.cell?_setCell_other _ _ _ _ (by intro e; rw [e] at hp; exact hp rfl)).trans h.c0
  c1 := (World.cell?_setCell_other _ _ _ _ (by intro e; rw [e] at hp; exact hp rfl)).trans h.c1
  c2 := (World.cell?_setCell_other _ _ _ _ (by intro e; rw [e] at hp; exact hp rfl)).trans h.c2
  c3 := (World.cell?_setCell_other _ _ _ _ (by intro e; rw [e] at hp; exact hp rfl)).trans h.c3
  c4 := (World.cell?_setCell_other _ _ _ _ (by intro e; rw [e] at hp; exact hp rfl)).trans h.c4
  f0 := by rw [World.frozen?_setCell]; exact h.f0
  f1 := by rw [World.frozen?_setCell]; exact h.f1
  f2 := by rw [World.frozen?_setCell]; exact h.f2
  f3 := by rw [World.frozen?_setCell]; exact h.f3
  f4 := by rw [World.frozen?_setCell]; exact h.f4
theorem Rc.far {B : Nat} {w : World} (h : Rc B w) (p : Addr) (u : Value) (hp : p.block ≠ B) : Rc B (w.setCell p u) where
  b0 := (World.cell?_setCell_other _ _ _ _ (by intro e; rw [e] at hp; exact hp rfl)).trans h.b0
  b1 := (World.cell?_setCell_other _ _ _ _ (by intro e; rw [e] at hp; exact hp rfl)).trans h.b1
  b2 := (World.cell?_setCell_other _ _ _ _ (by intro e; rw [e] at hp; exact hp rfl)).trans h.b2
  b3 := (World.cell?_setCell_other _ _ _ _ (by intro e; rw [e] at hp; exact hp rfl)).trans h.b3
  b4 := (World.cell?_setCell_other _ _ _ _ (by intro e; rw [e] at hp; exact hp rfl)).trans h.b4
  g0 := by rw [World.frozen?_setCell]; exact h.g0
  g1 := by rw [World.frozen?_setCell]; exact h.g1
  g2 := by rw [World.frozen?_setCell]; exact h.g2
  g3 := by rw [World.frozen?_setCell]; exact h.g3
  g4 := by rw [World.frozen?_setCell]; exact h.g4
theorem Sc.set1 {B : Nat} {e : Int} {r : ByteArray} {t : M.St} {w : World} (h : Sc B e r t w) (x : ByteArray) : Sc B e x t (w.setCell ⟨B, 1, none⟩ (.string x)) where
  c0 := (World.cell?_setCell_other _ _ _ _ (by simp)).trans h.c0
  c1 := World.cell?_setCell_same _ _ _ h.c1
  c2 := (World.cell?_setCell_other _ _ _ _ (by simp)).trans h.c2
  c3 := (World.cell?_setCell_other _ _ _ _ (by simp)).trans h.c3
  c4 := (World.cell?_setCell_other _ _ _ _ (by simp)).trans h.c4
  f0 := by rw [World.frozen?_setCell]; exact h.f0
  f1 := by rw [World.frozen?_setCell]; exact h.f1
  f2 := by rw [World.frozen?_setCell]; exact h.f2
  f3 := by rw [World.frozen?_setCell]; exact h.f3
  f4 := by rw [World.frozen?_setCell]; exact h.f4
theorem Sc.set2 {B : Nat} {e : Int} {r : ByteArray} {t : M.St} {w : World} (h : Sc B e r t w) (x : Int) : Sc B e r (x, t.2.1, t.2.2) (w.setCell ⟨B, 2, none⟩ (.int .i64 x)) where
  c0 := (World.cell?_setCell_other _ _ _ _ (by simp)).trans h.c0
  c1 := (World.cell?_setCell_other _ _ _ _ (by simp)).trans h.c1
  c2 := World.cell?_setCell_same _ _ _ h.c2
  c3 := (World.cell?_setCell_other _ _ _ _ (by simp)).trans h.c3
  c4 := (World.cell?_setCell_other _ _ _ _ (by simp)).trans h.c4
  f0 := by rw [World.frozen?_setCell]; exact h.f0
  f1 := by rw [World.frozen?_setCell]; exact h.f1
  f2 := by rw [World.frozen?_setCell]; exact h.f2
  f3 := by rw [World.frozen?_setCell]; exact h.f3
  f4 := by rw [World.frozen?_setCell]; exact h.f4
theorem Sc.set3 {B : Nat} {e : Int} {r : ByteArray} {t : M.St} {w : World} (h : Sc B e r t w) (x : Bool) : Sc B e r (t.1, x, t.2.2) (w.setCell ⟨B, 3, none⟩ (.bool x)) where
  c0 := (World.cell?_setCell_other _ _ _ _ (by simp)).trans h.c0
  c1 := (World.cell?_setCell_other _ _ _ _ (by simp)).trans h.c1
  c2 := (World.cell?_setCell_other _ _ _ _ (by simp)).trans h.c2
  c3 := World.cell?_setCell_same _ _ _ h.c3
  c4 := (World.cell?_setCell_other _ _ _ _ (by simp)).trans h.c4
  f0 := by rw [World.frozen?_setCell]; exact h.f0
  f1 := by rw [World.frozen?_setCell]; exact h.f1
  f2 := by rw [World.frozen?_setCell]; exact h.f2
  f3 := by rw [World.frozen?_setCell]; exact h.f3
  f4 := by rw [World.frozen?_setCell]; exact h.f4
theorem Sc.drew {B : Nat} {e : Int} {r : ByteArray} {t : M.St} {w : World} (h : Sc B e r t w) : Sc B e r t w.drew := h.below (below_drewN (Below.refl w.heap.size w) 1) h.lt
theorem Rc.drew {B : Nat} {w : World} (h : Rc B w) : Rc B w.drew := h.below (below_drewN (Below.refl w.heap.size w) 1) (World.block_lt_of_cell? w _ h.b0)

end Go.Proofs.YtaiinjfnkmidbaaGreatDoor

namespace Go.Proofs.YtaiinjfnkmidbaaGreatDoor
open Go.RowKit
set_option linter.unusedVariables false

theorem fk_gk {h h' : Int × Bool} {l o : List Int} {z : Nat} (h0 : l ≠ []) (h1 : l ≠ [27]) (h2 : l ≠ [27, 40]) (hq : M.gk h l = (o, z, h')) : M.fk h l = some (o, z, h') := by
  cases hf : M.fk h l with
  | none => rcases M.fk_waits hf with e | e | e
            · exact absurd e h0
            · exact absurd e h1
            · exact absurd e h2
  | some r =>
    obtain ⟨o2, k2, s2⟩ := r
    rw [← (M.gk_all h l o2 k2 s2 hf).1, hq]
theorem fk_one (h : Int × Bool) : M.fk h [27] = none := by simp [M.fk]
theorem fk_two (h : Int × Bool) : M.fk h [27, 40] = none := by simp [M.fk]
/-- What a round of DecodeKana's loop knows. -/
def InQ (g0 : Int) (fr0 : Bool) (s : ByteArray) (w wr : World) (k : Nat) (v : Value) : Prop :=
  ∃ xs g fr, wr.ownsRow (w.heap.size + 2) 3 1 v xs.length (xs.map (Value.int .i64)) ∧ Pc w.heap.size g fr wr ∧ Pc (w.heap.size + 1) 0 false wr ∧ Below w.heap.size w wr ∧ M.Sg g ∧ xs.length ≤ k ∧
    M.Run M.fk (g0, fr0) (bl s) = (xs ++ (M.Run M.fk (g, fr) ((bl s).drop k)).1, (M.Run M.fk (g, fr) ((bl s).drop k)).2)
/-- The round's end. -/
theorem InQ.step {g0 : Int} {fr0 : Bool} {s : ByteArray} {w w2 : World} {k z : Nat} {xs o : List Int} {g g' : Int} {fr fr' : Bool} {v2 : Value} (hk : k < s.size)
    (hE : M.Run M.fk (g0, fr0) (bl s) = (xs ++ (M.Run M.fk (g, fr) ((bl s).drop k)).1, (M.Run M.fk (g, fr) ((bl s).drop k)).2)) (hx : xs.length ≤ k) (hg : M.Sg g) (hq : M.fk (g, fr) ((bl s).drop k) = some (o, z, (g', fr')))
    (ho : w2.ownsRow (w.heap.size + 2) 3 1 v2 (xs ++ o).length ((xs ++ o).map (Value.int .i64))) (hp : Pc w.heap.size g' fr' w2) (hr : Pc (w.heap.size + 1) 0 false w2) (hb : Below w.heap.size w w2) : InQ g0 fr0 s w w2 (k + z) v2 := by
  have hst := M.Run_step M.fk_steps hq
  have hq' := (M.gk_all _ _ _ _ _ hq).1
  have hfew := gk_few (g, fr) ((bl s).drop k)
  have hsg := gk_sg (fr := fr) ((bl s).drop k) hg
  rw [hq'] at hfew hsg
  refine ⟨xs ++ o, g', fr', ho, hp, hr, hb, hsg, by simp at hfew; simp; omega, ?_⟩
  rw [hE, hst, List.drop_drop]
  simp [List.append_assoc]
set_option maxHeartbeats 2000000 in
set_option maxRecDepth 100000 in
theorem decodeKana_more (g0 : Int) (fr0 : Bool) (s : ByteArray) (w : World) (hg0 : M.Sg g0) (hs : s.size ≤ 3300) :
    Calls Tryz.prog 120 #[.agg #[.int .i64 g0, .bool fr0], .string s, .bool false] w fun e w' => ∃ v rr, e = .returned (.tuple #[v, .agg #[.int .i64 (M.Run M.fk (g0, fr0) (bl s)).2.1.1, .bool (M.Run M.fk (g0, fr0) (bl s)).2.1.2], .string rr]) ∧ bl rr = (M.Run M.fk (g0, fr0) (bl s)).2.2 ∧ w'.ownsRow w.heap.size 3 1 v (M.Run M.fk (g0, fr0) (bl s)).1.length ((M.Run M.fk (g0, fr0) (bl s)).1.map (Value.int .i64)) ∧ Below w.heap.size w w' := by
  go_enter Tryz.func120, Tryz.ntmps120
  go_wp2_with fail
  generalize hW : (w.alloc (Obj.cells #[Value.int IntKind.i64 g0, Value.bool fr0] 144)).alloc (Obj.cells #[Value.int IntKind.i64 0, Value.bool false] 144) = W
  have HI : Hid (InQ g0 fr0 s w W 0 (.slice none 0 0)) := hide ⟨[], g0, fr0, World.ownsRow_nil _ _ _ _, by subst hW; constructor <;> simp [go_sem], by subst hW; constructor <;> simp [go_sem], by subst hW; exact bstep (balloc _ _) (balloc _ _), hg0, Nat.le_refl _, rfl⟩
  clear hW
  go_loopw [9, 10] (fun v i wr => ∃ k : Nat, k ≤ s.size ∧ i = .int .i64 k ∧ InQ g0 fr0 s w wr k v) (fun _ i _ => s.size - (intOf i).toNat)
  case atStart => exact ⟨0, by omega, rfl, unhide HI⟩
  case round =>
    obtain ⟨k, hk, rfl, xs, g, fr, ho, hP, hR, hB, hg, hxk, hE⟩ := hrel
    clear HI
    have HO := hide ho
    have HP := hide hP
    have HR := hide hR
    have HB := hide hB
    have HE := hide hE
    have HX := hide hxk
    have hxs : xs.length ≤ 3300 := by omega
    obtain ⟨av, cv, hsv⟩ := owns_shape ho
    subst hsv
    have hl1 := hR.lt
    have hl0 := hP.lt
    obtain ⟨p0, p1, q0, q1⟩ := hP
    clear ho hB hE hxk
    by_cases hks : k < s.size
    · clear hR
      obtain ⟨c, hc⟩ : ∃ c : Int, (s[k].toNat : Int) = c := ⟨_, rfl⟩
      have hc0 : 0 ≤ c := by omega
      have hc1 : c < 256 := by have := s[k].toNat_lt; omega
      have hk0 : (0 : Int) ≤ (k : Int) := by omega
      have hk1 : (k : Int) < (s.size : Int) := by omega
      have hhd : ((bl s).drop k).headD 0 = c := by rw [bl_drop s k hks, ← hc]; rfl
      by_cases h27 : c = 27
      · obtain ⟨u, hu⟩ : ∃ u, s.extract k s.size = u := ⟨_, rfl⟩
        have hbu : bl u = (bl s).drop k := by rw [← hu, bl_extract]
        have husz : u.size = s.size - k := by rw [← hu]; simp
        rw [h27] at hhd
        have HST : Hid (∀ o z g' fr' w2 v2, M.fk (g, fr) ((bl s).drop k) = some (o, z, (g', fr')) → w2.ownsRow (w.heap.size + 2) 3 1 v2 (xs ++ o).length ((xs ++ o).map (Value.int .i64)) → Pc w.heap.size g' fr' w2 → Pc (w.heap.size + 1) 0 false w2 → Below w.heap.size w w2 → InQ g0 fr0 s w w2 (k + z) v2) := hide (fun o z g' fr' w2 v2 a1 a2 a3 a4 a5 => InQ.step hks (unhide HE) (unhide HX) hg a1 a2 a3 a4 a5)
        have e27 : (c != 27) = false := by rw [h27]; rfl
        have hz2 : w.heap.size + 2 ≤ wr.heap.size := by omega
        have hu0 : (bl u).headD 0 = 27 := by rw [hbu]; exact hhd
        by_cases hw1 : bl u = [27]
        · have e1 : (u.toList == ([27] : List UInt8)) = true := by rw [beq_nums u [27] [27] (by decide +kernel) (by decide +kernel)]; exact decide_eq_true hw1
          rw [← hbu, hw1, M.Run_wait (fk_one _), List.append_nil] at HE
          have HW := hide hw1
          clear hw1 hhd hbu HST hu0 husz
          obtain ⟨b0, b1, g0', g1'⟩ := unhide HR
          go_wp2_with fail
          go_region
          all_goals
            go_wp2_with fail
            refine bodyPost_ret (v := .tuple #[.slice av xs.length cv, .agg #[.int .i64 g, .bool fr], .string u]) (by simp [results, Tryz.results120, go_sem, b0, b1]) rfl ?_
            refine ⟨.slice av xs.length cv, u, ?_, ?_, ?_, ?_⟩
            · rw [unhide HE]
            · rw [unhide HE]; exact unhide HW
            · rw [unhide HE]
              exact owns_below (owns_mono (owns_set (owns_set (unhide HO) ⟨w.heap.size + 1, 0, none⟩ (by simp) _) ⟨w.heap.size + 1, 1, none⟩ (by simp) _) (by omega)) (below_drewN (Below.refl _ _) 1)
            · exact below_drewN (bset (bset (unhide HB) ⟨w.heap.size + 1, 0, none⟩ _ (by simp)) ⟨w.heap.size + 1, 1, none⟩ _ (by simp)) 1
        by_cases hw2 : bl u = [27, 40]
        · have e1 : (u.toList == ([27] : List UInt8)) = false := by rw [beq_nums u [27] [27] (by decide +kernel) (by decide +kernel)]; exact decide_eq_false hw1
          have e2 : (u.toList == ([27, 40] : List UInt8)) = true := by rw [beq_nums u [27, 40] [27, 40] (by decide +kernel) (by decide +kernel)]; exact decide_eq_true hw2
          rw [← hbu, hw2, M.Run_wait (fk_two _), List.append_nil] at HE
          have HW := hide hw2
          clear hw1 hw2 hhd hbu HST hu0 husz
          obtain ⟨b0, b1, g0', g1'⟩ := unhide HR
          go_wp2_with fail
          go_region
          all_goals
            go_wp2_with fail
            refine bodyPost_ret (v := .tuple #[.slice av xs.length cv, .agg #[.int .i64 g, .bool fr], .string u]) (by simp [results, Tryz.results120, go_sem, b0, b1]) rfl ?_
            refine ⟨.slice av xs.length cv, u, ?_, ?_, ?_, ?_⟩
            · rw [unhide HE]
            · rw [unhide HE]; exact unhide HW
            · rw [unhide HE]
              exact owns_below (owns_mono (owns_set (owns_set (unhide HO) ⟨w.heap.size + 1, 0, none⟩ (by simp) _) ⟨w.heap.size + 1, 1, none⟩ (by simp) _) (by omega)) (below_drewN (Below.refl _ _) 1)
            · exact below_drewN (bset (bset (unhide HB) ⟨w.heap.size + 1, 0, none⟩ _ (by simp)) ⟨w.heap.size + 1, 1, none⟩ _ (by simp)) 1
        have e1 : (u.toList == ([27] : List UInt8)) = false := by rw [beq_nums u [27] [27] (by decide +kernel) (by decide +kernel)]; exact decide_eq_false hw1
        have e2 : (u.toList == ([27, 40] : List UInt8)) = false := by rw [beq_nums u [27, 40] [27, 40] (by decide +kernel) (by decide +kernel)]; exact decide_eq_false hw2
        have HGG : Hid (∀ o z g' fr', M.gk (g, fr) ((bl s).drop k) = (o, z, (g', fr')) → M.fk (g, fr) ((bl s).drop k) = some (o, z, (g', fr'))) := hide (fun o z g' fr' h => fk_gk (fun e => by have := congrArg List.length e; simp [bl_len] at this; omega) (hbu ▸ hw1) (hbu ▸ hw2) h)
        clear hw1 hw2
        by_cases h3 : u.size < 3
        · have hkn := kesc_short u h3
          have hlu : (u.size : Int) < 3 := by omega
          have HG : Hid (M.gk (g, fr) ((bl s).drop k) = ([65533], 1, (g, false))) := hide (by have := gk_none (g := g) (fr := fr) (hbu ▸ hkn) hhd; rwa [kpt_27] at this)
          clear hkn hhd hbu
          go_wp2_with (at_builtin; refine append_ints rfl (.tmp 68) (.tmp 69) rfl (w.heap.size + 2) _ xs rfl (owns_a (unhide HO) _) _ [65533] rfl (one_int _ _) (by simp; omega) (by simp; omega) ?_)
          intro v2 w2 ho2 hb2
          obtain ⟨ao2, cap2, hsh2⟩ := owns_shape ho2
          subst hsh2
          have HO2 := hide ho2
          have hb3 := ((Below.refl (w.heap.size + 2) wr).alloc hz2 (.cells #[.int .i64 65533] 3)).trans hb2
          have HP2 := hide ((unhide HP).below hb3 (by omega))
          have HR2 := hide ((unhide HR).below hb3 (by omega))
          have HB2 := hide ((unhide HB).trans (hb3.mono (by omega)))
          obtain ⟨a0, a1, b0, b1⟩ := unhide HP2
          have hl2 := (unhide HP2).lt
          clear ho2 hb2 hb3
          go_wp2_with fail
          go_roundw
          case rel => exact ⟨k + 1, by omega, by go_num, unhide HST _ _ _ _ _ _ (unhide HGG _ _ _ _ (unhide HG)) (by simpa using owns_set (unhide HO2) ⟨w.heap.size, 1, none⟩ (by simp) _) ((unhide HP2).set1 false) ((unhide HR2).far _ _ (by simp)) (bset (unhide HB2) ⟨w.heap.size, 1, none⟩ _ (Nat.le_refl _))⟩
          case measure => simp [intOf]; omega
        · have h3' : 3 ≤ u.size := by omega
          have hlu : (3 : Int) ≤ (u.size : Int) := by omega
          have husz' : k + 3 ≤ s.size := by omega
          obtain ⟨b, hb⟩ : ∃ b : Int, ((u[1]'(by omega)).toNat : Int) = b := ⟨_, rfl⟩
          obtain ⟨d, hd⟩ : ∃ d : Int, ((u[2]'(by omega)).toNat : Int) = d := ⟨_, rfl⟩
          have hka := kesc_at u h3' hu0 hb hd
          have hb0 : 0 ≤ b := by omega
          have hb1 : b < 256 := by have := (u[1]'(by omega)).toNat_lt; omega
          have hd0 : 0 ≤ d := by omega
          have hd1 : d < 256 := by have := (u[2]'(by omega)).toNat_lt; omega
          by_cases hb40 : b = 40
          · rw [if_pos hb40] at hka
            have eb : (b == 40) = true := by simpa using hb40
            obtain hd66 | hd74 | hd73 | hdn : d = 66 ∨ d = 74 ∨ d = 73 ∨ (d ≠ 66 ∧ d ≠ 74 ∧ d ≠ 73) := by omega
            · have hkn : M.kesc (bl u) = some 0 := by rw [hka, hd66]; rfl
              clear hka
              have HG : Hid (M.gk (g, fr) ((bl s).drop k) = (M.bads fr, 3, (0, true))) := hide (gk_some (g := g) (fr := fr) (hbu ▸ hkn))
              clear hkn hhd hbu
              cases fr
              · go_wp2_with fail
                go_roundw
                case rel => exact ⟨k + 3, by omega, by go_num, unhide HST _ _ _ _ _ _ (unhide HGG _ _ _ _ (unhide HG)) (by simpa [M.bads] using owns_set (owns_set (unhide HO) ⟨w.heap.size, 0, none⟩ (by simp) _) ⟨w.heap.size, 1, none⟩ (by simp) _) (((unhide HP).set0 0).set1 true) (((unhide HR).far _ _ (by simp)).far _ _ (by simp)) (bset (bset (unhide HB) ⟨w.heap.size, 0, none⟩ _ (Nat.le_refl _)) ⟨w.heap.size, 1, none⟩ _ (Nat.le_refl _))⟩
                case measure => simp [intOf]; omega
              · go_wp2_with (at_builtin; refine append_ints rfl (.tmp 76) (.tmp 77) rfl (w.heap.size + 2) _ xs rfl (owns_a (unhide HO) _) _ [65533] rfl (one_int _ _) (by simp; omega) (by simp; omega) ?_)
                intro v2 w2 ho2 hb2
                obtain ⟨ao2, cap2, hsh2⟩ := owns_shape ho2
                subst hsh2
                have HO2 := hide ho2
                have hb3 := ((Below.refl (w.heap.size + 2) wr).alloc hz2 (.cells #[.int .i64 65533] 3)).trans hb2
                have HP2 := hide ((unhide HP).below hb3 (by omega))
                have HR2 := hide ((unhide HR).below hb3 (by omega))
                have HB2 := hide ((unhide HB).trans (hb3.mono (by omega)))
                obtain ⟨a0, a1, b0, b1⟩ := unhide HP2
                have hl2 := (unhide HP2).lt
                clear ho2 hb2 hb3
                go_wp2_with fail
                go_roundw
                case rel => exact ⟨k + 3, by omega, by go_num, unhide HST _ _ _ _ _ _ (unhide HGG _ _ _ _ (unhide HG)) (by simpa [M.bads] using owns_set (owns_set (unhide HO2) ⟨w.heap.size, 0, none⟩ (by simp) _) ⟨w.heap.size, 1, none⟩ (by simp) _) (((unhide HP2).set0 0).set1 true) (((unhide HR2).far _ _ (by simp)).far _ _ (by simp)) (bset (bset (unhide HB2) ⟨w.heap.size, 0, none⟩ _ (Nat.le_refl _)) ⟨w.heap.size, 1, none⟩ _ (Nat.le_refl _))⟩
                case measure => simp [intOf]; omega
            · have hkn : M.kesc (bl u) = some 1 := by rw [hka, hd74]; rfl
              clear hka
              have HG : Hid (M.gk (g, fr) ((bl s).drop k) = (M.bads fr, 3, (1, true))) := hide (gk_some (g := g) (fr := fr) (hbu ▸ hkn))
              clear hkn hhd hbu
              cases fr
              · go_wp2_with fail
                go_roundw
                case rel => exact ⟨k + 3, by omega, by go_num, unhide HST _ _ _ _ _ _ (unhide HGG _ _ _ _ (unhide HG)) (by simpa [M.bads] using owns_set (owns_set (unhide HO) ⟨w.heap.size, 0, none⟩ (by simp) _) ⟨w.heap.size, 1, none⟩ (by simp) _) (((unhide HP).set0 1).set1 true) (((unhide HR).far _ _ (by simp)).far _ _ (by simp)) (bset (bset (unhide HB) ⟨w.heap.size, 0, none⟩ _ (Nat.le_refl _)) ⟨w.heap.size, 1, none⟩ _ (Nat.le_refl _))⟩
                case measure => simp [intOf]; omega
              · go_wp2_with (at_builtin; refine append_ints rfl (.tmp 76) (.tmp 77) rfl (w.heap.size + 2) _ xs rfl (owns_a (unhide HO) _) _ [65533] rfl (one_int _ _) (by simp; omega) (by simp; omega) ?_)
                intro v2 w2 ho2 hb2
                obtain ⟨ao2, cap2, hsh2⟩ := owns_shape ho2
                subst hsh2
                have HO2 := hide ho2
                have hb3 := ((Below.refl (w.heap.size + 2) wr).alloc hz2 (.cells #[.int .i64 65533] 3)).trans hb2
                have HP2 := hide ((unhide HP).below hb3 (by omega))
                have HR2 := hide ((unhide HR).below hb3 (by omega))
                have HB2 := hide ((unhide HB).trans (hb3.mono (by omega)))
                obtain ⟨a0, a1, b0, b1⟩ := unhide HP2
                have hl2 := (unhide HP2).lt
                clear ho2 hb2 hb3
                go_wp2_with fail
                go_roundw
                case rel => exact ⟨k + 3, by omega, by go_num, unhide HST _ _ _ _ _ _ (unhide HGG _ _ _ _ (unhide HG)) (by simpa [M.bads] using owns_set (owns_set (unhide HO2) ⟨w.heap.size, 0, none⟩ (by simp) _) ⟨w.heap.size, 1, none⟩ (by simp) _) (((unhide HP2).set0 1).set1 true) (((unhide HR2).far _ _ (by simp)).far _ _ (by simp)) (bset (bset (unhide HB2) ⟨w.heap.size, 0, none⟩ _ (Nat.le_refl _)) ⟨w.heap.size, 1, none⟩ _ (Nat.le_refl _))⟩
                case measure => simp [intOf]; omega
            · have hkn : M.kesc (bl u) = some 2 := by rw [hka, hd73]; rfl
              clear hka
              have HG : Hid (M.gk (g, fr) ((bl s).drop k) = (M.bads fr, 3, (2, true))) := hide (gk_some (g := g) (fr := fr) (hbu ▸ hkn))
              clear hkn hhd hbu
              cases fr
              · go_wp2_with fail
                go_roundw
                case rel => exact ⟨k + 3, by omega, by go_num, unhide HST _ _ _ _ _ _ (unhide HGG _ _ _ _ (unhide HG)) (by simpa [M.bads] using owns_set (owns_set (unhide HO) ⟨w.heap.size, 0, none⟩ (by simp) _) ⟨w.heap.size, 1, none⟩ (by simp) _) (((unhide HP).set0 2).set1 true) (((unhide HR).far _ _ (by simp)).far _ _ (by simp)) (bset (bset (unhide HB) ⟨w.heap.size, 0, none⟩ _ (Nat.le_refl _)) ⟨w.heap.size, 1, none⟩ _ (Nat.le_refl _))⟩
                case measure => simp [intOf]; omega
              · go_wp2_with (at_builtin; refine append_ints rfl (.tmp 76) (.tmp 77) rfl (w.heap.size + 2) _ xs rfl (owns_a (unhide HO) _) _ [65533] rfl (one_int _ _) (by simp; omega) (by simp; omega) ?_)
                intro v2 w2 ho2 hb2
                obtain ⟨ao2, cap2, hsh2⟩ := owns_shape ho2
                subst hsh2
                have HO2 := hide ho2
                have hb3 := ((Below.refl (w.heap.size + 2) wr).alloc hz2 (.cells #[.int .i64 65533] 3)).trans hb2
                have HP2 := hide ((unhide HP).below hb3 (by omega))
                have HR2 := hide ((unhide HR).below hb3 (by omega))
                have HB2 := hide ((unhide HB).trans (hb3.mono (by omega)))
                obtain ⟨a0, a1, b0, b1⟩ := unhide HP2
                have hl2 := (unhide HP2).lt
                clear ho2 hb2 hb3
                go_wp2_with fail
                go_roundw
                case rel => exact ⟨k + 3, by omega, by go_num, unhide HST _ _ _ _ _ _ (unhide HGG _ _ _ _ (unhide HG)) (by simpa [M.bads] using owns_set (owns_set (unhide HO2) ⟨w.heap.size, 0, none⟩ (by simp) _) ⟨w.heap.size, 1, none⟩ (by simp) _) (((unhide HP2).set0 2).set1 true) (((unhide HR2).far _ _ (by simp)).far _ _ (by simp)) (bset (bset (unhide HB2) ⟨w.heap.size, 0, none⟩ _ (Nat.le_refl _)) ⟨w.heap.size, 1, none⟩ _ (Nat.le_refl _))⟩
                case measure => simp [intOf]; omega
            · have hf : fin3 d = -1 := by unfold fin3; rw [if_neg hdn.1, if_neg hdn.2.1, if_neg hdn.2.2]
              have hkn : M.kesc (bl u) = none := by rw [hka, hf]; rfl
              have ed1 : (d == 66) = false := by simpa using hdn.1
              have ed2 : (d == 74) = false := by simpa using hdn.2.1
              have ed3 : (d == 73) = false := by simpa using hdn.2.2
              clear hka hf hdn
              have HG : Hid (M.gk (g, fr) ((bl s).drop k) = ([65533], 1, (g, false))) := hide (by have := gk_none (g := g) (fr := fr) (hbu ▸ hkn) hhd; rwa [kpt_27] at this)
              clear hkn hhd hbu
              go_wp2_with (at_builtin; refine append_ints rfl (.tmp 68) (.tmp 69) rfl (w.heap.size + 2) _ xs rfl (owns_a (unhide HO) _) _ [65533] rfl (one_int _ _) (by simp; omega) (by simp; omega) ?_)
              intro v2 w2 ho2 hb2
              obtain ⟨ao2, cap2, hsh2⟩ := owns_shape ho2
              subst hsh2
              have HO2 := hide ho2
              have hb3 := ((Below.refl (w.heap.size + 2) wr).alloc hz2 (.cells #[.int .i64 65533] 3)).trans hb2
              have HP2 := hide ((unhide HP).below hb3 (by omega))
              have HR2 := hide ((unhide HR).below hb3 (by omega))
              have HB2 := hide ((unhide HB).trans (hb3.mono (by omega)))
              obtain ⟨a0, a1, b0, b1⟩ := unhide HP2
              have hl2 := (unhide HP2).lt
              clear ho2 hb2 hb3
              go_wp2_with fail
              go_roundw
              case rel => exact ⟨k + 1, by omega, by go_num, unhide HST _ _ _ _ _ _ (unhide HGG _ _ _ _ (unhide HG)) (by simpa using owns_set (unhide HO2) ⟨w.heap.size, 1, none⟩ (by simp) _) ((unhide HP2).set1 false) ((unhide HR2).far _ _ (by simp)) (bset (unhide HB2) ⟨w.heap.size, 1, none⟩ _ (Nat.le_refl _))⟩
              case measure => simp [intOf]; omega
          · rw [if_neg hb40] at hka
            have hkn := hka
            have eb : (b == 40) = false := by simpa using hb40
            clear hka
            have HG : Hid (M.gk (g, fr) ((bl s).drop k) = ([65533], 1, (g, false))) := hide (by have := gk_none (g := g) (fr := fr) (hbu ▸ hkn) hhd; rwa [kpt_27] at this)
            clear hkn hhd hbu
            go_wp2_with (at_builtin; refine append_ints rfl (.tmp 68) (.tmp 69) rfl (w.heap.size + 2) _ xs rfl (owns_a (unhide HO) _) _ [65533] rfl (one_int _ _) (by simp; omega) (by simp; omega) ?_)
            intro v2 w2 ho2 hb2
            obtain ⟨ao2, cap2, hsh2⟩ := owns_shape ho2
            subst hsh2
            have HO2 := hide ho2
            have hb3 := ((Below.refl (w.heap.size + 2) wr).alloc hz2 (.cells #[.int .i64 65533] 3)).trans hb2
            have HP2 := hide ((unhide HP).below hb3 (by omega))
            have HR2 := hide ((unhide HR).below hb3 (by omega))
            have HB2 := hide ((unhide HB).trans (hb3.mono (by omega)))
            obtain ⟨a0, a1, b0, b1⟩ := unhide HP2
            have hl2 := (unhide HP2).lt
            clear ho2 hb2 hb3
            go_wp2_with fail
            go_roundw
            case rel => exact ⟨k + 1, by omega, by go_num, unhide HST _ _ _ _ _ _ (unhide HGG _ _ _ _ (unhide HG)) (by simpa using owns_set (unhide HO2) ⟨w.heap.size, 1, none⟩ (by simp) _) ((unhide HP2).set1 false) ((unhide HR2).far _ _ (by simp)) (bset (unhide HB2) ⟨w.heap.size, 1, none⟩ _ (Nat.le_refl _))⟩
            case measure => simp [intOf]; omega
      · have hn : M.kesc ((bl s).drop k) = none := by
          rw [bl_drop s k hks, hc]
          match hd : (bl s).drop (k + 1) with
          | [] => rfl
          | [_] => rfl
          | a :: b :: t => simp [M.kesc, h27]
        have HG0 := gk_none (g := g) (fr := fr) hn hhd
        have HG := hide (fk_gk (fun e => by rw [e] at hhd; exact absurd (congrArg List.length e) (by simp [bl_len]; omega)) (fun e => by rw [e] at hhd; exact h27 hhd.symm) (fun e => by rw [e] at hhd; exact h27 hhd.symm) HG0)
        clear HG0
        have hkp : M.kpt g c = M.ksn g c := by unfold M.kpt; rw [if_neg h27]
        rw [hkp] at HG
        have hsg := fun w => kanaSign_any g c hg hc0 hc1 w
        obtain ⟨p, hp⟩ : ∃ p, M.ksn g c = p := ⟨_, rfl⟩
        rw [hp] at hsg HG
        have e27 : (c != 27) = true := by simpa using h27
        have hwc : IntKind.i64.wrap c = c := by rw [IntKind.wrap_i64]; omega
        have hz2 : w.heap.size + 2 ≤ wr.heap.size := by omega
        clear hn hkp hp hhd
        go_wp2_with fail
        go_region_law ((first
          | (refine step_append_ints (by rfl) _ _ (by rfl) (w.heap.size + 2) _ xs (by rfl) (((unhide HO).alloc _).drew) _ [p] (by rfl) ((one_int _ _).drew) (by simp; omega) (by simp; omega) ?_; intro ao2 cap2 w2 ho2 hb2; have HO2 := hide ho2; have hb3 := (below_drewN ((Below.refl (w.heap.size + 2) wr).alloc hz2 (.cells #[.int .i64 p] 3)) 1).trans hb2; have HP2 := hide ((unhide HP).below hb3 (by omega)); have HR2 := hide ((unhide HR).below hb3 (by omega)); have HB2 := hide ((unhide HB).trans (hb3.mono (by omega))); obtain ⟨a0, a1, b0, b1⟩ := unhide HP2; have hl2 := (unhide HP2).lt; clear ho2 hb2 hb3)
          | (go_simp; go_at_call 174; refine (hsg _).mono ?_; rintro e w1 ⟨rfl, hw⟩; replace hw := hw.symm; subst hw)))
        all_goals
          go_wp2_with fail
          go_roundw
          case rel => exact ⟨k + 1, by omega, by go_num, InQ.step hks (unhide HE) (unhide HX) hg (unhide HG) (by simpa using owns_set (unhide HO2) ⟨w.heap.size, 1, none⟩ (by simp) _) ((unhide HP2).set1 false) ((unhide HR2).far _ _ (by simp)) (bset (unhide HB2) ⟨w.heap.size, 1, none⟩ _ (Nat.le_refl _))⟩
          case measure => simp [intOf]; omega
    · have ek : (bl s).drop k = [] := List.drop_of_length_le (by rw [bl_len]; omega)
      rw [ek, M.Run_nil, List.append_nil] at HE
      obtain ⟨b0, b1, g0', g1'⟩ := hR
      clear ek
      go_wp2_with fail
      go_region
      all_goals
        go_wp2_with fail
        refine bodyPost_ret (v := .tuple #[.slice av xs.length cv, .agg #[.int .i64 g, .bool fr], .string ⟨#[]⟩]) (by simp [results, Tryz.results120, go_sem, b0, b1]) rfl ?_
        refine ⟨.slice av xs.length cv, ⟨#[]⟩, ?_, ?_, ?_, ?_⟩
        · rw [unhide HE]
        · rw [unhide HE]; rfl
        · rw [unhide HE]
          exact owns_below (owns_mono (owns_set (owns_set (unhide HO) ⟨w.heap.size + 1, 0, none⟩ (by simp) _) ⟨w.heap.size + 1, 1, none⟩ (by simp) _) (by omega)) (below_drewN (Below.refl _ _) 1)
        · exact below_drewN (bset (bset (unhide HB) ⟨w.heap.size + 1, 0, none⟩ _ (by simp)) ⟨w.heap.size + 1, 1, none⟩ _ (by simp)) 1
end Go.Proofs.YtaiinjfnkmidbaaGreatDoor

namespace Go.Proofs.YtaiinjfnkmidbaaGreatDoor.M

/-- Are bytes within their bounds: the first one of them within lo and hi, all further ones within 128 and 191? -/
def chk : Int → Int → List Int → Bool
  | _, _, [] => true
  | lo, hi, c :: t => decide (lo ≤ c ∧ c ≤ hi) && chk 128 191 t
/-- The number that bytes tell behind others. -/
def val : Int → List Int → Int
  | p, [] => p
  | p, c :: t => val (p * 64 + c % 64) t
/-- Do bytes begin a scalar? -/
def begOk : List Int → Bool
  | [] => true
  | c :: t => decide (bSize c ≠ 0 ∧ (t.length : Int) < bSize c) && chk (bLow c) (bHigh c) t

theorem go_chk : ∀ (j r : Nat) (i p lo hi : Int) (t : List Int), j ≤ r → j ≤ t.length → chk lo hi (t.take j) = true →
    go r i p lo hi t = go (r - j) (i + j) (val p (t.take j)) (if j = 0 then lo else 128) (if j = 0 then hi else 191) (t.drop j) := by
  intro j
  induction j with
  | zero => intro r i p lo hi t _ _ _; simp [val]
  | succ j ih =>
    intro r i p lo hi t hr ht hc
    cases t with
    | nil => simp at ht
    | cons c t =>
      cases r with
      | zero => omega
      | succ r =>
        simp only [List.take_succ_cons, chk, Bool.and_eq_true, decide_eq_true_eq] at hc
        simp only [go]
        rw [if_neg (by omega)]
        rw [ih r (i + 1) (p * 64 + c % 64) 128 191 t (by omega) (by simp at ht; omega) hc.2]
        simp only [List.take_succ_cons, val, List.drop_succ_cons, Nat.add_sub_add_right]
        have e : i + 1 + (j : Int) = i + ((j + 1 : Nat) : Int) := by omega
        rw [e]
        split <;> simp

theorem chk_snoc : ∀ (t : List Int) (lo hi x : Int), chk lo hi (t ++ [x]) = (chk lo hi t && decide ((if t = [] then lo else 128) ≤ x ∧ x ≤ (if t = [] then hi else 191))) := by
  intro t
  induction t with
  | nil => intro lo hi x; simp [chk]
  | cons c t ih =>
    intro lo hi x
    simp only [List.cons_append, chk]
    rw [ih, Bool.and_assoc]
    by_cases h : t = [] <;> simp [h]

/-- All of a scalar's bytes are there. -/
theorem nxt_done {c : Int} {t : List Int} {k : Nat} (hk : k ≤ t.length) (hb : begOk (c :: t.take k) = true) (he : ((k + 1 : Nat) : Int) = bSize c) :
    nxt (c :: t) = (val (bBits c) (t.take k), ((k + 1 : Nat) : Int), false) := by
  simp only [begOk, Bool.and_eq_true, decide_eq_true_eq] at hb
  simp only [nxt]
  rw [if_neg hb.1.1, go_chk k _ 1 _ _ _ t (by omega) hk hb.2, show (bSize c - 1).toNat - k = 0 from by omega]
  simp only [go]
  congr 2
  omega

/-- The text ends ahead of a scalar's end. -/
theorem nxt_left {c : Int} {t : List Int} (hb : begOk (c :: t) = true) (he : ((t.length + 1 : Nat) : Int) ≠ bSize c) :
    nxt (c :: t) = (65533, ((t.length + 1 : Nat) : Int), true) := by
  simp only [begOk, Bool.and_eq_true, decide_eq_true_eq] at hb
  simp only [nxt]
  rw [if_neg hb.1.1, go_chk t.length _ 1 _ _ _ t (by omega) (Nat.le_refl _) (by rw [List.take_length]; exact hb.2)]
  obtain ⟨m, hm⟩ : ∃ m, (bSize c - 1).toNat - t.length = m + 1 := ⟨(bSize c - 1).toNat - t.length - 1, by omega⟩
  rw [hm, List.drop_length]
  simp only [go]
  congr 2
  omega

/-- A byte that may not stand there. -/
theorem nxt_bad {c : Int} {t : List Int} {k : Nat} (hk : k < t.length) (hb : begOk (c :: t.take k) = true) (he : ((k + 1 : Nat) : Int) ≠ bSize c) (hn : begOk (c :: t.take (k + 1)) = false) :
    nxt (c :: t) = (65533, ((k + 1 : Nat) : Int), false) := by
  have ht : t.take (k + 1) = t.take k ++ [t[k]] := List.take_succ_eq_append_getElem hk
  have hl : (t.take k).length = k := by rw [List.length_take]; omega
  simp only [begOk, Bool.and_eq_true, decide_eq_true_eq] at hb
  rw [hl] at hb
  simp only [begOk, Bool.and_eq_false_iff, decide_eq_false_iff_not] at hn
  rw [ht, chk_snoc, hb.2, List.length_append, hl] at hn
  simp only [List.length_cons, List.length_nil, Bool.true_and, decide_eq_false_iff_not] at hn
  simp only [nxt]
  rw [if_neg hb.1.1, go_chk k _ 1 _ _ _ t (by omega) (by omega) hb.2]
  obtain ⟨m, hm⟩ : ∃ m, (bSize c - 1).toNat - k = m + 1 := ⟨(bSize c - 1).toNat - k - 1, by omega⟩
  rw [hm, List.drop_eq_getElem_cons hk]
  simp only [go]
  have hz : (t.take k = []) ↔ k = 0 := by
    constructor
    · intro e; rw [e] at hl; simpa using hl.symm
    · intro e; rw [e]; rfl
  have hcond : t[k] < (if k = 0 then bLow c else 128) ∨ (if k = 0 then bHigh c else 191) < t[k] := by
    rcases hn with hn | hn
    · exfalso; apply hn; refine ⟨hb.1.1, ?_⟩; omega
    · simp only [hz] at hn
      omega
  rw [if_pos hcond]
  congr 2
  omega

theorem nxt_first {c : Int} (t : List Int) (hb : begOk [c] = false) : nxt (c :: t) = (65533, 1, false) := by
  have hs := bSize_bd c
  have h0 : bSize c = 0 := by
    simp only [begOk, chk, Bool.and_true, decide_eq_false_iff_not, List.length_nil] at hb
    omega
  simp only [nxt]
  rw [if_pos h0]
end Go.Proofs.YtaiinjfnkmidbaaGreatDoor.M

namespace Go.Proofs.YtaiinjfnkmidbaaGreatDoor
open Go.RowKit
set_option linter.unusedVariables false

/-- What isBegun answers. -/
def BegPost (m : List Int) (w : World) (e : Ending) (w' : World) : Prop :=
  ∃ X, e = .returned (.tuple #[.int .i64 X, .bool (M.begOk m)]) ∧ (M.begOk m = true → X = M.bSize (m.headD 0)) ∧ Below w.heap.size w w'

theorem BegPost.mk {m : List Int} {w w' : World} {X : Int} {b : Bool} (hb : M.begOk m = b) (hX : b = true → X = M.bSize (m.headD 0)) (hw : Below w.heap.size w w') : BegPost m w (.returned (.tuple #[.int .i64 X, .bool b])) w' :=
  ⟨X, by rw [hb], fun h => hX (by rw [← hb]; exact h), hw⟩

set_option maxHeartbeats 400000 in
set_option maxRecDepth 100000 in
theorem isBegun_1 (s : ByteArray) (c : Int) (w : World) (hs : s.size = 1) (hc : ((s[0]'(by omega)).toNat : Int) = c) : Calls Tryz.prog 108 #[.string s] w (BegPost [c] w) := by
  have hc0 : 0 ≤ c ∧ c < 256 := by have := (s[0]'(by omega)).toNat_lt; omega
  rcases (show c < 128 ∨ (128 ≤ c ∧ c < 194) ∨ 244 < c ∨ (194 ≤ c ∧ c ≤ 223) ∨ (224 ≤ c ∧ c ≤ 239) ∨ (240 ≤ c ∧ c ≤ 244) from by omega) with h | ⟨h, h'⟩ | h | ⟨h, h'⟩ | ⟨h, h'⟩ | ⟨h, h'⟩
  all_goals
    go_enter Tryz.func108, Tryz.ntmps108
    go_wp2_with (go_at_call 51; refine (between_any _ _ _ _).mono ?_; rintro e w1 ⟨rfl, hw⟩; replace hw := hw.symm; subst hw)
  · go_ret2
    have hz : M.bSize c = 1 := by unfold M.bSize; omega
    exact BegPost.mk (by simp [M.begOk, M.chk, hz]) (fun _ => by simp [hz]) (Below.refl _ _)
  · go_ret2
    have hz : M.bSize c = 0 := by unfold M.bSize; omega
    exact BegPost.mk (by simp [M.begOk, hz]) (fun h => by cases h) (Below.refl _ _)
  · go_ret2
    have hz : M.bSize c = 0 := by unfold M.bSize; omega
    exact BegPost.mk (by simp [M.begOk, hz]) (fun h => by cases h) (Below.refl _ _)
  all_goals
    refine wp_loop_rounds 1 ?_
    rw [rounds_succ]
    go_wp2_with (go_at_call 51; refine (between_any _ _ _ _).mono ?_; rintro e w1 ⟨rfl, hw⟩; replace hw := hw.symm; subst hw)
    go_ret2
  · have hz : M.bSize c = 2 := by unfold M.bSize; omega
    exact BegPost.mk (by simp [M.begOk, M.chk, hz]) (fun _ => by simp [hz]) (Below.refl _ _)
  · have hz : M.bSize c = 3 := by unfold M.bSize; omega
    exact BegPost.mk (by simp [M.begOk, M.chk, hz]) (fun _ => by simp [hz]) (Below.refl _ _)
  · have hz : M.bSize c = 4 := by unfold M.bSize; omega
    exact BegPost.mk (by simp [M.begOk, M.chk, hz]) (fun _ => by simp [hz]) (Below.refl _ _)

set_option maxHeartbeats 1000000 in
set_option maxRecDepth 100000 in
theorem isBegun_2_2 (s : ByteArray) (c c1 : Int) (w : World) (hs : s.size = 2) (hc : ((s[0]'(by omega)).toNat : Int) = c) (hc1 : ((s[1]'(by omega)).toNat : Int) = c1) (hr : 194 ≤ c ∧ c ≤ 223) : Calls Tryz.prog 108 #[.string s] w (BegPost [c, c1] w) := by
  have hb0 : 0 ≤ c ∧ c < 256 := by have := (s[0]'(by omega)).toNat_lt; omega
  have hb1 : 0 ≤ c1 ∧ c1 < 256 := by have := (s[1]'(by omega)).toNat_lt; omega
  obtain ⟨hr0, hr1⟩ := hr
  have HZ := hide (M.size2 (c := c) (by omega) (by omega))
  by_cases hl : 128 ≤ c1 ∧ c1 ≤ 191
  · obtain ⟨hl0, hl1⟩ := hl
    go_enter Tryz.func108, Tryz.ntmps108
    go_wp2_with (go_at_call 51; refine (between_any _ _ _ _).mono ?_; rintro e w1 ⟨rfl, hw⟩; replace hw := hw.symm; subst hw)
    refine wp_loop_rounds 2 ?_
    rw [rounds_succ]
    go_wp2_with (go_at_call 51; refine (between_any _ _ _ _).mono ?_; rintro e w1 ⟨rfl, hw⟩; replace hw := hw.symm; subst hw)
    rw [rounds_succ]
    go_wp2_with (go_at_call 51; refine (between_any _ _ _ _).mono ?_; rintro e w1 ⟨rfl, hw⟩; replace hw := hw.symm; subst hw)
    refine wp_loop_rounds 2 ?_
    rw [rounds_succ]
    go_wp2_with (go_at_call 51; refine (between_any _ _ _ _).mono ?_; rintro e w1 ⟨rfl, hw⟩; replace hw := hw.symm; subst hw)
    rw [rounds_succ]
    go_wp2_with (go_at_call 51; refine (between_any _ _ _ _).mono ?_; rintro e w1 ⟨rfl, hw⟩; replace hw := hw.symm; subst hw)
    refine wp_loop_rounds 1 ?_
    rw [rounds_succ]
    go_wp2_with (go_at_call 51; refine (between_any _ _ _ _).mono ?_; rintro e w1 ⟨rfl, hw⟩; replace hw := hw.symm; subst hw)
    all_goals
      go_ret2
      refine BegPost.mk ?_ (fun _ => (unhide HZ).1.symm) (Below.refl _ _ |>.alloc (Nat.le_refl _) _)
      have := unhide HZ
      rw [Bool.eq_iff_iff]
      simp [M.begOk, M.chk]
      omega
  · have hd : (decide (128 ≤ c1) && decide (c1 ≤ 191)) = false := by simp; omega
    have HL := hide hl
    clear hl
    go_enter Tryz.func108, Tryz.ntmps108
    go_wp2_with (go_at_call 51; refine (between_any _ _ _ _).mono ?_; rintro e w1 ⟨rfl, hw⟩; replace hw := hw.symm; subst hw)
    refine wp_loop_rounds 2 ?_
    rw [rounds_succ]
    go_wp2_with (go_at_call 51; refine (between_any _ _ _ _).mono ?_; rintro e w1 ⟨rfl, hw⟩; replace hw := hw.symm; subst hw)
    go_ret2
    refine BegPost.mk ?_ (fun h => by cases h) (Below.refl _ _)
    have := unhide HZ
    have := unhide HL
    simp [M.begOk, M.chk]
    omega

set_option maxHeartbeats 1000000 in
set_option maxRecDepth 100000 in
theorem isBegun_2_3 (s : ByteArray) (c c1 : Int) (w : World) (hs : s.size = 2) (hc : ((s[0]'(by omega)).toNat : Int) = c) (hc1 : ((s[1]'(by omega)).toNat : Int) = c1) (hr : 224 ≤ c ∧ c ≤ 239) : Calls Tryz.prog 108 #[.string s] w (BegPost [c, c1] w) := by
  have hb0 : 0 ≤ c ∧ c < 256 := by have := (s[0]'(by omega)).toNat_lt; omega
  have hb1 : 0 ≤ c1 ∧ c1 < 256 := by have := (s[1]'(by omega)).toNat_lt; omega
  obtain ⟨hr0, hr1⟩ := hr
  have HZ := hide (M.size3 (c := c) (by omega) (by omega))
  by_cases hl : 128 ≤ c1 ∧ c1 ≤ 191
  · obtain ⟨hl0, hl1⟩ := hl
    go_enter Tryz.func108, Tryz.ntmps108
    go_wp2_with (go_at_call 51; refine (between_any _ _ _ _).mono ?_; rintro e w1 ⟨rfl, hw⟩; replace hw := hw.symm; subst hw)
    refine wp_loop_rounds 2 ?_
    rw [rounds_succ]
    go_wp2_with (go_at_call 51; refine (between_any _ _ _ _).mono ?_; rintro e w1 ⟨rfl, hw⟩; replace hw := hw.symm; subst hw)
    rw [rounds_succ]
    go_wp2_with (go_at_call 51; refine (between_any _ _ _ _).mono ?_; rintro e w1 ⟨rfl, hw⟩; replace hw := hw.symm; subst hw)
    refine wp_loop_rounds 2 ?_
    rw [rounds_succ]
    go_wp2_with (go_at_call 51; refine (between_any _ _ _ _).mono ?_; rintro e w1 ⟨rfl, hw⟩; replace hw := hw.symm; subst hw)
    rw [rounds_succ]
    go_wp2_with (go_at_call 51; refine (between_any _ _ _ _).mono ?_; rintro e w1 ⟨rfl, hw⟩; replace hw := hw.symm; subst hw)
    refine wp_loop_rounds 2 ?_
    rw [rounds_succ]
    go_wp2_with (go_at_call 51; refine (between_any _ _ _ _).mono ?_; rintro e w1 ⟨rfl, hw⟩; replace hw := hw.symm; subst hw)
    rw [rounds_succ]
    go_wp2_with (go_at_call 51; refine (between_any _ _ _ _).mono ?_; rintro e w1 ⟨rfl, hw⟩; replace hw := hw.symm; subst hw)
    all_goals
      go_ret2
      refine BegPost.mk ?_ (fun _ => (unhide HZ).1.symm) (Below.refl _ _ |>.alloc (Nat.le_refl _) _)
      have := unhide HZ
      rw [Bool.eq_iff_iff]
      simp [M.begOk, M.chk]
      omega
  · have hd : (decide (128 ≤ c1) && decide (c1 ≤ 191)) = false := by simp; omega
    have HL := hide hl
    clear hl
    go_enter Tryz.func108, Tryz.ntmps108
    go_wp2_with (go_at_call 51; refine (between_any _ _ _ _).mono ?_; rintro e w1 ⟨rfl, hw⟩; replace hw := hw.symm; subst hw)
    refine wp_loop_rounds 2 ?_
    rw [rounds_succ]
    go_wp2_with (go_at_call 51; refine (between_any _ _ _ _).mono ?_; rintro e w1 ⟨rfl, hw⟩; replace hw := hw.symm; subst hw)
    go_ret2
    refine BegPost.mk ?_ (fun h => by cases h) (Below.refl _ _)
    have := unhide HZ
    have := unhide HL
    simp [M.begOk, M.chk]
    omega

set_option maxHeartbeats 1000000 in
set_option maxRecDepth 100000 in
theorem isBegun_2_4 (s : ByteArray) (c c1 : Int) (w : World) (hs : s.size = 2) (hc : ((s[0]'(by omega)).toNat : Int) = c) (hc1 : ((s[1]'(by omega)).toNat : Int) = c1) (hr : 240 ≤ c ∧ c ≤ 244) : Calls Tryz.prog 108 #[.string s] w (BegPost [c, c1] w) := by
  have hb0 : 0 ≤ c ∧ c < 256 := by have := (s[0]'(by omega)).toNat_lt; omega
  have hb1 : 0 ≤ c1 ∧ c1 < 256 := by have := (s[1]'(by omega)).toNat_lt; omega
  obtain ⟨hr0, hr1⟩ := hr
  have HZ := hide (M.size4 (c := c) (by omega) (by omega))
  by_cases hl : 128 ≤ c1 ∧ c1 ≤ 191
  · obtain ⟨hl0, hl1⟩ := hl
    go_enter Tryz.func108, Tryz.ntmps108
    go_wp2_with (go_at_call 51; refine (between_any _ _ _ _).mono ?_; rintro e w1 ⟨rfl, hw⟩; replace hw := hw.symm; subst hw)
    refine wp_loop_rounds 2 ?_
    rw [rounds_succ]
    go_wp2_with (go_at_call 51; refine (between_any _ _ _ _).mono ?_; rintro e w1 ⟨rfl, hw⟩; replace hw := hw.symm; subst hw)
    rw [rounds_succ]
    go_wp2_with (go_at_call 51; refine (between_any _ _ _ _).mono ?_; rintro e w1 ⟨rfl, hw⟩; replace hw := hw.symm; subst hw)
    refine wp_loop_rounds 2 ?_
    rw [rounds_succ]
    go_wp2_with (go_at_call 51; refine (between_any _ _ _ _).mono ?_; rintro e w1 ⟨rfl, hw⟩; replace hw := hw.symm; subst hw)
    rw [rounds_succ]
    go_wp2_with (go_at_call 51; refine (between_any _ _ _ _).mono ?_; rintro e w1 ⟨rfl, hw⟩; replace hw := hw.symm; subst hw)
    refine wp_loop_rounds 3 ?_
    rw [rounds_succ]
    go_wp2_with (go_at_call 51; refine (between_any _ _ _ _).mono ?_; rintro e w1 ⟨rfl, hw⟩; replace hw := hw.symm; subst hw)
    rw [rounds_succ]
    go_wp2_with (go_at_call 51; refine (between_any _ _ _ _).mono ?_; rintro e w1 ⟨rfl, hw⟩; replace hw := hw.symm; subst hw)
    rw [rounds_succ]
    go_wp2_with (go_at_call 51; refine (between_any _ _ _ _).mono ?_; rintro e w1 ⟨rfl, hw⟩; replace hw := hw.symm; subst hw)
    all_goals
      go_ret2
      refine BegPost.mk ?_ (fun _ => (unhide HZ).1.symm) (Below.refl _ _ |>.alloc (Nat.le_refl _) _)
      have := unhide HZ
      rw [Bool.eq_iff_iff]
      simp [M.begOk, M.chk]
      omega
  · have hd : (decide (128 ≤ c1) && decide (c1 ≤ 191)) = false := by simp; omega
    have HL := hide hl
    clear hl
    go_enter Tryz.func108, Tryz.ntmps108
    go_wp2_with (go_at_call 51; refine (between_any _ _ _ _).mono ?_; rintro e w1 ⟨rfl, hw⟩; replace hw := hw.symm; subst hw)
    refine wp_loop_rounds 2 ?_
    rw [rounds_succ]
    go_wp2_with (go_at_call 51; refine (between_any _ _ _ _).mono ?_; rintro e w1 ⟨rfl, hw⟩; replace hw := hw.symm; subst hw)
    go_ret2
    refine BegPost.mk ?_ (fun h => by cases h) (Below.refl _ _)
    have := unhide HZ
    have := unhide HL
    simp [M.begOk, M.chk]
    omega

set_option maxHeartbeats 1000000 in
set_option maxRecDepth 100000 in
theorem isBegun_3_3 (s : ByteArray) (c c1 c2 : Int) (w : World) (hs : s.size = 3) (hc : ((s[0]'(by omega)).toNat : Int) = c) (hc1 : ((s[1]'(by omega)).toNat : Int) = c1) (hc2 : ((s[2]'(by omega)).toNat : Int) = c2) (hr : 224 ≤ c ∧ c ≤ 239) : Calls Tryz.prog 108 #[.string s] w (BegPost [c, c1, c2] w) := by
  have hb0 : 0 ≤ c ∧ c < 256 := by have := (s[0]'(by omega)).toNat_lt; omega
  have hb1 : 0 ≤ c1 ∧ c1 < 256 := by have := (s[1]'(by omega)).toNat_lt; omega
  have hb2 : 0 ≤ c2 ∧ c2 < 256 := by have := (s[2]'(by omega)).toNat_lt; omega
  obtain ⟨hr0, hr1⟩ := hr
  have HZ := hide (M.size3 (c := c) (by omega) (by omega))
  by_cases g1' : 128 ≤ c1 ∧ c1 ≤ 191
  rotate_left
  · have hd : (decide (128 ≤ c1) && decide (c1 ≤ 191)) = false := by simp; omega
    have HL := hide g1'
    clear g1'
    go_enter Tryz.func108, Tryz.ntmps108
    go_wp2_with (go_at_call 51; refine (between_any _ _ _ _).mono ?_; rintro e w1 ⟨rfl, hw⟩; replace hw := hw.symm; subst hw)
    refine wp_loop_rounds 3 ?_
    rw [rounds_succ]
    go_wp2_with (go_at_call 51; refine (between_any _ _ _ _).mono ?_; rintro e w1 ⟨rfl, hw⟩; replace hw := hw.symm; subst hw)
    go_ret2
    refine BegPost.mk ?_ (fun h => by cases h) (Below.refl _ _)
    have := unhide HZ
    have := unhide HL
    simp [M.begOk, M.chk]
    omega
  obtain ⟨g10, g11⟩ := g1'
  by_cases hl : 128 ≤ c2 ∧ c2 ≤ 191
  · obtain ⟨hl0, hl1⟩ := hl
    go_enter Tryz.func108, Tryz.ntmps108
    go_wp2_with (go_at_call 51; refine (between_any _ _ _ _).mono ?_; rintro e w1 ⟨rfl, hw⟩; replace hw := hw.symm; subst hw)
    refine wp_loop_rounds 3 ?_
    rw [rounds_succ]
    go_wp2_with (go_at_call 51; refine (between_any _ _ _ _).mono ?_; rintro e w1 ⟨rfl, hw⟩; replace hw := hw.symm; subst hw)
    rw [rounds_succ]
    go_wp2_with (go_at_call 51; refine (between_any _ _ _ _).mono ?_; rintro e w1 ⟨rfl, hw⟩; replace hw := hw.symm; subst hw)
    rw [rounds_succ]
    go_wp2_with (go_at_call 51; refine (between_any _ _ _ _).mono ?_; rintro e w1 ⟨rfl, hw⟩; replace hw := hw.symm; subst hw)
    refine wp_loop_rounds 3 ?_
    rw [rounds_succ]
    go_wp2_with (go_at_call 51; refine (between_any _ _ _ _).mono ?_; rintro e w1 ⟨rfl, hw⟩; replace hw := hw.symm; subst hw)
    rw [rounds_succ]
    go_wp2_with (go_at_call 51; refine (between_any _ _ _ _).mono ?_; rintro e w1 ⟨rfl, hw⟩; replace hw := hw.symm; subst hw)
    rw [rounds_succ]
    go_wp2_with (go_at_call 51; refine (between_any _ _ _ _).mono ?_; rintro e w1 ⟨rfl, hw⟩; replace hw := hw.symm; subst hw)
    refine wp_loop_rounds 1 ?_
    rw [rounds_succ]
    go_wp2_with (go_at_call 51; refine (between_any _ _ _ _).mono ?_; rintro e w1 ⟨rfl, hw⟩; replace hw := hw.symm; subst hw)
    all_goals
      go_ret2
      refine BegPost.mk ?_ (fun _ => (unhide HZ).1.symm) (Below.refl _ _ |>.alloc (Nat.le_refl _) _)
      have := unhide HZ
      rw [Bool.eq_iff_iff]
      simp [M.begOk, M.chk]
      omega
  · have hd : (decide (128 ≤ c2) && decide (c2 ≤ 191)) = false := by simp; omega
    have HL := hide hl
    clear hl
    go_enter Tryz.func108, Tryz.ntmps108
    go_wp2_with (go_at_call 51; refine (between_any _ _ _ _).mono ?_; rintro e w1 ⟨rfl, hw⟩; replace hw := hw.symm; subst hw)
    refine wp_loop_rounds 3 ?_
    rw [rounds_succ]
    go_wp2_with (go_at_call 51; refine (between_any _ _ _ _).mono ?_; rintro e w1 ⟨rfl, hw⟩; replace hw := hw.symm; subst hw)
    rw [rounds_succ]
    go_wp2_with (go_at_call 51; refine (between_any _ _ _ _).mono ?_; rintro e w1 ⟨rfl, hw⟩; replace hw := hw.symm; subst hw)
    go_ret2
    refine BegPost.mk ?_ (fun h => by cases h) (Below.refl _ _)
    have := unhide HZ
    have := unhide HL
    simp [M.begOk, M.chk]
    omega

set_option maxHeartbeats 1000000 in
set_option maxRecDepth 100000 in
theorem isBegun_3_4 (s : ByteArray) (c c1 c2 : Int) (w : World) (hs : s.size = 3) (hc : ((s[0]'(by omega)).toNat : Int) = c) (hc1 : ((s[1]'(by omega)).toNat : Int) = c1) (hc2 : ((s[2]'(by omega)).toNat : Int) = c2) (hr : 240 ≤ c ∧ c ≤ 244) : Calls Tryz.prog 108 #[.string s] w (BegPost [c, c1, c2] w) := by
  have hb0 : 0 ≤ c ∧ c < 256 := by have := (s[0]'(by omega)).toNat_lt; omega
  have hb1 : 0 ≤ c1 ∧ c1 < 256 := by have := (s[1]'(by omega)).toNat_lt; omega
  have hb2 : 0 ≤ c2 ∧ c2 < 256 := by have := (s[2]'(by omega)).toNat_lt; omega
  obtain ⟨hr0, hr1⟩ := hr
  have HZ := hide (M.size4 (c := c) (by omega) (by omega))
  by_cases g1' : 128 ≤ c1 ∧ c1 ≤ 191
  rotate_left
  · have hd : (decide (128 ≤ c1) && decide (c1 ≤ 191)) = false := by simp; omega
    have HL := hide g1'
    clear g1'
    go_enter Tryz.func108, Tryz.ntmps108
    go_wp2_with (go_at_call 51; refine (between_any _ _ _ _).mono ?_; rintro e w1 ⟨rfl, hw⟩; replace hw := hw.symm; subst hw)
    refine wp_loop_rounds 3 ?_
    rw [rounds_succ]
    go_wp2_with (go_at_call 51; refine (between_any _ _ _ _).mono ?_; rintro e w1 ⟨rfl, hw⟩; replace hw := hw.symm; subst hw)
    go_ret2
    refine BegPost.mk ?_ (fun h => by cases h) (Below.refl _ _)
    have := unhide HZ
    have := unhide HL
    simp [M.begOk, M.chk]
    omega
  obtain ⟨g10, g11⟩ := g1'
  by_cases hl : 128 ≤ c2 ∧ c2 ≤ 191
  · obtain ⟨hl0, hl1⟩ := hl
    go_enter Tryz.func108, Tryz.ntmps108
    go_wp2_with (go_at_call 51; refine (between_any _ _ _ _).mono ?_; rintro e w1 ⟨rfl, hw⟩; replace hw := hw.symm; subst hw)
    refine wp_loop_rounds 3 ?_
    rw [rounds_succ]
    go_wp2_with (go_at_call 51; refine (between_any _ _ _ _).mono ?_; rintro e w1 ⟨rfl, hw⟩; replace hw := hw.symm; subst hw)
    rw [rounds_succ]
    go_wp2_with (go_at_call 51; refine (between_any _ _ _ _).mono ?_; rintro e w1 ⟨rfl, hw⟩; replace hw := hw.symm; subst hw)
    rw [rounds_succ]
    go_wp2_with (go_at_call 51; refine (between_any _ _ _ _).mono ?_; rintro e w1 ⟨rfl, hw⟩; replace hw := hw.symm; subst hw)
    refine wp_loop_rounds 3 ?_
    rw [rounds_succ]
    go_wp2_with (go_at_call 51; refine (between_any _ _ _ _).mono ?_; rintro e w1 ⟨rfl, hw⟩; replace hw := hw.symm; subst hw)
    rw [rounds_succ]
    go_wp2_with (go_at_call 51; refine (between_any _ _ _ _).mono ?_; rintro e w1 ⟨rfl, hw⟩; replace hw := hw.symm; subst hw)
    rw [rounds_succ]
    go_wp2_with (go_at_call 51; refine (between_any _ _ _ _).mono ?_; rintro e w1 ⟨rfl, hw⟩; replace hw := hw.symm; subst hw)
    refine wp_loop_rounds 2 ?_
    rw [rounds_succ]
    go_wp2_with (go_at_call 51; refine (between_any _ _ _ _).mono ?_; rintro e w1 ⟨rfl, hw⟩; replace hw := hw.symm; subst hw)
    rw [rounds_succ]
    go_wp2_with (go_at_call 51; refine (between_any _ _ _ _).mono ?_; rintro e w1 ⟨rfl, hw⟩; replace hw := hw.symm; subst hw)
    all_goals
      go_ret2
      refine BegPost.mk ?_ (fun _ => (unhide HZ).1.symm) (Below.refl _ _ |>.alloc (Nat.le_refl _) _)
      have := unhide HZ
      rw [Bool.eq_iff_iff]
      simp [M.begOk, M.chk]
      omega
  · have hd : (decide (128 ≤ c2) && decide (c2 ≤ 191)) = false := by simp; omega
    have HL := hide hl
    clear hl
    go_enter Tryz.func108, Tryz.ntmps108
    go_wp2_with (go_at_call 51; refine (between_any _ _ _ _).mono ?_; rintro e w1 ⟨rfl, hw⟩; replace hw := hw.symm; subst hw)
    refine wp_loop_rounds 3 ?_
    rw [rounds_succ]
    go_wp2_with (go_at_call 51; refine (between_any _ _ _ _).mono ?_; rintro e w1 ⟨rfl, hw⟩; replace hw := hw.symm; subst hw)
    rw [rounds_succ]
    go_wp2_with (go_at_call 51; refine (between_any _ _ _ _).mono ?_; rintro e w1 ⟨rfl, hw⟩; replace hw := hw.symm; subst hw)
    go_ret2
    refine BegPost.mk ?_ (fun h => by cases h) (Below.refl _ _)
    have := unhide HZ
    have := unhide HL
    simp [M.begOk, M.chk]
    omega

set_option maxHeartbeats 1000000 in
set_option maxRecDepth 100000 in
theorem isBegun_4_4 (s : ByteArray) (c c1 c2 c3 : Int) (w : World) (hs : s.size = 4) (hc : ((s[0]'(by omega)).toNat : Int) = c) (hc1 : ((s[1]'(by omega)).toNat : Int) = c1) (hc2 : ((s[2]'(by omega)).toNat : Int) = c2) (hc3 : ((s[3]'(by omega)).toNat : Int) = c3) (hr : 240 ≤ c ∧ c ≤ 244) (g1 : M.bLow c ≤ c1 ∧ c1 ≤ M.bHigh c) (g2 : 128 ≤ c2 ∧ c2 ≤ 191) : Calls Tryz.prog 108 #[.string s] w (BegPost [c, c1, c2, c3] w) := by
  have hb0 : 0 ≤ c ∧ c < 256 := by have := (s[0]'(by omega)).toNat_lt; omega
  have hb1 : 0 ≤ c1 ∧ c1 < 256 := by have := (s[1]'(by omega)).toNat_lt; omega
  have hb2 : 0 ≤ c2 ∧ c2 < 256 := by have := (s[2]'(by omega)).toNat_lt; omega
  have hb3 : 0 ≤ c3 ∧ c3 < 256 := by have := (s[3]'(by omega)).toNat_lt; omega
  obtain ⟨hr0, hr1⟩ := hr
  have HZ := hide (M.size4 (c := c) (by omega) (by omega))
  have g1' : 128 ≤ c1 ∧ c1 ≤ 191 := by have := unhide HZ; omega
  have G1 := hide g1
  obtain ⟨g10, g11⟩ := g1'
  clear g1
  obtain ⟨g20, g21⟩ := g2
  by_cases hl : 128 ≤ c3 ∧ c3 ≤ 191
  · obtain ⟨hl0, hl1⟩ := hl
    go_enter Tryz.func108, Tryz.ntmps108
    go_wp2_with (go_at_call 51; refine (between_any _ _ _ _).mono ?_; rintro e w1 ⟨rfl, hw⟩; replace hw := hw.symm; subst hw)
    refine wp_loop_rounds 4 ?_
    rw [rounds_succ]
    go_wp2_with (go_at_call 51; refine (between_any _ _ _ _).mono ?_; rintro e w1 ⟨rfl, hw⟩; replace hw := hw.symm; subst hw)
    rw [rounds_succ]
    go_wp2_with (go_at_call 51; refine (between_any _ _ _ _).mono ?_; rintro e w1 ⟨rfl, hw⟩; replace hw := hw.symm; subst hw)
    rw [rounds_succ]
    go_wp2_with (go_at_call 51; refine (between_any _ _ _ _).mono ?_; rintro e w1 ⟨rfl, hw⟩; replace hw := hw.symm; subst hw)
    rw [rounds_succ]
    go_wp2_with (go_at_call 51; refine (between_any _ _ _ _).mono ?_; rintro e w1 ⟨rfl, hw⟩; replace hw := hw.symm; subst hw)
    refine wp_loop_rounds 4 ?_
    rw [rounds_succ]
    go_wp2_with (go_at_call 51; refine (between_any _ _ _ _).mono ?_; rintro e w1 ⟨rfl, hw⟩; replace hw := hw.symm; subst hw)
    rw [rounds_succ]
    go_wp2_with (go_at_call 51; refine (between_any _ _ _ _).mono ?_; rintro e w1 ⟨rfl, hw⟩; replace hw := hw.symm; subst hw)
    rw [rounds_succ]
    go_wp2_with (go_at_call 51; refine (between_any _ _ _ _).mono ?_; rintro e w1 ⟨rfl, hw⟩; replace hw := hw.symm; subst hw)
    rw [rounds_succ]
    go_wp2_with (go_at_call 51; refine (between_any _ _ _ _).mono ?_; rintro e w1 ⟨rfl, hw⟩; replace hw := hw.symm; subst hw)
    refine wp_loop_rounds 1 ?_
    rw [rounds_succ]
    go_wp2_with (go_at_call 51; refine (between_any _ _ _ _).mono ?_; rintro e w1 ⟨rfl, hw⟩; replace hw := hw.symm; subst hw)
    all_goals
      go_ret2
      refine BegPost.mk ?_ (fun _ => (unhide HZ).1.symm) (Below.refl _ _ |>.alloc (Nat.le_refl _) _)
      have := unhide HZ
      have := unhide G1
      rw [Bool.eq_iff_iff]
      simp [M.begOk, M.chk]
      omega
  · have hd : (decide (128 ≤ c3) && decide (c3 ≤ 191)) = false := by simp; omega
    have HL := hide hl
    clear hl
    go_enter Tryz.func108, Tryz.ntmps108
    go_wp2_with (go_at_call 51; refine (between_any _ _ _ _).mono ?_; rintro e w1 ⟨rfl, hw⟩; replace hw := hw.symm; subst hw)
    refine wp_loop_rounds 4 ?_
    rw [rounds_succ]
    go_wp2_with (go_at_call 51; refine (between_any _ _ _ _).mono ?_; rintro e w1 ⟨rfl, hw⟩; replace hw := hw.symm; subst hw)
    rw [rounds_succ]
    go_wp2_with (go_at_call 51; refine (between_any _ _ _ _).mono ?_; rintro e w1 ⟨rfl, hw⟩; replace hw := hw.symm; subst hw)
    rw [rounds_succ]
    go_wp2_with (go_at_call 51; refine (between_any _ _ _ _).mono ?_; rintro e w1 ⟨rfl, hw⟩; replace hw := hw.symm; subst hw)
    go_ret2
    refine BegPost.mk ?_ (fun h => by cases h) (Below.refl _ _)
    have := unhide HZ
    have := unhide HL
    simp [M.begOk, M.chk]
    omega

theorem isBegun_list (s : ByteArray) (m : List Int) (w : World) (hm : bl s = m) (hne : m ≠ []) (hp : m.dropLast = [] ∨ (M.begOk m.dropLast = true ∧ (m.dropLast.length : Int) ≠ M.bSize (m.headD 0))) :
    Calls Tryz.prog 108 #[.string s] w (BegPost m w) := by
  have hsz : s.size = m.length := by rw [← hm, bl_len]
  have hget : ∀ (i : Nat) (h : i < s.size), m[i]? = some (s[i].toNat : Int) := fun i h => by rw [← hm]; exact bl_get s i h
  clear hm
  match m, hne, hp, hsz, hget with
  | [c], _, hp, hsz, hget =>
    simp at hsz
    have h0 := hget 0 (by omega)
    simp at h0
    exact isBegun_1 s c w hsz h0.symm
  | [c, c1], _, hp, hsz, hget =>
    simp at hsz
    have h0 := hget 0 (by omega)
    have h1 := hget 1 (by omega)
    simp at h0 h1
    rcases hp with hp | ⟨hp, hq⟩
    · simp at hp
    · simp [M.begOk, M.chk] at hp hq
      have hb := M.bSize_bd c
      have hz : (194 ≤ c ∧ c ≤ 223) ∨ (224 ≤ c ∧ c ≤ 239) ∨ (240 ≤ c ∧ c ≤ 244) := by unfold M.bSize at hp hq; omega
      rcases hz with hz | hz | hz
      · exact isBegun_2_2 s c c1 w hsz h0.symm h1.symm hz
      · exact isBegun_2_3 s c c1 w hsz h0.symm h1.symm hz
      · exact isBegun_2_4 s c c1 w hsz h0.symm h1.symm hz
  | [c, c1, c2], _, hp, hsz, hget =>
    simp at hsz
    have h0 := hget 0 (by omega)
    have h1 := hget 1 (by omega)
    have h2 := hget 2 (by omega)
    simp at h0 h1 h2
    rcases hp with hp | ⟨hp, hq⟩
    · simp at hp
    · simp [M.begOk, M.chk] at hp hq
      have hb := M.bSize_bd c
      have hz : (224 ≤ c ∧ c ≤ 239) ∨ (240 ≤ c ∧ c ≤ 244) := by unfold M.bSize at hp hq; omega
      rcases hz with hz | hz
      · exact isBegun_3_3 s c c1 c2 w hsz h0.symm h1.symm h2.symm hz
      · exact isBegun_3_4 s c c1 c2 w hsz h0.symm h1.symm h2.symm hz
  | [c, c1, c2, c3], _, hp, hsz, hget =>
    simp at hsz
    have h0 := hget 0 (by omega)
    have h1 := hget 1 (by omega)
    have h2 := hget 2 (by omega)
    have h3 := hget 3 (by omega)
    simp at h0 h1 h2 h3
    rcases hp with hp | ⟨hp, hq⟩
    · simp at hp
    · simp [M.begOk, M.chk] at hp hq
      have hz : (240 ≤ c ∧ c ≤ 244) := by unfold M.bSize at hp hq; omega
      exact isBegun_4_4 s c c1 c2 c3 w hsz h0.symm h1.symm h2.symm h3.symm hz hp.2.1 hp.2.2
  | c :: c1 :: c2 :: c3 :: c4 :: t, _, hp, hsz, hget =>
    exfalso
    have hb := M.bSize_bd c
    rcases hp with hp | ⟨hp, hq⟩
    · simp at hp
    · simp only [List.dropLast_cons_cons, M.begOk, Bool.and_eq_true, decide_eq_true_eq, List.headD_cons, List.length_cons] at hp hq
      omega

set_option maxHeartbeats 400000 in
set_option maxRecDepth 100000 in
theorem valueOf_1 (s : ByteArray) (c : Int) (w : World) (hs : s.size = 1) (hc : ((s[0]'(by omega)).toNat : Int) = c) : Calls Tryz.prog 172 #[.string s] w fun e w' => e = .returned (.int .i64 c) ∧ Below w.heap.size w w' := by
  have hb0 : 0 ≤ c ∧ c < 256 := by have := (s[0]'(by omega)).toNat_lt; omega
  go_enter Tryz.func172, Tryz.ntmps172
  go_wp2
  go_ret
  exact ⟨rfl, Below.refl _ _⟩
set_option maxHeartbeats 1000000 in
set_option maxRecDepth 100000 in
theorem valueOf_2 (s : ByteArray) (c c1 : Int) (w : World) (hs : s.size = 2) (hc : ((s[0]'(by omega)).toNat : Int) = c) (hc1 : ((s[1]'(by omega)).toNat : Int) = c1) : Calls Tryz.prog 172 #[.string s] w fun e w' => e = .returned (.int .i64 (M.val (c % 32) [c1])) ∧ Below w.heap.size w w' := by
  have hb0 : 0 ≤ c ∧ c < 256 := by have := (s[0]'(by omega)).toNat_lt; omega
  have hb1 : 0 ≤ c1 ∧ c1 < 256 := by have := (s[1]'(by omega)).toNat_lt; omega
  have h0I : (0 : Int) < (s.size : Int) := by omega
  go_enter Tryz.func172, Tryz.ntmps172
  go_wp2_with fail
  go_quiet (fail)
  go_wp2_with fail
  refine wp_loop_rounds 2 ?_
  rw [rounds_succ]
  go_wp2_with fail
  rw [rounds_succ]
  go_wp2_with fail
  go_ret
  exact ⟨ret_int (by simp only [M.val]; omega), below_drewN (Below.refl _ _) _⟩
set_option maxHeartbeats 1000000 in
set_option maxRecDepth 100000 in
theorem valueOf_3 (s : ByteArray) (c c1 c2 : Int) (w : World) (hs : s.size = 3) (hc : ((s[0]'(by omega)).toNat : Int) = c) (hc1 : ((s[1]'(by omega)).toNat : Int) = c1) (hc2 : ((s[2]'(by omega)).toNat : Int) = c2) : Calls Tryz.prog 172 #[.string s] w fun e w' => e = .returned (.int .i64 (M.val (c % 16) [c1, c2])) ∧ Below w.heap.size w w' := by
  have hb0 : 0 ≤ c ∧ c < 256 := by have := (s[0]'(by omega)).toNat_lt; omega
  have hb1 : 0 ≤ c1 ∧ c1 < 256 := by have := (s[1]'(by omega)).toNat_lt; omega
  have hb2 : 0 ≤ c2 ∧ c2 < 256 := by have := (s[2]'(by omega)).toNat_lt; omega
  have h0I : (0 : Int) < (s.size : Int) := by omega
  go_enter Tryz.func172, Tryz.ntmps172
  go_wp2_with fail
  go_quiet (fail)
  go_wp2_with fail
  refine wp_loop_rounds 3 ?_
  rw [rounds_succ]
  go_wp2_with fail
  rw [rounds_succ]
  go_wp2_with fail
  rw [rounds_succ]
  go_wp2_with fail
  go_ret
  exact ⟨ret_int (by simp only [M.val]; omega), below_drewN (Below.refl _ _) _⟩
set_option maxHeartbeats 1000000 in
set_option maxRecDepth 100000 in
theorem valueOf_4 (s : ByteArray) (c c1 c2 c3 : Int) (w : World) (hs : s.size = 4) (hc : ((s[0]'(by omega)).toNat : Int) = c) (hc1 : ((s[1]'(by omega)).toNat : Int) = c1) (hc2 : ((s[2]'(by omega)).toNat : Int) = c2) (hc3 : ((s[3]'(by omega)).toNat : Int) = c3) : Calls Tryz.prog 172 #[.string s] w fun e w' => e = .returned (.int .i64 (M.val (c % 8) [c1, c2, c3])) ∧ Below w.heap.size w w' := by
  have hb0 : 0 ≤ c ∧ c < 256 := by have := (s[0]'(by omega)).toNat_lt; omega
  have hb1 : 0 ≤ c1 ∧ c1 < 256 := by have := (s[1]'(by omega)).toNat_lt; omega
  have hb2 : 0 ≤ c2 ∧ c2 < 256 := by have := (s[2]'(by omega)).toNat_lt; omega
  have hb3 : 0 ≤ c3 ∧ c3 < 256 := by have := (s[3]'(by omega)).toNat_lt; omega
  have h0I : (0 : Int) < (s.size : Int) := by omega
  go_enter Tryz.func172, Tryz.ntmps172
  go_wp2_with fail
  go_quiet (fail)
  go_wp2_with fail
  refine wp_loop_rounds 4 ?_
  rw [rounds_succ]
  go_wp2_with fail
  rw [rounds_succ]
  go_wp2_with fail
  rw [rounds_succ]
  go_wp2_with fail
  rw [rounds_succ]
  go_wp2_with fail
  go_ret
  exact ⟨ret_int (by simp only [M.val]; omega), below_drewN (Below.refl _ _) _⟩

theorem valueOf_list (s : ByteArray) (c : Int) (t : List Int) (w : World) (hm : bl s = c :: t) (hb : M.begOk (c :: t) = true) (hl : ((t.length + 1 : Nat) : Int) = M.bSize c) :
    Calls Tryz.prog 172 #[.string s] w fun e w' => e = .returned (.int .i64 (M.val (M.bBits c) t)) ∧ Below w.heap.size w w' := by
  have hsz : s.size = t.length + 1 := by rw [← bl_len, hm]; rfl
  have hget : ∀ (i : Nat) (h : i < s.size), (c :: t)[i]? = some (s[i].toNat : Int) := fun i h => by rw [← hm]; exact bl_get s i h
  have hs4 := M.bSize_bd c
  clear hm
  match t, hb, hl, hsz, hget with
  | [], hb, hl, hsz, hget =>
    simp at hsz
    have h0 := hget 0 (by omega)
    simp at h0 hl
    have hz : c < 128 := by unfold M.bSize at hl; omega
    have e : M.bBits c = c := by unfold M.bBits; rw [if_pos hz]
    rw [e]
    exact valueOf_1 s c w hsz h0.symm
  | [c1], hb, hl, hsz, hget =>
    simp at hsz
    have h0 := hget 0 (by omega)
    have h1 := hget 1 (by omega)
    simp at h0 h1 hl
    have hz : 194 ≤ c ∧ c < 224 := by unfold M.bSize at hl; omega
    rw [(M.size2 hz.1 hz.2).2.1]
    exact valueOf_2 s c c1 w hsz h0.symm h1.symm
  | [c1, c2], hb, hl, hsz, hget =>
    simp at hsz
    have h0 := hget 0 (by omega)
    have h1 := hget 1 (by omega)
    have h2 := hget 2 (by omega)
    simp at h0 h1 h2 hl
    have hz : 224 ≤ c ∧ c < 240 := by unfold M.bSize at hl; omega
    rw [(M.size3 hz.1 hz.2).2.1]
    exact valueOf_3 s c c1 c2 w hsz h0.symm h1.symm h2.symm
  | [c1, c2, c3], hb, hl, hsz, hget =>
    simp at hsz
    have h0 := hget 0 (by omega)
    have h1 := hget 1 (by omega)
    have h2 := hget 2 (by omega)
    have h3 := hget 3 (by omega)
    simp at h0 h1 h2 h3 hl
    have hz : 240 ≤ c ∧ c < 245 := by unfold M.bSize at hl; omega
    rw [(M.size4 hz.1 hz.2).2.1]
    exact valueOf_4 s c c1 c2 c3 w hsz h0.symm h1.symm h2.symm h3.symm
  | c1 :: c2 :: c3 :: c4 :: t', hb, hl, hsz, hget =>
    exfalso
    simp only [List.length_cons] at hl
    omega
end Go.Proofs.YtaiinjfnkmidbaaGreatDoor

namespace Go.Proofs.YtaiinjfnkmidbaaGreatDoor
open Go.RowKit
set_option linter.unusedVariables false

/-- What a round of DecodeUtf8 knows: r is what is still to be told. -/
def InD (s : ByteArray) (w wr : World) (r : ByteArray) (xs : List Int) (v : Value) : Prop :=
  wr.ownsRow w.heap.size 3 1 v xs.length (xs.map (Value.int .i64)) ∧ Below w.heap.size w wr ∧ xs ++ (M.Run M.f8 () (bl r)).1 = (M.Run M.f8 () (bl s)).1 ∧ (M.Run M.f8 () (bl r)).2.2 = (M.Run M.f8 () (bl s)).2.2 ∧ xs.length + r.size ≤ s.size

def hd (r : ByteArray) : Int := (bl r).headD 0
/-- Are k bytes all of a scalar's? -/
def doneB (r : ByteArray) (k : Nat) : Bool := decide (1 ≤ k ∧ (k : Int) = M.bSize (hd r))

theorem f8_at {l : List Int} {p : Int} {k : Nat} (hne : l ≠ []) (hn : M.nxt l = (p, (k : Int), false)) : M.Run M.f8 () l = ([p] ++ (M.Run M.f8 () (l.drop k)).1, (M.Run M.f8 () (l.drop k)).2) :=
  M.Run_step M.f8_steps (by unfold M.f8; rw [if_neg hne, hn]; simp)
theorem f8_open {l : List Int} {p : Int} {k : Int} (hne : l ≠ []) (hn : M.nxt l = (p, k, true)) : M.Run M.f8 () l = ([], (), l) :=
  M.Run_wait (by unfold M.f8; rw [if_neg hne, hn]; simp)
theorem InD.step {s r : ByteArray} {w wr w2 : World} {xs : List Int} {v v2 : Value} {p : Int} {k : Nat} (h : InD s w wr r xs v) (h0 : 0 < r.size) (hk : 1 ≤ k) (hk2 : k ≤ r.size) (hn : M.nxt (bl r) = (p, (k : Int), false))
    (ho : w2.ownsRow w.heap.size 3 1 v2 (xs ++ [p]).length ((xs ++ [p]).map (Value.int .i64))) (hb : Below w.heap.size wr w2) : InD s w w2 (r.extract k r.size) (xs ++ [p]) v2 := by
  obtain ⟨h1, h2, h3, h4, h5⟩ := h
  have hne := bl_ne h0
  refine ⟨ho, h2.trans hb, ?_, ?_, ?_⟩
  · rw [← h3, bl_extract, f8_at hne hn]; simp
  · rw [← h4, f8_at hne hn, bl_extract]
  · simp [ByteArray.size_extract]; omega

/-- What DecodeUtf8 answers. -/
def DecPost (s : ByteArray) (w : World) (e : Ending) (w' : World) : Prop :=
  ∃ v rr, e = .returned (.tuple #[v, .string rr]) ∧ w'.ownsRow w.heap.size 3 1 v (M.Run M.f8 () (bl s)).1.length ((M.Run M.f8 () (bl s)).1.map (Value.int .i64)) ∧ Below w.heap.size w w' ∧ bl rr = (M.Run M.f8 () (bl s)).2.2

theorem take_cons {r : ByteArray} (h0 : 0 < r.size) (k : Nat) : (bl r).take (k + 1) = hd r :: ((bl r).drop 1).take k := by
  have := bl_0 r h0
  conv => lhs; rw [this]
  simp only [List.take_succ_cons]
  congr 1
  unfold hd
  rw [this]; rfl
theorem bl_hd {r : ByteArray} (h0 : 0 < r.size) : bl r = hd r :: (bl r).drop 1 := by
  have := bl_0 r h0
  unfold hd
  conv => lhs; rw [this]
  congr 1
  rw [this]; rfl

theorem done_nxt {r : ByteArray} {k : Nat} (h0 : 0 < r.size) (hk : k ≤ r.size) (hd' : doneB r k = true) (hb : M.begOk ((bl r).take k) = true) :
    M.nxt (bl r) = (M.val (M.bBits (hd r)) (((bl r).drop 1).take (k - 1)), (k : Int), false) := by
  simp [doneB] at hd'
  obtain ⟨j, rfl⟩ : ∃ j, k = j + 1 := ⟨k - 1, by omega⟩
  rw [take_cons h0] at hb
  have := M.nxt_done (c := hd r) (t := (bl r).drop 1) (k := j) (by rw [List.length_drop, bl_len]; omega) hb hd'.2
  rw [← bl_hd h0] at this
  rw [this]; simp

theorem left_nxt {r : ByteArray} (h0 : 0 < r.size) (hd' : doneB r r.size = false) (hb : M.begOk ((bl r).take r.size) = true) : M.nxt (bl r) = (65533, (r.size : Int), true) := by
  simp [doneB] at hd'
  have hl : ((bl r).drop 1).length + 1 = r.size := by rw [List.length_drop, bl_len]; omega
  rw [← bl_len r, List.take_length, bl_hd h0] at hb
  have := M.nxt_left hb (by rw [hl]; exact hd' h0)
  rw [← bl_hd h0, hl] at this
  exact this

theorem bad_nxt {r : ByteArray} {k : Nat} (h0 : 0 < r.size) (hk1 : 1 ≤ k) (hk : k < r.size) (hd' : doneB r k = false) (hb : M.begOk ((bl r).take k) = true) (hn : M.begOk ((bl r).take (k + 1)) = false) :
    M.nxt (bl r) = (65533, (k : Int), false) := by
  simp [doneB] at hd'
  obtain ⟨j, rfl⟩ : ∃ j, k = j + 1 := ⟨k - 1, by omega⟩
  rw [take_cons h0] at hb hn
  have := M.nxt_bad (c := hd r) (t := (bl r).drop 1) (k := j) (by rw [List.length_drop, bl_len]; omega) hb (hd' hk1) hn
  rw [← bl_hd h0] at this
  exact this

theorem first_nxt {r : ByteArray} (h0 : 0 < r.size) (hn : M.begOk ((bl r).take 1) = false) : M.nxt (bl r) = (65533, 1, false) := by
  rw [take_cons h0] at hn
  have := M.nxt_first (c := hd r) ((bl r).drop 1) hn
  rw [← bl_hd h0] at this
  exact this

theorem begun_pre {r : ByteArray} {k : Nat} (h0 : 0 < r.size) (hk : k < r.size) (hd' : doneB r k = false) (hb : k = 0 ∨ M.begOk ((bl r).take k) = true) (w : World) :
    Calls Tryz.prog 108 #[.string (r.extract 0 (k + 1))] w (BegPost ((bl r).take (k + 1)) w) := by
  refine isBegun_list _ _ w (bl_take r (k + 1)) (by rw [take_cons h0]; simp) ?_
  have hl : ((bl r).take (k + 1)).length = k + 1 := by rw [List.length_take, bl_len]; omega
  have e : ((bl r).take (k + 1)).dropLast = (bl r).take k := by
    rw [List.dropLast_eq_take, hl, List.take_take]; simp
  have eh : ((bl r).take (k + 1)).headD 0 = hd r := by rw [take_cons h0]; rfl
  rw [e, eh]
  by_cases hk0 : k = 0
  · subst hk0; exact .inl rfl
  · refine .inr ⟨hb.resolve_left hk0, ?_⟩
    rw [List.length_take, bl_len, Nat.min_eq_left (by omega)]
    simp [doneB] at hd'
    exact hd' (by omega)
theorem DecPost.mk {s rr : ByteArray} {w w' : World} {v : Value} {xs : List Int} (h1 : w'.ownsRow w.heap.size 3 1 v xs.length (xs.map (Value.int .i64))) (h2 : Below w.heap.size w w') (h3 : xs = (M.Run M.f8 () (bl s)).1) (h4 : bl rr = (M.Run M.f8 () (bl s)).2.2) : DecPost s w (.returned (.tuple #[v, .string rr])) w' := by
  subst h3; exact ⟨v, rr, rfl, h1, h2, h4⟩

theorem done_step {r : ByteArray} {k : Nat} {X : Int} (hX : X = M.bSize (hd r)) : (((k : Int) + 1) == X) = doneB r (k + 1) := by
  rw [hX, Bool.eq_iff_iff]; simp [doneB]

theorem value_at {r : ByteArray} {k : Nat} (h0 : 0 < r.size) (hk : k ≤ r.size) (hd' : doneB r k = true) (hb : M.begOk ((bl r).take k) = true) (w : World) :
    Calls Tryz.prog 172 #[.string (r.extract 0 k)] w fun e w' => e = .returned (.int .i64 (M.val (M.bBits (hd r)) (((bl r).drop 1).take (k - 1)))) ∧ Below w.heap.size w w' := by
  have hdd := hd'
  simp [doneB] at hdd
  obtain ⟨j, rfl⟩ : ∃ j, k = j + 1 := ⟨k - 1, by omega⟩
  have hl : (((bl r).drop 1).take j).length = j := by rw [List.length_take, List.length_drop, bl_len]; omega
  rw [take_cons h0] at hb
  exact valueOf_list _ (hd r) (((bl r).drop 1).take j) w (by rw [bl_take, take_cons h0]) hb (by rw [hl]; exact hdd.2)

/-- What a round of the inner loop knows. -/
def InI (r : ByteArray) (wo wi : World) (k : Nat) : Prop := k ≤ r.size ∧ (k = 0 ∨ M.begOk ((bl r).take k) = true) ∧ Below wo.heap.size wo wi

set_option maxHeartbeats 2000000 in
set_option maxRecDepth 100000 in
theorem decRef_any (s : ByteArray) (w : World) (hs : s.size ≤ 3300) : Calls Tryz.prog 117 #[.string s] w (DecPost s w) := by
  have HI : InD s w w s [] (.slice none 0 0) := ⟨World.ownsRow_nil _ _ _ _, Below.refl _ _, by simp, rfl, by simp⟩
  obtain ⟨i0, hi, hz0, hz1, hz2⟩ := info_parts info3
  go_enter Tryz.func117, Tryz.ntmps117
  go_wp2_with fail
  go_loopw [0, 4] (fun sv v wr => ∃ r xs, sv = .string r ∧ InD s w wr r xs v) (fun sv _ _ => szOf sv)
  case atStart => exact ⟨s, [], rfl, HI⟩
  case round =>
    obtain ⟨r, xs, rfl, hI⟩ := hrel
    clear HI
    have hrs : r.size ≤ 3300 := by have := hI.2.2.2.2; omega
    have hxs : xs.length ≤ 3300 := by have := hI.2.2.2.2; omega
    obtain ⟨ao, cap, hsh⟩ := owns_shape hI.1
    subst hsh
    by_cases h0 : 0 < r.size
    · go_wp2_with fail
      generalize wr = wo at *
      have hwo := hI.2.1.size
      go_loopw [5, 6] (fun nv dv wi => ∃ k : Nat, nv = .int .i64 k ∧ dv = .bool (doneB r k) ∧ InI r wo wi k) (fun nv _ _ => r.size - (intOf nv).toNat)
      case atStart => exact ⟨0, rfl, rfl, Nat.zero_le _, .inl rfl, Below.refl _ _⟩
      case round =>
        obtain ⟨k, rfl, rfl, hk, hbeg, hbi⟩ := hrel
        generalize wr = wi at *
        have HBG := hide hbeg
        clear hbeg
        have hown := owns_below hI.1 hbi
        have hwi := hbi.size
        obtain ⟨q, HQ⟩ : ∃ q, Hid (doneB r k = q) := ⟨_, rfl⟩
        rw [unhide HQ]
        cases q
        · by_cases hks : k < r.size
          · go_wp2_with fail
            refine (begun_pre h0 hks (unhide HQ) (unhide HBG) _).mono ?_
            rintro e w1 ⟨X, rfl, hX, hb1⟩
            obtain ⟨q2, HQ2⟩ : ∃ q2, Hid (M.begOk ((bl r).take (k + 1)) = q2) := ⟨_, rfl⟩
            rw [unhide HQ2] at hX ⊢
            have HX := hide hX
            clear hX
            cases q2
            · have hown1 := owns_below hown hb1
              have hw1 := hb1.size
              by_cases hk0 : k = 0
              · subst hk0
                have HN := hide (first_nxt h0 (unhide HQ2))
                clear hown
                go_wp2_with (at_builtin; refine append_ints rfl (.tmp 37) (.tmp 38) rfl w.heap.size _ xs rfl (hown1.alloc _) _ [65533] rfl (one_int _ _) (by simp; omega) (by simp; omega) ?_)
                intro v2 w2 ho2 hb2
                obtain ⟨ao2, cap2, hsh2⟩ := owns_shape ho2
                subst hsh2
                have HI2 := InD.step hI h0 (k := 1) (by omega) (by omega) (unhide HN) (by simpa using ho2) ((((bstep hbi hb1).mono hwo).alloc (by omega) _).trans hb2)
                clear hI hown1 ho2 hb2 hbi hb1
                go_wp2_with fail
                go_roundw
                case rel => exact ⟨_, _, rfl, by simpa using HI2⟩
                case measure => simp [szOf]; omega
              · have HN := hide (bad_nxt h0 (by omega) hks (unhide HQ) ((unhide HBG).resolve_left hk0) (unhide HQ2))
                have hk1 : ((k : Int) == 0) = false := by simp; omega
                have hk2 : ((k : Int) == (r.size : Int)) = false := by simp; omega
                clear hown
                go_wp2_with (at_builtin; refine append_ints rfl (.tmp 37) (.tmp 38) rfl w.heap.size _ xs rfl (hown1.alloc _) _ [65533] rfl (one_int _ _) (by simp; omega) (by simp; omega) ?_)
                intro v2 w2 ho2 hb2
                obtain ⟨ao2, cap2, hsh2⟩ := owns_shape ho2
                subst hsh2
                have HI2 := InD.step hI h0 (k := k) (by omega) (by omega) (unhide HN) (by simpa using ho2) ((((bstep hbi hb1).mono hwo).alloc (by omega) _).trans hb2)
                clear hI hown1 ho2 hb2 hbi hb1
                go_wp2_with fail
                go_roundw
                case rel => exact ⟨_, _, rfl, by simpa using HI2⟩
                case measure => simp [szOf]; omega
            · have eX := unhide HX rfl
              have eh : ((bl r).take (k + 1)).headD 0 = hd r := by rw [take_cons h0]; rfl
              rw [eh] at eX
              have HD := hide (done_step (r := r) (k := k) eX)
              have HI2 : InI r wo w1 (k + 1) := ⟨by omega, .inr (unhide HQ2), bstep hbi hb1⟩
              clear eX eh hown hI hbi hb1
              go_wp2_with fail
              go_roundw
              case rel => exact ⟨k + 1, by go_num, by rw [unhide HD], HI2⟩
              case measure => simp [intOf]; omega
          · have ek : k = r.size := by omega
            subst ek
            have HN := hide (left_nxt h0 (unhide HQ) ((unhide HBG).resolve_left (by omega)))
            have hkk : ((r.size : Int) == (r.size : Int)) = true := by simp
            go_wp2_with fail
            go_ret2
            obtain ⟨h1, h2, h3, h4, h5⟩ := hI
            rw [f8_open (bl_ne h0) (unhide HN)] at h3 h4
            exact DecPost.mk hown (h2.trans (hbi.mono hwo)) (by rw [← h3]; simp) h4
        · have hk0 : k ≠ 0 := by have := unhide HQ; simp [doneB] at this; omega
          have HN := hide (done_nxt h0 hk (unhide HQ) ((unhide HBG).resolve_left hk0))
          have HV := hide (fun w => value_at h0 hk (unhide HQ) ((unhide HBG).resolve_left hk0) w)
          generalize M.val (M.bBits (hd r)) (((bl r).drop 1).take (k - 1)) = p at *
          by_cases hks : k < r.size
          all_goals
            go_wp2_with fail
            refine (unhide HV _).mono ?_
            rintro e w1 ⟨rfl, hb1⟩
            have hown1 := owns_below hown hb1
            have hw1 := hb1.size
            clear hown
            go_wp2_with (at_builtin; refine append_ints rfl (.tmp 42) (.tmp 47) rfl w.heap.size _ xs rfl (hown1.alloc _) _ [p] rfl (one_int _ _) (by simp; omega) (by simp; omega) ?_)
            intro v2 w2 ho2 hb2
            obtain ⟨ao2, cap2, hsh2⟩ := owns_shape ho2
            subst hsh2
            have HI2 := InD.step hI h0 (k := k) (by omega) hk (unhide HN) (by simpa using ho2) ((((bstep hbi hb1).mono hwo).alloc (by omega) _).trans hb2)
            clear hI hown1 ho2 hb2 hbi hb1 HV
            go_wp2_with fail
            go_roundw
            case rel => exact ⟨_, _, rfl, by simpa using HI2⟩
            case measure => simp [szOf]; omega
    · go_wp2_with fail
      go_ret2
      have h00 : r.size = 0 := by omega
      have hr : bl r = [] := List.eq_nil_of_length_eq_zero (by rw [bl_len]; exact h00)
      obtain ⟨h1, h2, h3, h4, h5⟩ := hI
      rw [hr] at h3 h4
      exact DecPost.mk h1 h2 (by rw [← h3, M.Run_wait (by rfl)]; simp) (by rw [← h4]; rfl)
end Go.Proofs.YtaiinjfnkmidbaaGreatDoor

namespace Go.Proofs.YtaiinjfnkmidbaaGreatDoor
open Go.RowKit
set_option linter.unusedVariables false

/-- What a round of DecodeUtf16's loop knows. -/
def InV (big : Bool) (s : ByteArray) (w wr : World) (k : Nat) (xs : List Int) (v : Value) : Prop :=
  wr.ownsRow w.heap.size 3 1 v xs.length (xs.map (Value.int .i64)) ∧ Below w.heap.size w wr ∧ xs.length ≤ k ∧ xs ++ (M.Run (M.f16 big) () ((bl s).drop k)).1 = (M.Run (M.f16 big) () (bl s)).1 ∧ (M.Run (M.f16 big) () ((bl s).drop k)).2.2 = (M.Run (M.f16 big) () (bl s)).2.2
theorem InV.step {big : Bool} {s : ByteArray} {w wr w2 : World} {k : Nat} {xs : List Int} {v v2 : Value} {p : Int} {z : Nat} (h : InV big s w wr k xs v) (hn : M.f16 big () ((bl s).drop k) = some ([p], z, ())) (hz : 1 ≤ z)
    (ho : w2.ownsRow w.heap.size 3 1 v2 (xs ++ [p]).length ((xs ++ [p]).map (Value.int .i64))) (hb : Below w.heap.size wr w2) : InV big s w w2 (k + z) (xs ++ [p]) v2 := by
  obtain ⟨h1, h2, h3, h4, h5⟩ := h
  have e := M.Run_step (M.f16_steps big) hn
  rw [List.drop_drop] at e
  refine ⟨ho, h2.trans hb, by simp; omega, ?_, ?_⟩
  · rw [← h4, e]; simp
  · rw [← h5, e]

set_option maxHeartbeats 400000 in
set_option maxRecDepth 100000 in
theorem unitAt_any (big : Bool) (s : ByteArray) (k : Nat) (a b : Int) (w : World) (hs : s.size ≤ 3300) (hk : k + 1 < s.size) (ha : ((s[k]'(by omega)).toNat : Int) = a) (hb : ((s[k + 1]'(by omega)).toNat : Int) = b) :
    Calls Tryz.prog 109 #[.bool big, .string s, .int .i64 (k : Int)] w fun e w' => e = .returned (.int .i64 (M.ut big a b)) ∧ ∃ m, w' = w.drewN m := by
  have ha0 : 0 ≤ a ∧ a < 256 := by have := (s[k]'(by omega)).toNat_lt; omega
  have hb0 : 0 ≤ b ∧ b < 256 := by have := (s[k + 1]'(by omega)).toNat_lt; omega
  have hk' : k < s.size := by omega
  have hkI : (k : Int) < (s.size : Int) := by omega
  have hkJ : (k : Int) + 1 < (s.size : Int) := by omega
  cases big
  · go_enter Tryz.func109, Tryz.ntmps109
    go_wp2_with fail
    go_quiet (fail)
    go_wp2_with fail
    go_ret
    exact ⟨ret_int (by simp [M.ut]; omega), _, rfl⟩
  · go_enter Tryz.func109, Tryz.ntmps109
    go_wp2_with fail
    go_quiet (fail)
    go_wp2_with fail
    go_ret
    exact ⟨ret_int (by simp [M.ut]; omega), _, rfl⟩

/-- What DecodeUtf16 answers. -/
def DecPost16 (big : Bool) (s : ByteArray) (w : World) (e : Ending) (w' : World) : Prop :=
  ∃ v rr, e = .returned (.tuple #[v, .string rr]) ∧ w'.ownsRow w.heap.size 3 1 v (M.Run (M.f16 big) () (bl s)).1.length ((M.Run (M.f16 big) () (bl s)).1.map (Value.int .i64)) ∧ Below w.heap.size w w' ∧ bl rr = (M.Run (M.f16 big) () (bl s)).2.2
theorem DecPost16.mk {big : Bool} {s : ByteArray} {w wr : World} {k : Nat} {xs : List Int} {v : Value} (q : Nat) (h : InV big s w wr k xs v) (hd : M.f16 big () ((bl s).drop k) = none) :
    DecPost16 big s w (.returned (.tuple #[v, .string (s.extract k s.size)])) (wr.drewN q) := by
  obtain ⟨h1, h2, h3, h4, h5⟩ := h
  rw [M.Run_wait hd] at h4 h5
  have h4' : xs = (M.Run (M.f16 big) () (bl s)).1 := by rw [← h4]; simp
  refine ⟨v, _, rfl, ?_, below_drewN h2 q, ?_⟩
  · rw [← h4']; exact owns_below h1 (below_drewN (Below.refl _ _) q)
  · rw [bl_extract]; exact h5
theorem InV.drew {big : Bool} {s : ByteArray} {w wr : World} {k : Nat} {xs : List Int} {v : Value} (h : InV big s w wr k xs v) (m : Nat) : InV big s w (wr.drewN m) k xs v :=
  ⟨owns_below h.1 (below_drewN (Below.refl _ _) m), below_drewN h.2.1 m, h.2.2⟩

set_option maxHeartbeats 1000000 in
set_option maxRecDepth 100000 in
theorem decRef16_any (big : Bool) (s : ByteArray) (w : World) (hs : s.size ≤ 3300) : Calls Tryz.prog 118 #[.bool big, .string s] w (DecPost16 big s w) := by
  have HI : InV big s w w 0 [] (.slice none 0 0) := ⟨World.ownsRow_nil _ _ _ _, Below.refl _ _, Nat.le_refl _, by simp, by simp⟩
  go_enter Tryz.func118, Tryz.ntmps118
  go_wp2_with fail
  go_loopw [6, 7] (fun v i wr => ∃ (k : Nat) (xs : List Int), k ≤ s.size ∧ i = .int .i64 k ∧ InV big s w wr k xs v) (fun _ i _ => s.size - (intOf i).toNat)
  case atStart => exact ⟨0, [], by omega, rfl, HI⟩
  case round =>
    obtain ⟨k, xs, hk, rfl, hI⟩ := hrel
    clear HI
    have hsz := hI.2.1.size
    have hxs := hI.2.2.1
    obtain ⟨ao, cap, hsh⟩ := owns_shape hI.1
    subst hsh
    by_cases hks : k + 2 ≤ s.size
    · have hkI : (k : Int) + 2 ≤ (s.size : Int) := by omega
      obtain ⟨a, HA⟩ : ∃ a, Hid (((s[k]'(by omega)).toNat : Int) = a) := ⟨_, hide rfl⟩
      obtain ⟨b, HB⟩ : ∃ b, Hid (((s[k + 1]'(by omega)).toNat : Int) = b) := ⟨_, hide rfl⟩
      have ha0 : 0 ≤ a ∧ a < 256 := by have := unhide HA; have := (s[k]'(by omega)).toNat_lt; omega
      have hb0 : 0 ≤ b ∧ b < 256 := by have := unhide HB; have := (s[k + 1]'(by omega)).toNat_lt; omega
      have HD : Hid ((bl s).drop k = a :: b :: (bl s).drop (k + 2)) := by
        have e1 := bl_drop s k (by omega)
        have e2 := bl_drop s (k + 1) (by omega)
        rw [unhide HA] at e1
        rw [unhide HB] at e2
        exact hide (by rw [e1, e2])
      have R1 := hide (fun w => unitAt_any big s k a b w hs (by omega) HA HB)
      obtain ⟨u, HU⟩ : ∃ u, Hid (M.ut big a b = u) := ⟨_, rfl⟩
      have hu : 0 ≤ u ∧ u < 65536 := by have := unhide HU; unfold M.ut at this; split at this <;> omega
      rw [unhide HU] at R1
      by_cases hf : 55296 ≤ u ∧ u < 56320
      · have HF : Hid (M.fst16 u = true) := hide (by simp [M.fst16]; omega)
        have hb1 : (decide (55296 ≤ u) && decide (u ≤ 56319)) = true := by simp; omega
        by_cases h4 : k + 4 ≤ s.size
        · have h4I : (k : Int) + 4 ≤ (s.size : Int) := by omega
          obtain ⟨c, HC⟩ : ∃ c, Hid (((s[k + 2]'(by omega)).toNat : Int) = c) := ⟨_, hide rfl⟩
          obtain ⟨d, HE⟩ : ∃ d, Hid (((s[k + 2 + 1]'(by omega)).toNat : Int) = d) := ⟨_, hide rfl⟩
          have hc0 : 0 ≤ c ∧ c < 256 := by have := unhide HC; have := (s[k + 2]'(by omega)).toNat_lt; omega
          have hd0 : 0 ≤ d ∧ d < 256 := by have := unhide HE; have := (s[k + 2 + 1]'(by omega)).toNat_lt; omega
          replace HD : Hid ((bl s).drop k = a :: b :: c :: d :: (bl s).drop (k + 4)) := by
            have e1 := bl_drop s (k + 2) (by omega)
            have e2 := bl_drop s (k + 2 + 1) (by omega)
            rw [unhide HC] at e1
            rw [unhide HE] at e2
            exact hide (by rw [unhide HD, e1, e2])
          have R2 : Hid (∀ w : World, Calls Tryz.prog 109 #[.bool big, .string s, .int .i64 ((k : Int) + 2)] w fun e w' => e = .returned (.int .i64 (M.ut big c d)) ∧ ∃ m, w' = w.drewN m) :=
            hide (fun w => unitAt_any big s (k + 2) c d w hs (by omega) HC HE)
          obtain ⟨v, HV⟩ : ∃ v, Hid (M.ut big c d = v) := ⟨_, rfl⟩
          have hv : 0 ≤ v ∧ v < 65536 := by have := unhide HV; unfold M.ut at this; split at this <;> omega
          rw [unhide HV] at R2
          by_cases hg : 56320 ≤ v ∧ v < 57344
          · have HN : Hid (M.f16 big () ((bl s).drop k) = some ([65536 + 1024 * (u - 55296) + v - 56320], 4, ())) := by
              have h1 := unhide HU
              have h2 := unhide HF
              have h3 := unhide HV
              have h4 : M.snd16 v = true := by simp [M.snd16]; omega
              exact hide (by rw [unhide HD]; simp [M.f16, h1, h2, h3, h4]; omega)
            have hb2 : (decide (56320 ≤ v) && decide (v ≤ 57343)) = true := by simp; omega
            go_wp2_with fail
            refine (unhide R1 _).mono ?_
            rintro e w1 ⟨rfl, m1, rfl⟩
            go_wp2_with fail
            refine (between_any _ _ _ _).mono ?_
            rintro e w1 ⟨rfl, hw⟩
            replace hw := hw.symm
            subst hw
            rw [hb1]
            go_wp2_with fail
            refine (unhide R2 _).mono ?_
            rintro e w1 ⟨rfl, m2, rfl⟩
            go_wp2_with fail
            refine (between_any _ _ _ _).mono ?_
            rintro e w1 ⟨rfl, hw⟩
            replace hw := hw.symm
            subst hw
            rw [hb2]
            go_wp2_with (at_builtin; refine append_ints rfl (.tmp 33) (.tmp 41) rfl w.heap.size _ xs rfl (owns_da hI.1 _ _) _ [65536 + 1024 * (u - 55296) + v - 56320] rfl (one_int _ _) (by simp; omega) (by simp; omega) ?_)
            intro v2 w2 ho2 hb2
            have HI := hI.step (v2 := v2) HN (by omega) (by simpa using ho2) (((below_drewN (Below.refl _ _) _).alloc hsz _).trans hb2)
            obtain ⟨ao2, cap2, hsh2⟩ := owns_shape ho2
            subst hsh2
            clear hI ho2 hb2
            go_wp2_with fail
            go_roundw
            case rel => exact ⟨k + 4, _, by omega, by go_num, HI⟩
            case measure => simp [intOf]; omega
          · have HN : Hid (M.f16 big () ((bl s).drop k) = some ([65533], 2, ())) := by
              have h1 := unhide HU
              have h2 := unhide HF
              have h3 := unhide HV
              have h4 : M.snd16 v = false := by simp [M.snd16]; omega
              exact hide (by rw [unhide HD]; simp [M.f16, h1, h2, h3, h4])
            have hb2 : (decide (56320 ≤ v) && decide (v ≤ 57343)) = false := by simp; omega
            have hb3 : (decide (55296 ≤ u) && decide (u ≤ 57343)) = true := by simp; omega
            go_wp2_with fail
            refine (unhide R1 _).mono ?_
            rintro e w1 ⟨rfl, m1, rfl⟩
            go_wp2_with fail
            refine (between_any _ _ _ _).mono ?_
            rintro e w1 ⟨rfl, hw⟩
            replace hw := hw.symm
            subst hw
            rw [hb1]
            go_wp2_with fail
            refine (unhide R2 _).mono ?_
            rintro e w1 ⟨rfl, m2, rfl⟩
            go_wp2_with fail
            refine (between_any _ _ _ _).mono ?_
            rintro e w1 ⟨rfl, hw⟩
            replace hw := hw.symm
            subst hw
            rw [hb2]
            go_wp2_with fail
            refine (between_any _ _ _ _).mono ?_
            rintro e w1 ⟨rfl, hw⟩
            replace hw := hw.symm
            subst hw
            rw [hb3]
            go_wp2_with (at_builtin; refine append_ints rfl (.tmp 47) (.tmp 49) rfl w.heap.size _ xs rfl (owns_da hI.1 _ _) _ [65533] rfl (one_int _ _) (by simp; omega) (by simp; omega) ?_)
            intro v2 w2 ho2 hb2
            have HI := hI.step (v2 := v2) HN (by omega) (by simpa using ho2) (((below_drewN (Below.refl _ _) _).alloc hsz _).trans hb2)
            obtain ⟨ao2, cap2, hsh2⟩ := owns_shape ho2
            subst hsh2
            clear hI ho2 hb2
            go_wp2_with fail
            go_roundw
            case rel => exact ⟨k + 2, _, by omega, by go_num, HI⟩
            case measure => simp [intOf]; omega
        · have h4I : (s.size : Int) < (k : Int) + 4 := by omega
          have HX : Hid (M.f16 big () ((bl s).drop k) = none) := by
            have h1 := unhide HU
            have h2 := unhide HF
            have hl : ((bl s).drop (k + 2)).length = s.size - (k + 2) := by simp [bl_len]
            refine hide ?_
            rw [unhide HD]
            generalize (bl s).drop (k + 2) = t at hl
            match t, hl with
            | [], _ => simp [M.f16, h1, h2]
            | [c], _ => simp [M.f16, h1, h2]
            | _ :: _ :: _, hl => simp at hl; omega
          go_wp2_with fail
          refine (unhide R1 _).mono ?_
          rintro e w1 ⟨rfl, m1, rfl⟩
          go_wp2_with fail
          refine (between_any _ _ _ _).mono ?_
          rintro e w1 ⟨rfl, hw⟩
          replace hw := hw.symm
          subst hw
          rw [hb1]
          go_wp2_with fail
          go_quiet (fail)
          go_wp2_with fail
          go_ret2
          exact DecPost16.mk _ (hI.drew m1) (unhide HX)
      · have HF : Hid (M.fst16 u = false) := hide (by simp [M.fst16]; omega)
        have hb1 : (decide (55296 ≤ u) && decide (u ≤ 56319)) = false := by simp; omega
        have HN : Hid (M.f16 big () ((bl s).drop k) = some ([M.aln u], 2, ())) := by
          have h1 := unhide HU
          have h2 := unhide HF
          refine hide ?_
          rw [unhide HD]
          generalize (bl s).drop (k + 2) = t
          match t with
          | [] => simp [M.f16, h1, h2]
          | [_] => simp [M.f16, h1, h2]
          | _ :: _ :: _ => simp [M.f16, h1, h2]
        by_cases hg : 55296 ≤ u ∧ u ≤ 57343
        · have hb3 : (decide (55296 ≤ u) && decide (u ≤ 57343)) = true := by simp; omega
          have HA : M.aln u = 65533 := by have : M.snd16 u = true := by simp [M.snd16]; omega
                                          simp [M.aln, this]
          rw [HA] at HN
          clear HA
          go_wp2_with fail
          refine (unhide R1 _).mono ?_
          rintro e w1 ⟨rfl, m1, rfl⟩
          go_wp2_with fail
          refine (between_any _ _ _ _).mono ?_
          rintro e w1 ⟨rfl, hw⟩
          replace hw := hw.symm
          subst hw
          rw [hb1]
          go_wp2_with fail
          refine (between_any _ _ _ _).mono ?_
          rintro e w1 ⟨rfl, hw⟩
          replace hw := hw.symm
          subst hw
          rw [hb3]
          go_wp2_with (at_builtin; refine append_ints rfl (.tmp 47) (.tmp 49) rfl w.heap.size _ xs rfl (owns_da hI.1 _ _) _ [65533] rfl (one_int _ _) (by simp; omega) (by simp; omega) ?_)
          intro v2 w2 ho2 hb2
          have HI := hI.step (v2 := v2) HN (by omega) (by simpa using ho2) (((below_drewN (Below.refl _ _) _).alloc hsz _).trans hb2)
          obtain ⟨ao2, cap2, hsh2⟩ := owns_shape ho2
          subst hsh2
          clear hI ho2 hb2
          go_wp2_with fail
          go_roundw
          case rel => exact ⟨k + 2, _, by omega, by go_num, HI⟩
          case measure => simp [intOf]; omega
        · have hb3 : (decide (55296 ≤ u) && decide (u ≤ 57343)) = false := by simp; omega
          have HA : M.aln u = u := by have : M.snd16 u = false := by simp [M.snd16]; omega
                                      simp [M.aln, this]
          rw [HA] at HN
          clear HA
          go_wp2_with fail
          refine (unhide R1 _).mono ?_
          rintro e w1 ⟨rfl, m1, rfl⟩
          go_wp2_with fail
          refine (between_any _ _ _ _).mono ?_
          rintro e w1 ⟨rfl, hw⟩
          replace hw := hw.symm
          subst hw
          rw [hb1]
          go_wp2_with fail
          refine (between_any _ _ _ _).mono ?_
          rintro e w1 ⟨rfl, hw⟩
          replace hw := hw.symm
          subst hw
          rw [hb3]
          go_wp2_with (at_builtin; refine append_ints rfl (.tmp 47) (.tmp 49) rfl w.heap.size _ xs rfl (owns_da hI.1 _ _) _ [u] rfl (one_int _ _) (by simp; omega) (by simp; omega) ?_)
          intro v2 w2 ho2 hb2
          have HI := hI.step (v2 := v2) HN (by omega) (by simpa using ho2) (((below_drewN (Below.refl _ _) _).alloc hsz _).trans hb2)
          obtain ⟨ao2, cap2, hsh2⟩ := owns_shape ho2
          subst hsh2
          clear hI ho2 hb2
          go_wp2_with fail
          go_roundw
          case rel => exact ⟨k + 2, _, by omega, by go_num, HI⟩
          case measure => simp [intOf]; omega
    · have HX : Hid (M.f16 big () ((bl s).drop k) = none) := by
        have hl : ((bl s).drop k).length = s.size - k := by simp [bl_len]
        refine hide ?_
        generalize (bl s).drop k = t at hl
        match t, hl with
        | [], hl => rfl
        | [c], hl => rfl
        | _ :: _ :: _, hl => simp at hl; omega
      have hkI : ¬ (k : Int) + 2 ≤ (s.size : Int) := by omega
      go_wp2_with fail
      go_quiet (fail)
      go_wp2_with fail
      go_ret2
      exact DecPost16.mk _ hI (unhide HX)
end Go.Proofs.YtaiinjfnkmidbaaGreatDoor

namespace Go.Proofs.YtaiinjfnkmidbaaGreatDoor
open Go.RowKit Go.Maps
set_option linter.unusedVariables false

set_option maxHeartbeats 400000 in
set_option maxRecDepth 100000 in
theorem pointRef_any (user : Bool) (k : Nat) (w : World) (hk : k < 256) : Calls Tryz.prog 173 #[.bool user, .int .i64 (k : Int)] w fun e w' => e = .returned (.int .i64 (M.pt user (k : Int))) ∧ Below w.heap.size w w' := by
  by_cases h1 : k < 128
  · have HP := hide (pt_lo user h1)
    go_enter Tryz.func173, Tryz.ntmps173
    go_wp2
    go_ret
    exact ⟨ret_int (unhide HP).symm, Below.refl _ _⟩
  · cases user
    · by_cases h2 : k < 160
      · have HP := hide (pt_mid (k := k) (by omega) h2)
        have hsub : (k : Int) - 128 = ((k - 128 : Nat) : Int) := by omega
        have hb32 : k - 128 < 32 := by omega
        obtain ⟨j, HJ⟩ : ∃ j, Hid (k - 128 = j) := ⟨_, rfl⟩
        rw [unhide HJ] at hsub hb32 HP
        go_enter Tryz.func173, Tryz.ntmps173
        go_wp2_with fail
        refine (high_any _).mono ?_
        rintro e w1 ⟨rfl, hI1, hz1, hb1⟩
        have hcell := hI1 j hb32
        have hbw : w.heap.size < w1.heap.size := by omega
        obtain ⟨p, HQ⟩ : ∃ p, Hid (M.high.getD j 0 = p) := ⟨_, rfl⟩
        rw [unhide HQ] at hcell HP
        clear hI1
        go_wp2_with fail
        go_ret
        exact ⟨ret_int (unhide HP).symm, hb1⟩
      · have HP := hide (pt_hi (k := k) (by omega))
        go_enter Tryz.func173, Tryz.ntmps173
        go_wp2
        go_ret
        exact ⟨ret_int (unhide HP).symm, Below.refl _ _⟩
    · have HP := hide (pt_user (k := k) (by omega))
      go_enter Tryz.func173, Tryz.ntmps173
      go_wp2
      go_ret
      exact ⟨ret_int (unhide HP).symm, Below.refl _ _⟩

set_option maxHeartbeats 400000 in
set_option maxRecDepth 100000 in
theorem decRefS_any (user : Bool) (s : ByteArray) (w : World) (hs : s.size ≤ 3300) :
    Calls Tryz.prog 119 #[.bool user, .string s] w fun e w' => ∃ v, e = .returned v ∧ w'.ownsRow w.heap.size 3 1 v (M.decS user (bl s)).length ((M.decS user (bl s)).map (Value.int .i64)) ∧ Below w.heap.size w w' := by
  have HI : Hid (InS user s w w 0 (.slice none 0 0)) := hide ⟨World.ownsRow_nil _ _ _ _, Below.refl _ _⟩
  go_enter Tryz.func119, Tryz.ntmps119
  go_wp2_with fail
  go_loopw [5, 6] (fun v i wr => ∃ k : Nat, k ≤ s.size ∧ i = .int .i64 k ∧ InS user s w wr k v) (fun _ i _ => s.size - (intOf i).toNat)
  case atStart => exact ⟨0, by omega, rfl, unhide HI⟩
  case round =>
    obtain ⟨k, hk, rfl, hI⟩ := hrel
    clear HI
    have hz := hI.2.size
    have hl : Hid ((M.decS user ((bl s).take k)).length = k) := hide (by rw [M.decS_len, List.length_take, bl_len]; omega)
    obtain ⟨ao, cap, hsh⟩ := owns_shape hI.1
    subst hsh
    by_cases hlt : k < s.size
    · obtain ⟨c, hc⟩ : ∃ c : Nat, s[k].toNat = c := ⟨_, rfl⟩
      have hcb : c < 256 := by have := s[k].toNat_lt; omega
      have hci : (s[k].toNat : Int) = (c : Int) := by omega
      have HR := hide (fun w => pointRef_any user c w hcb)
      obtain ⟨p, HP⟩ : ∃ p, Hid (M.pt user (c : Int) = p) := ⟨_, rfl⟩
      rw [unhide HP] at HR
      have HCC := hide hci
      go_wp2_with fail
      refine (unhide HR _).mono ?_
      rintro e w1 ⟨rfl, hb1⟩
      have hz1 := hb1.size
      have ho1 := owns_below hI.1 hb1
      go_wp2_with (at_builtin; refine append_ints rfl (.tmp 13) (.tmp 20) rfl w.heap.size _ (M.decS user ((bl s).take k)) rfl (owns_a ho1 _) _ [p] rfl (one_int _ _) (by rw [unhide hl]; simp; omega) (by simp; omega) ?_)
      intro v2 w2 ho2 hb2
      have HJ : Hid (InS user s w w2 (k + 1) v2) := hide (hI.step hlt (unhide HCC) (unhide HP) (by simpa using ho2) ((hb1.mono hz).trans (((Below.refl _ _).alloc (by omega) _).trans hb2)))
      obtain ⟨ao2, cap2, hsh2⟩ := owns_shape ho2
      subst hsh2
      clear hI ho2 hb2 ho1 hb1
      go_wp2_with fail
      go_roundw
      case rel => exact ⟨k + 1, by omega, by go_num, by simpa using unhide HJ⟩
      case measure => simp [intOf]; omega
    · have HV := hide hI.1
      have et : (bl s).take k = bl s := List.take_of_length_le (by rw [bl_len]; omega)
      rw [et] at HV
      have HB := hide hI.2
      rw [et]
      clear hI et hl
      go_wp2_with fail
      go_ret
      exact ⟨_, rfl, unhide HV, unhide HB⟩

end Go.Proofs.YtaiinjfnkmidbaaGreatDoor
