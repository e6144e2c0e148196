/- The contracts of shift's teller, further: next at an escape, next, Tell a whole text, kana.Decode. What was there below is as it was. -/
import Derived.Test.YtpjhcecfcjbgoaaKB
namespace Go.Proofs.Ytpjhcecfcjbgoaa
open Go.RowKit
set_option linter.unusedVariables false

set_option maxHeartbeats 800000 in
set_option maxRecDepth 100000 in
theorem next_esc (D : Nat) (g g' : Int) (fr : Bool) (xs : List Int) (v : Value) (s : ByteArray) (w : World) (h0 : 0 < s.size) (hs : s.size ≤ 3003) (hx : xs.length ≤ 50000) (hT : Tl D g fr xs v w) (he : M.kesc (bl s) = some g') :
    Calls Try.prog 45 #[.pointer (some ⟨D, 0, none⟩), .string s] w fun e w' => ∃ v', e = .returned (.int .i64 3) ∧ Tl D g' true (xs ++ M.bads fr) v' w' ∧ Below D w w' := by
  have hr : ∀ w : World, Calls Try.prog 52 #[.string s] w fun e w' => e = .returned (.tuple #[.int .i64 g', .bool true]) ∧ w' = w := fun w =>
    (readEscape_any s w (by unfold maxLen; omega)).mono fun e w' h => by
      obtain ⟨⟨q, h1, h3⟩, h2⟩ := h
      rw [he] at h1
      rw [h3 g' he] at h1
      exact ⟨h1, h2⟩
  obtain ⟨hT, ho⟩ := hT
  have HT := hide hT
  obtain ⟨c0, c1, c2, f0, f1, f2⟩ := hT
  have hDs : D < w.heap.size := World.block_lt_of_cell? w _ c0
  obtain ⟨ao, cap, hsh⟩ := owns_shape ho
  subst hsh
  have HO := hide ho
  clear he ho
  cases fr
  · go_enter Try.func45, Try.ntmps45
    go_wp2_with fail
    refine (hr _).mono ?_
    rintro e w1 ⟨rfl, hw⟩
    replace hw := hw.symm
    subst hw
    clear hr
    go_wp2_with fail
    go_ret
    exact ⟨_, rfl, ⟨((unhide HT).set0 g').set1 true, by simpa [M.bads] using owns_set (owns_set (unhide HO) ⟨D, 0, none⟩ (Nat.lt_succ_self _) _) ⟨D, 1, none⟩ (Nat.lt_succ_self _) _⟩, bset (bset (Below.refl _ _) ⟨D, 0, none⟩ _ (Nat.le_refl _)) ⟨D, 1, none⟩ _ (Nat.le_refl _)⟩
  · go_enter Try.func45, Try.ntmps45
    go_wp2_with fail
    refine (hr _).mono ?_
    rintro e w1 ⟨rfl, hw⟩
    replace hw := hw.symm
    subst hw
    clear hr
    go_wp2_with (at_builtin; refine append_ints rfl (.tmp 44) (.tmp 45) rfl (D + 1) _ xs rfl (owns_a (unhide HO) _) _ [65533] rfl (one_int _ _) (by simp; omega) (by simp; omega) ?_)
    intro v2 w2 ho2 hb2
    obtain ⟨ao2, cap2, hsh2⟩ := owns_shape ho2
    subst hsh2
    have HO2 := hide ho2
    have HT2 := hide ((unhide HT).below (((Below.refl _ _).alloc (show D + 1 ≤ w.heap.size from hDs) _).trans hb2))
    have HB2 := hide (((Below.refl D w).alloc (Nat.le_of_lt hDs) _).trans (hb2.mono (Nat.le_succ D)))
    obtain ⟨d0, d1, d2, e0, e1, e2⟩ := unhide HT2
    have hDs2 : D < w2.heap.size := World.block_lt_of_cell? w2 _ d0
    clear ho2 hb2
    go_wp2_with fail
    go_ret
    exact ⟨_, rfl, ⟨(((unhide HT2).set2 _).set0 g').set1 true, by simpa [M.bads] using owns_set (owns_set (owns_set (unhide HO2) ⟨D, 2, none⟩ (Nat.lt_succ_self _) _) ⟨D, 0, none⟩ (Nat.lt_succ_self _) _) ⟨D, 1, none⟩ (Nat.lt_succ_self _) _⟩, bset (bset (bset (unhide HB2) ⟨D, 2, none⟩ _ (Nat.le_refl _)) ⟨D, 0, none⟩ _ (Nat.le_refl _)) ⟨D, 1, none⟩ _ (Nat.le_refl _)⟩

theorem next_all (D : Nat) (g : Int) (fr : Bool) (xs : List Int) (v : Value) (s : ByteArray) (w : World) (hg : M.Sg g) (h0 : 0 < s.size) (hs : s.size ≤ 3003) (hx : xs.length ≤ 50000) (hT : Tl D g fr xs v w) {o : List Int} {k : Nat} {g' : Int} {fr' : Bool} (he : M.gk (g, fr) (bl s) = (o, k, (g', fr'))) :
    Calls Try.prog 45 #[.pointer (some ⟨D, 0, none⟩), .string s] w fun e w' => ∃ v', e = .returned (.int .i64 (k : Int)) ∧ Tl D g' fr' (xs ++ o) v' w' ∧ Below D w w' := by
  unfold M.gk at he
  cases hq : M.kesc (bl s) with
  | none =>
    rw [hq] at he
    have hh : (bl s).headD 0 = (s[0].toNat : Int) := by rw [bl_0 s h0]; rfl
    simp only [hh, Prod.mk.injEq] at he
    obtain ⟨rfl, rfl, rfl, rfl⟩ := he
    exact next_sign D g fr xs v s w hg h0 hs hx hT hq
  | some q =>
    rw [hq] at he
    simp only [Prod.mk.injEq] at he
    obtain ⟨rfl, rfl, rfl, rfl⟩ := he
    exact next_esc D g q fr xs v s w h0 hs hx hT hq
theorem gk_sg {g : Int} {fr : Bool} (l : List Int) (hg : M.Sg g) : M.Sg (M.gk (g, fr) l).2.2.1 := by
  unfold M.gk
  cases hq : M.kesc l with
  | none => exact hg
  | some q => exact (M.kesc_len hq).2
theorem tot_sg : ∀ (n : Nat) (l : List Int) {g : Int} {fr : Bool}, l.length ≤ n → M.Sg g → M.Sg (M.Tot M.gk (g, fr) l).2.1
  | 0, l, g, fr, h, hg => by
    have : l = [] := List.eq_nil_of_length_eq_zero (by omega)
    subst this; exact hg
  | n + 1, l, g, fr, h, hg => by
    by_cases hl : l = []
    · subst hl; exact hg
    · have hs := M.gk_size (g, fr) l hl
      rw [M.Tot_step M.gk_size (s' := (M.gk (g, fr) l).2.2) (o := (M.gk (g, fr) l).1) (k := (M.gk (g, fr) l).2.1) hl rfl]
      exact tot_sg n (l.drop (M.gk (g, fr) l).2.1) (g := (M.gk (g, fr) l).2.2.1) (fr := (M.gk (g, fr) l).2.2.2) (by simp; omega) (gk_sg l hg)
theorem gk_few (h : Int × Bool) (l : List Int) : (M.gk h l).1.length ≤ (M.gk h l).2.1 := by
  unfold M.gk
  cases hq : M.kesc l with
  | none => simp
  | some q => simp only [M.bads]; split <;> simp

theorem owns_mono {w : World} {base base' e size n : Nat} {v : Value} {xs : List Value} (h : w.ownsRow base e size v n xs) (hb : base' ≤ base) : w.ownsRow base' e size v n xs := by
  refine ⟨h.1, ?_⟩
  rcases h.2 with hn | ⟨g, cap, cur, rfl, hg, rest⟩
  · exact .inl hn
  · exact .inr ⟨g, cap, cur, rfl, by omega, rest⟩
/-- What a round of Tell's loop knows. -/
def InT (g0 : Int) (fr0 : Bool) (s : ByteArray) (D : Nat) (W wr : World) (k : Nat) : Prop :=
  ∃ xs g fr v, Tl D g fr xs v wr ∧ Below D W wr ∧ M.Sg g ∧ xs.length ≤ k ∧ M.Tot M.gk (g0, fr0) (bl s) = (xs ++ (M.Tot M.gk (g, fr) ((bl s).drop k)).1, (M.Tot M.gk (g, fr) ((bl s).drop k)).2)

theorem InT.start (g : Int) (fr : Bool) (s : ByteArray) (D : Nat) (W : World) (hg : M.Sg g) (hT : Tl D g fr [] (.slice none 0 0) W) : InT g fr s D W W 0 :=
  ⟨[], g, fr, _, hT, Below.refl _ _, hg, Nat.le_refl _, rfl⟩

set_option maxHeartbeats 800000 in
set_option maxRecDepth 100000 in
theorem tell_own (g : Int) (fr : Bool) (s : ByteArray) (w : World) (hg : M.Sg g) (hs : s.size ≤ 3003) :
    Calls Try.prog 31 #[.agg #[.int .i64 g, .bool fr], .string s] w fun e w' => ∃ v, e = .returned (.tuple #[v, .agg #[.int .i64 (M.Tot M.gk (g, fr) (bl s)).2.1, .bool (M.Tot M.gk (g, fr) (bl s)).2.2]]) ∧ w'.ownsRow w.heap.size 3 1 v (M.Tot M.gk (g, fr) (bl s)).1.length ((M.Tot M.gk (g, fr) (bl s)).1.map (Value.int .i64)) ∧ Below w.heap.size w w' := by
  go_enter Try.func31, Try.ntmps31
  go_wp2_with fail
  generalize hW : (((w.alloc (Obj.cells #[Value.int IntKind.i64 g, Value.bool fr] 56)).alloc (Obj.cells #[Value.int IntKind.i64 0, Value.bool false] 56)).alloc (Obj.cells #[Value.int IntKind.i64 g, Value.bool fr, Value.slice none 0 0] 76)) = W
  have HT : Hid (InT g fr s (w.heap.size + 1 + 1) W W 0) := hide (InT.start g fr s _ W hg ⟨by subst hW; constructor <;> simp [go_sem], World.ownsRow_nil _ _ _ _⟩)
  have HB : Hid (Below w.heap.size w W) := hide (by subst hW; exact (((Below.refl _ _).alloc (Nat.le_refl _) _).alloc (by simp) _).alloc (by simp; omega) _)
  have HC : Hid (W.cell? ⟨w.heap.size + 1, 0, none⟩ = some (.int .i64 0) ∧ W.cell? ⟨w.heap.size + 1, 1, none⟩ = some (.bool false) ∧ W.frozen? ⟨w.heap.size + 1, 0, none⟩ = false ∧ W.frozen? ⟨w.heap.size + 1, 1, none⟩ = false) := hide (by subst hW; refine ⟨?_, ?_, ?_, ?_⟩ <;> simp [go_sem])
  have hWs : w.heap.size + 3 = W.heap.size := by subst hW; simp
  clear hW
  go_loopw [7] (fun i wr => ∃ k : Nat, k ≤ s.size ∧ i = .int .i64 k ∧ InT g fr s (w.heap.size + 1 + 1) W wr k) (fun i _ => s.size - (intOf i).toNat)
  case atStart => exact ⟨0, by omega, rfl, unhide HT⟩
  case round =>
    obtain ⟨k, hk, rfl, xs, g1, fr1, v, hT, hb, hg1, hxk, hE⟩ := hrel
    clear HT
    have HE := hide hE
    have HBb := hide hb
    have hxs : xs.length ≤ 50000 := by omega
    have hlen : Hid (xs.length ≤ k) := hide hxk
    clear hE hxk
    by_cases hks : k < s.size
    · obtain ⟨o, z, g2, fr2, hq⟩ : ∃ o z g2 fr2, M.gk (g1, fr1) ((bl s).drop k) = (o, z, (g2, fr2)) := ⟨_, _, _, _, rfl⟩
      have hne : (bl s).drop k ≠ [] := fun e => by have := congrArg List.length e; simp [bl_len] at this; omega
      have hz := M.gk_size (g1, fr1) ((bl s).drop k) hne
      have hfew := gk_few (g1, fr1) ((bl s).drop k)
      have hsg := gk_sg (fr := fr1) ((bl s).drop k) hg1
      have hst := M.Tot_step M.gk_size hne hq
      rw [hq] at hz hfew hsg
      simp only [List.length_drop, bl_len] at hz
      have hcall : ∀ w1 : World, w1 = wr → Calls Try.prog 45 #[.pointer (some ⟨w.heap.size + 1 + 1, 0, none⟩), .string (s.extract k s.size)] w1 fun e w' => ∃ v', e = .returned (.int .i64 (z : Int)) ∧ Tl (w.heap.size + 1 + 1) g2 fr2 (xs ++ o) v' w' ∧ Below (w.heap.size + 1 + 1) wr w' := by
        rintro _ rfl
        exact next_all _ g1 fr1 xs v (s.extract k s.size) _ hg1 (by simp; omega) (by simp; omega) hxs hT (by rw [bl_extract]; exact hq)
      have hdd : ((bl s).drop k).drop z = (bl s).drop (k + z) := by rw [List.drop_drop]
      have HJ : Hid (∀ v' w', Tl (w.heap.size + 1 + 1) g2 fr2 (xs ++ o) v' w' → Below (w.heap.size + 1 + 1) wr w' → InT g fr s (w.heap.size + 1 + 1) W w' (k + z)) := hide fun v' w' h1 h2 =>
        ⟨xs ++ o, g2, fr2, v', h1, (unhide HBb).trans h2, hsg, by have := unhide hlen; simp at hfew; simp; omega, by rw [unhide HE, hst, hdd]; simp [List.append_assoc]⟩
      have hz1 : 1 ≤ z := hz.1
      have hz2 : z ≤ s.size - k := hz.2
      clear hq hne hz hfew hsg hst hdd hT hb
      go_wp2_with fail
      refine (hcall _ rfl).mono ?_
      rintro e w1 ⟨v', rfl, h1, h2⟩
      have HK := hide (unhide HJ v' w1 h1 h2)
      clear h1 h2 hcall
      go_wp2_with fail
      go_roundw
      case rel => exact ⟨k + z, by omega, by go_num, unhide HK⟩
      case measure => simp [intOf]; omega
    · obtain ⟨hTc, ho⟩ := hT
      have ek : (bl s).drop k = [] := List.drop_of_length_le (by rw [bl_len]; omega)
      rw [ek, M.Tot_nil, List.append_nil] at HE
      obtain ⟨c0, c1, c2, f0, f1, f2⟩ := hTc
      obtain ⟨ao, cap, hsh⟩ := owns_shape ho
      subst hsh
      have HO := hide ho
      obtain ⟨r0, r1, s0, s1⟩ := unhide HC
      have q0 : wr.cell? ⟨w.heap.size + 1, 0, none⟩ = some (.int .i64 0) := (hb.cell (p := ⟨w.heap.size + 1, 0, none⟩) (Nat.lt_succ_self _)).trans r0
      have q1 : wr.cell? ⟨w.heap.size + 1, 1, none⟩ = some (.bool false) := (hb.cell (p := ⟨w.heap.size + 1, 1, none⟩) (Nat.lt_succ_self _)).trans r1
      have t0 : wr.frozen? ⟨w.heap.size + 1, 0, none⟩ = false := (hb.frozen (p := ⟨w.heap.size + 1, 0, none⟩) (Nat.lt_succ_self _)).trans s0
      have t1 : wr.frozen? ⟨w.heap.size + 1, 1, none⟩ = false := (hb.frozen (p := ⟨w.heap.size + 1, 1, none⟩) (Nat.lt_succ_self _)).trans s1
      have HBt := hide ((unhide HB).trans (hb.mono (by omega)))
      have hB1 : w.heap.size + 1 < wr.heap.size := World.block_lt_of_cell? wr _ q0
      have hB2 : w.heap.size + 1 + 1 < wr.heap.size := World.block_lt_of_cell? wr _ c0
      clear ho ek hb r0 r1 s0 s1 HC HB HBb
      go_wp2_with fail
      go_region
      all_goals
        go_wp2_with fail
        refine bodyPost_ret (v := .tuple #[.slice ao xs.length cap, .agg #[.int .i64 g1, .bool fr1]]) (by simp [results, Try.results31, go_sem, q0, q1]) rfl ?_
        refine ⟨.slice ao xs.length cap, ?_, ?_, ?_⟩
        · rw [unhide HE]
        · rw [unhide HE]
          exact owns_below (owns_mono (owns_set (owns_set (unhide HO) ⟨w.heap.size + 1, 0, none⟩ (by simp) _) ⟨w.heap.size + 1, 1, none⟩ (by simp) _) (by omega)) (below_drewN (Below.refl _ _) 1)
        · exact below_drewN (bset (bset (unhide HBt) ⟨w.heap.size + 1, 0, none⟩ _ (by simp)) ⟨w.heap.size + 1, 1, none⟩ _ (by simp)) 1

theorem tell_any (g : Int) (fr : Bool) (s : ByteArray) (w : World) (hg : M.Sg g) (hs : s.size ≤ 3003) :
    Calls Try.prog 31 #[.agg #[.int .i64 g, .bool fr], .string s] w fun e w' => ∃ v, e = .returned (.tuple #[v, .agg #[.int .i64 (M.Tot M.gk (g, fr) (bl s)).2.1, .bool (M.Tot M.gk (g, fr) (bl s)).2.2]]) ∧ Ints w' v (M.Tot M.gk (g, fr) (bl s)).1 ∧ Below w.heap.size w w' :=
  (tell_own g fr s w hg hs).mono fun e w' h => by
    obtain ⟨v, h1, h2, h3⟩ := h
    exact ⟨v, h1, Ints.of_owns h2, h3⟩

set_option maxHeartbeats 800000 in
set_option maxRecDepth 100000 in
theorem kdec_in (s : ByteArray) (w : World) (hs : s.size ≤ 3000) :
    Calls Try.prog 30 #[.string s] w fun e w' => ∃ v, e = .returned v ∧ w'.ownsRow w.heap.size 3 1 v (M.kdec (bl s)).length ((M.kdec (bl s)).map (Value.int .i64)) ∧ Below w.heap.size w w' := by
  have H : ∀ w : World, Calls Try.prog 31 #[.agg #[.int .i64 0, .bool false], .string s] w fun e w' => ∃ v g fr, e = .returned (.tuple #[v, .agg #[.int .i64 g, .bool fr]]) ∧ w'.ownsRow w.heap.size 3 1 v (M.kdec (bl s)).length ((M.kdec (bl s)).map (Value.int .i64)) ∧ Below w.heap.size w w' := fun w =>
    (tell_own 0 false s w (.inl rfl) (by omega)).mono fun e w' h => by
      obtain ⟨v, h1, h2, h3⟩ := h
      rw [M.gk_dec] at h2
      exact ⟨v, _, _, h1, h2, h3⟩
  go_enter Try.func30, Try.ntmps30
  go_wp2_with fail
  refine (H _).mono ?_
  rintro e w1 ⟨v, g, fr, rfl, hI, hb⟩
  have HI := hide hI
  have HB := hide hb
  obtain ⟨ao, cap, rfl⟩ := owns_shape hI
  clear hb H hI
  go_wp2_with fail
  go_ret
  exact ⟨_, rfl, owns_a (unhide HI) _, bstep (unhide HB) (balloc _ _)⟩

set_option maxHeartbeats 400000 in
set_option maxRecDepth 100000 in
theorem kdecode_own (s : ByteArray) (w : World) (hs : s.size ≤ 3000) :
    Calls Try.prog 16 #[.string s] w fun e w' => ∃ v, e = .returned (.tuple #[v, .int .i64 0]) ∧ w'.ownsRow w.heap.size 3 1 v (M.kdec (bl s)).length ((M.kdec (bl s)).map (Value.int .i64)) ∧ Below w.heap.size w w' := by
  go_enter Try.func16, Try.ntmps16
  go_wp2_with (first | (go_at_call 30; refine (kdec_in _ _ hs).mono ?_; rintro e w1 ⟨v, rfl, hI, hb⟩; have HI := hide hI; have HB := hide hb; obtain ⟨ao, cap, rfl⟩ := owns_shape hI; clear hb hI) | go_in)
  go_ret2
  exact ⟨_, rfl, unhide HI, unhide HB⟩
theorem kdecode_any (s : ByteArray) (w : World) (hs : s.size ≤ 3000) :
    Calls Try.prog 16 #[.string s] w fun e w' => ∃ v, e = .returned (.tuple #[v, .int .i64 0]) ∧ Ints w' v (M.kdec (bl s)) ∧ Below w.heap.size w w' :=
  (kdecode_own s w hs).mono fun e w' h => by
    obtain ⟨v, h1, h2, h3⟩ := h
    exact ⟨v, h1, Ints.of_owns h2, h3⟩

set_option maxHeartbeats 400000 in
set_option maxRecDepth 100000 in
theorem kdecode_long (s : ByteArray) (w : World) (hs : 3000 < s.size) (hm : s.size ≤ maxLen) :
    Calls Try.prog 16 #[.string s] w fun e w' => e = .returned (.tuple #[.slice none 0 0, .int .i64 2]) ∧ w' = w := by
  unfold maxLen at hm
  go_enter Try.func16, Try.ntmps16
  go_wp2
  go_ret2
  exact ⟨rfl, rfl⟩
end Go.Proofs.Ytpjhcecfcjbgoaa
