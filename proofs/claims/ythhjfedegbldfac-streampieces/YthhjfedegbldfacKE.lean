/- The contracts of shift.choose, shift.Write and kana.Encode: code points that all have bytes give their bytes with escapes among them and OK, others nothing and ErrNone; nothing that was there is written. Condition: the code points are Go's integers. -/
import Derived.Test.YthhjfedegbldfacKD
namespace Go.Proofs.Ythhjfedegbldfac
open Go.RowKit
set_option linter.unusedVariables false

def four (now : Int) : List Int := [now, 0, 1, 2]
theorem four_sg {now : Int} (h : M.Sg now) {k : Nat} (hk : k < 4) : M.Sg ((four now).getD k 0) := by
  match k, hk with
  | 0, _ => exact h
  | 1, _ => exact .inl rfl
  | 2, _ => exact .inr (.inl rfl)
  | 3, _ => exact .inr (.inr rfl)
theorem any_of {x n : Int} (h : M.Sg x) (hq : M.hasK x n = true) : M.anyK n = true := by
  rcases h with rfl | rfl | rfl <;> simp [M.anyK, hq]
theorem want_at {now n : Int} (hn : M.Sg now) {k : Nat} (hk : k < 4) (h : ∀ j, j < k → M.hasK ((four now).getD j 0) n = false) (hq : M.hasK ((four now).getD k 0) n = true) : M.want now n = (four now).getD k 0 ∧ M.anyK n = true := by
  refine ⟨?_, any_of (four_sg hn hk) hq⟩
  unfold M.want
  match k, hk with
  | 0, _ =>
    have hq' : M.hasK now n = true := hq
    rw [if_pos hq']; rfl
  | 1, _ =>
    have h0 : M.hasK now n = false := h 0 (by omega)
    have hq' : M.hasK 0 n = true := hq
    rw [if_neg (by simp [h0]), if_pos hq']; rfl
  | 2, _ =>
    have h0 : M.hasK now n = false := h 0 (by omega)
    have h1 : M.hasK 0 n = false := h 1 (by omega)
    have hq' : M.hasK 1 n = true := hq
    rw [if_neg (by simp [h0]), if_neg (by simp [h1]), if_pos hq']; rfl
  | 3, _ =>
    have h0 : M.hasK now n = false := h 0 (by omega)
    have h1 : M.hasK 0 n = false := h 1 (by omega)
    have h2 : M.hasK 1 n = false := h 2 (by omega)
    rw [if_neg (by simp [h0]), if_neg (by simp [h1]), if_neg (by simp [h2])]; rfl
theorem any_no {now n : Int} (h : ∀ j, j < 4 → M.hasK ((four now).getD j 0) n = false) : M.anyK n = false := by
  have h1 : M.hasK 0 n = false := h 1 (by omega)
  have h2 : M.hasK 1 n = false := h 2 (by omega)
  have h3 : M.hasK 2 n = false := h 3 (by omega)
  simp [M.anyK, h1, h2, h3]

/-- What choose answers. -/
def chosen (now n : Int) : Value := .tuple #[.int .i64 (if M.anyK n then M.want now n else 0), .int .u8 (if M.anyK n then M.kby (M.want now n) n else 0), .bool (M.anyK n)]
theorem chosen_no {now n : Int} (h : M.anyK n = false) : chosen now n = .tuple #[.int .i64 0, .int .u8 0, .bool false] := by unfold chosen; rw [h]; rfl
theorem chosen_yes {now n : Int} (h : M.anyK n = true) : chosen now n = .tuple #[.int .i64 (M.want now n), .int .u8 (M.kby (M.want now n) n), .bool true] := by unfold chosen; rw [h]; rfl

set_option maxHeartbeats 800000 in
set_option maxRecDepth 100000 in
theorem choose_any (now n : Int) (hs : M.Sg now) (hn : Gi n) (w : World) :
    Calls Try.prog 47 #[.int .i64 now, .int .i64 n] w fun e w' => e = .returned (chosen now n) ∧ Below w.heap.size w w' := by
  go_enter Try.func47, Try.ntmps47
  go_wp2_with fail
  generalize hW : w.alloc (Obj.cells #[Value.int IntKind.i64 now, Value.int IntKind.i64 0, Value.int IntKind.i64 1, Value.int IntKind.i64 2] 3) = W
  have HB : Hid (Below w.heap.size w W) := hide (by subst hW; exact balloc _ _)
  have HC : Hid (∀ k, k < 4 → W.cell? ⟨w.heap.size, k, none⟩ = some (.int .i64 ((four now).getD k 0))) := hide (by
    subst hW
    intro k hk
    match k, hk with
    | 0, _ => simp [go_sem, four]
    | 1, _ => simp [go_sem, four]
    | 2, _ => simp [go_sem, four]
    | 3, _ => simp [go_sem, four])
  have hWs : w.heap.size < W.heap.size := by subst hW; simp
  clear hW
  go_loopw [14] (fun i wr => ∃ k : Nat, k ≤ 4 ∧ i = .int .i64 k ∧ wr = W ∧ Hid (∀ j, j < k → M.hasK ((four now).getD j 0) n = false)) (fun i _ => 4 - (intOf i).toNat)
  case atStart => exact ⟨0, by omega, rfl, rfl, hide (fun j hj => by omega)⟩
  case round =>
    obtain ⟨k, hk, rfl, hwr, HN⟩ := hrel
    subst hwr
    by_cases hlt : k < 4
    · have hc := unhide HC k hlt
      have hx := four_sg hs hlt
      have HQ := hide (fun hq => want_at (n := n) hs hlt (unhide HN) hq)
      have HS : Hid (M.hasK ((four now).getD k 0) n = false → ∀ j, j < k + 1 → M.hasK ((four now).getD j 0) n = false) := hide (fun h j hj => by
        by_cases e : j = k
        · rw [e]; exact h
        · exact unhide HN j (by omega))
      obtain ⟨x, hX⟩ : ∃ x, (four now).getD k 0 = x := ⟨_, rfl⟩
      rw [hX] at hc hx HQ HS
      have hby := fun w => byteOf_any x n hx hn w
      obtain ⟨q, hq⟩ : ∃ q, M.hasK x n = q := ⟨_, rfl⟩
      rw [hq] at hby HQ HS
      clear hX HN
      cases q
      · go_wp2_with fail
        refine (hby _).mono ?_
        rintro e w1 ⟨rfl, hw⟩
        replace hw := hw.symm
        subst hw
        go_wp2_with fail
        go_roundw
        case rel => exact ⟨k + 1, by omega, by go_num, by first | rfl | trivial, hide (unhide HS (by simp))⟩
        case measure => simp [intOf]; omega
      · obtain ⟨q1, q2⟩ := unhide HQ rfl
        have HR := hide q1
        have HA := hide q2
        clear q1 q2 HQ HS
        go_wp2_with fail
        refine (hby _).mono ?_
        rintro e w1 ⟨rfl, hw⟩
        replace hw := hw.symm
        subst hw
        clear hby
        go_wp2_with fail
        go_ret3
        refine ⟨?_, unhide HB⟩
        rw [chosen_yes (unhide HA), unhide HR]
        rfl
    · have e4 : k = 4 := by omega
      subst e4
      have HA := hide (any_no (unhide HN))
      clear HN
      go_wp2_with fail
      go_ret3
      refine ⟨?_, unhide HB⟩
      rw [chosen_no (unhide HA)]
      rfl

/-- An append of a text's bytes, and of one byte, to a row of bytes. -/
theorem append_str {w : World} {ops : Array Oper} {rest : List Oper} {o : Oper} {a : Act} {Q : Exit → Act → World → Prop} (hgd : o.guard = none) (sl x : Operand)
    (ho : o.op = .call { callee := .builtin .append, args := #[sl, x], argTypes := #[37, 9] }) (base : Nat) (v : Value) (ns : List Int) (hs : a.eval sl = v)
    (hown : w.ownsRow base 5 1 v ns.length (ns.map (Value.int .u8))) (ms : List Int) (hms : ∀ x ∈ ms, 0 ≤ x ∧ x ≤ 255) (hx : a.eval x = .string (strOfNums ms)) (hlen : ns.length + ms.length ≤ 100000) (hbase : base ≤ w.heap.size)
    (h : ∀ ao cap w', w'.ownsRow base 5 1 (.slice ao (ns ++ ms).length cap) (ns ++ ms).length ((ns ++ ms).map (Value.int .u8)) → Below base w w' → wpList Try.prog ops Q rest (a.put o.dst (.slice ao (ns ++ ms).length cap)) w') : wpList Try.prog ops Q (o :: rest) a w := by
  obtain ⟨i0, hi, hz0, hz1, hz2⟩ := info_parts info5
  have hsz : (strOfNums ms).size = ms.length := by rw [← bl_len, bl_str ms hms]
  have hcs : Lib.strCells (strOfNums ms) = ms.map (Value.int .u8) := by
    have e : (strOfNums ms).data.toList.map (fun b => (b.toNat : Int)) = ms := bl_str ms hms
    unfold Lib.strCells
    conv => rhs; rw [← e, List.map_map]
    rfl
  refine Lib.wpList_append_own_string _ hgd sl x 37 9 ho base 5 i0 Try.underlying37 Try.underlying9 hi hz0 hz1 hz2 v _ _ hs hown (strOfNums ms) hx (by rw [hsz]; unfold maxLen; omega) (by rw [hsz]; omega) hbase ?_
  intro v' w' h1 h2 _
  rw [hsz, hcs] at h1
  have h1' : w'.ownsRow base 5 1 v' (ns ++ ms).length ((ns ++ ms).map (Value.int .u8)) := by simpa using h1
  obtain ⟨ao', cap', hsh⟩ := owns_shape h1'
  subst hsh
  exact h ao' cap' w' h1' ((Below.refl _ _).grown h2 hbase (fun k hk => (hown.lt k hk).1))
theorem append_byte {w : World} {ops : Array Oper} {rest : List Oper} {o : Oper} {a : Act} {Q : Exit → Act → World → Prop} (hgd : o.guard = none) (sl x : Operand)
    (ho : o.op = .call { callee := .builtin .append, args := #[sl, x], argTypes := #[37, 37] }) (base : Nat) (v : Value) (ns : List Int) (hs : a.eval sl = v)
    (hown : w.ownsRow base 5 1 v ns.length (ns.map (Value.int .u8))) (c : Int) (hx : a.eval x = .slice (some ⟨w.heap.size, 0, none⟩) 1 1) (hlen : ns.length + 1 ≤ 100000) (hbase : base ≤ w.heap.size)
    (h : ∀ ao cap w', w'.ownsRow base 5 1 (.slice ao (ns ++ [c]).length cap) (ns ++ [c]).length ((ns ++ [c]).map (Value.int .u8)) → Below base w w' → wpList Try.prog ops Q rest (a.put o.dst (.slice ao (ns ++ [c]).length cap)) w') :
    wpList Try.prog ops Q (o :: rest) a (w.alloc (.cells #[.int .u8 c] 5)) := by
  obtain ⟨i0, hi, hz0, hz1, hz2⟩ := info_parts info5
  refine wpList_append_own _ hgd sl x 37 ho base 5 i0 (.int .u8 0) 1 1 Try.underlying37 hi hz0 hz1 hz2 rfl (by decide) v _ _ hs (owns_a hown _) ⟨w.heap.size, 0, none⟩ 1 1 [.int .u8 c] hx rfl ?_ ?_ (by unfold maxLen; omega) (by omega) (by simp; omega) ?_
  · intro j u hj
    match j, hj with
    | 0, hj => simp at hj; subst hj; simp [Addr.add]
  · intro u hu; simp at hu; subst hu; rfl
  · intro v' w' h1 h2 _
    have h1' : w'.ownsRow base 5 1 v' (ns ++ [c]).length ((ns ++ [c]).map (Value.int .u8)) := by simpa using h1
    obtain ⟨ao', cap', hsh⟩ := owns_shape h1'
    subst hsh
    exact h ao' cap' w' h1' (((Below.refl _ _).alloc hbase _).grown h2 (by simp; omega) (fun k hk => by have := (hown.lt k hk).1; omega))

theorem esc_byt (g : Int) : ∀ x ∈ [27, 40, M.esc g], 0 ≤ x ∧ x ≤ 255 := by
  intro x hx
  have : M.esc g = 66 ∨ M.esc g = 74 ∨ M.esc g = 73 := by unfold M.esc; repeat' split
                                                          all_goals simp
  simp at hx
  omega
/-- What a round of Write's loop knows. -/
def InW (xs : List Int) (w wr : World) (k : Nat) (v : Value) : Prop :=
  wr.ownsRow w.heap.size 5 1 v (M.kbody 0 (xs.take k)).length ((M.kbody 0 (xs.take k)).map (Value.int .u8)) ∧ Below w.heap.size w wr ∧ (xs.take k).all M.anyK = true
theorem take_getD {xs : List Int} {k : Nat} (h : k < xs.length) {p : Int} (hp : xs.getD k 0 = p) : xs.take (k + 1) = xs.take k ++ [p] := by
  rw [take_snoc xs k h, hp]
theorem all_no {xs : List Int} {k : Nat} (h : k < xs.length) {p : Int} (hp : xs.getD k 0 = p) {f : Int → Bool} (hf : f p = false) : xs.all f = false := by
  rw [List.all_eq_false]
  exact ⟨xs.getD k 0, by simp [h], by rw [hp, hf]; simp⟩

/-- What Write answers, and Encode. -/
def wrote (xs : List Int) : Value := if xs.all M.anyK then .tuple #[.string (strOfNums (M.kenc xs)), .bool true] else .tuple #[.string ByteArray.empty, .bool false]
def encodedK (xs : List Int) : Value := if xs.all M.anyK then .tuple #[.string (strOfNums (M.kenc xs)), .int .i64 0] else .tuple #[.string ByteArray.empty, .int .i64 5]

set_option maxHeartbeats 1600000 in
set_option maxRecDepth 100000 in
theorem write_any (v : Value) (xs : List Int) (w : World) (hI : Ints w v xs) (hlen : xs.length ≤ 3000) (hgi : ∀ n ∈ xs, Gi n) :
    Calls Try.prog 28 #[v] w fun e w' => e = .returned (wrote xs) ∧ Below w.heap.size w w' := by
  obtain ⟨ao, cap, rfl, -, -, hc⟩ := hI
  have HC := hide hc
  have HG := hide hgi
  have HI : Hid (InW xs w w 0 (.slice none 0 0)) := hide ⟨World.ownsRow_nil _ _ _ _, Below.refl _ _, by simp⟩
  clear hc hgi
  go_enter Try.func28, Try.ntmps28
  go_wp2_with fail
  go_loopw [4, 5, 13] (fun v now i wr => ∃ k : Nat, k ≤ xs.length ∧ i = .int .i64 k ∧ now = .int .i64 (M.kst 0 (xs.take k)) ∧ InW xs w wr k v) (fun _ _ i _ => xs.length - (intOf i).toNat)
  case atStart => exact ⟨0, by omega, rfl, rfl, unhide HI⟩
  case round =>
    obtain ⟨k, hk, rfl, rfl, hI⟩ := hrel
    clear HI
    have hz := hI.2.1.size
    have hnow := M.kst_sg (xs.take k) (now := 0) (.inl rfl)
    have hl : Hid ((M.kbody 0 (xs.take k)).length ≤ 4 * k) := hide (by have := M.kbody_len (xs.take k) 0; rw [List.length_take] at this; omega)
    obtain ⟨now, HNow⟩ : ∃ now, Hid (M.kst 0 (xs.take k) = now) := ⟨_, hide rfl⟩
    rw [unhide HNow] at hnow
    rw [unhide HNow]
    obtain ⟨av, capv, hsh⟩ := owns_shape hI.1
    subst hsh
    obtain ⟨ns, HNs⟩ : ∃ ns, Hid (M.kbody 0 (xs.take k) = ns) := ⟨_, hide rfl⟩
    rw [unhide HNs] at hl
    obtain ⟨hown, hbw, hall⟩ := hI
    rw [unhide HNs] at hown
    rw [unhide HNs]
    have HO := hide hown
    have HBW := hide hbw
    have HA := hide hall
    clear hown hbw hall
    by_cases hlt : k < xs.length
    · obtain ⟨b, off, rfl, hc⟩ : ∃ b off, ao = some ⟨b, off, none⟩ ∧ ∀ i, i < xs.length → w.cell? ⟨b, off + i, none⟩ = some (.int .i64 (xs.getD i 0)) := by
        rcases unhide HC with h | h
        · subst h; simp at hlt
        · exact h
      have hcell : wr.cell? ⟨b, off + k, none⟩ = some (.int .i64 (xs.getD k 0)) := ((unhide HBW).cell (p := ⟨b, off + k, none⟩) (World.block_lt_of_cell? w _ (hc k hlt))).trans (hc k hlt)
      have hbr : b < wr.heap.size := World.block_lt_of_cell? wr _ hcell
      have hgp := unhide HG (xs.getD k 0) (by simp [hlt])
      obtain ⟨p, HP⟩ : ∃ p, Hid (xs.getD k 0 = p) := ⟨_, hide rfl⟩
      rw [unhide HP] at hcell hgp
      clear hc
      have hch := fun w => choose_any now p hnow hgp w
      cases hq : M.anyK p
      · rw [chosen_no hq] at hch
        have HW : Hid (wrote xs = .tuple #[.string ByteArray.empty, .bool false]) := hide (by unfold wrote; rw [all_no hlt (unhide HP) hq]; rfl)
        clear hq
        go_wp2_with fail
        refine (hch _).mono ?_
        rintro e w1 ⟨rfl, hb⟩
        have HB1 := hide hb
        clear hb hch
        go_wp2_with fail
        go_ret2
        refine ⟨?_, bstep (unhide HBW) (unhide HB1)⟩
        rw [unhide HW]; rfl
      · rw [chosen_yes hq] at hch
        have hsg := M.want_sg (n := p) hnow
        obtain ⟨c, hc1, hc2, hc3, hc4⟩ := M.kby_spec (M.want_has (now := now) hq)
        have HE1 : Hid (xs.take (k + 1) = xs.take k ++ [p]) := hide (take_getD hlt (unhide HP))
        have HK1 : Hid (M.kst 0 (xs.take (k + 1)) = M.want now p) := hide (by rw [unhide HE1, M.kst_snoc, unhide HNow])
        have HA1 : Hid ((xs.take (k + 1)).all M.anyK = true) := hide (by rw [unhide HE1, List.all_append, unhide HA]; simp [hq])
        have HN1 : Hid (M.kbody 0 (xs.take (k + 1)) = ns ++ M.kpc now p) := hide (by rw [unhide HE1, M.kbody_snoc, unhide HNow, unhide HNs])
        obtain ⟨x, HX⟩ : ∃ x, Hid (M.want now p = x) := ⟨_, hide rfl⟩
        rw [unhide HX] at hch hsg HK1 hc2
        rw [hc2] at hch
        have HP1 : Hid (M.kpc now p = (if x = now then [] else [27, 40, M.esc x]) ++ [(c : Int)]) := hide (by unfold M.kpc; rw [unhide HX, hc2])
        clear hq hc2 hc3 hc4
        have hln := unhide hl
        by_cases hxn : x = now
        · subst hxn
          rw [if_pos rfl] at HP1
          go_wp2_with fail
          refine (hch _).mono ?_
          rintro e w1 ⟨rfl, hb⟩
          have hz1 := hb.size
          have HB1 := hide hb
          have HO1 := hide (owns_below (unhide HO) hb)
          clear hb hch
          go_wp2_with (at_builtin; refine append_byte rfl (.tmp 34) (.tmp 36) rfl w.heap.size _ ns rfl (unhide HO1) (c : Int) rfl (by omega) (by omega) ?_)
          intro ao2 cap2 w2 ho2 hb2
          have HJ : Hid (InW xs w w2 (k + 1) (.slice ao2 (ns ++ [(c : Int)]).length cap2)) := hide ⟨by rw [unhide HN1, unhide HP1]; simpa using ho2, (bstep (unhide HBW) (unhide HB1)).trans hb2, unhide HA1⟩
          clear ho2 hb2
          go_wp2_with fail
          go_roundw
          case rel => exact ⟨k + 1, by omega, by go_num, by rw [unhide HK1], by simpa using unhide HJ⟩
          case measure => simp [intOf]; omega
        · rw [if_neg hxn] at HP1
          have hne : (x == now) = false := by simpa using hxn
          have hes := fun w => escapeTo_any x hsg w
          go_wp2_with fail
          refine (hch _).mono ?_
          rintro e w1 ⟨rfl, hb⟩
          have hz1 := hb.size
          have HB1 := hide hb
          have HO1 := hide (owns_below (unhide HO) hb)
          clear hb hch
          go_wp2_with fail
          refine (hes _).mono ?_
          rintro e w1' ⟨rfl, hw⟩
          replace hw := hw.symm
          subst hw
          go_wp2_with (at_builtin; refine append_str rfl (.tmp 29) (.tmp 31) rfl w.heap.size _ ns rfl (unhide HO1) [27, 40, M.esc x] (esc_byt x) rfl (by simp; omega) (by omega) ?_)
          intro ao2 cap2 w2 ho2 hb2
          have hz2 := hb2.size
          have HO2 : Hid (w2.ownsRow w.heap.size 5 1 (.slice ao2 (ns.length + 3) cap2) (ns ++ [27, 40, M.esc x]).length ((ns ++ [27, 40, M.esc x]).map (Value.int .u8))) := hide (by simpa using ho2)
          have HB2 := hide hb2
          clear ho2 hb2 hes
          go_wp2_with (at_builtin; refine append_byte rfl (.tmp 34) (.tmp 36) rfl w.heap.size _ (ns ++ [27, 40, M.esc x]) rfl (unhide HO2) (c : Int) rfl (by simp; omega) (by omega) ?_)
          intro ao3 cap3 w3 ho3 hb3
          have HJ : Hid (InW xs w w3 (k + 1) (.slice ao3 (ns ++ [27, 40, M.esc x] ++ [(c : Int)]).length cap3)) := hide ⟨by rw [unhide HN1, unhide HP1, ← List.append_assoc]; simpa using ho3, ((bstep (unhide HBW) (unhide HB1)).trans (unhide HB2)).trans hb3, unhide HA1⟩
          clear ho3 hb3
          go_wp2_with fail
          go_roundw
          case rel => exact ⟨k + 1, by omega, by go_num, by rw [unhide HK1], by simpa using unhide HJ⟩
          case measure => simp [intOf]; omega
    · have et : xs.take k = xs := List.take_of_length_le (by omega)
      rw [et] at HNow HNs HA
      have HW : Hid (wrote xs = .tuple #[.string (strOfNums (ns ++ M.ktail now)), .bool true]) := hide (by unfold wrote; rw [unhide HA, if_pos rfl]; unfold M.kenc; rw [unhide HNow, unhide HNs])
      have hln := unhide hl
      by_cases hn0 : now = 0
      · subst hn0
        have hcv := conv_owned (unhide HO)
        have ht : M.ktail 0 = [] := rfl
        rw [ht, List.append_nil] at HW
        clear ht
        go_wp2_with fail
        go_ret2
        refine ⟨?_, unhide HBW⟩
        rw [unhide HW]; rfl
      · have hne : (now == 0) = false := by simpa using hn0
        have ht : M.ktail now = [27, 40, M.esc 0] := by unfold M.ktail; rw [if_neg hn0]; rfl
        rw [ht] at HW
        have hes := fun w => escapeTo_any 0 (.inl rfl) w
        clear ht
        go_wp2_with fail
        refine (hes _).mono ?_
        rintro e w1' ⟨rfl, hw⟩
        replace hw := hw.symm
        subst hw
        go_wp2_with (at_builtin; refine append_str rfl (.tmp 41) (.tmp 42) rfl w.heap.size _ ns rfl (unhide HO) [27, 40, M.esc 0] (esc_byt 0) rfl (by simp; omega) (by omega) ?_)
        intro ao2 cap2 w2 ho2 hb2
        have hcv := conv_owned (v := .slice ao2 (ns.length + 3) cap2) (xs := ns ++ [27, 40, M.esc 0]) (by simpa using ho2)
        have HB2 := hide hb2
        clear ho2 hb2 hes
        go_wp2_with fail
        go_ret2
        refine ⟨?_, (unhide HBW).trans (unhide HB2)⟩
        rw [unhide HW]; rfl
end Go.Proofs.Ythhjfedegbldfac
