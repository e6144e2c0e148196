/- Laws that the statements of this seat lean on, part 2 (KE Same KF MathG EB EC MathM MathL RG MathN RA RB RC): each a contract of a function, or a plain fact; conditions stand at each. -/
import Derived.Deep.CutBlock
import Derived.Deep.DeepCutAuto
import Derived.Laws.IdiomStrings
import Derived.Lib.Strings
import Derived.ProofKit
import Derived.WalkKit
import Derived.WalkSmall
import Derived.Test.YtaiinjfnkmidbaaGreatDoorRows
import Derived.Test.YtaiinjfnkmidbaaGreatDoorQD1
namespace Go.Proofs.YtaiinjfnkmidbaaGreatDoor
open Go.RowKit
set_option linter.unusedVariables false

def four (now : Int) : List Int := [now, 0, 1, 2]
theorem four_sg {now : Int} (h : M.Sg now) {k : Nat} (hk : k < 4) : M.Sg ((four now).getD k 0) := by
  match k, hk with
  | 0, _ => exact h
  | 1, _ => exact .inl rfl
  | 2, _ => exact .inr (.inl rfl)
  | 3, _ => exact .inr (.inr rfl)
theorem any_of {x n : Int} (h : M.Sg x) (hq : M.hasK x n = true) : M.anyK n = true := by
  rcases h with rfl | rfl | rfl <;> simp [M.anyK, hq]
theorem want_at {now n : Int} (hn : M.Sg now) {k : Nat} (hk : k < 4) (h : ∀ j, j < k → M.hasK ((four now).getD j 0) n = false) (hq : M.hasK ((four now).getD k 0) n = true) : M.want now n = (four now).getD k 0 ∧ M.anyK n = true := by
  refine ⟨?_, any_of (four_sg hn hk) hq⟩
  unfold M.want
  match k, hk with
  | 0, _ =>
    have hq' : M.hasK now n = true := hq
    rw [if_pos hq']; rfl
  | 1, _ =>
    have h0 : M.hasK now n = false := h 0 (by omega)
    have hq' : M.hasK 0 n = true := hq
    rw [if_neg (by simp [h0]), if_pos hq']; rfl
  | 2, _ =>
    have h0 : M.hasK now n = false := h 0 (by omega)
    have h1 : M.hasK 0 n = false := h 1 (by omega)
    have hq' : M.hasK 1 n = true := hq
    rw [if_neg (by simp [h0]), if_neg (by simp [h1]), if_pos hq']; rfl
  | 3, _ =>
    have h0 : M.hasK now n = false := h 0 (by omega)
    have h1 : M.hasK 0 n = false := h 1 (by omega)
    have h2 : M.hasK 1 n = false := h 2 (by omega)
    rw [if_neg (by simp [h0]), if_neg (by simp [h1]), if_neg (by simp [h2])]; rfl
theorem any_no {now n : Int} (h : ∀ j, j < 4 → M.hasK ((four now).getD j 0) n = false) : M.anyK n = false := by
  have h1 : M.hasK 0 n = false := h 1 (by omega)
  have h2 : M.hasK 1 n = false := h 2 (by omega)
  have h3 : M.hasK 2 n = false := h 3 (by omega)
  simp [M.anyK, h1, h2, h3]

/-- What choose answers. -/
def chosen (now n : Int) : Value := .tuple #[.int .i64 (if M.anyK n then M.want now n else 0), .int .u8 (if M.anyK n then M.kby (M.want now n) n else 0), .bool (M.anyK n)]
theorem chosen_no {now n : Int} (h : M.anyK n = false) : chosen now n = .tuple #[.int .i64 0, .int .u8 0, .bool false] := by unfold chosen; rw [h]; rfl
theorem chosen_yes {now n : Int} (h : M.anyK n = true) : chosen now n = .tuple #[.int .i64 (M.want now n), .int .u8 (M.kby (M.want now n) n), .bool true] := by unfold chosen; rw [h]; rfl

set_option maxHeartbeats 800000 in
set_option maxRecDepth 100000 in
theorem choose_any (now n : Int) (hs : M.Sg now) (hn : Gi n) (w : World) :
    Calls Tryz.prog 220 #[.int .i64 now, .int .i64 n] w fun e w' => e = .returned (chosen now n) ∧ Below w.heap.size w w' := by
  go_enter Tryz.func220, Tryz.ntmps220
  go_wp2_with fail
  generalize hW : w.alloc (Obj.cells #[Value.int IntKind.i64 now, Value.int IntKind.i64 0, Value.int IntKind.i64 1, Value.int IntKind.i64 2] 3) = W
  have HB : Hid (Below w.heap.size w W) := hide (by subst hW; exact balloc _ _)
  have HC : Hid (∀ k, k < 4 → W.cell? ⟨w.heap.size, k, none⟩ = some (.int .i64 ((four now).getD k 0))) := hide (by
    subst hW
    intro k hk
    match k, hk with
    | 0, _ => simp [go_sem, four]
    | 1, _ => simp [go_sem, four]
    | 2, _ => simp [go_sem, four]
    | 3, _ => simp [go_sem, four])
  have hWs : w.heap.size < W.heap.size := by subst hW; simp
  clear hW
  go_loopw [14] (fun i wr => ∃ k : Nat, k ≤ 4 ∧ i = .int .i64 k ∧ wr = W ∧ Hid (∀ j, j < k → M.hasK ((four now).getD j 0) n = false)) (fun i _ => 4 - (intOf i).toNat)
  case atStart => exact ⟨0, by omega, rfl, rfl, hide (fun j hj => by omega)⟩
  case round =>
    obtain ⟨k, hk, rfl, hwr, HN⟩ := hrel
    subst hwr
    by_cases hlt : k < 4
    · have hc := unhide HC k hlt
      have hx := four_sg hs hlt
      have HQ := hide (fun hq => want_at (n := n) hs hlt (unhide HN) hq)
      have HS : Hid (M.hasK ((four now).getD k 0) n = false → ∀ j, j < k + 1 → M.hasK ((four now).getD j 0) n = false) := hide (fun h j hj => by
        by_cases e : j = k
        · rw [e]; exact h
        · exact unhide HN j (by omega))
      obtain ⟨x, hX⟩ : ∃ x, (four now).getD k 0 = x := ⟨_, rfl⟩
      rw [hX] at hc hx HQ HS
      have hby := fun w => byteOf_any x n hx hn w
      obtain ⟨q, hq⟩ : ∃ q, M.hasK x n = q := ⟨_, rfl⟩
      rw [hq] at hby HQ HS
      clear hX HN
      cases q
      · go_wp2_with fail
        refine (hby _).mono ?_
        rintro e w1 ⟨rfl, hw⟩
        replace hw := hw.symm
        subst hw
        go_wp2_with fail
        go_roundw
        case rel => exact ⟨k + 1, by omega, by go_num, by first | rfl | trivial, hide (unhide HS (by simp))⟩
        case measure => simp [intOf]; omega
      · obtain ⟨q1, q2⟩ := unhide HQ rfl
        have HR := hide q1
        have HA := hide q2
        clear q1 q2 HQ HS
        go_wp2_with fail
        refine (hby _).mono ?_
        rintro e w1 ⟨rfl, hw⟩
        replace hw := hw.symm
        subst hw
        clear hby
        go_wp2_with fail
        go_ret3
        refine ⟨?_, unhide HB⟩
        rw [chosen_yes (unhide HA), unhide HR]
        rfl
    · have e4 : k = 4 := by omega
      subst e4
      have HA := hide (any_no (unhide HN))
      clear HN
      go_wp2_with fail
      go_ret3
      refine ⟨?_, unhide HB⟩
      rw [chosen_no (unhide HA)]
      rfl

/-- An append of a text's bytes, and of one byte, to a row of bytes. -/
theorem append_str {w : World} {ops : Array Oper} {rest : List Oper} {o : Oper} {a : Act} {Q : Exit → Act → World → Prop} (hgd : o.guard = none) (sl x : Operand)
    (ho : o.op = .call { callee := .builtin .append, args := #[sl, x], argTypes := #[151, 9] }) (base : Nat) (v : Value) (ns : List Int) (hs : a.eval sl = v)
    (hown : w.ownsRow base 5 1 v ns.length (ns.map (Value.int .u8))) (ms : List Int) (hms : ∀ x ∈ ms, 0 ≤ x ∧ x ≤ 255) (hx : a.eval x = .string (strOfNums ms)) (hlen : ns.length + ms.length ≤ 200000) (hbase : base ≤ w.heap.size)
    (h : ∀ ao cap w', w'.ownsRow base 5 1 (.slice ao (ns ++ ms).length cap) (ns ++ ms).length ((ns ++ ms).map (Value.int .u8)) → Below base w w' → wpList Tryz.prog ops Q rest (a.put o.dst (.slice ao (ns ++ ms).length cap)) w') : wpList Tryz.prog ops Q (o :: rest) a w := by
  obtain ⟨i0, hi, hz0, hz1, hz2⟩ := info_parts info5
  have hsz : (strOfNums ms).size = ms.length := by rw [← bl_len, bl_str ms hms]
  have hcs : Lib.strCells (strOfNums ms) = ms.map (Value.int .u8) := by
    have e : (strOfNums ms).data.toList.map (fun b => (b.toNat : Int)) = ms := bl_str ms hms
    unfold Lib.strCells
    conv => rhs; rw [← e, List.map_map]
    rfl
  refine Lib.wpList_append_own_string _ hgd sl x 151 9 ho base 5 i0 Tryz.underlying151 Tryz.underlying9 hi hz0 hz1 hz2 v _ _ hs hown (strOfNums ms) hx (by rw [hsz]; unfold maxLen; omega) (by rw [hsz]; omega) hbase ?_
  intro v' w' h1 h2 _
  rw [hsz, hcs] at h1
  have h1' : w'.ownsRow base 5 1 v' (ns ++ ms).length ((ns ++ ms).map (Value.int .u8)) := by simpa using h1
  obtain ⟨ao', cap', hsh⟩ := owns_shape h1'
  subst hsh
  exact h ao' cap' w' h1' ((Below.refl _ _).grown h2 hbase (fun k hk => (hown.lt k hk).1))
theorem append_byte {w : World} {ops : Array Oper} {rest : List Oper} {o : Oper} {a : Act} {Q : Exit → Act → World → Prop} (hgd : o.guard = none) (sl x : Operand)
    (ho : o.op = .call { callee := .builtin .append, args := #[sl, x], argTypes := #[151, 151] }) (base : Nat) (v : Value) (ns : List Int) (hs : a.eval sl = v)
    (hown : w.ownsRow base 5 1 v ns.length (ns.map (Value.int .u8))) (c : Int) (hx : a.eval x = .slice (some ⟨w.heap.size, 0, none⟩) 1 1) (hlen : ns.length + 1 ≤ 200000) (hbase : base ≤ w.heap.size)
    (h : ∀ ao cap w', w'.ownsRow base 5 1 (.slice ao (ns ++ [c]).length cap) (ns ++ [c]).length ((ns ++ [c]).map (Value.int .u8)) → Below base w w' → wpList Tryz.prog ops Q rest (a.put o.dst (.slice ao (ns ++ [c]).length cap)) w') :
    wpList Tryz.prog ops Q (o :: rest) a (w.alloc (.cells #[.int .u8 c] 5)) := by
  obtain ⟨i0, hi, hz0, hz1, hz2⟩ := info_parts info5
  refine wpList_append_own _ hgd sl x 151 ho base 5 i0 (.int .u8 0) 1 1 Tryz.underlying151 hi hz0 hz1 hz2 rfl (by decide) v _ _ hs (owns_a hown _) ⟨w.heap.size, 0, none⟩ 1 1 [.int .u8 c] hx rfl ?_ ?_ (by unfold maxLen; omega) (by omega) (by simp; omega) ?_
  · intro j u hj
    match j, hj with
    | 0, hj => simp at hj; subst hj; simp [Addr.add]
  · intro u hu; simp at hu; subst hu; rfl
  · intro v' w' h1 h2 _
    have h1' : w'.ownsRow base 5 1 v' (ns ++ [c]).length ((ns ++ [c]).map (Value.int .u8)) := by simpa using h1
    obtain ⟨ao', cap', hsh⟩ := owns_shape h1'
    subst hsh
    exact h ao' cap' w' h1' (((Below.refl _ _).alloc hbase _).grown h2 (by simp; omega) (fun k hk => by have := (hown.lt k hk).1; omega))

theorem esc_byt (g : Int) : ∀ x ∈ [27, 40, M.esc g], 0 ≤ x ∧ x ≤ 255 := by
  intro x hx
  have : M.esc g = 66 ∨ M.esc g = 74 ∨ M.esc g = 73 := by unfold M.esc; repeat' split
                                                          all_goals simp
  simp at hx
  omega
/-- What a round of Write's loop knows. -/
def InW (xs : List Int) (w wr : World) (k : Nat) (v : Value) : Prop :=
  wr.ownsRow w.heap.size 5 1 v (M.kbody 0 (xs.take k)).length ((M.kbody 0 (xs.take k)).map (Value.int .u8)) ∧ Below w.heap.size w wr ∧ (xs.take k).all M.anyK = true
theorem take_getD {xs : List Int} {k : Nat} (h : k < xs.length) {p : Int} (hp : xs.getD k 0 = p) : xs.take (k + 1) = xs.take k ++ [p] := by
  rw [take_snoc xs k h, hp]
theorem all_no {xs : List Int} {k : Nat} (h : k < xs.length) {p : Int} (hp : xs.getD k 0 = p) {f : Int → Bool} (hf : f p = false) : xs.all f = false := by
  rw [List.all_eq_false]
  exact ⟨xs.getD k 0, by simp [h], by rw [hp, hf]; simp⟩

/-- What Write answers, and Encode. -/
def wrote (xs : List Int) : Value := if xs.all M.anyK then .tuple #[.string (strOfNums (M.kenc xs)), .bool true] else .tuple #[.string ByteArray.empty, .bool false]
def encodedK (xs : List Int) : Value := if xs.all M.anyK then .tuple #[.string (strOfNums (M.kenc xs)), .int .i64 0] else .tuple #[.string ByteArray.empty, .int .i64 5]

set_option maxHeartbeats 1600000 in
set_option maxRecDepth 100000 in
theorem write_any (v : Value) (xs : List Int) (w : World) (hI : Ints w v xs) (hlen : xs.length ≤ 30000) (hgi : ∀ n ∈ xs, Gi n) :
    Calls Tryz.prog 195 #[v] w fun e w' => e = .returned (wrote xs) ∧ Below w.heap.size w w' := by
  obtain ⟨ao, cap, rfl, -, -, hc⟩ := hI
  have HC := hide hc
  have HG := hide hgi
  have HI : Hid (InW xs w w 0 (.slice none 0 0)) := hide ⟨World.ownsRow_nil _ _ _ _, Below.refl _ _, by simp⟩
  clear hc hgi
  go_enter Tryz.func195, Tryz.ntmps195
  go_wp2_with fail
  go_loopw [4, 5, 13] (fun v now i wr => ∃ k : Nat, k ≤ xs.length ∧ i = .int .i64 k ∧ now = .int .i64 (M.kst 0 (xs.take k)) ∧ InW xs w wr k v) (fun _ _ i _ => xs.length - (intOf i).toNat)
  case atStart => exact ⟨0, by omega, rfl, rfl, unhide HI⟩
  case round =>
    obtain ⟨k, hk, rfl, rfl, hI⟩ := hrel
    clear HI
    have hz := hI.2.1.size
    have hnow := M.kst_sg (xs.take k) (now := 0) (.inl rfl)
    have hl : Hid ((M.kbody 0 (xs.take k)).length ≤ 4 * k) := hide (by have := M.kbody_len (xs.take k) 0; rw [List.length_take] at this; omega)
    obtain ⟨now, HNow⟩ : ∃ now, Hid (M.kst 0 (xs.take k) = now) := ⟨_, hide rfl⟩
    rw [unhide HNow] at hnow
    rw [unhide HNow]
    obtain ⟨av, capv, hsh⟩ := owns_shape hI.1
    subst hsh
    obtain ⟨ns, HNs⟩ : ∃ ns, Hid (M.kbody 0 (xs.take k) = ns) := ⟨_, hide rfl⟩
    rw [unhide HNs] at hl
    obtain ⟨hown, hbw, hall⟩ := hI
    rw [unhide HNs] at hown
    rw [unhide HNs]
    have HO := hide hown
    have HBW := hide hbw
    have HA := hide hall
    clear hown hbw hall
    by_cases hlt : k < xs.length
    · obtain ⟨b, off, rfl, hc⟩ : ∃ b off, ao = some ⟨b, off, none⟩ ∧ ∀ i, i < xs.length → w.cell? ⟨b, off + i, none⟩ = some (.int .i64 (xs.getD i 0)) := by
        rcases unhide HC with h | h
        · subst h; simp at hlt
        · exact h
      have hcell : wr.cell? ⟨b, off + k, none⟩ = some (.int .i64 (xs.getD k 0)) := ((unhide HBW).cell (p := ⟨b, off + k, none⟩) (World.block_lt_of_cell? w _ (hc k hlt))).trans (hc k hlt)
      have hbr : b < wr.heap.size := World.block_lt_of_cell? wr _ hcell
      have hgp := unhide HG (xs.getD k 0) (by simp [hlt])
      obtain ⟨p, HP⟩ : ∃ p, Hid (xs.getD k 0 = p) := ⟨_, hide rfl⟩
      rw [unhide HP] at hcell hgp
      clear hc
      have hch := fun w => choose_any now p hnow hgp w
      cases hq : M.anyK p
      · rw [chosen_no hq] at hch
        have HW : Hid (wrote xs = .tuple #[.string ByteArray.empty, .bool false]) := hide (by unfold wrote; rw [all_no hlt (unhide HP) hq]; rfl)
        clear hq
        go_wp2_with fail
        refine (hch _).mono ?_
        rintro e w1 ⟨rfl, hb⟩
        have HB1 := hide hb
        clear hb hch
        go_wp2_with fail
        go_ret2
        refine ⟨?_, bstep (unhide HBW) (unhide HB1)⟩
        rw [unhide HW]; rfl
      · rw [chosen_yes hq] at hch
        have hsg := M.want_sg (n := p) hnow
        obtain ⟨c, hc1, hc2, hc3, hc4⟩ := M.kby_spec (M.want_has (now := now) hq)
        have HE1 : Hid (xs.take (k + 1) = xs.take k ++ [p]) := hide (take_getD hlt (unhide HP))
        have HK1 : Hid (M.kst 0 (xs.take (k + 1)) = M.want now p) := hide (by rw [unhide HE1, M.kst_snoc, unhide HNow])
        have HA1 : Hid ((xs.take (k + 1)).all M.anyK = true) := hide (by rw [unhide HE1, List.all_append, unhide HA]; simp [hq])
        have HN1 : Hid (M.kbody 0 (xs.take (k + 1)) = ns ++ M.kpc now p) := hide (by rw [unhide HE1, M.kbody_snoc, unhide HNow, unhide HNs])
        obtain ⟨x, HX⟩ : ∃ x, Hid (M.want now p = x) := ⟨_, hide rfl⟩
        rw [unhide HX] at hch hsg HK1 hc2
        rw [hc2] at hch
        have HP1 : Hid (M.kpc now p = (if x = now then [] else [27, 40, M.esc x]) ++ [(c : Int)]) := hide (by unfold M.kpc; rw [unhide HX, hc2])
        clear hq hc2 hc3 hc4
        have hln := unhide hl
        by_cases hxn : x = now
        · subst hxn
          rw [if_pos rfl] at HP1
          go_wp2_with fail
          refine (hch _).mono ?_
          rintro e w1 ⟨rfl, hb⟩
          have hz1 := hb.size
          have HB1 := hide hb
          have HO1 := hide (owns_below (unhide HO) hb)
          clear hb hch
          go_wp2_with (at_builtin; refine append_byte rfl (.tmp 34) (.tmp 36) rfl w.heap.size _ ns rfl (unhide HO1) (c : Int) rfl (by omega) (by omega) ?_)
          intro ao2 cap2 w2 ho2 hb2
          have HJ : Hid (InW xs w w2 (k + 1) (.slice ao2 (ns ++ [(c : Int)]).length cap2)) := hide ⟨by rw [unhide HN1, unhide HP1]; simpa using ho2, (bstep (unhide HBW) (unhide HB1)).trans hb2, unhide HA1⟩
          clear ho2 hb2
          go_wp2_with fail
          go_roundw
          case rel => exact ⟨k + 1, by omega, by go_num, by rw [unhide HK1], by simpa using unhide HJ⟩
          case measure => simp [intOf]; omega
        · rw [if_neg hxn] at HP1
          have hne : (x == now) = false := by simpa using hxn
          have hes := fun w => escapeTo_any x hsg w
          go_wp2_with fail
          refine (hch _).mono ?_
          rintro e w1 ⟨rfl, hb⟩
          have hz1 := hb.size
          have HB1 := hide hb
          have HO1 := hide (owns_below (unhide HO) hb)
          clear hb hch
          go_wp2_with fail
          refine (hes _).mono ?_
          rintro e w1' ⟨rfl, hw⟩
          replace hw := hw.symm
          subst hw
          go_wp2_with (at_builtin; refine append_str rfl (.tmp 29) (.tmp 31) rfl w.heap.size _ ns rfl (unhide HO1) [27, 40, M.esc x] (esc_byt x) rfl (by simp; omega) (by omega) ?_)
          intro ao2 cap2 w2 ho2 hb2
          have hz2 := hb2.size
          have HO2 : Hid (w2.ownsRow w.heap.size 5 1 (.slice ao2 (ns.length + 3) cap2) (ns ++ [27, 40, M.esc x]).length ((ns ++ [27, 40, M.esc x]).map (Value.int .u8))) := hide (by simpa using ho2)
          have HB2 := hide hb2
          clear ho2 hb2 hes
          go_wp2_with (at_builtin; refine append_byte rfl (.tmp 34) (.tmp 36) rfl w.heap.size _ (ns ++ [27, 40, M.esc x]) rfl (unhide HO2) (c : Int) rfl (by simp; omega) (by omega) ?_)
          intro ao3 cap3 w3 ho3 hb3
          have HJ : Hid (InW xs w w3 (k + 1) (.slice ao3 (ns ++ [27, 40, M.esc x] ++ [(c : Int)]).length cap3)) := hide ⟨by rw [unhide HN1, unhide HP1, ← List.append_assoc]; simpa using ho3, ((bstep (unhide HBW) (unhide HB1)).trans (unhide HB2)).trans hb3, unhide HA1⟩
          clear ho3 hb3
          go_wp2_with fail
          go_roundw
          case rel => exact ⟨k + 1, by omega, by go_num, by rw [unhide HK1], by simpa using unhide HJ⟩
          case measure => simp [intOf]; omega
    · have et : xs.take k = xs := List.take_of_length_le (by omega)
      rw [et] at HNow HNs HA
      have HW : Hid (wrote xs = .tuple #[.string (strOfNums (ns ++ M.ktail now)), .bool true]) := hide (by unfold wrote; rw [unhide HA, if_pos rfl]; unfold M.kenc; rw [unhide HNow, unhide HNs])
      have hln := unhide hl
      by_cases hn0 : now = 0
      · subst hn0
        have hcv := conv_owned (unhide HO)
        have ht : M.ktail 0 = [] := rfl
        rw [ht, List.append_nil] at HW
        clear ht
        go_wp2_with fail
        go_ret2
        refine ⟨?_, unhide HBW⟩
        rw [unhide HW]; rfl
      · have hne : (now == 0) = false := by simpa using hn0
        have ht : M.ktail now = [27, 40, M.esc 0] := by unfold M.ktail; rw [if_neg hn0]; rfl
        rw [ht] at HW
        have hes := fun w => escapeTo_any 0 (.inl rfl) w
        clear ht
        go_wp2_with fail
        refine (hes _).mono ?_
        rintro e w1' ⟨rfl, hw⟩
        replace hw := hw.symm
        subst hw
        go_wp2_with (at_builtin; refine append_str rfl (.tmp 41) (.tmp 42) rfl w.heap.size _ ns rfl (unhide HO) [27, 40, M.esc 0] (esc_byt 0) rfl (by simp; omega) (by omega) ?_)
        intro ao2 cap2 w2 ho2 hb2
        have hcv := conv_owned (v := .slice ao2 (ns.length + 3) cap2) (xs := ns ++ [27, 40, M.esc 0]) (by simpa using ho2)
        have HB2 := hide hb2
        clear ho2 hb2 hes
        go_wp2_with fail
        go_ret2
        refine ⟨?_, (unhide HBW).trans (unhide HB2)⟩
        rw [unhide HW]; rfl
end Go.Proofs.YtaiinjfnkmidbaaGreatDoor

namespace Go.Proofs.YtaiinjfnkmidbaaGreatDoor
open Go.RowKit
set_option linter.unusedVariables false

set_option maxHeartbeats 400000 in
set_option maxRecDepth 100000 in
theorem same_len (ao bo : Option Addr) (n m c d : Nat) (w : World) (hn : n ≤ maxLen) (hm : m ≤ maxLen) (h : n ≠ m) :
    Calls Tryz.prog 24 #[.slice ao n c, .slice bo m d] w fun e w' => e = .returned (.bool false) ∧ w' = w := by
  unfold maxLen at hn hm
  have h' : ((n : Int) != (m : Int)) = true := by simp; omega
  go_enter Tryz.func24, Tryz.ntmps24
  go_wp2
  go_ret
  exact ⟨rfl, rfl⟩
set_option maxHeartbeats 400000 in
set_option maxRecDepth 100000 in
theorem same_none (ao bo : Option Addr) (c d : Nat) (w : World) :
    Calls Tryz.prog 24 #[.slice ao 0 c, .slice bo 0 d] w fun e w' => e = .returned (.bool true) ∧ w' = w := by
  go_enter Tryz.func24, Tryz.ntmps24
  go_wp2
  refine wp_loop_rounds 1 ?_
  rw [rounds_succ]
  go_wp2
  go_ret
  exact ⟨rfl, rfl⟩
set_option maxHeartbeats 400000 in
set_option maxRecDepth 100000 in
theorem same_some (b off c b' off' c' : Nat) (xs ys : List Int) (w : World) (hm : xs.length ≤ maxLen) (he : xs.length = ys.length) (h0 : 0 < xs.length)
    (hx : ∀ i, i < xs.length → w.cell? ⟨b, off + i, none⟩ = some (.int .i64 (xs.getD i 0))) (hy : ∀ i, i < ys.length → w.cell? ⟨b', off' + i, none⟩ = some (.int .i64 (ys.getD i 0))) :
    Calls Tryz.prog 24 #[.slice (some ⟨b, off, none⟩) xs.length c, .slice (some ⟨b', off', none⟩) xs.length c'] w fun e w' => e = .returned (.bool (xs == ys)) ∧ Below w.heap.size w w' := by
  unfold maxLen at hm
  have HX := hide hx
  have HY := hide hy
  have HE := hide he
  clear hx hy he
  go_enter Tryz.func24, Tryz.ntmps24
  go_wp2_with fail
  go_loopw [5] (fun i wr => ∃ (k nq : Nat), k ≤ xs.length ∧ i = .int .i64 k ∧ wr = w.drewN nq ∧ Hid (xs.take k = ys.take k)) (fun i _ => xs.length - (intOf i).toNat)
  case atStart => exact ⟨0, 0, by omega, rfl, rfl, rfl⟩
  case round =>
    obtain ⟨k, nq, hk, rfl, rfl, HT⟩ := hrel
    by_cases hlt : k < xs.length
    · have cx := unhide HX k hlt
      have cy := unhide HY k (by rw [← unhide HE]; exact hlt)
      obtain ⟨p, HP⟩ : ∃ p, Hid (xs.getD k 0 = p) := ⟨_, rfl⟩
      obtain ⟨q, HQ⟩ : ∃ q, Hid (ys.getD k 0 = q) := ⟨_, rfl⟩
      rw [unhide HP] at cx
      rw [unhide HQ] at cy
      have hltI : (k : Int) < (xs.length : Int) := by omega
      by_cases hpq : p = q
      · have hne : (p != q) = false := by simp [hpq]
        have HT' : Hid (xs.take (k + 1) = ys.take (k + 1)) := by
          show xs.take (k + 1) = ys.take (k + 1)
          rw [take_snoc xs k hlt, take_snoc ys k (by rw [← unhide HE]; exact hlt), unhide HT, unhide HP, unhide HQ, hpq]
        clear hpq
        go_wp2_with fail
        go_quiet (fail)
        go_wp2_with fail
        go_roundw
        case rel => exact ⟨k + 1, _, by omega, by go_num, rfl, HT'⟩
        case measure => simp [intOf]; omega
      · have hne : (p != q) = true := by simp [hpq]
        have HF : Hid ((xs == ys) = false) := by
          show (xs == ys) = false
          rw [beq_eq_false_iff_ne]
          intro e
          apply hpq
          rw [← unhide HP, ← unhide HQ, e]
        clear hpq
        go_wp2_with fail
        go_quiet (fail)
        go_wp2_with fail
        go_ret
        exact ⟨by rw [unhide HF]; rfl, below_drewN (below_drewN (Below.refl _ _) _) _⟩
    · have HF : Hid ((xs == ys) = true) := by
        show (xs == ys) = true
        rw [beq_iff_eq]
        have := unhide HT
        rw [List.take_of_length_le (by omega), List.take_of_length_le (by rw [← unhide HE]; omega)] at this
        exact this
      go_wp2_with fail
      go_ret
      exact ⟨by rw [unhide HF]; rfl, below_drewN (Below.refl _ _) _⟩
theorem same_any {v u : Value} {xs ys : List Int} (w : World) (hx : Ints w v xs) (hy : Ints w u ys) :
    Calls Tryz.prog 24 #[v, u] w fun e w' => e = .returned (.bool (xs == ys)) ∧ Below w.heap.size w w' := by
  obtain ⟨ao, cap, rfl, hm, -, hx⟩ := hx
  obtain ⟨bo, cap', rfl, hm', -, hy⟩ := hy
  by_cases he : xs.length = ys.length
  · by_cases h0 : xs = []
    · subst h0
      have : ys = [] := List.eq_nil_of_length_eq_zero he.symm
      subst this
      refine (same_none ao bo cap cap' w).mono ?_
      rintro e w' ⟨rfl, rfl⟩
      exact ⟨rfl, Below.refl _ _⟩
    · have h1 : ys ≠ [] := fun e => h0 (List.eq_nil_of_length_eq_zero (by rw [he, e]; rfl))
      rcases hx with hx | ⟨b, off, rfl, hx⟩
      · exact absurd hx h0
      rcases hy with hy | ⟨b', off', rfl, hy⟩
      · exact absurd hy h1
      rw [← he]
      exact same_some b off cap b' off' cap' xs ys w hm he (List.length_pos_iff.2 h0) hx hy
  · refine (same_len ao bo _ _ cap cap' w hm hm' he).mono ?_
    rintro e w' ⟨rfl, rfl⟩
    refine ⟨?_, Below.refl _ _⟩
    have : (xs == ys) = false := by rw [beq_eq_false_iff_ne]; intro e; exact he (by rw [e])
    rw [this]
end Go.Proofs.YtaiinjfnkmidbaaGreatDoor

namespace Go.Proofs.YtaiinjfnkmidbaaGreatDoor
open Go.RowKit
set_option linter.unusedVariables false

theorem wrote_yes {xs : List Int} (h : xs.all M.anyK = true) : wrote xs = .tuple #[.string (strOfNums (M.kenc xs)), .bool true] := by unfold wrote; rw [if_pos h]
theorem wrote_no {xs : List Int} (h : xs.all M.anyK = false) : wrote xs = .tuple #[.string ByteArray.empty, .bool false] := by unfold wrote; rw [if_neg (by simp [h])]
theorem encodedK_yes {xs : List Int} (h : xs.all M.anyK = true) : encodedK xs = .tuple #[.string (strOfNums (M.kenc xs)), .int .i64 0] := by unfold encodedK; rw [if_pos h]
theorem encodedK_no {xs : List Int} (h : xs.all M.anyK = false) : encodedK xs = .tuple #[.string ByteArray.empty, .int .i64 5] := by unfold encodedK; rw [if_neg (by simp [h])]

set_option maxHeartbeats 800000 in
set_option maxRecDepth 100000 in
theorem kencode_any (v : Value) (xs : List Int) (w : World) (hI : Ints w v xs) (hlen : xs.length ≤ 3000) (hgi : ∀ n ∈ xs, Gi n) :
    Calls Tryz.prog 146 #[v] w fun e w' => e = .returned (encodedK xs) ∧ Below w.heap.size w w' := by
  have hw := write_any v xs w hI (by omega) hgi
  obtain ⟨ao, cap, rfl, -⟩ := hI
  cases hq : xs.all M.anyK
  · rw [wrote_no hq] at hw
    rw [encodedK_no hq]
    clear hq hgi
    go_enter Tryz.func146, Tryz.ntmps146
    go_wp2_with fail
    refine hw.mono ?_
    rintro e w1 ⟨rfl, hb⟩
    have HB := hide hb
    clear hb hw
    go_wp2_with fail
    go_ret2
    exact ⟨rfl, unhide HB⟩
  · rw [wrote_yes hq] at hw
    rw [encodedK_yes hq]
    clear hq hgi
    generalize strOfNums (M.kenc xs) = s at hw
    go_enter Tryz.func146, Tryz.ntmps146
    go_wp2_with fail
    refine hw.mono ?_
    rintro e w1 ⟨rfl, hb⟩
    have HB := hide hb
    clear hb hw
    go_wp2_with fail
    go_ret2
    exact ⟨rfl, unhide HB⟩
end Go.Proofs.YtaiinjfnkmidbaaGreatDoor

namespace Go.Proofs.YtaiinjfnkmidbaaGreatDoor.M

def outE (n : Int) : Int := if n = 2 ∨ n = 3 ∨ n = 7 then 1 else n
def hasE (n p : Int) : Bool := if n = 4 then hasB false p else if n = 5 then hasB true p else if n = 6 then anyK p else true
/-- The digits of a number, as bytes. -/
def digs (n : Nat) : List Int := if h : n < 10 then [48 + (n : Int)] else digs (n / 10) ++ [48 + ((n % 10 : Nat) : Int)]
termination_by n
decreasing_by omega
/-- A number that is told. -/
def tld (p : Int) : List Int := [38, 35] ++ digs p.toNat ++ [59]
/-- The code points that are written where all may be told. -/
def ptE (n p : Int) : List Int := if hasE n p then [p] else tld p
def ptsE (n : Int) (l : List Int) : List Int := l.flatMap (ptE n)
def encB (n : Int) (l : List Int) : List Int := if n = 4 then encS false l else if n = 5 then encS true l else if n = 6 then kenc l else enc l

theorem digs_lo {n : Nat} (h : n < 10) : digs n = [48 + (n : Int)] := by rw [digs, dif_pos h]
theorem digs_hi {n : Nat} (h : ¬ n < 10) : digs n = digs (n / 10) ++ [48 + ((n % 10 : Nat) : Int)] := by rw [digs, dif_neg h]
theorem digs_bd (n : Nat) : ∀ x ∈ digs n, 48 ≤ x ∧ x ≤ 57 := by
  induction n using Nat.strongRecOn with
  | _ n ih =>
    intro x hx
    by_cases h : n < 10
    · rw [digs_lo h] at hx; simp at hx; omega
    · rw [digs_hi h] at hx
      rcases List.mem_append.1 hx with h1 | h1
      · exact ih (n / 10) (by omega) x h1
      · simp at h1; omega
theorem digs_len : ∀ (k n : Nat), 1 ≤ k → n < 10 ^ k → (digs n).length ≤ k := by
  intro k
  induction k with
  | zero => intro n h; omega
  | succ k ih =>
    intro n _ hn
    by_cases h : n < 10
    · rw [digs_lo h]; simp
    · have hk : 1 ≤ k := by
        rcases Nat.eq_zero_or_pos k with rfl | h'
        · simp at hn; omega
        · exact h'
      have := ih (n / 10) hk (by rw [Nat.pow_succ] at hn; omega)
      rw [digs_hi h]; simp; omega
theorem tld_bd (p : Int) : ∀ x ∈ tld p, 35 ≤ x ∧ x ≤ 59 := by
  intro x hx
  unfold tld at hx
  simp only [List.mem_append, List.mem_cons, List.not_mem_nil, or_false] at hx
  rcases hx with ((rfl | rfl) | h) | rfl
  · omega
  · omega
  · have := digs_bd _ x h; omega
  · omega
theorem sclr_bd {p : Int} (h : sclr p = true) : 0 ≤ p ∧ p ≤ 1114111 := by
  have := (sclr_iff p).1 h; omega
theorem digs_seven {p : Int} (h : sclr p = true) : (digs p.toNat).length ≤ 7 := by
  have := sclr_bd h
  exact digs_len 7 _ (by omega) (by have : (10 : Nat) ^ 7 = 10000000 := rfl; omega)
theorem tld_len {p : Int} (h : sclr p = true) : (tld p).length ≤ 10 := by
  have := digs_seven h
  unfold tld; simp; omega
theorem ptE_len {n p : Int} (h : sclr p = true) : (ptE n p).length ≤ 10 := by
  unfold ptE; split
  · simp
  · exact tld_len h
theorem ptsE_len (n : Int) (l : List Int) (h : l.all sclr = true) : (ptsE n l).length ≤ 10 * l.length := by
  induction l with
  | nil => simp [ptsE]
  | cons p t ih =>
    rw [List.all_cons, Bool.and_eq_true] at h
    have h1 := ptE_len (n := n) h.1
    have h2 := ih h.2
    have e : ptsE n (p :: t) = ptE n p ++ ptsE n t := rfl
    rw [e, List.length_append, List.length_cons]; omega
theorem ptsE_snoc (n : Int) (l : List Int) (p : Int) : ptsE n (l ++ [p]) = ptsE n l ++ ptE n p := by simp [ptsE]
theorem ptE_yes {n p : Int} (h : hasE n p = true) : ptE n p = [p] := by unfold ptE; rw [if_pos h]
theorem ptE_no {n p : Int} (h : hasE n p = false) : ptE n p = tld p := by unfold ptE; rw [if_neg (by simp [h])]
theorem ptsE_all (n : Int) (l : List Int) (h : l.all (hasE n) = true) : ptsE n l = l := by
  induction l with
  | nil => rfl
  | cons p t ih =>
    rw [List.all_cons, Bool.and_eq_true] at h
    have e : ptsE n (p :: t) = ptE n p ++ ptsE n t := rfl
    rw [e, ih h.2, ptE_yes h.1]; rfl
theorem hasB_low (user : Bool) {p : Int} (h0 : 0 ≤ p) (h1 : p < 128) : hasB user p = true := by
  obtain ⟨k, hk, rfl⟩ := byte_nat h0 (by omega : p ≤ 255)
  have : pt user (k : Int) = k := by unfold pt; rw [if_pos h1]
  rw [← this]; exact hasB_pt user hk
theorem hasE_low (n : Int) {p : Int} (h0 : 28 ≤ p) (h1 : p < 128) : hasE n p = true := by
  unfold hasE
  split
  · exact hasB_low _ (by omega) h1
  · split
    · exact hasB_low _ (by omega) h1
    · split
      · have : pln p = true := by unfold pln; exact decide_eq_true (by omega)
        unfold anyK; rw [pln_has this]; rfl
      · rfl
theorem tld_has (n p : Int) : (tld p).all (hasE n) = true := by
  rw [List.all_eq_true]
  intro x hx
  have := tld_bd p x hx
  exact hasE_low n (by omega) (by omega)
theorem ptE_has (n p : Int) : (ptE n p).all (hasE n) = true := by
  unfold ptE; split
  · rename_i h; simp [h]
  · exact tld_has n p
theorem ptsE_has (n : Int) (l : List Int) : (ptsE n l).all (hasE n) = true := by
  induction l with
  | nil => rfl
  | cons p t ih =>
    have e : ptsE n (p :: t) = ptE n p ++ ptsE n t := rfl
    rw [e, List.all_append, ptE_has, ih]; rfl
theorem tld_sclr (p : Int) : (tld p).all sclr = true := by
  rw [List.all_eq_true]
  intro x hx
  have := tld_bd p x hx
  rw [sclr_iff]; omega
theorem ptsE_sclr (n : Int) (l : List Int) (h : l.all sclr = true) : (ptsE n l).all sclr = true := by
  induction l with
  | nil => rfl
  | cons p t ih =>
    rw [List.all_cons, Bool.and_eq_true] at h
    have e : ptsE n (p :: t) = ptE n p ++ ptsE n t := rfl
    rw [e, List.all_append, ih h.2, Bool.and_true]
    unfold ptE; split
    · simp [h.1]
    · exact tld_sclr p
theorem hasE_out (n p : Int) : hasE (outE n) p = hasE n p := by
  unfold outE; split
  · rename_i h
    unfold hasE
    rw [if_neg (by omega), if_neg (by omega), if_neg (by omega), if_neg (by omega), if_neg (by omega), if_neg (by omega)]
  · rfl
theorem encB_out (n : Int) (l : List Int) : encB (outE n) l = encB n l := by
  unfold outE; split
  · rename_i h
    unfold encB
    rw [if_neg (by omega), if_neg (by omega), if_neg (by omega), if_neg (by omega), if_neg (by omega), if_neg (by omega)]
  · rfl
theorem outE_bd {n : Int} (h : 1 ≤ n ∧ n ≤ 7) : outE n = 1 ∨ outE n = 4 ∨ outE n = 5 ∨ outE n = 6 := by
  unfold outE; split <;> omega
theorem hasE_four (p : Int) : hasE 4 p = hasB false p := rfl
theorem hasE_five (p : Int) : hasE 5 p = hasB true p := rfl
theorem hasE_six (p : Int) : hasE 6 p = anyK p := rfl
theorem hasE_one {n : Int} (h : outE n = 1) (p : Int) : hasE n p = true := by rw [← hasE_out, h]; rfl
theorem ptsE_one {n : Int} (h : outE n = 1) (l : List Int) : ptsE n l = l := ptsE_all n l (by rw [List.all_eq_true]; intro x _; exact hasE_one h x)
theorem hasS (user : Bool) (p : Int) : hasE (if user then 5 else 4) p = hasB user p := by cases user <;> rfl
theorem encB_S (user : Bool) (l : List Int) : encB (if user then 5 else 4) l = encS user l := by cases user <;> rfl
theorem encB_6 (l : List Int) : encB 6 l = kenc l := rfl
theorem encB_1 (l : List Int) : encB 1 l = enc l := rfl
end Go.Proofs.YtaiinjfnkmidbaaGreatDoor.M

namespace Go.Proofs.YtaiinjfnkmidbaaGreatDoor
open Go.RowKit
set_option linter.unusedVariables false

/-- The first k bytes. -/
def bts (k : Nat) : List Int := (List.range k).map (fun j : Nat => (j : Int))
theorem bts_snoc (k : Nat) : bts (k + 1) = bts k ++ [(k : Int)] := by simp [bts, List.range_succ]
theorem bts_len (k : Nat) : (bts k).length = k := by simp [bts]
theorem bts_byt : ∀ x ∈ bts 256, 0 ≤ x ∧ x ≤ 255 := by
  intro x hx
  simp only [bts, List.mem_map, List.mem_range] at hx
  obtain ⟨j, hj, rfl⟩ := hx
  omega
theorem map_tbl (g : Int → Int) (k : Nat) : ((List.range k).map (fun j : Nat => (j : Int))).map g = (List.range k).map (fun j : Nat => g (j : Int)) := by
  rw [List.map_map]; rfl
theorem bts_dec (user : Bool) : M.decS user (bts 256) = M.tblOf user 256 := map_tbl _ 256
theorem any_tbl (f : Nat → Int) (n : Int) (k : Nat) : ((List.range k).map f).any (· == n) = (List.range k).any (fun c => f c == n) := by
  rw [List.any_map]; rfl
theorem tbl_has (user : Bool) (n : Int) : (M.tblOf user 256).any (· == n) = M.hasB user n := any_tbl _ n 256
/-- What a round of eachByte's loop knows. -/
def InB (w wr : World) (k : Nat) (v : Value) : Prop := wr.ownsRow w.heap.size 5 1 v (bts k).length ((bts k).map (Value.int .u8)) ∧ Below w.heap.size w wr

set_option maxHeartbeats 800000 in
set_option maxRecDepth 100000 in
theorem eachByte_any (w : World) : Calls Tryz.prog 142 #[] w fun e w' => e = .returned (.string (strOfNums (bts 256))) ∧ Below w.heap.size w w' := by
  have HI : Hid (InB w w 0 (.slice none 0 0)) := hide ⟨World.ownsRow_nil _ _ _ _, Below.refl _ _⟩
  go_enter Tryz.func142, Tryz.ntmps142
  go_wp2_with fail
  go_loopw [1, 3] (fun v i wr => ∃ k : Nat, k ≤ 256 ∧ i = .int .i64 k ∧ InB w wr k v) (fun _ i _ => 256 - (intOf i).toNat)
  case atStart => exact ⟨0, by omega, rfl, unhide HI⟩
  case round =>
    obtain ⟨k, hk, rfl, hI⟩ := hrel
    clear HI
    have hz := hI.2.size
    have hl := hide (bts_len k)
    obtain ⟨av, capv, hsh⟩ := owns_shape hI.1
    subst hsh
    by_cases hlt : k < 256
    · have HO := hide hI.1
      have HB := hide hI.2
      have HS := hide (bts_snoc k)
      clear hI
      generalize bts k = ns at *
      have hln := unhide hl
      go_wp2_with (at_builtin; refine append_byte rfl (.tmp 6) (.tmp 9) rfl w.heap.size _ ns rfl (unhide HO) (k : Int) rfl (by omega) (by omega) ?_)
      intro ao2 cap2 w2 ho2 hb2
      have HJ : Hid (w2.ownsRow w.heap.size 5 1 (.slice ao2 (k + 1) cap2) (bts (k + 1)).length ((bts (k + 1)).map (Value.int .u8))) := hide (by rw [unhide HS]; simpa [hln] using ho2)
      have HB2 := hide ((unhide HB).trans hb2)
      clear ho2 hb2
      go_wp2_with fail
      go_roundw
      case rel => exact ⟨k + 1, by omega, by go_num, unhide HJ, unhide HB2⟩
      case measure => simp [intOf]; omega
    · obtain rfl : k = 256 := by omega
      have hcv := conv_owned hI.1
      have hb := hide hI.2
      clear hI hl
      go_wp2_with fail
      go_ret
      exact ⟨rfl, unhide hb⟩

theorem Gi_of {p : Int} (h : M.sclr p = true) : Gi p := by have := M.sclr_bd h; unfold Gi; omega
/-- The points that known's function of a byte a sign looks through lie at block B. -/
def Pts (user : Bool) (B : Nat) (w : World) : Prop := ∃ v, w.cell? ⟨B, 0, none⟩ = some v ∧ Ints w v (M.tblOf user 256)
theorem Pts.below {user : Bool} {B : Nat} {w w' : World} (h : Pts user B w) (hb : Below w.heap.size w w') : Pts user B w' := by
  obtain ⟨v, h1, h2⟩ := h
  exact ⟨v, (hb.cell (p := ⟨B, 0, none⟩) (World.block_lt_of_cell? w _ h1)).trans h1, h2.below hb⟩

set_option maxHeartbeats 400000 in
set_option maxRecDepth 100000 in
theorem hasS_any (user : Bool) (B : Nat) (p : Int) (w : World) (h : Pts user B w) :
    Calls Tryz.prog 143 #[.int .i64 p, .pointer (some ⟨B, 0, none⟩)] w fun e w' => e = .returned (.bool (M.hasB user p)) ∧ w' = w := by
  obtain ⟨v, hc, hI⟩ := h
  have hl := World.block_lt_of_cell? w _ hc
  simp only at hl
  have H := hide (contains_ints p w hI)
  rw [tbl_has] at H
  obtain ⟨ao, cap, rfl, -, -, -⟩ := hI
  go_enter Tryz.func143, Tryz.ntmps143
  go_wp2_with fail
  refine (unhide H).mono ?_
  rintro e w1 ⟨rfl, hw⟩
  replace hw := hw.symm
  subst hw
  go_wp2_with fail
  go_ret
  exact ⟨rfl, rfl⟩

set_option maxHeartbeats 400000 in
set_option maxRecDepth 100000 in
theorem hasK_any (p : Int) (w : World) (h : Gi p) :
    Calls Tryz.prog 145 #[.int .i64 p] w fun e w' => e = .returned (.bool (M.anyK p)) ∧ Below w.heap.size w w' := by
  have H := hide (kencode_any _ [p] _ (one_int w p) (by simp) (by intro n hn; simp at hn; rw [hn]; exact h))
  have HB := hide (balloc w (.cells #[.int .i64 p] 3))
  cases hq : M.anyK p
  · rw [encodedK_no (by simp [hq])] at H
    go_enter Tryz.func145, Tryz.ntmps145
    go_wp2_with fail
    refine (unhide H).mono ?_
    rintro e w1 ⟨rfl, hb⟩
    have HB1 := hide (bstep (unhide HB) hb)
    clear hb
    go_wp2_with fail
    go_ret
    exact ⟨rfl, unhide HB1⟩
  · rw [encodedK_yes (by simp [hq])] at H
    go_enter Tryz.func145, Tryz.ntmps145
    go_wp2_with fail
    refine (unhide H).mono ?_
    rintro e w1 ⟨rfl, hb⟩
    have HB1 := hide (bstep (unhide HB) hb)
    clear hb
    go_wp2_with fail
    go_ret
    exact ⟨rfl, unhide HB1⟩

set_option maxHeartbeats 400000 in
set_option maxRecDepth 100000 in
theorem hasU_any (p : Int) (w : World) : Calls Tryz.prog 147 #[.int .i64 p] w fun e w' => e = .returned (.bool true) ∧ w' = w := by
  go_enter Tryz.func147, Tryz.ntmps147
  go_wp2
  go_ret
  exact ⟨rfl, rfl⟩

set_option maxHeartbeats 800000 in
set_option maxRecDepth 100000 in
theorem knownS_any (user : Bool) (n : Int) (hn : n = if user then 5 else 4) (w : World) :
    Calls Tryz.prog 88 #[.int .i64 n] w fun e w' => ∃ B, e = .returned (.func (Fn.func 143) #[] #[.pointer (some ⟨B, 0, none⟩)]) ∧ Pts user B w' ∧ Below w.heap.size w w' := by
  have H1 := hide (fun w => eachByte_any w)
  have H2 := hide (fun w => decodeS_any user (strOfNums (bts 256)) w (by rw [strOfNums_size, bts_len]; omega))
  rw [bl_str _ bts_byt, bts_dec] at H2
  generalize strOfNums (bts 256) = s at *
  cases user
  all_goals
    simp only [Bool.false_eq_true, if_false, if_true] at hn
    subst hn
    go_enter Tryz.func88, Tryz.ntmps88
    go_wp2_with fail
    refine (unhide H1 _).mono ?_
    rintro e w1 ⟨rfl, hb1⟩
    have HB1 := hide hb1
    clear hb1 H1
    go_wp2_with fail
    refine (unhide H2 _).mono ?_
    rintro e w2 ⟨v, rfl, hI, hb2⟩
    have HB2 := hide (bstep (unhide HB1) hb2)
    have HI := hide hI
    obtain ⟨ao, cap, rfl, -, -, -⟩ := hI
    clear hb2 H2
    go_wp2_with fail
    go_ret
    refine ⟨_, rfl, ⟨_, ?_, (unhide HI).below (balloc _ _)⟩, bstep (unhide HB2) (balloc _ _)⟩
    simp

set_option maxHeartbeats 400000 in
set_option maxRecDepth 100000 in
theorem knownK_any (w : World) : Calls Tryz.prog 88 #[.int .i64 6] w fun e w' => e = .returned (.func (Fn.func 145) #[] #[]) ∧ w' = w := by
  go_enter Tryz.func88, Tryz.ntmps88
  go_wp2
  go_ret
  exact ⟨rfl, rfl⟩
set_option maxHeartbeats 400000 in
set_option maxRecDepth 100000 in
theorem knownU_any (w : World) : Calls Tryz.prog 88 #[.int .i64 1] w fun e w' => e = .returned (.func (Fn.func 147) #[] #[]) ∧ w' = w := by
  go_enter Tryz.func88, Tryz.ntmps88
  go_wp2
  go_ret
  exact ⟨rfl, rfl⟩
end Go.Proofs.YtaiinjfnkmidbaaGreatDoor

namespace Go.Proofs.YtaiinjfnkmidbaaGreatDoor
open Go.RowKit
set_option linter.unusedVariables false

/-- strconv.Itoa answers the numeral of each scalar, in this world and in those that follow it. -/
def Tb (w : World) : Prop := ∀ w', Below w.heap.size w w' → ∀ p, M.sclr p = true → Calls Tryz.prog 207 #[.int .i64 p] w' fun e w'' => e = .returned (.string (strOfNums (M.digs p.toNat))) ∧ Below w'.heap.size w' w''
theorem Tb.below {w w1 : World} (h : Tb w) (hb : Below w.heap.size w w1) : Tb w1 := fun w' h' => h w' (bstep hb h')

/-- The code points xs lie in the variable at block B. -/
def Acc (B : Nat) (xs : List Int) (v : Value) (w : World) : Prop := w.heap[B]? = some (.cells #[v] 31 (0, 0)) ∧ w.ownsRow (B + 1) 3 1 v xs.length (xs.map (Value.int .i64)) ∧ B + 1 ≤ w.heap.size
theorem Acc.below {B : Nat} {xs : List Int} {v : Value} {w w' : World} (h : Acc B xs v w) (hb : Below w.heap.size w w') : Acc B xs v w' := by
  obtain ⟨h1, h2, h3⟩ := h
  exact ⟨(hb.block B (by omega)).trans h1, owns_below h2 hb, Nat.le_trans h3 hb.size⟩
/-- Rows of other things than integers stay. -/
def Kp (B : Nat) (w w' : World) : Prop := ∀ b c fz, b ≠ B → w.heap[b]? = some (.cells c 5 fz) → w'.heap[b]? = some (.cells c 5 fz)

theorem not_own {w : World} {base n : Nat} {v : Value} {xs : List Value} (h : w.ownsRow base 3 1 v n xs) {b : Nat} {c : Array Value} {fz : Nat × Nat} (hb : w.heap[b]? = some (.cells c 5 fz)) : some b ≠ v.ownBlock := by
  intro e
  rcases h.2 with ⟨hv, _⟩ | ⟨g, cap, cur, hv, _, hg, _⟩
  · rw [hv] at e; simp [Value.ownBlock] at e
  · rw [hv] at e
    simp only [Value.ownBlock, Option.some.injEq] at e
    subst e
    rw [hg] at hb
    simp at hb

set_option maxHeartbeats 400000 in
set_option maxRecDepth 100000 in
theorem push_any (B : Nat) (p : Int) (v : Value) (xs : List Int) (w : World) (hA : Acc B xs v w) (hn : xs.length ≤ 40000) :
    Calls Tryz.prog 158 #[.int .i64 p, .pointer (some ⟨B, 0, none⟩)] w fun e w' => e = .returned (.tuple #[]) ∧ ∃ v', Acc B (xs ++ [p]) v' w' ∧ Below B w w' ∧ Kp B w w' := by
  obtain ⟨hv, hown, hlt⟩ := hA
  have hc := cell_of_one hv
  have hf := free_of_one hv
  obtain ⟨i0, hi, hz0, hz1, hz2⟩ := info_parts info3
  have hB : B < w.heap.size := by omega
  have HV := hide hv
  have HNO := hide (fun (b : Nat) (c : Array Value) (fz : Nat × Nat) (h : w.heap[b]? = some (.cells c 5 fz)) => not_own hown h)
  clear hv
  go_enter Tryz.func158, Tryz.ntmps158
  go_wp2_with (at_builtin; refine wpList_append_own _ rfl (.tmp 3) (.tmp 5) 31 rfl (B + 1) 3 i0 (.int .i64 0) 1 8 Tryz.underlying31 hi hz0 hz1 hz2 rfl (by decide) _ _ _ rfl (hown.alloc _) ⟨w.heap.size, 0, none⟩ 1 1 [.int .i64 p] rfl rfl ?c1 ?c2 ?c3 ?c4 ?c5 ?_)
  case c1 =>
    intro j u hj
    match j, hj with
    | 0, hj => simp at hj; subst hj; simp [Addr.add]
  case c2 => intro u hu; simp at hu; subst hu; rfl
  case c3 => unfold maxLen; omega
  case c4 => omega
  case c5 => simp; omega
  intro v' w1 hown' hgrow _
  obtain ⟨ao', cap', rfl⟩ := owns_shape hown'
  have hne : some B ≠ v.ownBlock := fun e => by have := hown.lt B e.symm; omega
  have hv1 : w1.heap[B]? = some (.cells #[v] 31 (0, 0)) := by
    rw [hgrow.block B (by simp; omega) hne, Below.heap_alloc _ _ _ hB]
    exact unhide HV
  have hc1 := cell_of_one hv1
  have hf1 := free_of_one hv1
  have R1 := hide (one_setCell (u := .slice ao' (xs.length + 1) cap') hv1)
  have R2 := hide (ownsRow_setCell_below hown' (a := ⟨B, 0, none⟩) (show B < B + 1 by omega) (.slice ao' (xs.length + 1) cap'))
  have R3 : Below B w (w1.setCell ⟨B, 0, none⟩ (.slice ao' (xs.length + 1) cap')) := by
    have h1 := ((Below.refl B w).alloc (by omega) (.cells #[.int .i64 p] 3)).grown hgrow (by simp; omega) (fun k hk => by have := hown.lt k hk; omega)
    exact h1.setCell (Nat.le_refl _) _
  have R4 : Hid (Kp B w (w1.setCell ⟨B, 0, none⟩ (.slice ao' (xs.length + 1) cap'))) := hide (fun b c fz h2 h1 => by
    have hbl := lt_of_block h1
    rw [Below.heap_setCell _ _ _ _ h2, hgrow.block b (by simp; omega) (unhide HNO b c fz h1), Below.heap_alloc _ _ _ hbl]
    exact h1)
  have R5 : Hid (B + 1 ≤ (w1.setCell ⟨B, 0, none⟩ (.slice ao' (xs.length + 1) cap')).heap.size) := hide (Nat.le_trans hlt R3.size)
  have HR3 := hide R3
  clear hc hf hv1 HV hown hown' hgrow R3
  go_wp2_with fail
  go_end0
  exact ⟨rfl, _, ⟨unhide R1, by simpa using unhide R2, unhide R5⟩, unhide HR3, unhide R4⟩

theorem bytesRow_at (s : ByteArray) (cap j : Nat) (h : j < s.size) : (bytesRow s cap)[j]? = some (.int .u8 ((bl s).getD j 0)) := by
  have hb := bl_get s j h
  rw [List.getD_eq_getElem?_getD, hb]
  unfold bytesRow
  rw [Array.getElem?_append_left (by simp; exact h)]
  simp [h]
  rfl
/-- What a round of putNumber's loop knows. -/
def InN (B bb : Nat) (xs : List Int) (s : ByteArray) (C : Array Value) (fz : Nat × Nat) (w wr : World) (k : Nat) : Prop := (∃ v, Acc B (xs ++ (bl s).take k) v wr) ∧ Below B w wr ∧ wr.heap[bb]? = some (.cells C 5 fz)

set_option maxHeartbeats 800000 in
set_option maxRecDepth 100000 in
theorem putNumber_any (B : Nat) (p : Int) (v : Value) (xs : List Int) (w : World) (hT : Tb w) (hp : M.sclr p = true) (hA : Acc B xs v w) (hn : xs.length ≤ 30000) :
    Calls Tryz.prog 159 #[.int .i64 p, .func (Fn.func 158) #[] #[.pointer (some ⟨B, 0, none⟩)]] w fun e w' => e = .returned (.tuple #[]) ∧ ∃ v', Acc B (xs ++ M.tld p) v' w' ∧ Below B w w' := by
  have HT := hide (hT w (Below.refl _ _) p hp)
  have hz : (strOfNums (M.digs p.toNat)).size ≤ 7 := by rw [strOfNums_size]; exact M.digs_seven hp
  have HL : Hid (bl ((⟨#[38, 35]⟩ : ByteArray) ++ strOfNums (M.digs p.toNat) ++ (⟨#[59]⟩ : ByteArray)) = M.tld p) := hide (by
    rw [bl_app, bl_app, bl_str _ (fun x hx => by have := M.digs_bd _ x hx; omega)]
    unfold M.tld
    rw [show bl ⟨#[38, 35]⟩ = [38, 35] from by decide, show bl ⟨#[59]⟩ = [59] from by decide])
  have hBw : B ≤ w.heap.size := by have := hA.2.2; omega
  have HA := hide hA
  generalize strOfNums (M.digs p.toNat) = d at *
  clear hT hp hA
  have z2 : (⟨#[38, 35]⟩ : ByteArray).size = 2 := rfl
  have z1 : (⟨#[59]⟩ : ByteArray).size = 1 := rfl
  have hsz : ((⟨#[38, 35]⟩ : ByteArray) ++ d ++ (⟨#[59]⟩ : ByteArray)).size ≤ 10 := by rw [ByteArray.size_append, ByteArray.size_append, z1, z2]; omega
  go_enter Tryz.func159, Tryz.ntmps159
  go_wp2_with fail
  refine (unhide HT).mono ?_
  rintro e w1 ⟨rfl, hb1⟩
  have HB1 := hide hb1
  have HA1 := hide ((unhide HA).below hb1)
  clear hb1 HT HA
  have hcv := run_bytes_of_string (P := Tryz.prog) w1 9 151 5 ((⟨#[38, 35]⟩ : ByteArray) ++ d ++ (⟨#[59]⟩ : ByteArray)) Tryz.underlying9 Tryz.underlying151 Tryz.underlying5
  go_wp2_with fail
  have hsn : ((⟨#[38, 35]⟩ : ByteArray) ++ d ++ (⟨#[59]⟩ : ByteArray)).size = 2 + d.size + 1 := by rw [ByteArray.size_append, ByteArray.size_append, z1, z2]
  have HSN := hide hsn
  have HCl : Hid (∀ cap j, j < 2 + d.size + 1 → (bytesRow ((⟨#[38, 35]⟩ : ByteArray) ++ d ++ (⟨#[59]⟩ : ByteArray)) cap)[j]? = some (.int .u8 ((bl ((⟨#[38, 35]⟩ : ByteArray) ++ d ++ (⟨#[59]⟩ : ByteArray))).getD j 0))) := hide (fun cap j hj => bytesRow_at _ cap j (by rw [hsn]; exact hj))
  clear hcv hsn hsz
  generalize grownCap w1 (2 + d.size + 1) 0 5 = cap at *
  replace HCl := hide (unhide HCl cap)
  have HBy := hide (bl_byt ((⟨#[38, 35]⟩ : ByteArray) ++ d ++ (⟨#[59]⟩ : ByteArray)))
  generalize bytesRow ((⟨#[38, 35]⟩ : ByteArray) ++ d ++ (⟨#[59]⟩ : ByteArray)) cap = C at *
  obtain ⟨s, HS⟩ : ∃ s, Hid (((⟨#[38, 35]⟩ : ByteArray) ++ d ++ (⟨#[59]⟩ : ByteArray)) = s) := ⟨_, hide rfl⟩
  rw [unhide HS] at HL HSN HCl HBy
  have HBW : Hid (Below w1.heap.size w1 (w1.alloc (.cells C 5 (C.size, C.size + 1))).drew) := hide ((balloc _ _).drew)
  have HBB : Hid ((w1.alloc (.cells C 5 (C.size, C.size + 1))).drew.heap[w1.heap.size]? = some (.cells C 5 (C.size, C.size + 1))) := hide (heap_alloc_new w1 _)
  have HAW := hide ((unhide HA1).below (unhide HBW))
  have hBl : B < w1.heap.size := by have := (unhide HA1).2.2; omega
  generalize (w1.alloc (.cells C 5 (C.size, C.size + 1))).drew = W at *
  generalize (C.size, C.size + 1) = fz at *
  have HI : Hid (InN B w1.heap.size xs s C fz w W 0) := hide ⟨⟨v, by simpa using unhide HAW⟩, (bstep (unhide HB1) (unhide HBW)).mono hBw, unhide HBB⟩
  clear HAW HBW HBB
  go_loopw [12] (fun i wr => ∃ k : Nat, k ≤ 2 + d.size + 1 ∧ i = .int .i64 k ∧ InN B w1.heap.size xs s C fz w wr k) (fun i _ => 2 + d.size + 1 - (intOf i).toNat)
  case atStart => exact ⟨0, by omega, rfl, unhide HI⟩
  case round =>
    obtain ⟨k, hk, rfl, ⟨v2, hA2⟩, hB2, hh2⟩ := hrel
    clear HI
    by_cases hlt : k < 2 + d.size + 1
    · have hbd := unhide HBy ((bl s).getD k 0) (by rw [List.getD_eq_getElem?_getD, List.getElem?_eq_getElem (by rw [bl_len, unhide HSN]; exact hlt)]; simp)
      have hcl : wr.cell? ⟨w1.heap.size, k, none⟩ = some (.int .u8 ((bl s).getD k 0)) := by simp [World.cell?, hh2, unhide HCl k hlt]
      have hbr : w1.heap.size < wr.heap.size := lt_of_block hh2
      have HTk : Hid ((bl s).take (k + 1) = (bl s).take k ++ [(bl s).getD k 0]) := hide (take_snoc _ k (by rw [bl_len, unhide HSN]; exact hlt))
      have HZ : Hid ((xs ++ (bl s).take k).length ≤ 40000) := hide (by rw [List.length_append, List.length_take]; omega)
      have HH2 := hide hh2
      have HA2 := hide hA2
      have HB2 := hide hB2
      obtain ⟨c, HC⟩ : ∃ c, Hid ((bl s).getD k 0 = c) := ⟨_, hide rfl⟩
      rw [unhide HC] at hbd hcl HTk
      clear hA2 hB2 hh2
      go_wp2_with fail
      refine (push_any B c v2 _ _ (unhide HA2) (unhide HZ)).mono ?_
      rintro e w2 ⟨rfl, v3, hA3, hB3, hK3⟩
      have HI : Hid (InN B w1.heap.size xs s C fz w w2 (k + 1)) := hide ⟨⟨v3, by rw [unhide HTk, ← List.append_assoc]; exact hA3⟩, (unhide HB2).trans hB3, hK3 _ _ _ (by omega) (unhide HH2)⟩
      clear hA3 hB3 hK3
      go_wp2_with fail
      go_roundw
      case rel => exact ⟨k + 1, by omega, by go_num, unhide HI⟩
      case measure => simp [intOf]; omega
    · have HE : Hid ((bl s).take k = M.tld p) := hide (by rw [List.take_of_length_le (by rw [bl_len, unhide HSN]; omega), unhide HL])
      rw [unhide HE] at hA2
      have HA2 := hide hA2
      have HB2 := hide hB2
      clear hA2 hB2 hh2
      go_wp2_with fail
      go_end0
      exact ⟨rfl, v2, unhide HA2, unhide HB2⟩
end Go.Proofs.YtaiinjfnkmidbaaGreatDoor

namespace Go.Proofs.YtaiinjfnkmidbaaGreatDoor.M

/-- An encoding's mark. -/
def mkL (n : Int) : List Int := if n = 1 then [239, 187, 191] else if n = 2 then [255, 254] else if n = 3 then [254, 255] else []
/-- The encoding whose mark stands at a text's beginning, and how many bytes that has. -/
def sn (l : List Int) : Int × Int := if [239, 187, 191] <+: l then (1, 3) else if [254, 255] <+: l then (3, 2) else if [255, 254] <+: l then (2, 2) else (0, 0)
def may (l : List Int) : Bool := decide (l = [] ∨ l = [239] ∨ l = [239, 187] ∨ l = [254] ∨ l = [255])
theorem pre3 (a b c : Int) (l : List Int) : [a, b, c] <+: l ↔ ∃ t, l = a :: b :: c :: t := by
  constructor
  · rintro ⟨t, rfl⟩; exact ⟨t, rfl⟩
  · rintro ⟨t, rfl⟩; exact ⟨t, rfl⟩
theorem pre2 (a b : Int) (l : List Int) : [a, b] <+: l ↔ ∃ t, l = a :: b :: t := by
  constructor
  · rintro ⟨t, rfl⟩; exact ⟨t, rfl⟩
  · rintro ⟨t, rfl⟩; exact ⟨t, rfl⟩
theorem sn_1 (t : List Int) : sn (239 :: 187 :: 191 :: t) = (1, 3) := by
  unfold sn; rw [if_pos ((pre3 _ _ _ _).2 ⟨t, rfl⟩)]
theorem sn_3 (t : List Int) : sn (254 :: 255 :: t) = (3, 2) := by
  unfold sn; rw [if_neg (by rw [pre3]; rintro ⟨u, h⟩; simp at h), if_pos ((pre2 _ _ _).2 ⟨t, rfl⟩)]
theorem sn_2 (t : List Int) : sn (255 :: 254 :: t) = (2, 2) := by
  unfold sn; rw [if_neg (by rw [pre3]; rintro ⟨u, h⟩; simp at h), if_neg (by rw [pre2]; rintro ⟨u, h⟩; simp at h), if_pos ((pre2 _ _ _).2 ⟨t, rfl⟩)]
/-- A text has a mark, or none. -/
theorem sn_cases (l : List Int) : (∃ t, l = 239 :: 187 :: 191 :: t ∧ sn l = (1, 3)) ∨ (∃ t, l = 254 :: 255 :: t ∧ sn l = (3, 2)) ∨ (∃ t, l = 255 :: 254 :: t ∧ sn l = (2, 2)) ∨ (sn l = (0, 0) ∧ ¬ [239, 187, 191] <+: l ∧ ¬ [254, 255] <+: l ∧ ¬ [255, 254] <+: l) := by
  by_cases h1 : [239, 187, 191] <+: l
  · obtain ⟨t, rfl⟩ := (pre3 _ _ _ _).1 h1
    exact .inl ⟨t, rfl, sn_1 t⟩
  · by_cases h2 : [254, 255] <+: l
    · obtain ⟨t, rfl⟩ := (pre2 _ _ _).1 h2
      exact .inr (.inl ⟨t, rfl, sn_3 t⟩)
    · by_cases h3 : [255, 254] <+: l
      · obtain ⟨t, rfl⟩ := (pre2 _ _ _).1 h3
        exact .inr (.inr (.inl ⟨t, rfl, sn_2 t⟩))
      · refine .inr (.inr (.inr ⟨?_, h1, h2, h3⟩))
        unfold sn; rw [if_neg h1, if_neg h2, if_neg h3]
theorem sn_some {l : List Int} (h : (sn l).1 ≠ 0) (m : List Int) : sn (l ++ m) = sn l ∧ may l = false := by
  rcases sn_cases l with ⟨t, rfl, e⟩ | ⟨t, rfl, e⟩ | ⟨t, rfl, e⟩ | ⟨e, _⟩
  · rw [e]; exact ⟨sn_1 _, by simp [may]⟩
  · rw [e]; exact ⟨sn_3 _, by simp [may]⟩
  · rw [e]; exact ⟨sn_2 _, by simp [may]⟩
  · rw [e] at h; exact absurd rfl h
theorem sn_none {l : List Int} (h : (sn l).1 = 0) (hm : may l = false) (m : List Int) : (sn (l ++ m)).1 = 0 := by
  rcases sn_cases l with ⟨t, rfl, e⟩ | ⟨t, rfl, e⟩ | ⟨t, rfl, e⟩ | ⟨e, h1, h2, h3⟩
  · rw [e] at h; cases h
  · rw [e] at h; cases h
  · rw [e] at h; cases h
  · unfold may at hm
    rw [decide_eq_false_iff_not] at hm
    have g1 : ¬ [239, 187, 191] <+: l ++ m := by
      intro hp
      rcases List.prefix_or_prefix_of_prefix hp (List.prefix_append l m) with q | q
      · exact h1 q
      · obtain ⟨t, ht⟩ := q
        rcases l with _ | ⟨a, _ | ⟨b, _ | ⟨c, l⟩⟩⟩
        · simp at hm
        · simp at ht hm; omega
        · simp at ht hm; omega
        · simp at ht
          exact h1 ⟨l, by simp [ht.1, ht.2.1, ht.2.2.1]⟩
    have g2 : ¬ [254, 255] <+: l ++ m := by
      intro hp
      rcases List.prefix_or_prefix_of_prefix hp (List.prefix_append l m) with q | q
      · exact h2 q
      · obtain ⟨t, ht⟩ := q
        rcases l with _ | ⟨a, _ | ⟨b, l⟩⟩
        · simp at hm
        · simp at ht hm; omega
        · simp at ht
          exact h2 ⟨l, by simp [ht.1, ht.2.1]⟩
    have g3 : ¬ [255, 254] <+: l ++ m := by
      intro hp
      rcases List.prefix_or_prefix_of_prefix hp (List.prefix_append l m) with q | q
      · exact h3 q
      · obtain ⟨t, ht⟩ := q
        rcases l with _ | ⟨a, _ | ⟨b, l⟩⟩
        · simp at hm
        · simp at ht hm; omega
        · simp at ht
          exact h3 ⟨l, by simp [ht.1, ht.2.1]⟩
    unfold sn; rw [if_neg g1, if_neg g2, if_neg g3]
end Go.Proofs.YtaiinjfnkmidbaaGreatDoor.M

namespace Go.Proofs.YtaiinjfnkmidbaaGreatDoor

def Byt (l : List Int) : Prop := ∀ x ∈ l, 0 ≤ x ∧ x ≤ 255
/-- White bytes. -/
def wh (c : Int) : Bool := decide (c = 32 ∨ c = 9 ∨ c = 10 ∨ c = 12 ∨ c = 13)
/-- Without the white ones at the end. -/
def rT : List Int → List Int
  | [] => []
  | c :: t => if wh c && (rT t).isEmpty then [] else c :: rT t
def trI (l : List Int) : List Int := (rT l).dropWhile wh

theorem tr_comm (l : List Int) : rT (l.dropWhile wh) = trI l := by
  unfold trI
  induction l with
  | nil => rfl
  | cons c t ih =>
    by_cases h : wh c = true
    · rw [List.dropWhile_cons_of_pos h, ih]
      simp only [rT, h, Bool.true_and]
      by_cases he : rT t = []
      · rw [he]; simp
      · have : (rT t).isEmpty = false := by simpa using he
        rw [this]
        simp [h]
    · have h' : wh c = false := by simpa using h
      rw [List.dropWhile_cons_of_neg h]
      simp only [rT, h', Bool.false_and]
      simp [h']

theorem rT_snoc (t : List Int) (c : Int) : rT (t ++ [c]) = if wh c then rT t else t ++ [c] := by
  induction t with
  | nil =>
    simp only [List.nil_append, rT]
    by_cases h : wh c = true
    · simp [h]
    · simp [h]
  | cons d t ih =>
    simp only [List.cons_append, rT, ih]
    by_cases h : wh c = true
    · simp [h]
    · simp [h]

theorem rT_eq (l : List Int) : rT l = (l.reverse.dropWhile wh).reverse := by
  induction l with
  | nil => rfl
  | cons c t ih =>
    rw [List.reverse_cons, List.dropWhile_append]
    simp only [rT, ih]
    by_cases he : t.reverse.dropWhile wh = []
    · rw [he]
      by_cases h : wh c = true <;> simp [h]
    · have h1 : (t.reverse.dropWhile wh).isEmpty = false := by simpa using he
      have h2 : (t.reverse.dropWhile wh).reverse.isEmpty = false := by simpa using he
      rw [h1, h2]
      simp

def fI (c : Int) : Int := if 65 ≤ c ∧ c ≤ 90 then c + 32 else c
def fdI (l : List Int) : List Int := l.map fI

theorem wh_fI (c : Int) : wh (fI c) = wh c := by
  unfold wh fI
  rw [Bool.eq_iff_iff]
  simp only [decide_eq_true_eq]
  split <;> omega
theorem fI_fI (c : Int) : fI (fI c) = fI c := by
  unfold fI
  split <;> (try split) <;> omega
theorem fI_bd (c : Int) (h : 0 ≤ c ∧ c ≤ 255) : 0 ≤ fI c ∧ fI c ≤ 255 := by
  unfold fI
  split <;> omega

theorem fd_dropWhile (l : List Int) : (fdI l).dropWhile wh = fdI (l.dropWhile wh) := by
  unfold fdI
  induction l with
  | nil => rfl
  | cons c t ih =>
    by_cases h : wh c = true
    · rw [List.map_cons, List.dropWhile_cons_of_pos (by rw [wh_fI]; exact h), List.dropWhile_cons_of_pos h, ih]
    · rw [List.map_cons, List.dropWhile_cons_of_neg (by rw [wh_fI]; exact h), List.dropWhile_cons_of_neg h, List.map_cons]
theorem fd_rT (l : List Int) : rT (fdI l) = fdI (rT l) := by
  induction l with
  | nil => rfl
  | cons c t ih =>
    show rT (fI c :: fdI t) = fdI (rT (c :: t))
    simp only [rT, ih, wh_fI]
    have : (fdI (rT t)).isEmpty = (rT t).isEmpty := by unfold fdI; cases rT t <;> rfl
    rw [this]
    split <;> rfl
theorem fd_tr (l : List Int) : trI (fdI l) = fdI (trI l) := by
  unfold trI; rw [fd_rT, fd_dropWhile]
theorem fd_fd (l : List Int) : fdI (fdI l) = fdI l := by
  unfold fdI; rw [List.map_map]; apply List.map_congr_left; intro c _; exact fI_fI c

theorem rT_mem (l : List Int) : ∀ x ∈ rT l, x ∈ l := by
  induction l with
  | nil => intro x hx; exact hx
  | cons c t ih =>
    intro x hx
    simp only [rT] at hx
    split at hx
    · simp at hx
    · rcases List.mem_cons.1 hx with rfl | hx
      · exact List.mem_cons_self ..
      · exact List.mem_cons_of_mem _ (ih x hx)
theorem tr_byt {l : List Int} (h : Byt l) : Byt (trI l) := fun x hx => h x (rT_mem l x (List.dropWhile_subset _ hx))
theorem fd_byt {l : List Int} (h : Byt l) : Byt (fdI l) := by
  intro x hx
  unfold fdI at hx
  obtain ⟨c, hc, rfl⟩ := List.mem_map.1 hx
  exact fI_bd c (h c hc)
theorem rT_len (l : List Int) : (rT l).length ≤ l.length := by
  induction l with
  | nil => exact Nat.le_refl _
  | cons c t ih =>
    simp only [rT]
    split
    · simp
    · simp only [List.length_cons]; omega
theorem tr_len (l : List Int) : (trI l).length ≤ l.length :=
  Nat.le_trans (List.dropWhile_sublist _).length_le (rT_len l)
theorem fd_len (l : List Int) : (fdI l).length = l.length := by simp [fdI]

/-- The first of a list whose name is n: its number, or 0. -/
def lk : List (ByteArray × Int) → ByteArray → Int
  | [], _ => 0
  | x :: t, n => if x.1 == n then x.2 else lk t n
end Go.Proofs.YtaiinjfnkmidbaaGreatDoor

namespace Go.Proofs.YtaiinjfnkmidbaaGreatDoor
open Go.RowKit
set_option linter.unusedVariables false

set_option maxHeartbeats 400000 in
set_option maxRecDepth 100000 in
theorem isWhite_any (c : Int) (w : World) (h : 0 ≤ c ∧ c < 256) : Calls Tryz.prog 113 #[.int .u8 c] w fun e w' => e = .returned (.bool (wh c)) ∧ w' = w := by
  have HW : Hid (wh c = ((c == 32) || (c == 9) || (c == 10) || (c == 12) || (c == 13))) := by
    show wh c = _
    rw [Bool.eq_iff_iff]; simp [wh]; omega
  rcases (show c = 32 ∨ c = 9 ∨ c = 10 ∨ c = 12 ∨ c = 13 ∨ (c ≠ 32 ∧ c ≠ 9 ∧ c ≠ 10 ∧ c ≠ 12 ∧ c ≠ 13) from by omega) with rfl | rfl | rfl | rfl | rfl | ⟨g1, g2, g3, g4, g5⟩
  all_goals (try (go_enter Tryz.func113, Tryz.ntmps113; go_wp2; go_ret; exact ⟨ret_bool (by rw [unhide HW]; rfl), rfl⟩))
  have h1 : (c == 32) = false := by simp; omega
  have h2 : (c == 9) = false := by simp; omega
  have h3 : (c == 10) = false := by simp; omega
  have h4 : (c == 12) = false := by simp; omega
  have h5 : (c == 13) = false := by simp; omega
  clear g1 g2 g3 g4 g5
  go_enter Tryz.func113, Tryz.ntmps113
  go_wp2
  go_ret
  exact ⟨ret_bool (by rw [unhide HW, h1, h2, h3, h4, h5]; rfl), rfl⟩

set_option maxHeartbeats 400000 in
set_option maxRecDepth 100000 in
theorem between_any (n lo hi : Int) (w : World) : Calls Tryz.prog 51 #[.int .i64 n, .int .i64 lo, .int .i64 hi] w fun e w' => e = .returned (.bool (decide (lo ≤ n) && decide (n ≤ hi))) ∧ w' = w := by
  by_cases h : lo ≤ n
  · go_enter Tryz.func51, Tryz.ntmps51
    go_wp2
    go_ret
    exact ⟨ret_bool (by simp [h]), rfl⟩
  · go_enter Tryz.func51, Tryz.ntmps51
    go_wp2
    go_ret
    exact ⟨ret_bool (by simp; omega), rfl⟩

def szOf : Value → Nat
  | .string b => b.size
  | _ => 0

theorem bl_ne {r : ByteArray} (h : 0 < r.size) : bl r ≠ [] := fun e => by have := congrArg List.length e; rw [bl_len] at this; simp only [List.length_nil] at this; omega
theorem bl_last (r : ByteArray) (h : r.size - 1 < r.size) : bl r = (bl r).take (r.size - 1) ++ [(r[r.size - 1].toNat : Int)] := by
  have hl : (bl r).length = r.size - 1 + 1 := by rw [bl_len]; omega
  have hg := bl_get r (r.size - 1) h
  have this := List.take_succ_eq_append_getElem (l := bl r) (i := r.size - 1) (by omega)
  rw [List.take_of_length_le (by omega)] at this
  rw [List.getElem?_eq_getElem (by omega)] at hg
  rw [Option.some.inj hg] at this
  exact this

set_option maxHeartbeats 1000000 in
set_option maxRecDepth 100000 in
theorem trimOf_any (s : ByteArray) (w : World) (hs : s.size ≤ 3000) :
    Calls Tryz.prog 111 #[.string s] w fun e w' => e = .returned (.string (strOfNums (trI (bl s)))) ∧ w' = w := by
  have HC := hide (tr_comm (bl s))
  go_enter Tryz.func111, Tryz.ntmps111
  go_wp2_with fail
  go_loop [0] (fun v => ∃ r, v = .string r ∧ r.size ≤ 3000 ∧ Hid ((bl r).dropWhile wh = (bl s).dropWhile wh)) (fun v => szOf v)
  case atStart => exact ⟨s, rfl, hs, rfl⟩
  case round =>
    obtain ⟨r, rfl, hr, HD⟩ := hrel
    by_cases h0 : 0 < r.size
    · have hbd : 0 ≤ (r[0].toNat : Int) ∧ (r[0].toNat : Int) < 256 := by have := r[0].toNat_lt; omega
      have HB := hide (bl_0 r h0)
      obtain ⟨q, HQ⟩ : ∃ q, Hid (wh (r[0].toNat : Int) = q) := ⟨wh (r[0].toNat : Int), rfl⟩
      go_wp2_with fail
      refine (isWhite_any _ _ hbd).mono ?_
      rintro e w1 ⟨rfl, hw⟩
      replace hw := hw.symm
      subst hw
      rw [unhide HQ]
      cases q
      · have HD2 : Hid ((bl r) = (bl s).dropWhile wh) := by
          show _ = _
          rw [← unhide HD]
          conv => rhs; rw [unhide HB]
          rw [List.dropWhile_cons_of_neg (by rw [unhide HQ]; simp), ← unhide HB]
        clear HB HQ HD
        go_wp2_with fail
        go_loop [0] (fun v => ∃ r', v = .string r' ∧ r'.size ≤ 3000 ∧ Hid (rT (bl r') = rT (bl r))) (fun v => szOf v)
        case atStart => exact ⟨r, rfl, hr, rfl⟩
        case round =>
          obtain ⟨r', rfl, hr', HE⟩ := hrel
          by_cases h1 : 0 < r'.size
          · have hlt : r'.size - 1 < r'.size := by omega
            have hbd' : 0 ≤ (r'[r'.size - 1].toNat : Int) ∧ (r'[r'.size - 1].toNat : Int) < 256 := by have := r'[r'.size - 1].toNat_lt; omega
            have HB' := hide (bl_last r' hlt)
            obtain ⟨q', HQ'⟩ : ∃ q', Hid (wh (r'[r'.size - 1].toNat : Int) = q') := ⟨wh (r'[r'.size - 1].toNat : Int), rfl⟩
            go_wp2_with fail
            refine (isWhite_any _ _ hbd').mono ?_
            rintro e w2 ⟨rfl, hw⟩
            replace hw := hw.symm
            subst hw
            rw [unhide HQ']
            cases q'
            · have HF : Hid (strOfNums (trI (bl s)) = r') := by
                show _ = _
                have e1 : rT (bl r') = bl r' := by
                  conv => lhs; rw [unhide HB']
                  rw [rT_snoc, unhide HQ']
                  exact (unhide HB').symm
                rw [← unhide HC, ← unhide HD2, ← unhide HE, e1, str_bl]
              go_wp2_with fail
              go_ret
              exact ⟨by rw [unhide HF]; rfl, rfl⟩
            · have HE2 : Hid (rT (bl (r'.extract 0 (r'.size - 1))) = rT (bl r)) := by
                show _ = _
                rw [← unhide HE, bl_take]
                conv => rhs; rw [unhide HB']
                rw [rT_snoc, unhide HQ']; rfl
              go_wp2_with fail
              go_round
              case rel => exact ⟨_, rfl, by simp; omega, HE2⟩
              case measure => simp [szOf]; omega
          · have HF : Hid (strOfNums (trI (bl s)) = r') := by
              show _ = _
              have e0 : bl r' = [] := List.eq_nil_of_length_eq_zero (by rw [bl_len]; omega)
              have e1 : rT (bl r') = bl r' := by rw [e0]; rfl
              rw [← unhide HC, ← unhide HD2, ← unhide HE, e1, str_bl]
            go_wp2_with fail
            go_ret
            exact ⟨by rw [unhide HF]; rfl, rfl⟩
      · have HD2 : Hid ((bl (r.extract 1 r.size)).dropWhile wh = (bl s).dropWhile wh) := by
          show _ = _
          rw [← unhide HD, bl_extract]
          conv => rhs; rw [unhide HB]
          rw [List.dropWhile_cons_of_pos (unhide HQ)]
        go_wp2_with fail
        go_round
        case rel => exact ⟨_, rfl, by simp; omega, HD2⟩
        case measure => simp [szOf]; omega
    · have HD2 : Hid ((bl r) = (bl s).dropWhile wh) := by
        show _ = _
        have e0 : bl r = [] := List.eq_nil_of_length_eq_zero (by rw [bl_len]; omega)
        rw [← unhide HD, e0]; rfl
      clear HD
      go_wp2_with fail
      go_loop [0] (fun v => ∃ r', v = .string r' ∧ r'.size ≤ 3000 ∧ Hid (rT (bl r') = rT (bl r))) (fun v => szOf v)
      case atStart => exact ⟨r, rfl, hr, rfl⟩
      case round =>
        obtain ⟨r', rfl, hr', HE⟩ := hrel
        by_cases h1 : 0 < r'.size
        · have hlt : r'.size - 1 < r'.size := by omega
          have hbd' : 0 ≤ (r'[r'.size - 1].toNat : Int) ∧ (r'[r'.size - 1].toNat : Int) < 256 := by have := r'[r'.size - 1].toNat_lt; omega
          have HB' := hide (bl_last r' hlt)
          obtain ⟨q', HQ'⟩ : ∃ q', Hid (wh (r'[r'.size - 1].toNat : Int) = q') := ⟨wh (r'[r'.size - 1].toNat : Int), rfl⟩
          go_wp2_with fail
          refine (isWhite_any _ _ hbd').mono ?_
          rintro e w2 ⟨rfl, hw⟩
          replace hw := hw.symm
          subst hw
          rw [unhide HQ']
          cases q'
          · have HF : Hid (strOfNums (trI (bl s)) = r') := by
              show _ = _
              have e1 : rT (bl r') = bl r' := by
                conv => lhs; rw [unhide HB']
                rw [rT_snoc, unhide HQ']
                exact (unhide HB').symm
              rw [← unhide HC, ← unhide HD2, ← unhide HE, e1, str_bl]
            go_wp2_with fail
            go_ret
            exact ⟨by rw [unhide HF]; rfl, rfl⟩
          · have HE2 : Hid (rT (bl (r'.extract 0 (r'.size - 1))) = rT (bl r)) := by
              show _ = _
              rw [← unhide HE, bl_take]
              conv => rhs; rw [unhide HB']
              rw [rT_snoc, unhide HQ']; rfl
            go_wp2_with fail
            go_round
            case rel => exact ⟨_, rfl, by simp; omega, HE2⟩
            case measure => simp [szOf]; omega
        · have HF : Hid (strOfNums (trI (bl s)) = r') := by
            show _ = _
            have e0 : bl r' = [] := List.eq_nil_of_length_eq_zero (by rw [bl_len]; omega)
            have e1 : rT (bl r') = bl r' := by rw [e0]; rfl
            rw [← unhide HC, ← unhide HD2, ← unhide HE, e1, str_bl]
          go_wp2_with fail
          go_ret
          exact ⟨by rw [unhide HF]; rfl, rfl⟩

/-- What a round of FoldOf knows. -/
def InFo (s : ByteArray) (w wr : World) (k : Nat) (v : Value) : Prop :=
  wr.ownsRow w.heap.size 5 1 v (fdI ((bl s).take k)).length ((fdI ((bl s).take k)).map (Value.int .u8)) ∧ Below w.heap.size w wr

theorem InFo.step {s : ByteArray} {w wr w1 : World} {k : Nat} {v v1 : Value} (h : InFo s w wr k v) (hk : k < s.size) {c : Int} (hc : fI ((bl s).getD k 0) = c)
    (ho : w1.ownsRow w.heap.size 5 1 v1 (fdI ((bl s).take k) ++ [c]).length ((fdI ((bl s).take k) ++ [c]).map (Value.int .u8))) (hb : Below w.heap.size wr w1) : InFo s w w1 (k + 1) v1 := by
  have hk' : k < (bl s).length := by rw [bl_len]; exact hk
  have e : fdI ((bl s).take (k + 1)) = fdI ((bl s).take k) ++ [c] := by
    rw [List.take_succ_eq_append_getElem hk']; unfold fdI; rw [List.map_append, ← hc]; congr 1; simp [hk']
  exact ⟨by rw [e]; exact ho, h.2.trans hb⟩

set_option maxHeartbeats 1000000 in
set_option maxRecDepth 100000 in
theorem foldOf_any (s : ByteArray) (w : World) (hs : s.size ≤ 3000) :
    Calls Tryz.prog 110 #[.string s] w fun e w' => e = .returned (.string (strOfNums (fdI (bl s)))) ∧ Below w.heap.size w w' := by
  obtain ⟨i0, hi, hz0, hz1, hz2⟩ := info_parts info5
  have HI : InFo s w w 0 (.slice none 0 0) := ⟨World.ownsRow_nil _ _ _ _, Below.refl _ _⟩
  go_enter Tryz.func110, Tryz.ntmps110
  go_wp2_with fail
  go_loopw [3, 4] (fun v i wr => ∃ k : Nat, k ≤ s.size ∧ i = .int .i64 k ∧ InFo s w wr k v) (fun _ i _ => s.size - (intOf i).toNat)
  case atStart => exact ⟨0, by omega, rfl, HI⟩
  case round =>
    obtain ⟨k, hk, rfl, hI⟩ := hrel
    clear HI
    by_cases hlt : k < s.size
    · obtain ⟨c, hc⟩ : ∃ c : Int, (s[k].toNat : Int) = c := ⟨_, rfl⟩
      have hbd : 0 ≤ c ∧ c < 256 := by have := s[k].toNat_lt; omega
      have hgd : (bl s).getD k 0 = c := by rw [List.getD_eq_getElem?_getD, bl_get s k hlt, ← hc]; rfl
      have hsz := hI.2.size
      have hln : (fdI ((bl s).take k)).length ≤ 3000 := by rw [fd_len]; have := List.length_take_le k (bl s); omega
      have hown := hI.1
      obtain ⟨ao, cap, hsh⟩ := owns_shape hown
      subst hsh
      by_cases h1 : 65 ≤ c ∧ c ≤ 90
      · have HF : Hid (fI ((bl s).getD k 0) = c + 32) := by show _ = _; rw [hgd]; unfold fI; rw [if_pos h1]
        obtain ⟨h10, h11⟩ := h1
        clear hgd
        go_wp2_with fail
        refine (between_any _ _ _ _).mono ?_
        rintro e w1 ⟨rfl, hw⟩
        replace hw := hw.symm
        subst hw
        go_wp2_with (at_builtin; refine wpList_append_own _ rfl (.tmp 20) (.tmp 22) 151 rfl w.heap.size 5 i0 (.int .u8 0) 1 1 Tryz.underlying151 hi hz0 hz1 hz2 rfl (by decide) _ _ _ rfl (hown.alloc _) ⟨wr.heap.size, 0, none⟩ 1 1 [.int .u8 (c + 32)] rfl rfl (by intro j u hj; match j, hj with | 0, hj => (simp at hj; subst hj; simp [Addr.add])) (by intro u hu; simp at hu; subst hu; rfl) (by unfold maxLen; omega) (by omega) (by simp; omega) ?_)
        intro v2 w2 ho2 hg2 _
        obtain ⟨ao2, cap2, hsh2⟩ := owns_shape ho2
        subst hsh2
        have HI2 := InFo.step hI hlt (unhide HF) (by simpa using ho2) (((Below.refl _ _).alloc hsz _).grown hg2 (by simp; omega) (fun k hk => (hown.lt k hk).1))
        clear hI hown ho2 hg2
        go_wp2_with fail
        go_roundw
        case rel => exact ⟨k + 1, by omega, by go_num, by simpa using HI2⟩
        case measure => simp [intOf]; omega
      · have hd : (decide (65 ≤ c) && decide (c ≤ 90)) = false := by simp; omega
        have HF : Hid (fI ((bl s).getD k 0) = c) := by show _ = _; rw [hgd]; unfold fI; rw [if_neg h1]
        clear hgd h1
        go_wp2_with fail
        refine (between_any _ _ _ _).mono ?_
        rintro e w1 ⟨rfl, hw⟩
        replace hw := hw.symm
        subst hw
        go_wp2_with (at_builtin; refine wpList_append_own _ rfl (.tmp 20) (.tmp 22) 151 rfl w.heap.size 5 i0 (.int .u8 0) 1 1 Tryz.underlying151 hi hz0 hz1 hz2 rfl (by decide) _ _ _ rfl (hown.alloc _) ⟨wr.heap.size, 0, none⟩ 1 1 [.int .u8 (c)] rfl rfl (by intro j u hj; match j, hj with | 0, hj => (simp at hj; subst hj; simp [Addr.add])) (by intro u hu; simp at hu; subst hu; rfl) (by unfold maxLen; omega) (by omega) (by simp; omega) ?_)
        intro v2 w2 ho2 hg2 _
        obtain ⟨ao2, cap2, hsh2⟩ := owns_shape ho2
        subst hsh2
        have HI2 := InFo.step hI hlt (unhide HF) (by simpa using ho2) (((Below.refl _ _).alloc hsz _).grown hg2 (by simp; omega) (fun k hk => (hown.lt k hk).1))
        clear hI hown ho2 hg2
        go_wp2_with fail
        go_roundw
        case rel => exact ⟨k + 1, by omega, by go_num, by simpa using HI2⟩
        case measure => simp [intOf]; omega
    · have ek : k = s.size := by omega
      subst ek
      have e : (bl s).take s.size = bl s := List.take_of_length_le (by rw [bl_len]; exact Nat.le_refl _)
      obtain ⟨o1, o2⟩ := hI
      rw [e] at o1
      have hcv := conv_owned o1
      obtain ⟨ao, cap, hsh⟩ := owns_shape o1
      subst hsh
      have HB := hide o2
      clear o1 o2 e
      go_wp2_with fail
      go_ret
      exact ⟨rfl, unhide HB⟩
end Go.Proofs.YtaiinjfnkmidbaaGreatDoor

namespace Go.Proofs.YtaiinjfnkmidbaaGreatDoor

/-- The first place from i on where p does not hold. -/
def run (p : Int → Bool) (l : List Int) (i : Nat) : Nat := i + ((l.drop i).takeWhile p).length
/-- The bytes from i to j. -/
def cut (l : List Int) (i j : Nat) : List Int := (l.drop i).take (j - i)

theorem run_ge (p : Int → Bool) (l : List Int) (i : Nat) : i ≤ run p l i := by unfold run; omega
theorem run_le (p : Int → Bool) (l : List Int) {i : Nat} (h : i ≤ l.length) : run p l i ≤ l.length := by
  unfold run
  have := (List.takeWhile_sublist p (l := l.drop i)).length_le
  rw [List.length_drop] at this
  omega
theorem run_step {p : Int → Bool} {l : List Int} {i : Nat} (h : i < l.length) (hp : p (l.getD i 0) = true) : run p l i = run p l (i + 1) := by
  unfold run
  have e : l.drop i = l.getD i 0 :: l.drop (i + 1) := by
    rw [List.drop_eq_getElem_cons h]; simp [h]
  rw [e, List.takeWhile_cons_of_pos hp]
  simp; omega
theorem run_stop {p : Int → Bool} {l : List Int} {i : Nat} (h : i < l.length) (hp : p (l.getD i 0) = false) : run p l i = i := by
  unfold run
  have e : l.drop i = l.getD i 0 :: l.drop (i + 1) := by
    rw [List.drop_eq_getElem_cons h]; simp [h]
  rw [e, List.takeWhile_cons_of_neg (by rw [hp]; simp)]
  simp
theorem run_end {p : Int → Bool} {l : List Int} {i : Nat} (h : l.length ≤ i) : run p l i = i := by
  unfold run; rw [List.drop_of_length_le h]; simp
theorem cut_self (l : List Int) (i : Nat) : cut l i i = [] := by simp [cut]
theorem cut_snoc {l : List Int} {i k : Nat} (hik : i ≤ k) (hk : k < l.length) : cut l i (k + 1) = cut l i k ++ [l.getD k 0] := by
  unfold cut
  rw [show k + 1 - i = (k - i) + 1 from by omega]
  have h1 : k - i < (l.drop i).length := by rw [List.length_drop]; omega
  rw [List.take_succ_eq_append_getElem h1]
  congr 1
  rw [List.getElem_drop]
  have e : i + (k - i) = k := by omega
  simp [e, hk]
theorem cut_len {l : List Int} {i j : Nat} (hj : j ≤ l.length) : (cut l i j).length = j - i := by
  unfold cut
  rw [List.length_take, List.length_drop]; omega

/-- Bytes that are passed ahead of a name; bytes of a name; bytes of a value without quotes. -/
def pAhead (c : Int) : Bool := wh c || c == 47
def pName (c : Int) : Bool := !(c == 61 || c == 47 || c == 62 || wh c)
def pVal (c : Int) : Bool := !(c == 62 || wh c)
def pNot (q c : Int) : Bool := !(c == q)
/-- An attribute from a place on: its name and value, the place behind it, whether there is one. -/
def attrI (l : List Int) (at' : Nat) : (List Int × List Int) × Nat × Bool :=
  let a0 := run pAhead l at'
  if l.length ≤ a0 ∨ l.getD a0 0 = 62 then (([], []), a0, false) else
  let a1 := run pName l (a0 + 1)
  let a2 := run wh l a1
  if l.length ≤ a2 ∨ l.getD a2 0 ≠ 61 then ((fdI (cut l a0 a1), []), a2, true) else
  let a3 := run wh l (a2 + 1)
  if a3 < l.length ∧ (l.getD a3 0 = 34 ∨ l.getD a3 0 = 39) then
    let a4 := run (pNot (l.getD a3 0)) l (a3 + 1)
    if l.length ≤ a4 then (([], []), a4, false) else ((fdI (cut l a0 a1), fdI (cut l (a3 + 1) a4)), a4 + 1, true)
  else
    let a4 := run pVal l a3
    ((fdI (cut l a0 a1), fdI (cut l a3 a4)), a4, true)
theorem attrI_le {l : List Int} {at' : Nat} (h : at' ≤ l.length) : (attrI l at').2.1 ≤ l.length ∧ at' ≤ (attrI l at').2.1 ∧ ((attrI l at').2.2 = true → at' < (attrI l at').2.1) := by
  have g0 := run_ge pAhead l at'
  have h0 := run_le pAhead l h
  unfold attrI
  simp only
  split
  · exact ⟨h0, g0, fun h => by cases h⟩
  · rename_i c0
    have l0 : run pAhead l at' < l.length := by omega
    have g1 := run_ge pName l (run pAhead l at' + 1)
    have h1 := run_le pName l (i := run pAhead l at' + 1) (by omega)
    have g2 := run_ge wh l (run pName l (run pAhead l at' + 1))
    have h2 := run_le wh l h1
    split
    · exact ⟨h2, by simp only; omega, fun _ => by simp only; omega⟩
    · rename_i c2
      have l2 : run wh l (run pName l (run pAhead l at' + 1)) < l.length := by omega
      generalize run wh l (run pName l (run pAhead l at' + 1)) = a2 at *
      have g3 := run_ge wh l (a2 + 1)
      have h3 := run_le wh l (i := a2 + 1) (by omega)
      generalize run wh l (a2 + 1) = a3 at *
      split
      · rename_i c3
        have g4 := run_ge (pNot (l.getD a3 0)) l (a3 + 1)
        have h4 := run_le (pNot (l.getD a3 0)) l (i := a3 + 1) (by omega)
        split
        · exact ⟨h4, by simp only; omega, fun h => by cases h⟩
        · exact ⟨by simp only; omega, by simp only; omega, fun _ => by simp only; omega⟩
      · have g4 := run_ge pVal l a3
        have h4 := run_le pVal l h3
        exact ⟨h4, by simp only; omega, fun _ => by simp only; omega⟩
/-- Attributes one by one: all, and the place then. -/
def attrsN : Nat → List Int → Nat → List (List Int × List Int) × Nat
  | 0, _, i => ([], i)
  | n + 1, l, i => if (attrI l i).2.2 then ((attrI l i).1 :: (attrsN n l (attrI l i).2.1).1, (attrsN n l (attrI l i).2.1).2) else ([], (attrI l i).2.1)
def attrsI (l : List Int) (i : Nat) : List (List Int × List Int) × Nat := attrsN (l.length + 1 - i) l i
theorem attrsN_more : ∀ (n m : Nat) (l : List Int) (i : Nat), i ≤ l.length → l.length + 1 - i ≤ n → l.length + 1 - i ≤ m → attrsN n l i = attrsN m l i
  | 0, _, l, i, hi, hn, _ => by omega
  | n + 1, 0, l, i, hi, _, hm => by omega
  | n + 1, m + 1, l, i, hi, hn, hm => by
    have hb := attrI_le hi
    unfold attrsN
    cases hq : (attrI l i).2.2
    · rfl
    · have := hb.2.2 hq
      rw [attrsN_more n m l (attrI l i).2.1 hb.1 (by omega) (by omega)]
theorem attrsI_no {l : List Int} {i : Nat} (hi : i ≤ l.length) (h : (attrI l i).2.2 = false) : attrsI l i = ([], (attrI l i).2.1) := by
  unfold attrsI
  rw [show l.length + 1 - i = (l.length - i) + 1 from by omega]
  unfold attrsN
  rw [h]; rfl
theorem attrsI_yes {l : List Int} {i : Nat} (hi : i ≤ l.length) (h : (attrI l i).2.2 = true) : attrsI l i = ((attrI l i).1 :: (attrsI l (attrI l i).2.1).1, (attrsI l (attrI l i).2.1).2) := by
  have hb := attrI_le hi
  have hl := hb.2.2 h
  unfold attrsI
  rw [show l.length + 1 - i = (l.length - i) + 1 from by omega]
  conv => lhs; unfold attrsN
  rw [if_pos h, attrsN_more (l.length - i) (l.length + 1 - (attrI l i).2.1) l _ hb.1 (by omega) (Nat.le_refl _)]
theorem attrsI_le (l : List Int) : ∀ (n i : Nat), l.length - i ≤ n → i ≤ l.length → (attrsI l i).2 ≤ l.length ∧ i ≤ (attrsI l i).2 ∧ (attrsI l i).1.length ≤ l.length - i
  | n, i, hn, hi => by
    have hb := attrI_le hi
    cases hq : (attrI l i).2.2
    · rw [attrsI_no hi hq]; exact ⟨hb.1, hb.2.1, by simp⟩
    · have hl := hb.2.2 hq
      rw [attrsI_yes hi hq]
      match n with
      | 0 => omega
      | n + 1 =>
        have := attrsI_le l n (attrI l i).2.1 (by omega) hb.1
        exact ⟨this.1, by omega, by simp; omega⟩
end Go.Proofs.YtaiinjfnkmidbaaGreatDoor

namespace Go.Proofs.YtaiinjfnkmidbaaGreatDoor
open Go.RowKit
set_option linter.unusedVariables false

theorem bl_at {s : ByteArray} {k : Nat} (h : k < s.size) : (bl s).getD k 0 = (s[k].toNat : Int) := by
  rw [List.getD_eq_getElem?_getD, bl_get s k h]; rfl
theorem bl_cut (s : ByteArray) (i j : Nat) : bl (s.extract i j) = cut (bl s) i j := by
  unfold cut bl
  simp [ByteArray.data_extract, List.map_take, List.map_drop]
theorem pAhead_w {c : Int} (h : wh c = true) : pAhead c = true := by unfold pAhead; rw [h]; rfl
theorem pAhead_n {c : Int} (h : wh c = false) (h' : (c == 47) = false) : pAhead c = false := by unfold pAhead; rw [h, h']; rfl
theorem pName_n {c : Int} (h : (c == 61) = false) (h1 : (c == 47) = false) (h2 : (c == 62) = false) (h3 : wh c = false) : pName c = true := by unfold pName; rw [h, h1, h2, h3]; rfl
theorem pName_w {c : Int} (h3 : wh c = true) : pName c = false := by unfold pName; rw [h3]; simp
theorem pVal_n {c : Int} (h2 : (c == 62) = false) (h3 : wh c = false) : pVal c = true := by unfold pVal; rw [h2, h3]; rfl
theorem pVal_w {c : Int} (h3 : wh c = true) : pVal c = false := by unfold pVal; rw [h3]; simp
theorem pNot_n {q c : Int} (h : (c == q) = false) : pNot q c = true := by unfold pNot; rw [h]; rfl
theorem pNot_y (q : Int) : pNot q q = false := by simp [pNot]
theorem u8_lt (s : ByteArray) {k : Nat} (h : k < s.size) : (0 : Int) ≤ (s[k].toNat : Int) ∧ (s[k].toNat : Int) < 256 := by
  have := s[k].toNat_lt; omega
theorem ne_eq {c d : Int} (h : c ≠ d) : (c == d) = false := by simpa using h
theorem ne_ne {c d : Int} (h : c ≠ d) : (c != d) = true := by simpa using h
theorem cut_one {l : List Int} {k : Nat} (h : k < l.length) : cut l k (k + 1) = [l.getD k 0] := by rw [cut_snoc (Nat.le_refl _) h, cut_self]; rfl
theorem cut_step {s t : ByteArray} {i k : Nat} (h : bl t = cut (bl s) i k) (hik : i ≤ k) (hk : k < s.size) : bl (t ++ s.extract k (k + 1)) = cut (bl s) i (k + 1) := by
  rw [bl_app, h, bl_cut, cut_one (by rw [bl_len]; exact hk), cut_snoc hik (by rw [bl_len]; exact hk)]
theorem ext_one {s : ByteArray} {k : Nat} (h : k < s.size) : (s.extract k (k + 1)).size = 1 := by
  rw [← bl_len, bl_cut, cut_one (by rw [bl_len]; exact h)]; rfl

/-- The ways that AttrAt goes. -/
theorem attrI_1 {l : List Int} {k a0 : Nat} (h0 : run pAhead l k = a0) (h : l.length ≤ a0 ∨ l.getD a0 0 = 62) : attrI l k = (([], []), a0, false) := by
  subst h0; unfold attrI; simp only; rw [if_pos h]
theorem attrI_2 {l : List Int} {k a0 a1 a2 : Nat} (h0 : run pAhead l k = a0) (h : ¬ (l.length ≤ a0 ∨ l.getD a0 0 = 62)) (h1 : run pName l (a0 + 1) = a1) (h2 : run wh l a1 = a2) (h' : l.length ≤ a2 ∨ l.getD a2 0 ≠ 61) : attrI l k = ((fdI (cut l a0 a1), []), a2, true) := by
  subst h0; subst h1; subst h2; unfold attrI; simp only; rw [if_neg h, if_pos h']
theorem attrI_3 {l : List Int} {k a0 a1 a2 a3 a4 : Nat} (h0 : run pAhead l k = a0) (h : ¬ (l.length ≤ a0 ∨ l.getD a0 0 = 62)) (h1 : run pName l (a0 + 1) = a1) (h2 : run wh l a1 = a2) (h' : ¬ (l.length ≤ a2 ∨ l.getD a2 0 ≠ 61)) (h3 : run wh l (a2 + 1) = a3) (hq : a3 < l.length ∧ (l.getD a3 0 = 34 ∨ l.getD a3 0 = 39)) (h4 : run (pNot (l.getD a3 0)) l (a3 + 1) = a4) :
    attrI l k = if l.length ≤ a4 then (([], []), a4, false) else ((fdI (cut l a0 a1), fdI (cut l (a3 + 1) a4)), a4 + 1, true) := by
  subst h0; subst h1; subst h2; subst h3; subst h4; unfold attrI; simp only; rw [if_neg h, if_neg h', if_pos hq]
theorem attrI_4 {l : List Int} {k a0 a1 a2 a3 a4 : Nat} (h0 : run pAhead l k = a0) (h : ¬ (l.length ≤ a0 ∨ l.getD a0 0 = 62)) (h1 : run pName l (a0 + 1) = a1) (h2 : run wh l a1 = a2) (h' : ¬ (l.length ≤ a2 ∨ l.getD a2 0 ≠ 61)) (h3 : run wh l (a2 + 1) = a3) (hq : ¬ (a3 < l.length ∧ (l.getD a3 0 = 34 ∨ l.getD a3 0 = 39))) (h4 : run pVal l a3 = a4) :
    attrI l k = ((fdI (cut l a0 a1), fdI (cut l a3 a4)), a4, true) := by
  subst h0; subst h1; subst h2; subst h3; subst h4; unfold attrI; simp only; rw [if_neg h, if_neg h', if_neg hq]

set_option maxHeartbeats 12800000 in
set_option maxRecDepth 100000 in
theorem attrAt_any (s : ByteArray) (k0 : Nat) (w : World) (hk0 : k0 ≤ s.size) (hs : s.size ≤ 3000) :
    Calls Tryz.prog 170 #[.string s, .int .i64 (k0 : Int)] w fun e w' => e = .returned (.tuple #[.agg #[.string (strOfNums (attrI (bl s) k0).1.1), .string (strOfNums (attrI (bl s) k0).1.2)], .int .i64 ((attrI (bl s) k0).2.1 : Int), .bool (attrI (bl s) k0).2.2]) ∧ Below w.heap.size w w' := by
  have hl := bl_len s
  have HL := hide hl
  go_enter Tryz.func170, Tryz.ntmps170
  go_upto_block 0 with fail
  go_cut [1] (fun i wx => i = .int .i64 (run pAhead (bl s) (k0) : Int) ∧ wx = w.alloc (.cells #[.string ⟨#[]⟩, .string ⟨#[]⟩] 80))
  case first =>
    go_wp2_with fail
    go_loop [1] (fun i => ∃ k : Nat, i = .int .i64 k ∧ k ≤ s.size ∧ Hid (run pAhead (bl s) k = run pAhead (bl s) (k0))) (fun i => s.size - (intOf i).toNat)
    case atStart => exact ⟨k0, by go_num, by omega, hide rfl⟩
    case round =>
      obtain ⟨k, rfl, hk, HR⟩ := hrel
      by_cases hlt : k < s.size
      · have hcb := u8_lt s hlt
        have HG := hide (bl_at hlt)
        obtain ⟨c, hcc⟩ : ∃ c : Int, (s[k].toNat : Int) = c := ⟨_, rfl⟩
        rw [hcc] at hcb HG
        have W := isWhite_any c
        cases hw : wh c
        · rw [hw] at W
          by_cases h47 : c = 47
          · subst h47
            have HR' : Hid (run pAhead (bl s) (k + 1) = run pAhead (bl s) (k0)) := hide (by rw [← run_step (by omega) (by rw [unhide HG]; exact (by decide)), unhide HR])
            go_wp2_with fail
            refine (W _ hcb).mono ?_
            rintro e wz ⟨rfl, hwz⟩
            replace hwz := hwz.symm
            subst hwz
            go_wp2_with fail
            go_round
            case rel => exact ⟨k + 1, by go_num, by omega, HR'⟩
            case measure => simp [intOf]; omega
          · have h47e := ne_eq h47
            have h47n := ne_ne h47
            have HE : Hid (run pAhead (bl s) (k0) = k) := hide (by rw [← unhide HR, run_stop (by omega) (by rw [unhide HG]; exact pAhead_n hw h47e)])
            go_wp2_with fail
            refine (W _ hcb).mono ?_
            rintro e wz ⟨rfl, hwz⟩
            replace hwz := hwz.symm
            subst hwz
            go_wp2_with fail
            go_meet
            case rel => exact ⟨by rw [unhide HE], rfl⟩
        · rw [hw] at W
          have HR' : Hid (run pAhead (bl s) (k + 1) = run pAhead (bl s) (k0)) := hide (by rw [← run_step (by omega) (by rw [unhide HG]; exact pAhead_w hw), unhide HR])
          go_wp2_with fail
          refine (W _ hcb).mono ?_
          rintro e wz ⟨rfl, hwz⟩
          replace hwz := hwz.symm
          subst hwz
          go_wp2_with fail
          go_round
          case rel => exact ⟨k + 1, by go_num, by omega, HR'⟩
          case measure => simp [intOf]; omega
      · have HE : Hid (run pAhead (bl s) (k0) = k) := hide (by rw [← unhide HR, run_end (by omega)])
        go_wp2_with fail
        go_meet
        case rel => exact ⟨by rw [unhide HE], rfl⟩
  obtain ⟨rfl, rfl⟩ := hcut
  have ha0 := run_le pAhead (bl s) (i := k0) (by omega)
  have ga0 := run_ge pAhead (bl s) k0
  obtain ⟨a0, HA0⟩ : ∃ a0, Hid (run pAhead (bl s) k0 = a0) := ⟨_, hide rfl⟩
  rw [unhide HA0] at ha0 ga0 ⊢
  by_cases hlt0 : a0 < s.size
  · have hcb0 := u8_lt s hlt0
    have HG0 := hide (bl_at hlt0)
    obtain ⟨c0, hcc0⟩ : ∃ c : Int, (s[a0].toNat : Int) = c := ⟨_, rfl⟩
    rw [hcc0] at hcb0 HG0
    by_cases h62 : c0 = 62
    · subst h62
      have HRes := hide (attrI_1 (unhide HA0) (.inr (unhide HG0)))
      go_wp2_with fail
      refine bodyPost_ret (v := .tuple #[.agg #[.string ⟨#[]⟩, .string ⟨#[]⟩], .int .i64 (a0 : Int), .bool false]) (by simp [results, Tryz.results170, go_sem]) rfl ⟨?_, ?_⟩
      · rw [unhide HRes]; rfl
      · exact balloc _ _
    · have h62e := ne_eq h62
      have hne0 : ((a0 : Int) == (s.size : Int)) = false := by simp; omega
      have HN0 : Hid (¬ ((bl s).length ≤ a0 ∨ (bl s).getD a0 0 = 62)) := hide (by rw [unhide HG0]; omega)
      have hsl : ∀ wx, (Instr.slice 9 (.string s) (some (.int .i64 (a0 : Int))) (some (.int .i64 ((a0 : Int) + 1))) none).run Tryz.prog wx = .ok (.string (s.extract a0 (a0 + 1))) wx := fun wx => run_slice_string (P := Tryz.prog) wx 9 s .i64 .i64 (a0 : Int) ((a0 : Int) + 1) Tryz.underlying9 (by omega) (by omega) (by omega)
      have HX0 : Hid (bl (s.extract a0 (a0 + 1)) = cut (bl s) a0 (a0 + 1)) := hide (bl_cut s a0 (a0 + 1))
      go_upto_block 2 with fail
      go_cut [1, 7] (fun i nmv wx => ∃ t : ByteArray, i = .int .i64 (run pName (bl s) (a0 + 1) : Int) ∧ nmv = .string t ∧ bl t = cut (bl s) (a0) (run pName (bl s) (a0 + 1)) ∧ wx = w.alloc (.cells #[.string ⟨#[]⟩, .string ⟨#[]⟩] 80))
      case first =>
        go_wp2_with fail
        go_loopw [1, 7] (fun i nmv wr => ∃ (k : Nat) (t : ByteArray), i = .int .i64 k ∧ nmv = .string t ∧ a0 + 1 ≤ k ∧ k ≤ s.size ∧ Hid (run pName (bl s) k = run pName (bl s) (a0 + 1)) ∧ Hid (bl t = cut (bl s) (a0) k) ∧ wr = w.alloc (.cells #[.string ⟨#[]⟩, .string ⟨#[]⟩] 80)) (fun i _ _ => s.size - (intOf i).toNat)
        case atStart => exact ⟨a0 + 1, _, by go_num, rfl, by omega, by omega, hide rfl, HX0, rfl⟩
        case round =>
          obtain ⟨k, t, rfl, rfl, hlo, hk, HR, HX, rfl⟩ := hrel
          have htz : t.size ≤ 3000 := by rw [← bl_len, unhide HX, cut_len (by omega)]; omega
          by_cases hlt : k < s.size
          · have hcb := u8_lt s hlt
            have HG := hide (bl_at hlt)
            obtain ⟨c, hcc⟩ : ∃ c : Int, (s[k].toNat : Int) = c := ⟨_, rfl⟩
            rw [hcc] at hcb HG
            by_cases h61 : c = 61
            · subst h61
              have HE : Hid (run pName (bl s) (a0 + 1) = k) := hide (by rw [← unhide HR, run_stop (by omega) (by rw [unhide HG]; exact (by decide))])
              go_wp2_with fail
              go_meet
              case rel => exact ⟨t, by rw [unhide HE], rfl, by rw [unhide HE]; exact unhide HX, rfl⟩
            · have h61e := ne_eq h61
              have h61n := ne_ne h61
              by_cases h47 : c = 47
              · subst h47
                have HE : Hid (run pName (bl s) (a0 + 1) = k) := hide (by rw [← unhide HR, run_stop (by omega) (by rw [unhide HG]; exact (by decide))])
                go_wp2_with fail
                go_meet
                case rel => exact ⟨t, by rw [unhide HE], rfl, by rw [unhide HE]; exact unhide HX, rfl⟩
              · have h47e := ne_eq h47
                have h47n := ne_ne h47
                by_cases h62 : c = 62
                · subst h62
                  have HE : Hid (run pName (bl s) (a0 + 1) = k) := hide (by rw [← unhide HR, run_stop (by omega) (by rw [unhide HG]; exact (by decide))])
                  go_wp2_with fail
                  go_meet
                  case rel => exact ⟨t, by rw [unhide HE], rfl, by rw [unhide HE]; exact unhide HX, rfl⟩
                · have h62e := ne_eq h62
                  have h62n := ne_ne h62
                  have W := isWhite_any c
                  cases hw : wh c
                  · rw [hw] at W
                    have HR' : Hid (run pName (bl s) (k + 1) = run pName (bl s) (a0 + 1)) := hide (by rw [← run_step (by omega) (by rw [unhide HG]; exact pName_n h61e h47e h62e hw), unhide HR])
                    have HX' := hide (cut_step (unhide HX) (by omega) hlt)
                    have hz1 := ext_one hlt
                    have hsl : ∀ wx, (Instr.slice 9 (.string s) (some (.int .i64 (k : Int))) (some (.int .i64 ((k : Int) + 1))) none).run Tryz.prog wx = .ok (.string (s.extract k (k + 1))) wx := fun wx => run_slice_string (P := Tryz.prog) wx 9 s .i64 .i64 (k : Int) ((k : Int) + 1) Tryz.underlying9 (by omega) (by omega) (by omega)
                    go_wp2_with fail
                    refine (W _ hcb).mono ?_
                    rintro e wz ⟨rfl, hwz⟩
                    replace hwz := hwz.symm
                    subst hwz
                    go_wp2_with fail
                    go_roundw
                    case rel => exact ⟨k + 1, t ++ s.extract k (k + 1), by go_num, rfl, by omega, by omega, HR', HX', by first | rfl | trivial⟩
                    case measure => simp [intOf]; omega
                  · rw [hw] at W
                    have HE : Hid (run pName (bl s) (a0 + 1) = k) := hide (by rw [← unhide HR, run_stop (by omega) (by rw [unhide HG]; exact pName_w hw)])
                    go_wp2_with fail
                    refine (W _ hcb).mono ?_
                    rintro e wz ⟨rfl, hwz⟩
                    replace hwz := hwz.symm
                    subst hwz
                    go_wp2_with fail
                    go_meet
                    case rel => exact ⟨t, by rw [unhide HE], rfl, by rw [unhide HE]; exact unhide HX, rfl⟩
          · have HE : Hid (run pName (bl s) (a0 + 1) = k) := hide (by rw [← unhide HR, run_end (by omega)])
            go_wp2_with fail
            go_meet
            case rel => exact ⟨t, by rw [unhide HE], rfl, by rw [unhide HE]; exact unhide HX, rfl⟩
      obtain ⟨nmt, rfl, rfl, hx1, rfl⟩ := hcut
      have HX1 := hide hx1
      have ha1 := run_le pName (bl s) (i := a0 + 1) (by omega)
      have ga1 := run_ge pName (bl s) (a0 + 1)
      obtain ⟨a1, HA1⟩ : ∃ a1, Hid (run pName (bl s) (a0 + 1) = a1) := ⟨_, hide rfl⟩
      rw [unhide HA1] at ha1 ga1 HX1 ⊢
      clear hx1 hsl HX0
      go_upto_block 4 with fail
      go_cut [1] (fun i wx => i = .int .i64 (run wh (bl s) (a1) : Int) ∧ wx = w.alloc (.cells #[.string ⟨#[]⟩, .string ⟨#[]⟩] 80))
      case first =>
        go_wp2_with fail
        go_loop [1] (fun i => ∃ k : Nat, i = .int .i64 k ∧ k ≤ s.size ∧ Hid (run wh (bl s) k = run wh (bl s) (a1))) (fun i => s.size - (intOf i).toNat)
        case atStart => exact ⟨a1, by go_num, by omega, hide rfl⟩
        case round =>
          obtain ⟨k, rfl, hk, HR⟩ := hrel
          by_cases hlt : k < s.size
          · have hcb := u8_lt s hlt
            have HG := hide (bl_at hlt)
            obtain ⟨c, hcc⟩ : ∃ c : Int, (s[k].toNat : Int) = c := ⟨_, rfl⟩
            rw [hcc] at hcb HG
            have W := isWhite_any c
            cases hw : wh c
            · rw [hw] at W
              have HE : Hid (run wh (bl s) (a1) = k) := hide (by rw [← unhide HR, run_stop (by omega) (by rw [unhide HG]; exact hw)])
              go_wp2_with fail
              refine (W _ hcb).mono ?_
              rintro e wz ⟨rfl, hwz⟩
              replace hwz := hwz.symm
              subst hwz
              go_wp2_with fail
              go_meet
              case rel => exact ⟨by rw [unhide HE], rfl⟩
            · rw [hw] at W
              have HR' : Hid (run wh (bl s) (k + 1) = run wh (bl s) (a1)) := hide (by rw [← run_step (by omega) (by rw [unhide HG]; exact hw), unhide HR])
              go_wp2_with fail
              refine (W _ hcb).mono ?_
              rintro e wz ⟨rfl, hwz⟩
              replace hwz := hwz.symm
              subst hwz
              go_wp2_with fail
              go_round
              case rel => exact ⟨k + 1, by go_num, by omega, HR'⟩
              case measure => simp [intOf]; omega
          · have HE : Hid (run wh (bl s) (a1) = k) := hide (by rw [← unhide HR, run_end (by omega)])
            go_wp2_with fail
            go_meet
            case rel => exact ⟨by rw [unhide HE], rfl⟩
      obtain ⟨rfl, rfl⟩ := hcut
      have ha2 := run_le wh (bl s) (i := a1) (by omega)
      have ga2 := run_ge wh (bl s) a1
      obtain ⟨a2, HA2⟩ : ∃ a2, Hid (run wh (bl s) a1 = a2) := ⟨_, hide rfl⟩
      rw [unhide HA2] at ha2 ga2 ⊢
      have htz1 : nmt.size ≤ 3000 := by rw [← bl_len, unhide HX1, cut_len (by omega)]; omega
      by_cases hlt2 : a2 < s.size
      · have hcb2 := u8_lt s hlt2
        have HG2 := hide (bl_at hlt2)
        obtain ⟨c2, hcc2⟩ : ∃ c : Int, (s[a2].toNat : Int) = c := ⟨_, rfl⟩
        rw [hcc2] at hcb2 HG2
        have hne2 : ((a2 : Int) == (s.size : Int)) = false := by simp; omega
        by_cases h61 : c2 = 61
        · subst h61
          have HN2 : Hid (¬ ((bl s).length ≤ a2 ∨ (bl s).getD a2 0 ≠ 61)) := hide (by rw [unhide HG2]; omega)
          go_upto_block 6 with fail
          go_cut [1] (fun i wx => i = .int .i64 (run wh (bl s) (a2 + 1) : Int) ∧ wx = w.alloc (.cells #[.string ⟨#[]⟩, .string ⟨#[]⟩] 80))
          case first =>
            go_wp2_with fail
            go_loop [1] (fun i => ∃ k : Nat, i = .int .i64 k ∧ k ≤ s.size ∧ Hid (run wh (bl s) k = run wh (bl s) (a2 + 1))) (fun i => s.size - (intOf i).toNat)
            case atStart => exact ⟨a2 + 1, by go_num, by omega, hide rfl⟩
            case round =>
              obtain ⟨k, rfl, hk, HR⟩ := hrel
              by_cases hlt : k < s.size
              · have hcb := u8_lt s hlt
                have HG := hide (bl_at hlt)
                obtain ⟨c, hcc⟩ : ∃ c : Int, (s[k].toNat : Int) = c := ⟨_, rfl⟩
                rw [hcc] at hcb HG
                have W := isWhite_any c
                cases hw : wh c
                · rw [hw] at W
                  have HE : Hid (run wh (bl s) (a2 + 1) = k) := hide (by rw [← unhide HR, run_stop (by omega) (by rw [unhide HG]; exact hw)])
                  go_wp2_with fail
                  refine (W _ hcb).mono ?_
                  rintro e wz ⟨rfl, hwz⟩
                  replace hwz := hwz.symm
                  subst hwz
                  go_wp2_with fail
                  go_meet
                  case rel => exact ⟨by rw [unhide HE], rfl⟩
                · rw [hw] at W
                  have HR' : Hid (run wh (bl s) (k + 1) = run wh (bl s) (a2 + 1)) := hide (by rw [← run_step (by omega) (by rw [unhide HG]; exact hw), unhide HR])
                  go_wp2_with fail
                  refine (W _ hcb).mono ?_
                  rintro e wz ⟨rfl, hwz⟩
                  replace hwz := hwz.symm
                  subst hwz
                  go_wp2_with fail
                  go_round
                  case rel => exact ⟨k + 1, by go_num, by omega, HR'⟩
                  case measure => simp [intOf]; omega
              · have HE : Hid (run wh (bl s) (a2 + 1) = k) := hide (by rw [← unhide HR, run_end (by omega)])
                go_wp2_with fail
                go_meet
                case rel => exact ⟨by rw [unhide HE], rfl⟩
          obtain ⟨rfl, rfl⟩ := hcut
          have ha3 := run_le wh (bl s) (i := a2 + 1) (by omega)
          have ga3 := run_ge wh (bl s) (a2 + 1)
          obtain ⟨a3, HA3⟩ : ∃ a3, Hid (run wh (bl s) (a2 + 1) = a3) := ⟨_, hide rfl⟩
          rw [unhide HA3] at ha3 ga3 ⊢
          by_cases hlt3 : a3 < s.size
          · have hcb3 := u8_lt s hlt3
            have HG3 := hide (bl_at hlt3)
            obtain ⟨c3, hcc3⟩ : ∃ c : Int, (s[a3].toNat : Int) = c := ⟨_, rfl⟩
            rw [hcc3] at hcb3 HG3
            by_cases h34 : c3 = 34
            · subst h34
              have HQ3 : Hid (a3 < (bl s).length ∧ ((bl s).getD a3 0 = 34 ∨ (bl s).getD a3 0 = 39)) := hide (by rw [unhide HG3]; omega)
              have HX3 : Hid (bl ⟨#[]⟩ = cut (bl s) (a3 + 1) (a3 + 1)) := hide (by rw [cut_self]; rfl)
              go_upto_block 8 with fail
              go_cut [1, 8] (fun i nmv wx => ∃ t : ByteArray, i = .int .i64 (run (pNot 34) (bl s) (a3 + 1) : Int) ∧ nmv = .string t ∧ bl t = cut (bl s) (a3 + 1) (run (pNot 34) (bl s) (a3 + 1)) ∧ wx = w.alloc (.cells #[.string ⟨#[]⟩, .string ⟨#[]⟩] 80))
              case first =>
                go_wp2_with fail
                go_loopw [1, 8] (fun i nmv wr => ∃ (k : Nat) (t : ByteArray), i = .int .i64 k ∧ nmv = .string t ∧ a3 + 1 ≤ k ∧ k ≤ s.size ∧ Hid (run (pNot 34) (bl s) k = run (pNot 34) (bl s) (a3 + 1)) ∧ Hid (bl t = cut (bl s) (a3 + 1) k) ∧ wr = w.alloc (.cells #[.string ⟨#[]⟩, .string ⟨#[]⟩] 80)) (fun i _ _ => s.size - (intOf i).toNat)
                case atStart => exact ⟨a3 + 1, _, by go_num, rfl, by omega, by omega, hide rfl, HX3, rfl⟩
                case round =>
                  obtain ⟨k, t, rfl, rfl, hlo, hk, HR, HX, rfl⟩ := hrel
                  have htz : t.size ≤ 3000 := by rw [← bl_len, unhide HX, cut_len (by omega)]; omega
                  by_cases hlt : k < s.size
                  · have hcb := u8_lt s hlt
                    have HG := hide (bl_at hlt)
                    obtain ⟨c, hcc⟩ : ∃ c : Int, (s[k].toNat : Int) = c := ⟨_, rfl⟩
                    rw [hcc] at hcb HG
                    by_cases hq2 : c = 34
                    · subst hq2
                      have HE : Hid (run (pNot 34) (bl s) (a3 + 1) = k) := hide (by rw [← unhide HR, run_stop (by omega) (by rw [unhide HG]; exact pNot_y _)])
                      go_wp2_with fail
                      go_meet
                      case rel => exact ⟨t, by rw [unhide HE], rfl, by rw [unhide HE]; exact unhide HX, rfl⟩
                    · have hqe := ne_eq hq2
                      have hqn := ne_ne hq2
                      have HR' : Hid (run (pNot 34) (bl s) (k + 1) = run (pNot 34) (bl s) (a3 + 1)) := hide (by rw [← run_step (by omega) (by rw [unhide HG]; exact pNot_n hqe), unhide HR])
                      have HX' := hide (cut_step (unhide HX) (by omega) hlt)
                      have hz1 := ext_one hlt
                      have hsl : ∀ wx, (Instr.slice 9 (.string s) (some (.int .i64 (k : Int))) (some (.int .i64 ((k : Int) + 1))) none).run Tryz.prog wx = .ok (.string (s.extract k (k + 1))) wx := fun wx => run_slice_string (P := Tryz.prog) wx 9 s .i64 .i64 (k : Int) ((k : Int) + 1) Tryz.underlying9 (by omega) (by omega) (by omega)
                      go_wp2_with fail
                      go_roundw
                      case rel => exact ⟨k + 1, t ++ s.extract k (k + 1), by go_num, rfl, by omega, by omega, HR', HX', by first | rfl | trivial⟩
                      case measure => simp [intOf]; omega
                  · have HE : Hid (run (pNot 34) (bl s) (a3 + 1) = k) := hide (by rw [← unhide HR, run_end (by omega)])
                    go_wp2_with fail
                    go_meet
                    case rel => exact ⟨t, by rw [unhide HE], rfl, by rw [unhide HE]; exact unhide HX, rfl⟩
              obtain ⟨vlt, rfl, rfl, hx4, rfl⟩ := hcut
              have HX4 := hide hx4
              have ha4 := run_le (pNot 34) (bl s) (i := a3 + 1) (by omega)
              have ga4 := run_ge (pNot 34) (bl s) (a3 + 1)
              obtain ⟨a4, HA4⟩ : ∃ a4, Hid (run (pNot 34) (bl s) (a3 + 1) = a4) := ⟨_, hide rfl⟩
              rw [unhide HA4] at ha4 ga4 HX4 ⊢
              clear hx4
              have htz4 : vlt.size ≤ 3000 := by rw [← bl_len, unhide HX4, cut_len (by omega)]; omega
              by_cases hlt4 : a4 < s.size
              · have hne4 : ((a4 : Int) == (s.size : Int)) = false := by simp; omega
                have HRes : Hid (attrI (bl s) k0 = ((fdI (cut (bl s) a0 a1), fdI (cut (bl s) (a3 + 1) a4)), a4 + 1, true)) := hide (by rw [attrI_3 (a4 := a4) (unhide HA0) (unhide HN0) (unhide HA1) (unhide HA2) (unhide HN2) (unhide HA3) (unhide HQ3) (by rw [unhide HG3]; exact unhide HA4), if_neg (by omega)])
                have HF1 := hide (fun w => foldOf_any nmt w htz1)
                rw [unhide HX1] at HF1
                have HF2 := hide (fun w => foldOf_any vlt w htz4)
                rw [unhide HX4] at HF2
                generalize hfn : strOfNums (fdI (cut (bl s) a0 a1)) = fn at *
                generalize hfv : strOfNums (fdI (cut (bl s) (a3 + 1) a4)) = fv at *
                go_wp2_with fail
                refine (unhide HF1 _).mono ?_
                rintro e w5 ⟨rfl, hb5⟩
                have HB5 := hide hb5
                clear hb5
                go_wp2_with fail
                refine (unhide HF2 _).mono ?_
                rintro e w6 ⟨rfl, hb6⟩
                have HBX := hide (bstep (unhide HB5) hb6)
                clear hb6
                have r0 : w6.cell? ⟨w.heap.size, 0, none⟩ = some (.string ⟨#[]⟩) := by rw [(unhide HBX).cell (p := ⟨w.heap.size, 0, none⟩) (by simp)]; simp
                have r1 : w6.cell? ⟨w.heap.size, 1, none⟩ = some (.string ⟨#[]⟩) := by rw [(unhide HBX).cell (p := ⟨w.heap.size, 1, none⟩) (by simp)]; simp
                have q0 : w6.frozen? ⟨w.heap.size, 0, none⟩ = false := by rw [(unhide HBX).frozen (p := ⟨w.heap.size, 0, none⟩) (by simp)]; simp
                have q1 : w6.frozen? ⟨w.heap.size, 1, none⟩ = false := by rw [(unhide HBX).frozen (p := ⟨w.heap.size, 1, none⟩) (by simp)]; simp
                have hzz : w.heap.size < w6.heap.size := by have := (unhide HBX).size; simp at this; omega
                go_wp2_with fail
                refine bodyPost_ret (v := .tuple #[.agg #[.string fn, .string fv], .int .i64 ((a4 : Int) + 1), .bool true]) (by simp [results, Tryz.results170, go_sem, r0, r1]) rfl ⟨?_, ?_⟩
                · rw [unhide HRes]; rw [← hfn, ← hfv] <;> rfl
                · first
                  | exact ((bstep (balloc _ _) (unhide HBX)).setCell (Nat.le_refl _) _).setCell (Nat.le_refl _) _
                  | exact (bstep (balloc _ _) (unhide HBX)).setCell (Nat.le_refl _) _
              · obtain rfl : a4 = s.size := by omega
                have HRes : Hid (attrI (bl s) k0 = (([], []), s.size, false)) := hide (by rw [attrI_3 (a4 := s.size) (unhide HA0) (unhide HN0) (unhide HA1) (unhide HA2) (unhide HN2) (unhide HA3) (unhide HQ3) (by rw [unhide HG3]; exact unhide HA4), if_pos (by omega)])
                go_wp2_with fail
                refine bodyPost_ret (v := .tuple #[.agg #[.string ⟨#[]⟩, .string ⟨#[]⟩], .int .i64 (s.size : Int), .bool false]) (by simp [results, Tryz.results170, go_sem]) rfl ⟨?_, ?_⟩
                · rw [unhide HRes]; rfl
                · exact balloc _ _
            · have h34e := ne_eq h34
              by_cases h39 : c3 = 39
              · subst h39
                have HQ3 : Hid (a3 < (bl s).length ∧ ((bl s).getD a3 0 = 34 ∨ (bl s).getD a3 0 = 39)) := hide (by rw [unhide HG3]; omega)
                have HX3 : Hid (bl ⟨#[]⟩ = cut (bl s) (a3 + 1) (a3 + 1)) := hide (by rw [cut_self]; rfl)
                go_upto_block 8 with fail
                go_cut [1, 8] (fun i nmv wx => ∃ t : ByteArray, i = .int .i64 (run (pNot 39) (bl s) (a3 + 1) : Int) ∧ nmv = .string t ∧ bl t = cut (bl s) (a3 + 1) (run (pNot 39) (bl s) (a3 + 1)) ∧ wx = w.alloc (.cells #[.string ⟨#[]⟩, .string ⟨#[]⟩] 80))
                case first =>
                  go_wp2_with fail
                  go_loopw [1, 8] (fun i nmv wr => ∃ (k : Nat) (t : ByteArray), i = .int .i64 k ∧ nmv = .string t ∧ a3 + 1 ≤ k ∧ k ≤ s.size ∧ Hid (run (pNot 39) (bl s) k = run (pNot 39) (bl s) (a3 + 1)) ∧ Hid (bl t = cut (bl s) (a3 + 1) k) ∧ wr = w.alloc (.cells #[.string ⟨#[]⟩, .string ⟨#[]⟩] 80)) (fun i _ _ => s.size - (intOf i).toNat)
                  case atStart => exact ⟨a3 + 1, _, by go_num, rfl, by omega, by omega, hide rfl, HX3, rfl⟩
                  case round =>
                    obtain ⟨k, t, rfl, rfl, hlo, hk, HR, HX, rfl⟩ := hrel
                    have htz : t.size ≤ 3000 := by rw [← bl_len, unhide HX, cut_len (by omega)]; omega
                    by_cases hlt : k < s.size
                    · have hcb := u8_lt s hlt
                      have HG := hide (bl_at hlt)
                      obtain ⟨c, hcc⟩ : ∃ c : Int, (s[k].toNat : Int) = c := ⟨_, rfl⟩
                      rw [hcc] at hcb HG
                      by_cases hq2 : c = 39
                      · subst hq2
                        have HE : Hid (run (pNot 39) (bl s) (a3 + 1) = k) := hide (by rw [← unhide HR, run_stop (by omega) (by rw [unhide HG]; exact pNot_y _)])
                        go_wp2_with fail
                        go_meet
                        case rel => exact ⟨t, by rw [unhide HE], rfl, by rw [unhide HE]; exact unhide HX, rfl⟩
                      · have hqe := ne_eq hq2
                        have hqn := ne_ne hq2
                        have HR' : Hid (run (pNot 39) (bl s) (k + 1) = run (pNot 39) (bl s) (a3 + 1)) := hide (by rw [← run_step (by omega) (by rw [unhide HG]; exact pNot_n hqe), unhide HR])
                        have HX' := hide (cut_step (unhide HX) (by omega) hlt)
                        have hz1 := ext_one hlt
                        have hsl : ∀ wx, (Instr.slice 9 (.string s) (some (.int .i64 (k : Int))) (some (.int .i64 ((k : Int) + 1))) none).run Tryz.prog wx = .ok (.string (s.extract k (k + 1))) wx := fun wx => run_slice_string (P := Tryz.prog) wx 9 s .i64 .i64 (k : Int) ((k : Int) + 1) Tryz.underlying9 (by omega) (by omega) (by omega)
                        go_wp2_with fail
                        go_roundw
                        case rel => exact ⟨k + 1, t ++ s.extract k (k + 1), by go_num, rfl, by omega, by omega, HR', HX', by first | rfl | trivial⟩
                        case measure => simp [intOf]; omega
                    · have HE : Hid (run (pNot 39) (bl s) (a3 + 1) = k) := hide (by rw [← unhide HR, run_end (by omega)])
                      go_wp2_with fail
                      go_meet
                      case rel => exact ⟨t, by rw [unhide HE], rfl, by rw [unhide HE]; exact unhide HX, rfl⟩
                obtain ⟨vlt, rfl, rfl, hx4, rfl⟩ := hcut
                have HX4 := hide hx4
                have ha4 := run_le (pNot 39) (bl s) (i := a3 + 1) (by omega)
                have ga4 := run_ge (pNot 39) (bl s) (a3 + 1)
                obtain ⟨a4, HA4⟩ : ∃ a4, Hid (run (pNot 39) (bl s) (a3 + 1) = a4) := ⟨_, hide rfl⟩
                rw [unhide HA4] at ha4 ga4 HX4 ⊢
                clear hx4
                have htz4 : vlt.size ≤ 3000 := by rw [← bl_len, unhide HX4, cut_len (by omega)]; omega
                by_cases hlt4 : a4 < s.size
                · have hne4 : ((a4 : Int) == (s.size : Int)) = false := by simp; omega
                  have HRes : Hid (attrI (bl s) k0 = ((fdI (cut (bl s) a0 a1), fdI (cut (bl s) (a3 + 1) a4)), a4 + 1, true)) := hide (by rw [attrI_3 (a4 := a4) (unhide HA0) (unhide HN0) (unhide HA1) (unhide HA2) (unhide HN2) (unhide HA3) (unhide HQ3) (by rw [unhide HG3]; exact unhide HA4), if_neg (by omega)])
                  have HF1 := hide (fun w => foldOf_any nmt w htz1)
                  rw [unhide HX1] at HF1
                  have HF2 := hide (fun w => foldOf_any vlt w htz4)
                  rw [unhide HX4] at HF2
                  generalize hfn : strOfNums (fdI (cut (bl s) a0 a1)) = fn at *
                  generalize hfv : strOfNums (fdI (cut (bl s) (a3 + 1) a4)) = fv at *
                  go_wp2_with fail
                  refine (unhide HF1 _).mono ?_
                  rintro e w5 ⟨rfl, hb5⟩
                  have HB5 := hide hb5
                  clear hb5
                  go_wp2_with fail
                  refine (unhide HF2 _).mono ?_
                  rintro e w6 ⟨rfl, hb6⟩
                  have HBX := hide (bstep (unhide HB5) hb6)
                  clear hb6
                  have r0 : w6.cell? ⟨w.heap.size, 0, none⟩ = some (.string ⟨#[]⟩) := by rw [(unhide HBX).cell (p := ⟨w.heap.size, 0, none⟩) (by simp)]; simp
                  have r1 : w6.cell? ⟨w.heap.size, 1, none⟩ = some (.string ⟨#[]⟩) := by rw [(unhide HBX).cell (p := ⟨w.heap.size, 1, none⟩) (by simp)]; simp
                  have q0 : w6.frozen? ⟨w.heap.size, 0, none⟩ = false := by rw [(unhide HBX).frozen (p := ⟨w.heap.size, 0, none⟩) (by simp)]; simp
                  have q1 : w6.frozen? ⟨w.heap.size, 1, none⟩ = false := by rw [(unhide HBX).frozen (p := ⟨w.heap.size, 1, none⟩) (by simp)]; simp
                  have hzz : w.heap.size < w6.heap.size := by have := (unhide HBX).size; simp at this; omega
                  go_wp2_with fail
                  refine bodyPost_ret (v := .tuple #[.agg #[.string fn, .string fv], .int .i64 ((a4 : Int) + 1), .bool true]) (by simp [results, Tryz.results170, go_sem, r0, r1]) rfl ⟨?_, ?_⟩
                  · rw [unhide HRes]; rw [← hfn, ← hfv] <;> rfl
                  · first
                    | exact ((bstep (balloc _ _) (unhide HBX)).setCell (Nat.le_refl _) _).setCell (Nat.le_refl _) _
                    | exact (bstep (balloc _ _) (unhide HBX)).setCell (Nat.le_refl _) _
                · obtain rfl : a4 = s.size := by omega
                  have HRes : Hid (attrI (bl s) k0 = (([], []), s.size, false)) := hide (by rw [attrI_3 (a4 := s.size) (unhide HA0) (unhide HN0) (unhide HA1) (unhide HA2) (unhide HN2) (unhide HA3) (unhide HQ3) (by rw [unhide HG3]; exact unhide HA4), if_pos (by omega)])
                  go_wp2_with fail
                  refine bodyPost_ret (v := .tuple #[.agg #[.string ⟨#[]⟩, .string ⟨#[]⟩], .int .i64 (s.size : Int), .bool false]) (by simp [results, Tryz.results170, go_sem]) rfl ⟨?_, ?_⟩
                  · rw [unhide HRes]; rfl
                  · exact balloc _ _
              · have h39e := ne_eq h39
                have HQ3 : Hid (¬ (a3 < (bl s).length ∧ ((bl s).getD a3 0 = 34 ∨ (bl s).getD a3 0 = 39))) := hide (by rw [unhide HG3]; omega)
                have HX3 : Hid (bl ⟨#[]⟩ = cut (bl s) (a3) (a3)) := hide (by rw [cut_self]; rfl)
                go_upto_block 10 with fail
                go_cut [1, 8] (fun i nmv wx => ∃ t : ByteArray, i = .int .i64 (run pVal (bl s) (a3) : Int) ∧ nmv = .string t ∧ bl t = cut (bl s) (a3) (run pVal (bl s) (a3)) ∧ wx = w.alloc (.cells #[.string ⟨#[]⟩, .string ⟨#[]⟩] 80))
                case first =>
                  go_wp2_with fail
                  go_loopw [1, 8] (fun i nmv wr => ∃ (k : Nat) (t : ByteArray), i = .int .i64 k ∧ nmv = .string t ∧ a3 ≤ k ∧ k ≤ s.size ∧ Hid (run pVal (bl s) k = run pVal (bl s) (a3)) ∧ Hid (bl t = cut (bl s) (a3) k) ∧ wr = w.alloc (.cells #[.string ⟨#[]⟩, .string ⟨#[]⟩] 80)) (fun i _ _ => s.size - (intOf i).toNat)
                  case atStart => exact ⟨a3, _, by go_num, rfl, by omega, by omega, hide rfl, HX3, rfl⟩
                  case round =>
                    obtain ⟨k, t, rfl, rfl, hlo, hk, HR, HX, rfl⟩ := hrel
                    have htz : t.size ≤ 3000 := by rw [← bl_len, unhide HX, cut_len (by omega)]; omega
                    by_cases hlt : k < s.size
                    · have hcb := u8_lt s hlt
                      have HG := hide (bl_at hlt)
                      obtain ⟨c, hcc⟩ : ∃ c : Int, (s[k].toNat : Int) = c := ⟨_, rfl⟩
                      rw [hcc] at hcb HG
                      by_cases h62 : c = 62
                      · subst h62
                        have HE : Hid (run pVal (bl s) (a3) = k) := hide (by rw [← unhide HR, run_stop (by omega) (by rw [unhide HG]; exact (by decide))])
                        go_wp2_with fail
                        go_meet
                        case rel => exact ⟨t, by rw [unhide HE], rfl, by rw [unhide HE]; exact unhide HX, rfl⟩
                      · have h62e := ne_eq h62
                        have h62n := ne_ne h62
                        have W := isWhite_any c
                        cases hw : wh c
                        · rw [hw] at W
                          have HR' : Hid (run pVal (bl s) (k + 1) = run pVal (bl s) (a3)) := hide (by rw [← run_step (by omega) (by rw [unhide HG]; exact pVal_n h62e hw), unhide HR])
                          have HX' := hide (cut_step (unhide HX) (by omega) hlt)
                          have hz1 := ext_one hlt
                          have hsl : ∀ wx, (Instr.slice 9 (.string s) (some (.int .i64 (k : Int))) (some (.int .i64 ((k : Int) + 1))) none).run Tryz.prog wx = .ok (.string (s.extract k (k + 1))) wx := fun wx => run_slice_string (P := Tryz.prog) wx 9 s .i64 .i64 (k : Int) ((k : Int) + 1) Tryz.underlying9 (by omega) (by omega) (by omega)
                          go_wp2_with fail
                          refine (W _ hcb).mono ?_
                          rintro e wz ⟨rfl, hwz⟩
                          replace hwz := hwz.symm
                          subst hwz
                          go_wp2_with fail
                          go_roundw
                          case rel => exact ⟨k + 1, t ++ s.extract k (k + 1), by go_num, rfl, by omega, by omega, HR', HX', by first | rfl | trivial⟩
                          case measure => simp [intOf]; omega
                        · rw [hw] at W
                          have HE : Hid (run pVal (bl s) (a3) = k) := hide (by rw [← unhide HR, run_stop (by omega) (by rw [unhide HG]; exact pVal_w hw)])
                          go_wp2_with fail
                          refine (W _ hcb).mono ?_
                          rintro e wz ⟨rfl, hwz⟩
                          replace hwz := hwz.symm
                          subst hwz
                          go_wp2_with fail
                          go_meet
                          case rel => exact ⟨t, by rw [unhide HE], rfl, by rw [unhide HE]; exact unhide HX, rfl⟩
                    · have HE : Hid (run pVal (bl s) (a3) = k) := hide (by rw [← unhide HR, run_end (by omega)])
                      go_wp2_with fail
                      go_meet
                      case rel => exact ⟨t, by rw [unhide HE], rfl, by rw [unhide HE]; exact unhide HX, rfl⟩
                obtain ⟨vlt, rfl, rfl, hx4, rfl⟩ := hcut
                have HX4 := hide hx4
                have ha4 := run_le pVal (bl s) (i := a3) (by omega)
                have ga4 := run_ge pVal (bl s) (a3)
                obtain ⟨a4, HA4⟩ : ∃ a4, Hid (run pVal (bl s) (a3) = a4) := ⟨_, hide rfl⟩
                rw [unhide HA4] at ha4 ga4 HX4 ⊢
                clear hx4
                have htz4 : vlt.size ≤ 3000 := by rw [← bl_len, unhide HX4, cut_len (by omega)]; omega
                have HRes := hide (attrI_4 (unhide HA0) (unhide HN0) (unhide HA1) (unhide HA2) (unhide HN2) (unhide HA3) (unhide HQ3) (unhide HA4))
                have HF1 := hide (fun w => foldOf_any nmt w htz1)
                rw [unhide HX1] at HF1
                have HF2 := hide (fun w => foldOf_any vlt w htz4)
                rw [unhide HX4] at HF2
                generalize hfn : strOfNums (fdI (cut (bl s) a0 a1)) = fn at *
                generalize hfv : strOfNums (fdI (cut (bl s) (a3) a4)) = fv at *
                go_wp2_with fail
                refine (unhide HF1 _).mono ?_
                rintro e w5 ⟨rfl, hb5⟩
                have HB5 := hide hb5
                clear hb5
                go_wp2_with fail
                refine (unhide HF2 _).mono ?_
                rintro e w6 ⟨rfl, hb6⟩
                have HBX := hide (bstep (unhide HB5) hb6)
                clear hb6
                have r0 : w6.cell? ⟨w.heap.size, 0, none⟩ = some (.string ⟨#[]⟩) := by rw [(unhide HBX).cell (p := ⟨w.heap.size, 0, none⟩) (by simp)]; simp
                have r1 : w6.cell? ⟨w.heap.size, 1, none⟩ = some (.string ⟨#[]⟩) := by rw [(unhide HBX).cell (p := ⟨w.heap.size, 1, none⟩) (by simp)]; simp
                have q0 : w6.frozen? ⟨w.heap.size, 0, none⟩ = false := by rw [(unhide HBX).frozen (p := ⟨w.heap.size, 0, none⟩) (by simp)]; simp
                have q1 : w6.frozen? ⟨w.heap.size, 1, none⟩ = false := by rw [(unhide HBX).frozen (p := ⟨w.heap.size, 1, none⟩) (by simp)]; simp
                have hzz : w.heap.size < w6.heap.size := by have := (unhide HBX).size; simp at this; omega
                go_wp2_with fail
                refine bodyPost_ret (v := .tuple #[.agg #[.string fn, .string fv], .int .i64 (a4 : Int), .bool true]) (by simp [results, Tryz.results170, go_sem, r0, r1]) rfl ⟨?_, ?_⟩
                · rw [unhide HRes]; rw [← hfn, ← hfv] <;> rfl
                · first
                  | exact ((bstep (balloc _ _) (unhide HBX)).setCell (Nat.le_refl _) _).setCell (Nat.le_refl _) _
                  | exact (bstep (balloc _ _) (unhide HBX)).setCell (Nat.le_refl _) _
          · obtain rfl : a3 = s.size := by omega
            have HQ3 : Hid (¬ (s.size < (bl s).length ∧ ((bl s).getD s.size 0 = 34 ∨ (bl s).getD s.size 0 = 39))) := hide (by omega)
            have HX3 : Hid (bl ⟨#[]⟩ = cut (bl s) (s.size) (s.size)) := hide (by rw [cut_self]; rfl)
            go_upto_block 10 with fail
            go_cut [1, 8] (fun i nmv wx => ∃ t : ByteArray, i = .int .i64 (run pVal (bl s) (s.size) : Int) ∧ nmv = .string t ∧ bl t = cut (bl s) (s.size) (run pVal (bl s) (s.size)) ∧ wx = w.alloc (.cells #[.string ⟨#[]⟩, .string ⟨#[]⟩] 80))
            case first =>
              go_wp2_with fail
              go_loopw [1, 8] (fun i nmv wr => ∃ (k : Nat) (t : ByteArray), i = .int .i64 k ∧ nmv = .string t ∧ s.size ≤ k ∧ k ≤ s.size ∧ Hid (run pVal (bl s) k = run pVal (bl s) (s.size)) ∧ Hid (bl t = cut (bl s) (s.size) k) ∧ wr = w.alloc (.cells #[.string ⟨#[]⟩, .string ⟨#[]⟩] 80)) (fun i _ _ => s.size - (intOf i).toNat)
              case atStart => exact ⟨s.size, _, by go_num, rfl, by omega, by omega, hide rfl, HX3, rfl⟩
              case round =>
                obtain ⟨k, t, rfl, rfl, hlo, hk, HR, HX, rfl⟩ := hrel
                have htz : t.size ≤ 3000 := by rw [← bl_len, unhide HX, cut_len (by omega)]; omega
                by_cases hlt : k < s.size
                · have hcb := u8_lt s hlt
                  have HG := hide (bl_at hlt)
                  obtain ⟨c, hcc⟩ : ∃ c : Int, (s[k].toNat : Int) = c := ⟨_, rfl⟩
                  rw [hcc] at hcb HG
                  exfalso; omega
                · have HE : Hid (run pVal (bl s) (s.size) = k) := hide (by rw [← unhide HR, run_end (by omega)])
                  go_wp2_with fail
                  go_meet
                  case rel => exact ⟨t, by rw [unhide HE], rfl, by rw [unhide HE]; exact unhide HX, rfl⟩
            obtain ⟨vlt, rfl, rfl, hx4, rfl⟩ := hcut
            have HX4 := hide hx4
            have ha4 := run_le pVal (bl s) (i := s.size) (by omega)
            have ga4 := run_ge pVal (bl s) (s.size)
            obtain ⟨a4, HA4⟩ : ∃ a4, Hid (run pVal (bl s) (s.size) = a4) := ⟨_, hide rfl⟩
            rw [unhide HA4] at ha4 ga4 HX4 ⊢
            clear hx4
            have htz4 : vlt.size ≤ 3000 := by rw [← bl_len, unhide HX4, cut_len (by omega)]; omega
            have HRes := hide (attrI_4 (unhide HA0) (unhide HN0) (unhide HA1) (unhide HA2) (unhide HN2) (unhide HA3) (unhide HQ3) (unhide HA4))
            have HF1 := hide (fun w => foldOf_any nmt w htz1)
            rw [unhide HX1] at HF1
            have HF2 := hide (fun w => foldOf_any vlt w htz4)
            rw [unhide HX4] at HF2
            generalize hfn : strOfNums (fdI (cut (bl s) a0 a1)) = fn at *
            generalize hfv : strOfNums (fdI (cut (bl s) (s.size) a4)) = fv at *
            go_wp2_with fail
            refine (unhide HF1 _).mono ?_
            rintro e w5 ⟨rfl, hb5⟩
            have HB5 := hide hb5
            clear hb5
            go_wp2_with fail
            refine (unhide HF2 _).mono ?_
            rintro e w6 ⟨rfl, hb6⟩
            have HBX := hide (bstep (unhide HB5) hb6)
            clear hb6
            have r0 : w6.cell? ⟨w.heap.size, 0, none⟩ = some (.string ⟨#[]⟩) := by rw [(unhide HBX).cell (p := ⟨w.heap.size, 0, none⟩) (by simp)]; simp
            have r1 : w6.cell? ⟨w.heap.size, 1, none⟩ = some (.string ⟨#[]⟩) := by rw [(unhide HBX).cell (p := ⟨w.heap.size, 1, none⟩) (by simp)]; simp
            have q0 : w6.frozen? ⟨w.heap.size, 0, none⟩ = false := by rw [(unhide HBX).frozen (p := ⟨w.heap.size, 0, none⟩) (by simp)]; simp
            have q1 : w6.frozen? ⟨w.heap.size, 1, none⟩ = false := by rw [(unhide HBX).frozen (p := ⟨w.heap.size, 1, none⟩) (by simp)]; simp
            have hzz : w.heap.size < w6.heap.size := by have := (unhide HBX).size; simp at this; omega
            go_wp2_with fail
            refine bodyPost_ret (v := .tuple #[.agg #[.string fn, .string fv], .int .i64 (a4 : Int), .bool true]) (by simp [results, Tryz.results170, go_sem, r0, r1]) rfl ⟨?_, ?_⟩
            · rw [unhide HRes]; rw [← hfn, ← hfv] <;> rfl
            · first
              | exact ((bstep (balloc _ _) (unhide HBX)).setCell (Nat.le_refl _) _).setCell (Nat.le_refl _) _
              | exact (bstep (balloc _ _) (unhide HBX)).setCell (Nat.le_refl _) _
        · have h61n := ne_ne h61
          have HRes := hide (attrI_2 (unhide HA0) (unhide HN0) (unhide HA1) (unhide HA2) (.inr (by rw [unhide HG2]; exact h61)))
          have HF := hide (fun w => foldOf_any nmt w htz1)
          rw [unhide HX1] at HF
          generalize hfn : strOfNums (fdI (cut (bl s) a0 a1)) = fn at *
          go_wp2_with fail
          refine (unhide HF _).mono ?_
          rintro e w5 ⟨rfl, hb5⟩
          have HBX := hide hb5
          clear hb5
          have r0 : w5.cell? ⟨w.heap.size, 0, none⟩ = some (.string ⟨#[]⟩) := by rw [(unhide HBX).cell (p := ⟨w.heap.size, 0, none⟩) (by simp)]; simp
          have r1 : w5.cell? ⟨w.heap.size, 1, none⟩ = some (.string ⟨#[]⟩) := by rw [(unhide HBX).cell (p := ⟨w.heap.size, 1, none⟩) (by simp)]; simp
          have q0 : w5.frozen? ⟨w.heap.size, 0, none⟩ = false := by rw [(unhide HBX).frozen (p := ⟨w.heap.size, 0, none⟩) (by simp)]; simp
          have q1 : w5.frozen? ⟨w.heap.size, 1, none⟩ = false := by rw [(unhide HBX).frozen (p := ⟨w.heap.size, 1, none⟩) (by simp)]; simp
          have hzz : w.heap.size < w5.heap.size := by have := (unhide HBX).size; simp at this; omega
          go_wp2_with fail
          refine bodyPost_ret (v := .tuple #[.agg #[.string fn, .string ⟨#[]⟩], .int .i64 (a2 : Int), .bool true]) (by simp [results, Tryz.results170, go_sem, r0, r1]) rfl ⟨?_, ?_⟩
          · rw [unhide HRes]; rw [← hfn]; rfl
          · first
            | exact ((bstep (balloc _ _) (unhide HBX)).setCell (Nat.le_refl _) _).setCell (Nat.le_refl _) _
            | exact (bstep (balloc _ _) (unhide HBX)).setCell (Nat.le_refl _) _
      · obtain rfl : a2 = s.size := by omega
        have HRes := hide (attrI_2 (unhide HA0) (unhide HN0) (unhide HA1) (unhide HA2) (.inl (by omega)))
        have HF := hide (fun w => foldOf_any nmt w htz1)
        rw [unhide HX1] at HF
        generalize hfn : strOfNums (fdI (cut (bl s) a0 a1)) = fn at *
        go_wp2_with fail
        refine (unhide HF _).mono ?_
        rintro e w5 ⟨rfl, hb5⟩
        have HBX := hide hb5
        clear hb5
        have r0 : w5.cell? ⟨w.heap.size, 0, none⟩ = some (.string ⟨#[]⟩) := by rw [(unhide HBX).cell (p := ⟨w.heap.size, 0, none⟩) (by simp)]; simp
        have r1 : w5.cell? ⟨w.heap.size, 1, none⟩ = some (.string ⟨#[]⟩) := by rw [(unhide HBX).cell (p := ⟨w.heap.size, 1, none⟩) (by simp)]; simp
        have q0 : w5.frozen? ⟨w.heap.size, 0, none⟩ = false := by rw [(unhide HBX).frozen (p := ⟨w.heap.size, 0, none⟩) (by simp)]; simp
        have q1 : w5.frozen? ⟨w.heap.size, 1, none⟩ = false := by rw [(unhide HBX).frozen (p := ⟨w.heap.size, 1, none⟩) (by simp)]; simp
        have hzz : w.heap.size < w5.heap.size := by have := (unhide HBX).size; simp at this; omega
        go_wp2_with fail
        refine bodyPost_ret (v := .tuple #[.agg #[.string fn, .string ⟨#[]⟩], .int .i64 (s.size : Int), .bool true]) (by simp [results, Tryz.results170, go_sem, r0, r1]) rfl ⟨?_, ?_⟩
        · rw [unhide HRes]; rw [← hfn]; rfl
        · first
          | exact ((bstep (balloc _ _) (unhide HBX)).setCell (Nat.le_refl _) _).setCell (Nat.le_refl _) _
          | exact (bstep (balloc _ _) (unhide HBX)).setCell (Nat.le_refl _) _
  · obtain rfl : a0 = s.size := by omega
    have HRes := hide (attrI_1 (unhide HA0) (.inl (by omega)))
    go_wp2_with fail
    refine bodyPost_ret (v := .tuple #[.agg #[.string ⟨#[]⟩, .string ⟨#[]⟩], .int .i64 (s.size : Int), .bool false]) (by simp [results, Tryz.results170, go_sem]) rfl ⟨?_, ?_⟩
    · rw [unhide HRes]; rfl
    · exact balloc _ _
end Go.Proofs.YtaiinjfnkmidbaaGreatDoor

namespace Go.Proofs.YtaiinjfnkmidbaaGreatDoor
open Go.RowKit
set_option linter.unusedVariables false

/-- The cells of attributes. -/
def atCells (L : List (List Int × List Int)) : List Value := L.flatMap fun x => [.string (strOfNums x.1), .string (strOfNums x.2)]
theorem atCells_snoc (L : List (List Int × List Int)) (x : List Int × List Int) : atCells (L ++ [x]) = atCells L ++ [.string (strOfNums x.1), .string (strOfNums x.2)] := by simp [atCells]
theorem infoA : (Tryz.prog.info? 80).map (fun i => (i.zero, i.size, i.bytes)) = some (some (.agg #[.string ⟨#[]⟩, .string ⟨#[]⟩]), 2, 32) := by kernel_rfl
/-- What a round of AttrsAt's loop knows. -/
def InA (l : List Int) (k0 : Nat) (w wr : World) (k : Nat) (v : Value) : Prop := ∃ L, wr.ownsRow w.heap.size 80 2 v L.length (atCells L) ∧ Below w.heap.size w wr ∧ L.length ≤ k ∧ attrsI l k0 = (L ++ (attrsI l k).1, (attrsI l k).2)

set_option maxHeartbeats 3200000 in
set_option maxRecDepth 100000 in
theorem attrsAt_any (s : ByteArray) (k0 : Nat) (w : World) (hk0 : k0 ≤ s.size) (hs : s.size ≤ 3000) :
    Calls Tryz.prog 114 #[.string s, .int .i64 (k0 : Int)] w fun e w' => ∃ v, e = .returned (.tuple #[v, .int .i64 ((attrsI (bl s) k0).2 : Int)]) ∧ w'.ownsRow w.heap.size 80 2 v (attrsI (bl s) k0).1.length (atCells (attrsI (bl s) k0).1) ∧ Below w.heap.size w w' := by
  obtain ⟨i0, hi, hz0, hz1, hz2⟩ := info_parts infoA
  have HI : Hid (InA (bl s) k0 w w k0 (.slice none 0 0)) := hide ⟨[], World.ownsRow_nil _ _ _ _, Below.refl _ _, by simp, by simp⟩
  have hl := bl_len s
  go_enter Tryz.func114, Tryz.ntmps114
  go_wp2_with fail
  go_loopw [1, 6] (fun i v wr => ∃ k : Nat, i = .int .i64 k ∧ k ≤ s.size ∧ InA (bl s) k0 w wr k v) (fun i _ _ => s.size - (intOf i).toNat)
  case atStart => exact ⟨k0, rfl, hk0, unhide HI⟩
  case round =>
    obtain ⟨k, rfl, hk, L, hO, hB, hLk, hE⟩ := hrel
    clear HI
    have HO := hide hO
    have HB := hide hB
    have HE := hide hE
    have hz := hB.size
    have HA := hide (fun w => attrAt_any s k w hk hs)
    have hle := attrI_le (l := bl s) (at' := k) (by omega)
    clear hO hB hE
    obtain ⟨av, cv, hsh⟩ := owns_shape (unhide HO)
    subst hsh
    obtain ⟨x, tt, ok, HX⟩ : ∃ x tt ok, Hid (attrI (bl s) k = (x, tt, ok)) := ⟨_, _, _, hide rfl⟩
    rw [unhide HX] at HA hle
    simp only at HA hle
    cases ok
    · have HN : Hid (attrsI (bl s) k = ([], tt)) := hide (by rw [attrsI_no (by omega) (by rw [unhide HX]), unhide HX])
      have HE' : Hid (attrsI (bl s) k0 = (L, tt)) := hide (by rw [unhide HE, unhide HN]; simp)
      obtain ⟨x1, x2⟩ := x
      go_wp2_with fail
      refine (unhide HA _).mono ?_
      rintro e w1 ⟨rfl, hb1⟩
      have HB1 := hide (bstep (unhide HB) (bstep hb1 (balloc w1 (.cells #[.string (strOfNums x1), .string (strOfNums x2)] 80))))
      have HO1 := hide (owns_a (owns_below (unhide HO) hb1) (.cells #[.string (strOfNums x1), .string (strOfNums x2)] 80))
      clear hb1
      simp only
      generalize strOfNums x1 = t1 at *
      generalize strOfNums x2 = t2 at *
      go_wp2_with fail
      go_ret2
      refine ⟨.slice av L.length cv, by rw [unhide HE']; rfl, ?_, unhide HB1⟩
      rw [unhide HE']; exact unhide HO1
    · have hto := hle.2.2 rfl
      have HY : Hid (attrsI (bl s) k = (x :: (attrsI (bl s) tt).1, (attrsI (bl s) tt).2)) := hide (by rw [attrsI_yes (by omega) (by rw [unhide HX]), unhide HX])
      have HE' : Hid (attrsI (bl s) k0 = ((L ++ [x]) ++ (attrsI (bl s) tt).1, (attrsI (bl s) tt).2)) := hide (by rw [unhide HE, unhide HY]; simp)
      have HS := hide (atCells_snoc L x)
      obtain ⟨x1, x2⟩ := x
      go_wp2_with fail
      refine (unhide HA _).mono ?_
      rintro e w1 ⟨rfl, hb1⟩
      have hz1' := hb1.size
      have HB1 := hide (bstep (unhide HB) hb1)
      have HO1 := hide (owns_below (unhide HO) hb1)
      clear hb1
      simp only at HS ⊢
      generalize strOfNums x1 = t1 at *
      generalize strOfNums x2 = t2 at *
      go_wp2_with (at_builtin; refine wpList_append_own _ rfl (.tmp 22) (.tmp 24) 75 rfl w.heap.size 80 i0 (.agg #[.string ⟨#[]⟩, .string ⟨#[]⟩]) 2 32 Tryz.underlying75 hi hz0 hz1 hz2 rfl (by decide) _ _ _ rfl (owns_a (owns_a (unhide HO1) _) _) ⟨w1.heap.size + 1, 0, none⟩ 1 1 [.string t1, .string t2] rfl rfl ?c1 ?c2 ?c3 ?c4 ?c5 ?_)
      case c1 =>
        intro j u hj
        match j, hj with
        | 0, hj => simp at hj; subst hj; simp [Addr.add]
        | 1, hj => simp at hj; subst hj; simp [Addr.add]
      case c2 => intro u hu; simp at hu; rcases hu with rfl | rfl <;> rfl
      case c3 => unfold maxLen; omega
      case c4 => omega
      case c5 => simp; omega
      intro v2 w2 ho2 hg2 _
      obtain ⟨ao2, cap2, hsh2⟩ := owns_shape ho2
      subst hsh2
      have hlt := (unhide HO1).lt
      have HJ : Hid (InA (bl s) k0 w w2 tt (.slice ao2 (L.length + 1) cap2)) := hide ⟨L ++ [(x1, x2)], by rw [unhide HS]; simpa using ho2, (unhide HB1).trans ((((Below.refl w.heap.size w1).alloc (by omega) _).alloc (by simp; omega) _).grown hg2 (by simp; omega) (fun j hj => (hlt j hj).1)), by simp; omega, unhide HE'⟩
      clear ho2 hg2 hlt
      go_wp2_with fail
      go_roundw
      case rel => exact ⟨tt, rfl, by omega, by simpa using unhide HJ⟩
      case measure => simp [intOf]; omega
end Go.Proofs.YtaiinjfnkmidbaaGreatDoor

namespace Go.Proofs.YtaiinjfnkmidbaaGreatDoor
open Go.RowKit
set_option linter.unusedVariables false

/-- Does a text of small letters stand at a place? -/
def bgn (l : List Int) (k : Nat) (m : List Int) : Bool := decide (k + m.length ≤ l.length ∧ fdI (cut l k (k + m.length)) = m)
theorem bgn_no {l : List Int} {k : Nat} {m : List Int} (h : l.length < k + m.length) : bgn l k m = false := by unfold bgn; exact decide_eq_false (by omega)
theorem bgn_at {s m : ByteArray} {k : Nat} (h : k + m.size ≤ s.size) : decide (strOfNums (fdI (cut (bl s) k (k + m.size))) = m) = bgn (bl s) k (bl m) := by
  unfold bgn
  rw [Bool.eq_iff_iff, decide_eq_true_eq, decide_eq_true_eq, bl_len, bl_len]
  have hb : ∀ x ∈ fdI (cut (bl s) k (k + m.size)), 0 ≤ x ∧ x ≤ 255 := by
    have := fd_byt (l := cut (bl s) k (k + m.size)) (by
      intro x hx
      unfold cut at hx
      exact bl_byt s x (List.mem_of_mem_drop (List.mem_of_mem_take hx)))
    exact this
  constructor
  · intro e
    refine ⟨h, ?_⟩
    rw [← bl_str _ hb, e]
  · rintro ⟨_, e⟩
    rw [e, str_bl]
theorem text_eq (f m : ByteArray) : (f.toList == m.toList) = decide (f = m) := by
  rw [Bool.eq_iff_iff, beq_iff_eq, decide_eq_true_eq]
  constructor
  · intro h
    apply ByteArray.ext
    apply Array.ext'
    rw [← Lib.toList_data, ← Lib.toList_data, h]
  · intro h; rw [h]
set_option maxHeartbeats 800000 in
set_option maxRecDepth 100000 in
theorem beginsAt_any (s : ByteArray) (k : Nat) (m : ByteArray) (w : World) (hk : k ≤ s.size) (hs : s.size ≤ 3000) (hm : m.size ≤ 10) :
    Calls Tryz.prog 112 #[.string s, .int .i64 (k : Int), .string m] w fun e w' => e = .returned (.bool (bgn (bl s) k (bl m))) ∧ Below w.heap.size w w' := by
  by_cases h : k + m.size ≤ s.size
  · rw [← bgn_at h]
    have HF := hide (fun w => foldOf_any (s.extract k (k + m.size)) w (by rw [← bl_len, bl_cut, cut_len (by rw [bl_len]; exact h)]; omega))
    rw [bl_cut] at HF
    have hsl : ∀ wx, (Instr.slice 9 (.string s) (some (.int .i64 (k : Int))) (some (.int .i64 ((k : Int) + (m.size : Int)))) none).run Tryz.prog wx = .ok (.string (s.extract k (k + m.size))) wx := fun wx => by
      have := run_slice_string (P := Tryz.prog) wx 9 s .i64 .i64 (k : Int) ((k : Int) + (m.size : Int)) Tryz.underlying9 (by omega) (by omega) (by omega)
      rw [this]
      simp
      congr 2
    generalize strOfNums (fdI (cut (bl s) k (k + m.size))) = f at *
    go_enter Tryz.func112, Tryz.ntmps112
    go_wp2_with fail
    refine (unhide HF _).mono ?_
    rintro e w1 ⟨rfl, hb⟩
    have HB := hide hb
    clear hb
    go_wp2_with fail
    go_ret
    refine ⟨?_, unhide HB⟩
    rw [← text_eq f m]
    rfl
  · rw [bgn_no (by rw [bl_len, bl_len]; omega)]
    go_enter Tryz.func112, Tryz.ntmps112
    go_wp2_with fail
    go_ret
    exact ⟨rfl, Below.refl _ _⟩

/-- A slice of attributes. -/
def Ats (w : World) (v : Value) (L : List (ByteArray × ByteArray)) : Prop :=
  ∃ ao cap, v = .slice ao L.length cap ∧ L.length ≤ maxLen ∧ (L = [] ∨ ∃ b off, ao = some ⟨b, off, none⟩ ∧ ∀ i (h : i < L.length), w.cell? ⟨b, off + i * 2, none⟩ = some (.string L[i].1) ∧ w.cell? ⟨b, off + i * 2 + 1, none⟩ = some (.string L[i].2))
theorem Ats.below {w w' : World} {v : Value} {L : List (ByteArray × ByteArray)} (h : Ats w v L) (hb : Below w.heap.size w w') : Ats w' v L := by
  obtain ⟨ao, cap, h1, h2, h3⟩ := h
  refine ⟨ao, cap, h1, h2, ?_⟩
  rcases h3 with h3 | ⟨b, off, h4, h5⟩
  · exact .inl h3
  · refine .inr ⟨b, off, h4, fun i hi => ⟨?_, ?_⟩⟩
    · exact (hb.cell (p := ⟨b, off + i * 2, none⟩) (World.block_lt_of_cell? w _ (h5 i hi).1)).trans (h5 i hi).1
    · exact (hb.cell (p := ⟨b, off + i * 2 + 1, none⟩) (World.block_lt_of_cell? w _ (h5 i hi).2)).trans (h5 i hi).2
/-- Attributes as texts. -/
def txts (L : List (List Int × List Int)) : List (ByteArray × ByteArray) := L.map fun x => (strOfNums x.1, strOfNums x.2)
theorem atCells_at (L : List (List Int × List Int)) : ∀ i (h : i < (txts L).length), (atCells L)[i * 2]? = some (.string (txts L)[i].1) ∧ (atCells L)[i * 2 + 1]? = some (.string (txts L)[i].2) := by
  induction L with
  | nil => intro i h; simp [txts] at h
  | cons x t ih =>
    intro i h
    cases i with
    | zero => simp [atCells, txts]
    | succ i =>
      have := ih i (by simpa [txts] using h)
      have e1 : (i + 1) * 2 = i * 2 + 2 := by omega
      rw [e1]
      simpa [atCells, txts, List.flatMap_cons] using this
theorem Ats.of_owns {w : World} {base : Nat} {v : Value} {L : List (List Int × List Int)} (h : w.ownsRow base 80 2 v L.length (atCells L)) : Ats w v (txts L) := by
  have hl : (txts L).length = L.length := by simp [txts]
  rcases h.2 with ⟨hv, hn⟩ | ⟨g, cap, cur, hv, _, hg, hnc, hcm, hcs, htk⟩
  · have : L = [] := List.length_eq_zero_iff.1 hn
    subst this
    exact ⟨none, 0, by rw [hv]; rfl, by simp [txts], .inl rfl⟩
  · refine ⟨some ⟨g, 0, none⟩, cap, by rw [hv, hl], by rw [hl]; omega, .inr ⟨g, 0, rfl, fun i hi => ?_⟩⟩
    have hc := atCells_at L i hi
    rw [← htk] at hc
    have hi' : i < L.length := by rw [← hl]; exact hi
    rw [List.getElem?_take, if_pos (by omega), List.getElem?_take, if_pos (by omega)] at hc
    simp only [World.cell?, hg, Nat.zero_add]
    simpa using hc

set_option maxHeartbeats 1600000 in
set_option maxRecDepth 100000 in
theorem sameAttrs_any {v u : Value} {K L : List (ByteArray × ByteArray)} (w : World) (hv : Ats w v K) (hu : Ats w u L) :
    Calls Tryz.prog 97 #[v, u] w fun e w' => e = .returned (.bool (decide (K = L))) ∧ Below w.heap.size w w' := by
  obtain ⟨ao, cap, rfl, hm, hc⟩ := hv
  obtain ⟨bo, cap', rfl, hm', hc'⟩ := hu
  unfold maxLen at hm hm'
  have HC := hide hc
  have HC' := hide hc'
  clear hc hc'
  by_cases hl : K.length = L.length
  · have HLn := hide hl
    have hne : ((K.length : Int) != (L.length : Int)) = false := by simp [hl]
    clear hl
    go_enter Tryz.func97, Tryz.ntmps97
    go_wp2_with fail
    go_loopw [5] (fun i wr => ∃ k : Nat, k ≤ K.length ∧ i = .int .i64 k ∧ Below w.heap.size w wr ∧ Hid (K.take k = L.take k)) (fun i _ => K.length - (intOf i).toNat)
    case atStart => exact ⟨0, by omega, rfl, Below.refl _ _, hide (by simp)⟩
    case round =>
      obtain ⟨k, hk, rfl, hB, HT⟩ := hrel
      have HB := hide hB
      clear hB
      by_cases hltK : k < K.length
      · have hlt : k < L.length := by have := unhide HLn; omega
        obtain ⟨b, off, rfl, hcc⟩ : ∃ b off, ao = some ⟨b, off, none⟩ ∧ ∀ i (h : i < K.length), w.cell? ⟨b, off + i * 2, none⟩ = some (.string K[i].1) ∧ w.cell? ⟨b, off + i * 2 + 1, none⟩ = some (.string K[i].2) := by
          rcases unhide HC with h | h
          · subst h; simp at hltK
          · exact h
        obtain ⟨b', off', rfl, hcc'⟩ : ∃ b off, bo = some ⟨b, off, none⟩ ∧ ∀ i (h : i < L.length), w.cell? ⟨b, off + i * 2, none⟩ = some (.string L[i].1) ∧ w.cell? ⟨b, off + i * 2 + 1, none⟩ = some (.string L[i].2) := by
          rcases unhide HC' with h | h
          · subst h; simp at hlt
          · exact h
        have c1 := ((unhide HB).cell (p := ⟨b, off + k * 2, none⟩) (World.block_lt_of_cell? w _ (hcc k hltK).1)).trans (hcc k hltK).1
        have c2 := ((unhide HB).cell (p := ⟨b, off + k * 2 + 1, none⟩) (World.block_lt_of_cell? w _ (hcc k hltK).2)).trans (hcc k hltK).2
        have d1 := ((unhide HB).cell (p := ⟨b', off' + k * 2, none⟩) (World.block_lt_of_cell? w _ (hcc' k hlt).1)).trans (hcc' k hlt).1
        have d2 := ((unhide HB).cell (p := ⟨b', off' + k * 2 + 1, none⟩) (World.block_lt_of_cell? w _ (hcc' k hlt).2)).trans (hcc' k hlt).2
        have hb1 : b < wr.heap.size := World.block_lt_of_cell? wr _ c1
        have hb2 : b' < wr.heap.size := World.block_lt_of_cell? wr _ d1
        have HE1 : Hid (K.take (k + 1) = K.take k ++ [K[k]]) := hide (List.take_succ_eq_append_getElem hltK)
        have HE2 : Hid (L.take (k + 1) = L.take k ++ [L[k]]) := hide (List.take_succ_eq_append_getElem hlt)
        have HKe : Hid (K = L → K[k] = L[k]) := hide (fun e => by subst e; rfl)
        obtain ⟨x1, x2, hx⟩ : ∃ x1 x2, K[k] = (x1, x2) := ⟨_, _, rfl⟩
        obtain ⟨y1, y2, hy⟩ : ∃ x1 x2, L[k] = (x1, x2) := ⟨_, _, rfl⟩
        rw [hx] at c1 c2 HE1 HKe
        rw [hy] at d1 d2 HE2 HKe
        simp only at c1 c2 d1 d2
        clear hx hy hcc hcc'
        have ne_l : ∀ {a b : ByteArray}, a ≠ b → ¬ (a.toList = b.toList) := fun {a b} h e => h (by
          apply ByteArray.ext; apply Array.ext'; rw [← Lib.toList_data, ← Lib.toList_data, e])
        by_cases e1 : x1 = y1
        · subst e1
          by_cases e2 : x2 = y2
          · subst e2
            have HT' : Hid (K.take (k + 1) = L.take (k + 1)) := hide (by rw [unhide HE1, unhide HE2, unhide HT])
            clear ne_l
            go_wp2_with fail
            go_region
            all_goals
              go_wp2_with fail
              go_roundw
              case rel => exact ⟨k + 1, by omega, by go_num, below_drewN (unhide HB) 1, HT'⟩
              case measure => simp [intOf]; omega
          · have hn := ne_l e2
            have HD : Hid (decide (K = L) = false) := hide (decide_eq_false (fun e => e2 (congrArg Prod.snd (unhide HKe e))))
            clear ne_l e2
            go_wp2_with fail
            go_region
            all_goals
              go_wp2_with fail
              go_ret
              exact ⟨by rw [unhide HD]; rfl, below_drewN (unhide HB) 1⟩
        · have hn := ne_l e1
          have HD : Hid (decide (K = L) = false) := hide (decide_eq_false (fun e => e1 (congrArg Prod.fst (unhide HKe e))))
          clear ne_l e1
          go_wp2_with fail
          go_region
          all_goals
            go_wp2_with fail
            go_ret
            exact ⟨by rw [unhide HD]; rfl, below_drewN (unhide HB) 1⟩
      · have HD : Hid (decide (K = L) = true) := hide (decide_eq_true (by
          have := unhide HT
          have hh := unhide HLn
          rwa [List.take_of_length_le (by omega), List.take_of_length_le (by omega)] at this))
        go_wp2_with fail
        go_ret
        exact ⟨by rw [unhide HD]; rfl, unhide HB⟩
  · have hne : ((K.length : Int) != (L.length : Int)) = true := by simp; omega
    have HD : Hid (decide (K = L) = false) := hide (decide_eq_false (fun e => hl (by rw [e])))
    go_enter Tryz.func97, Tryz.ntmps97
    go_wp2_with fail
    go_ret
    exact ⟨by rw [unhide HD]; rfl, Below.refl _ _⟩
end Go.Proofs.YtaiinjfnkmidbaaGreatDoor
