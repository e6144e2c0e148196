/- The contract of utf8.Encode: of more than 3000 integers ErrMany, where one is no scalar ErrRange, else the bytes of each, and OK; nothing that was there is written. -/
import Derived.Test.YthhjfedegbldfaaF
namespace Go.Proofs.Ythhjfedegbldfaa
open Go.RowKit
set_option linter.unusedVariables false

theorem conv_owned {w : World} {base : Nat} {v : Value} {xs : List Int} (h : w.ownsRow base 5 1 v xs.length (xs.map (Value.int .u8))) :
    (convert 47 9 v).run Try.prog w = .ok (.string (strOfNums xs)) w := by
  rcases h.2 with ⟨rfl, hn⟩ | ⟨g, cap, cur, rfl, hg, hh, h1, h2, _⟩
  · have : xs = [] := List.eq_nil_of_length_eq_zero hn
    subst this
    exact run_convert_bytes_nil w 47 5 Try.underlying47 Try.underlying5 0 0 9 Try.underlying9
  · refine run_convert_bytes_arg w 47 5 Try.underlying47 Try.underlying5 g 0 xs.length cap xs rfl (fun i hi => ?_) 9 Try.underlying9
    have := h.cells (g := g) rfl i (.int .u8 (xs.getD i 0)) (by simp [hi])
    by_cases h0 : i = 0
    · subst h0; simpa [Addr.add] using this
    · simpa [Addr.add, h0] using this

/-- What Encode answers of at most 3000 integers. -/
def encRes (xs : List Int) : Value := if xs.all M.sclr then .tuple #[.string (strOfNums (M.enc xs)), .int .i64 0] else .tuple #[.string ⟨#[]⟩, .int .i64 3]
theorem encRes_yes {xs : List Int} (h : xs.all M.sclr = true) : encRes xs = .tuple #[.string (strOfNums (M.enc xs)), .int .i64 0] := by unfold encRes; rw [if_pos h]
theorem encRes_no {xs : List Int} (h : xs.all M.sclr = false) : encRes xs = .tuple #[.string ⟨#[]⟩, .int .i64 3] := by unfold encRes; rw [if_neg (by simp [h])]
/-- The bytes of scalars, gathered. -/
def InE (xs : List Int) (w wr : World) (k : Nat) (v : Value) : Prop :=
  wr.ownsRow w.heap.size 5 1 v (M.enc (xs.take k)).length ((M.enc (xs.take k)).map (Value.int .u8)) ∧ Below w.heap.size w wr ∧ (xs.take k).all M.sclr = true

theorem InE.step {xs : List Int} {w wr w1 : World} {k : Nat} {v v1 : Value} (h : InE xs w wr k v) (hk : k < xs.length) (hs : M.sclr (xs.getD k 0) = true)
    (ho : w1.ownsRow w.heap.size 5 1 v1 (M.enc (xs.take k) ++ M.enc1 (xs.getD k 0)).length ((M.enc (xs.take k) ++ M.enc1 (xs.getD k 0)).map (Value.int .u8))) (hb : Below w.heap.size wr w1) : InE xs w w1 (k + 1) v1 := by
  have e : xs.take (k + 1) = xs.take k ++ [xs.getD k 0] := by
    rw [List.take_succ_eq_append_getElem hk]; simp [hk]
  refine ⟨?_, h.2.1.trans hb, ?_⟩
  · rw [e, M.enc_snoc]; exact ho
  · rw [e, List.all_append, h.2.2]; simpa using hs

set_option maxHeartbeats 400000 in
set_option maxRecDepth 100000 in
theorem encode_many (ao : Option Addr) (len cap : Nat) (w : World) (h : 3000 < len) (hm : len ≤ maxLen) :
    Calls Try.prog 8 #[.slice ao len cap] w fun e w' => e = .returned (.tuple #[.string ⟨#[]⟩, .int .i64 2]) ∧ w' = w := by
  unfold maxLen at hm
  go_enter Try.func8, Try.ntmps8
  go_wp2
  go_ret2
  exact ⟨rfl, rfl⟩

set_option maxHeartbeats 400000 in
set_option maxRecDepth 100000 in
theorem encode_none (ao : Option Addr) (cap : Nat) (w : World) :
    Calls Try.prog 8 #[.slice ao 0 cap] w fun e w' => e = .returned (.tuple #[.string (strOfNums []), .int .i64 0]) ∧ w' = w := by
  have hc := conv_owned (xs := []) (World.ownsRow_nil w 0 5 1)
  go_enter Try.func8, Try.ntmps8
  go_wp2
  refine wp_loop_rounds 1 ?_
  rw [rounds_succ]
  go_wp2
  go_ret2
  exact ⟨rfl, rfl⟩

set_option maxHeartbeats 400000 in
set_option maxRecDepth 100000 in
theorem encode_some (b off cap : Nat) (xs : List Int) (w : World) (h0 : xs ≠ []) (h : xs.length ≤ 3000) (hc : ∀ i, i < xs.length → w.cell? ⟨b, off + i, none⟩ = some (.int .i64 (xs.getD i 0))) :
    Calls Try.prog 8 #[.slice (some ⟨b, off, none⟩) xs.length cap] w fun e w' => Below w.heap.size w w' ∧
      e = .returned (encRes xs) := by
  have hlen : 0 < xs.length := List.length_pos_iff.2 h0
  have hbl : b < w.heap.size := World.block_lt_of_cell? w _ (hc 0 hlen)
  have HC := hide hc
  have HI : InE xs w w 0 (.slice none 0 0) := ⟨World.ownsRow_nil _ _ _ _, Below.refl _ _, by simp⟩
  clear hc h0
  go_enter Try.func8, Try.ntmps8
  go_wp2_with fail
  go_loopw [4, 12] (fun v i wr => ∃ k : Nat, k ≤ xs.length ∧ i = .int .i64 k ∧ InE xs w wr k v) (fun _ i _ => xs.length - (intOf i).toNat)
  case atStart => exact ⟨0, by omega, rfl, HI⟩
  case round =>
    obtain ⟨k, hk, rfl, hI⟩ := hrel
    clear HI
    by_cases hlt : k < xs.length
    · have hcell : wr.cell? ⟨b, off + k, none⟩ = some (.int .i64 (xs.getD k 0)) := (hI.2.1.cell (p := ⟨b, off + k, none⟩) hbl).trans (unhide HC k hlt)
      obtain ⟨p, HP⟩ : ∃ p, Hid (xs.getD k 0 = p) := ⟨_, rfl⟩
      rw [unhide HP] at hcell
      obtain ⟨q, HQ⟩ : ∃ q, Hid (M.sclr p = q) := ⟨_, rfl⟩
      go_wp2_with fail
      refine (scalar_any _ _).mono ?_
      rintro e w1 ⟨rfl, hw⟩
      replace hw := hw.symm
      subst hw
      rw [unhide HQ]
      cases q
      · go_wp2_with fail
        go_ret2
        refine ⟨hI.2.1, ?_⟩
        have : xs.all M.sclr = false := by
          rw [List.all_eq_false]
          refine ⟨xs.getD k 0, ?_, by rw [unhide HP, unhide HQ]; simp⟩
          simp [hlt]
        rw [encRes_no this]; rfl
      · have hz := hI.2.1.size
        have hel := M.enc_len (xs.take k)
        have htl := List.length_take_le k xs
        go_wp2_with fail
        refine (put_any w.heap.size p _ (M.enc (xs.take k)) _ hz hI.1 (by omega) (unhide HQ)).mono ?_
        rintro e w2 ⟨v2, rfl, ho2, hb2⟩
        have HI := InE.step hI hlt (by rw [unhide HP]; exact unhide HQ) (by rw [unhide HP]; exact ho2) hb2
        obtain ⟨ao2, cap2, rfl⟩ := owns_shape ho2
        clear hI ho2 hb2
        go_wp2_with fail
        go_roundw
        case rel => exact ⟨k + 1, by omega, by go_num, by rw [List.length_append] at HI; exact HI⟩
        case measure => simp [intOf]; omega
    · have ek : k = xs.length := by omega
      have hcv := conv_owned hI.1
      obtain ⟨o1, o2, o3⟩ := hI
      have hb := hide o2
      subst ek
      rw [List.take_length] at hcv o1 o3
      obtain ⟨ao2, cap2, hsh⟩ := owns_shape o1
      subst hsh
      have HA := hide o3
      clear o1 o2 o3
      go_wp2_with fail
      go_ret2
      refine ⟨unhide hb, ?_⟩
      rw [encRes_yes (unhide HA)]; rfl

theorem encode_any {v : Value} {xs : List Int} (w : World) (hx : Ints w v xs) (h : xs.length ≤ 3000) :
    Calls Try.prog 8 #[v] w fun e w' => Below w.heap.size w w' ∧ e = .returned (encRes xs) := by
  obtain ⟨ao, cap, rfl, hm, -, hx⟩ := hx
  by_cases h0 : xs = []
  · subst h0
    refine (encode_none ao cap w).mono ?_
    rintro e w' ⟨rfl, rfl⟩
    exact ⟨Below.refl _ _, rfl⟩
  · rcases hx with hx | ⟨b, off, rfl, hc⟩
    · exact absurd hx h0
    · exact encode_some b off cap xs w h0 h hc
end Go.Proofs.Ythhjfedegbldfaa
