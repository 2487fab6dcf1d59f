/-
  FrameBursts's contract: it answers true at any text, place and bits, and writes nothing that was there.
  Conditions: the place is a uint16, the bits are a uint32.
-/
import Derived.Test.YtpaadajkfnokjaaFAwake
namespace Go.Proofs.Ytpaadajkfnokjaa
open Go.RowKit
set_option maxHeartbeats 400000 in
set_option maxRecDepth 100000 in
theorem bursts_small (s : List UInt8) (from_ bs : Nat) (w : World) (hz : (s.length : Int) ≤ 2000) (hf : from_ < 65536) (hb : bs < 4294967296) (hb0 : 0 < bs) :
    Calls Try.prog 7 #[.string (S s), .int .u16 from_, .int .u32 bs] w fun e w' => e = .returned (.bool true) ∧ Below w.heap.size w w' := by
  have hsz : ((S s).size : Int) = (s.length : Int) := by rw [S_size]
  have HA := Lib.hid awake_any
  have hbz : ((bs : Int) == 0) = false := by rw [beq_eq_false_iff_ne]; omega
  have hcv := conv_back s w
  have HS1 := Lib.hid (back_srcC s w)
  have HB1 := Lib.hid (below_back s w)
  generalize Lib.bytesWorld w 5 (S s) = w1 at hcv HS1 HB1
  go_enter Try.func7, Try.ntmps7
  go_wp2_with fail
  refine (put_ok s _ w1 HS1.out (by omega)).mono ?_
  rintro e w2 ⟨v2, rfl, hbs⟩
  have hpl : (putL s).length = s.length + 4 := putL_length s
  obtain ⟨g, cap, rfl, hg⟩ := hbs.form (by omega)
  obtain ⟨m, hm⟩ : ∃ m, m = (putL s).length := ⟨_, rfl⟩
  rw [← hm] at hbs ⊢
  have hm4 : 4 ≤ m := by omega
  have hm5 : m ≤ 2004 := by omega
  have HM := Lib.hid hm
  have hbs' : BS w w2 (.slice (some ⟨g, 0, none⟩) m cap) (putL s) := ⟨hbs.row, fun g' hg' => Nat.le_trans HB1.out.size (hbs.own g' hg'), HB1.out.trans (hbs.bel.mono HB1.out.size)⟩
  have HBS := Lib.hid hbs'
  clear hcv HS1 HB1 hbs hbs' hpl hm
  go_wp2_with fail
  refine (HA.out w2).mono ?_
  rintro e w3 ⟨rfl, hb3⟩
  have HBS3 := Lib.hid (HBS.out.keep hb3)
  clear HBS hb3
  obtain ⟨at_, hat⟩ : ∃ at_ : Nat, at_ = from_ % (8 * m) := ⟨_, rfl⟩
  have hat' : (from_ : Int) % (8 * (m : Int)) = (at_ : Int) := by rw [hat]; push_cast; rfl
  have hatm : at_ < 8 * m := by rw [hat]; exact Nat.mod_lt _ (by omega)
  clear hat
  go_wp2_with fail
  rw [hat']
  clear hat'
  obtain ⟨room, hroom⟩ : ∃ room, room = 8 * m - at_ := ⟨_, rfl⟩
  have HROOM := Lib.hid hroom
  clear hroom
  go_loopw [10, 11] (fun v10 v11 wr => ∃ (k : Nat) (l : List UInt8), k ≤ 32 ∧ v11 = .int .i64 k ∧ v10 = .bool (decide (seen bs room k ≠ 0)) ∧ BS w wr (.slice (some ⟨g, 0, none⟩) m cap) l ∧ Burst (putL s) l at_ bs k) (fun _ v11 _ => 32 - (intOf v11).toNat)
  case atStart => exact ⟨0, putL s, by decide, rfl, by rw [seen_zero]; rfl, HBS3.out, Burst.start _ _ _⟩
  case round =>
    obtain ⟨k, l, hk, rfl, rfl, hbs, hbu⟩ := hrel
    have hlm : l.length = m := by rw [hbu.len, ← HM.out]
    have HLM := Lib.hid hlm
    have HBU := Lib.hid hbu
    have HBK := Lib.hid hbs
    clear hlm hbu hbs
    by_cases hlt : k < 32
    · obtain ⟨q, hq⟩ : ∃ q, q = bs / 2 ^ k := ⟨_, rfl⟩
      have hq2 : (bs : Int) / 2 ^ k = (q : Int) := by rw [hq]; push_cast; rfl
      have hq32 : q < 4294967296 := by rw [hq]; exact Nat.lt_of_le_of_lt (Nat.div_le_self _ _) hb
      have hand := and_one_u32 q hq32
      have HQ := Lib.hid hq
      clear hq
      rcases (show q % 2 = 0 ∨ q % 2 = 1 by omega) with h0 | h1
      · rw [h0] at hand
        have HN := Lib.hid (seen_none bs room k (.inr (by rw [← HQ.out]; exact h0)))
        have HBN := Lib.hid (HBU.out.none (.inr (by rw [← HQ.out]; exact h0)))
        clear h0 HQ
        go_wp2
        go_roundw
        case rel => exact ⟨k + 1, l, by omega, by go_num, by rw [HN.out], HBK.out, HBN.out⟩
        case measure => simp [intOf]; omega
      · rw [h1] at hand
        by_cases hin : at_ + k < 8 * m
        · have HN := Lib.hid (seen_ne bs room k (by rw [HROOM.out]; omega) (by rw [← HQ.out]; exact h1))
          have HBN := Lib.hid (HBU.out.one (by rw [← HM.out]; exact hin) (by rw [← HQ.out]; exact h1))
          obtain ⟨i, hi⟩ : ∃ i, i = at_ + k := ⟨_, rfl⟩
          rw [← hi] at hin HBN
          have hsum : (at_ : Int) + (k : Int) = (i : Int) := by omega
          obtain ⟨j, hj⟩ : ∃ j, j = i / 8 := ⟨_, rfl⟩
          obtain ⟨r, hr⟩ : ∃ r, r = i % 8 := ⟨_, rfl⟩
          have hjd : (i : Int) / 8 = (j : Int) := by omega
          have hrd : (i : Int) % 8 = (r : Int) := by omega
          have hjm : j < m := by omega
          have hr8 : r < 8 := by omega
          have hin' : (i : Int) < 8 * (m : Int) := by omega
          have hx := HBK.out.cell j (by rw [HLM.out]; exact hjm)
          have hfr := HBK.out.free j
          obtain ⟨x, hxx⟩ : ∃ x, x = l.getD j 0 := ⟨_, rfl⟩
          rw [← hxx] at hx
          have hj0 : (0 : Int) ≤ j := by omega
          have hj1 : (j : Int) < m := by omega
          have HXX := Lib.hid hxx
          have HI := Lib.hid hi
          have HJ := Lib.hid hj
          have HR := Lib.hid hr
          clear hxx hi hj hr h1 HQ hin
          have hset := HBK.out.set j (x ^^^ UInt8.ofNat (2 ^ r))
          rw [show l.set j (x ^^^ UInt8.ofNat (2 ^ r)) = flip l i by unfold flip; rw [HXX.out, HJ.out, HR.out], ← xor_u8 x (UInt8.ofNat (2 ^ r)), show ((UInt8.ofNat (2 ^ r)).toNat : Int) = 2 ^ r % 256 by rw [UInt8.toNat_ofNat']; push_cast; rfl] at hset
          have HSET := Lib.hid hset
          clear hset
          go_wp2
          go_roundw
          case rel => exact ⟨k + 1, _, by omega, by go_num, congrArg Value.bool (decide_eq_true HN.out).symm, HSET.out, HBN.out⟩
          case measure => simp [intOf]; omega
        · have HN := Lib.hid (seen_none bs room k (.inl (by rw [HROOM.out]; omega)))
          have HBN := Lib.hid (HBU.out.none (.inl (by rw [← HM.out]; omega)))
          have hin' : 8 * (m : Int) ≤ (at_ : Int) + (k : Int) := by omega
          clear hin h1 HQ
          go_wp2
          go_roundw
          case rel => exact ⟨k + 1, l, by omega, by go_num, by rw [HN.out], HBK.out, HBN.out⟩
          case measure => simp [intOf]; omega
    · obtain rfl : k = 32 := by omega
      have htold := HBU.out.told
      rw [← HM.out, ← HROOM.out] at htold
      have HT := Lib.hid htold
      clear htold
      go_wp2_with fail
      refine (get_any l _ wr HBK.out.srcC (by rw [HLM.out]; omega)).mono ?_
      rintro e w5 ⟨hb5, hgot⟩
      have B5 := HBK.out.bel.trans (hb5.mono HBK.out.bel.size)
      rcases hgot with ⟨_, hok, v', rfl, _⟩ | ⟨_, hok, rfl⟩ | ⟨h, _⟩
      · have hz2 : decide (seen bs room 32 = 0) = true := by rw [HT.out] at hok; exact hok
        go_wp2
        go_ret
        exact ⟨rfl, B5⟩
      · have hz2 : decide (seen bs room 32 = 0) = false := by rw [HT.out] at hok; exact hok
        go_wp2
        go_ret
        exact ⟨rfl, B5⟩
      · have := HLM.out; omega
set_option maxHeartbeats 400000 in
set_option maxRecDepth 100000 in
theorem bursts_any (s : List UInt8) (from_ bs : Nat) (w : World) (hs : s.length ≤ 9223372036854775807) (hf : from_ < 65536) (hb : bs < 4294967296) :
    Calls Try.prog 7 #[.string (S s), .int .u16 from_, .int .u32 bs] w fun e w' => e = .returned (.bool true) ∧ Below w.heap.size w w' := by
  by_cases hall : (s.length : Int) ≤ 2000 ∧ 0 < bs
  · exact bursts_small s from_ bs w hall.1 hf hb hall.2
  have hsz : ((S s).size : Int) = (s.length : Int) := by rw [S_size]
  have HA := Lib.hid awake_any
  by_cases h1 : (2000 : Int) < (s.length : Int)
  · clear hall
    go_enter Try.func7, Try.ntmps7
    go_wp2_with (go_at_call 10; refine (HA.out _).mono ?_; rintro e w1 ⟨rfl, hb⟩)
    go_ret
    exact ⟨rfl, hb⟩
  have h1' : (s.length : Int) ≤ 2000 := by omega
  obtain rfl : bs = 0 := by omega
  clear hall h1
  go_enter Try.func7, Try.ntmps7
  go_wp2_with (go_at_call 10; refine (HA.out _).mono ?_; rintro e w1 ⟨rfl, hb⟩)
  go_ret
  exact ⟨rfl, hb⟩
end Go.Proofs.Ytpaadajkfnokjaa
