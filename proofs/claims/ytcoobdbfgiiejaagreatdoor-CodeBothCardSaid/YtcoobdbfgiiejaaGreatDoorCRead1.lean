/-
  The contracts of strings.TrimSuffix at a line feed, strings.Cut at a blank, strconv.ParseInt at base 10, and of package code's guess.
  Conditions: the tables and the two errors of strconv hold what they hold at the start; lines have at most 2^20 bytes.
-/
import Derived.Test.YtcoobdbfgiiejaaGreatDoorCRead0
import Derived.Test.YtcoobdbfgiiejaaGreatDoorShelfP
import Derived.Test.YtcoobdbfgiiejaaGreatDoorKLib
namespace Go.Proofs.YtcoobdbfgiiejaaGreatDoor
open Go.RowKit
/-- Without a line feed at its end. -/
def chopL (l : List UInt8) : List UInt8 := if l.getLast? = some 10 then l.dropLast else l
theorem chop_snoc (m : List UInt8) : chopL (m ++ [10]) = m := by unfold chopL; simp
theorem chop_le (l : List UInt8) : (chopL l).length ≤ l.length := by
  unfold chopL
  split
  · rw [List.length_dropLast]; omega
  · exact Nat.le_refl _
set_option maxHeartbeats 1000000 in
set_option maxRecDepth 100000 in
theorem trimlf_any (l : List UInt8) (w : World) (hlim : l.length ≤ 1099511627776) :
    Calls Tryz.prog 76 #[.string (S l), .string ⟨#[10]⟩] w fun e w' => e = .returned (.string (S (chopL l))) ∧ w = w' := by
  have hsz : ((S l).size : Int) = (l.length : Int) := by rw [S_size]
  rcases List.eq_nil_or_concat l with rfl | ⟨m, c, hl⟩
  · rw [show chopL [] = [] from rfl]
    go_enter Tryz.func76, Tryz.ntmps76
    go_wp2
    go_ret
    exact ⟨rfl, rfl⟩
  · rw [List.concat_eq_append] at hl
    have hlen : l.length = m.length + 1 := by rw [hl]; simp
    obtain ⟨k, hk⟩ : ∃ k, k = m.length := ⟨_, rfl⟩
    have hcut := S_drop l k
    have htk := S_take l k
    have hdr : l.drop k = [c] := by rw [hl, hk, List.drop_left]
    have htt : l.take k = m := by rw [hl, hk, List.take_left]
    rw [hdr] at hcut
    rw [htt] at htk
    have hm2 : (l.length : Int) - 1 = (k : Int) := by omega
    have hm3 : (1 : Int) ≤ (l.length : Int) := by omega
    have hm4 : (0 : Int) ≤ k := by omega
    have hm5 : (k : Int) ≤ (l.length : Int) := by omega
    have ec := S_toList [c]
    by_cases h10 : c = 10
    · subst h10
      have HCH : Hid (chopL l = m) := Lib.hid (by rw [hl]; exact chop_snoc m)
      have hq : ((S [10]).toList == [10]) = true := by rw [S_toList]; rfl
      clear hl hlen hk hdr htt ec
      generalize chopL l = ch at HCH ⊢
      generalize l.length = L at *
      go_enter Tryz.func76, Tryz.ntmps76
      go_wp2
      go_ret
      exact ⟨by rw [HCH.out]; rfl, rfl⟩
    · have HCH : Hid (chopL l = l) := Lib.hid (by
        rw [hl]
        unfold chopL
        rw [if_neg (by simp; exact h10)])
      have hq : ([c] == [10]) = false := by rw [beq_eq_false_iff_ne]; simp; exact h10
      clear hl hlen hk hdr htt h10
      obtain ⟨ch, hch⟩ : ∃ ch, ch = chopL l := ⟨_, rfl⟩
      rw [← hch] at HCH ⊢
      clear hch
      generalize l.length = L at *
      go_enter Tryz.func76, Tryz.ntmps76
      go_wp2
      go_ret
      exact ⟨by rw [HCH.out]; rfl, rfl⟩
theorem index_sp (l : List UInt8) : Lib.indexByte l 32 = if spAt l < l.length then (spAt l : Int) else -1 := by
  unfold spAt
  induction l with
  | nil => rfl
  | cons b l ih =>
    rw [Lib.indexByte, List.findIdx_cons, ih]
    cases hb : (b == 32) with
    | true => simp
    | false =>
      have hle : List.findIdx (fun c => c == 32) l ≤ l.length := List.findIdx_le_length
      simp only [Bool.false_eq_true, if_false, cond_false, List.length_cons]
      by_cases h : List.findIdx (fun c => c == 32) l < l.length
      · have h1 : List.findIdx (fun c => c == 32) l + 1 < l.length + 1 := by omega
        rw [if_pos h, if_pos h1, if_neg (by simp)]
        omega
      · have h1 : ¬ List.findIdx (fun c => c == 32) l + 1 < l.length + 1 := by omega
        rw [if_neg h, if_neg h1]
        rfl
set_option maxHeartbeats 2000000 in
set_option maxRecDepth 100000 in
theorem index_blank (s : ByteArray) (w : World) :
    Calls Tryz.prog 112 #[.string s, .string ⟨#[32]⟩] w fun e w' => e = .returned (.int .i64 (Lib.indexByte s.data.toList 32)) ∧ w = w' := by
  go_enter Tryz.func112, Tryz.ntmps112
  go_wp2_with (go_at_call 93; refine (indexbyte_any _ _ _).mono ?_; rintro e w' ⟨rfl, rfl⟩)
  · have h : ([32] == s.toList) = true := by assumption
    go_ret
    refine ⟨?_, rfl⟩
    have e : s.data.toList = [32] := by rw [← Lib.toList_data]; exact (beq_iff_eq.1 h).symm
    rw [e]
    simp [Lib.indexByte]
  · go_ret
    exact ⟨rfl, rfl⟩
/-- What strings.Cut answers at a blank. -/
def CutSp (l : List UInt8) (w : World) (e : Ending) (w' : World) : Prop :=
  (∃ q, w' = w.drewN q) ∧ ∃ b, e = .returned (.tuple #[.string (S (headL l)), .string (S (restL l)), .bool b])
set_option maxHeartbeats 1000000 in
set_option maxRecDepth 100000 in
theorem cutsplite_any (l : List UInt8) (w : World) (hlim : l.length ≤ 1099511627776) :
    Calls Tryz.prog 94 #[.string (S l), .string ⟨#[32]⟩] w (CutSp l w) := by
  have hix := index_blank (S l) w
  rw [S_list, index_sp] at hix
  by_cases h : spAt l < l.length
  · rw [if_pos h] at hix
    have HIX := Lib.hid hix
    have hsz : ((S l).size : Int) = (l.length : Int) := by rw [S_size]
    obtain ⟨k, hk⟩ : ∃ k, k = spAt l := ⟨_, rfl⟩
    rw [← hk] at h HIX
    have hcut1 := S_take l k
    have hcut2 := S_drop l (k + 1)
    have HH : Hid (headL l = l.take k ∧ restL l = l.drop (k + 1)) := Lib.hid ⟨by rw [hk]; rfl, by rw [hk]; rfl⟩
    have w3 : (0 : Int) ≤ (k : Int) + 1 := by omega
    have w4 : (k : Int) + 1 ≤ (l.length : Int) := by omega
    have w5 : (0 : Int) ≤ (k : Int) := by omega
    have w6 : (k : Int) ≤ (l.length : Int) := by omega
    have w2 : ((k : Int) + 1).toNat = k + 1 := by omega
    have w1 : IntKind.i64.wrap ((k : Int) + 1) = (k : Int) + 1 := IntWalk.i64_in _ (by omega)
    clear hix hk h
    go_enter Tryz.func94, Tryz.ntmps94
    go_wp2_with (go_at_call 112; refine HIX.out.mono ?_; rintro e w' ⟨rfl, rfl⟩)
    go_quiet (fail)
    go_wp2
    go_ret3
    exact ⟨⟨nq, rfl⟩, true, by rw [HH.out.1, HH.out.2]; rfl⟩
  · rw [if_neg h] at hix
    have HIX := Lib.hid hix
    have hle : spAt l ≤ l.length := List.findIdx_le_length
    have HH : Hid (headL l = l ∧ restL l = []) := Lib.hid ⟨List.take_of_length_le (by omega), List.drop_of_length_le (by omega)⟩
    clear hix h hle
    go_enter Tryz.func94, Tryz.ntmps94
    go_wp2_with (go_at_call 112; refine HIX.out.mono ?_; rintro e w' ⟨rfl, rfl⟩)
    go_ret3
    exact ⟨⟨0, rfl⟩, false, by rw [HH.out.1, HH.out.2]; rfl⟩
set_option maxHeartbeats 400000 in
set_option maxRecDepth 100000 in
theorem cutsp_any (l : List UInt8) (w : World) (hlim : l.length ≤ 1099511627776) :
    Calls Tryz.prog 75 #[.string (S l), .string ⟨#[32]⟩] w (CutSp l w) := by
  go_enter Tryz.func75, Tryz.ntmps75
  go_wp2_with fail
  refine (cutsplite_any l w hlim).mono ?_
  rintro e w' ⟨hw, b, rfl⟩
  have HW := Lib.hid hw
  clear hw
  go_wp2
  go_ret3
  exact ⟨HW.out, b, rfl⟩
/-- The two errors of strconv hold some error. -/
def EV (w : World) : Prop := (∃ ev, w.cell? ⟨5, 0, none⟩ = some ev ∧ (ev = .nilIface ∨ ∃ te pe, ev = .iface te pe)) ∧ (∃ ev, w.cell? ⟨6, 0, none⟩ = some ev ∧ (ev = .nilIface ∨ ∃ te pe, ev = .iface te pe))
theorem EV.keep {w w' : World} (h : EV w) (hb : Below w.heap.size w w') : EV w' := by
  obtain ⟨⟨e1, c1, d1⟩, ⟨e2, c2, d2⟩⟩ := h
  have ho := Only.ofBelow (S := fun _ => False) hb
  exact ⟨⟨e1, ho.cell c1 id, d1⟩, ⟨e2, ho.cell c2 id, d2⟩⟩
/-- What is said of strconv.ParseInt: some number; the number whose digits these are. -/
def ParseG (t : List UInt8) (w : World) (e : Ending) (w' : World) : Prop :=
  ∃ (n : Int) (ev : Value), e = .returned (.tuple #[.int .i64 n, ev]) ∧ (-9223372036854775808 ≤ n ∧ n ≤ 9223372036854775807) ∧ Below w.heap.size w w' ∧ (∀ m : Int, (-9223372036854775808 ≤ m ∧ m ≤ 9223372036854775807) → t = Lib.itoa m → n = m)
theorem parse_any (t : List UInt8) (w : World) (hE : EV w) (hlim : t.length ≤ 1099511627776) : Calls Tryz.prog 77 #[.string (S t), .int .i64 10, .int .i64 64] w (ParseG t w) := by
  have hsz : (S t).size = t.length := S_size t
  have hdl : (S t).data.toList = t := S_list t
  cases hp : Lib.parseIntB 64 t with
  | ok v =>
    refine (strconv_ParseInt_10_at64_ok (S t) (by omega) v (by rw [hdl]; exact hp) w).mono ?_
    rintro e w' ⟨rfl, hw⟩
    have hb := Lib.parseIntB_bounds hp
    refine ⟨v, .nilIface, rfl, ⟨by omega, by omega⟩, ?_, fun m hm ht => ?_⟩
    · rcases hw with rfl | ⟨q, rfl⟩
      · exact Below.refl _ _
      · have := below_back q.data.toList w
        rw [S_data] at this
        exact this
    · rw [ht, parse_itoa m hm.1 hm.2] at hp
      cases hp
      rfl
  | range =>
    obtain ⟨_, ⟨ev, hc, hv⟩⟩ := hE
    refine (strconv_ParseInt_10_at64_range (S t) (by omega) (by rw [hdl]; exact hp) ev w hc hv).mono ?_
    rintro e w' ⟨N, rfl, _, _, hb⟩
    refine ⟨_, _, rfl, ?_, hb, fun m hm ht => ?_⟩
    · rw [hdl]
      unfold Lib.intSat
      split <;> decide
    · rw [ht, parse_itoa m hm.1 hm.2] at hp
      cases hp
  | _ =>
    obtain ⟨⟨ev, hc, hv⟩, _⟩ := hE
    refine (strconv_ParseInt_10_at64_syntax (S t) (by omega) (by rw [hdl]; exact hp) ev w hc hv).mono ?_
    rintro e w' ⟨N, rfl, _, _, hb⟩
    refine ⟨0, _, rfl, by decide, hb, fun m hm ht => ?_⟩
    rw [ht, parse_itoa m hm.1 hm.2] at hp
    cases hp
end Go.Proofs.YtcoobdbfgiiejaaGreatDoor
