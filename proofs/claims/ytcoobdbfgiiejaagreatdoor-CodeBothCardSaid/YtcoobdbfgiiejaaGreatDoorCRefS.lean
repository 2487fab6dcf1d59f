/-
  The contracts of the document's Digits and Show of layer 4.
  Conditions: the instructions lie in memory that was there before; texts have at most 2^20 bytes; at most 2^19 instructions.
-/
import Derived.Test.YtcoobdbfgiiejaaGreatDoorCE
import Derived.Test.YtcoobdbfgiiejaaGreatDoorCB
namespace Go.Proofs.YtcoobdbfgiiejaaGreatDoor
open Go.RowKit
theorem wu64 (n : Int) : IntKind.u64.wrap n = n % 18446744073709551616 := by unfold IntKind.wrap; simp [IntKind.bits, IntKind.signed]
theorem dec_big {u : Nat} (h : ¬ u < 10) : Lib.decDigits u = Lib.decDigits (u / 10) ++ [UInt8.ofNat (48 + u % 10)] := by rw [Lib.decDigits, dif_neg h]
theorem dec_small {u : Nat} (h : u < 10) : Lib.decDigits u = [UInt8.ofNat (48 + u)] := by rw [Lib.decDigits, dif_pos h]
theorem dec_len {u : Nat} (h : u ≤ 9223372036854775808) : (Lib.decDigits u).length ≤ 21 := by
  by_cases h0 : u = 0
  · rw [h0, dec_small (by decide)]; simp
  · have h1 := Lib.itoa_length_le (-(u : Int)) (by omega) (by omega)
    rw [Lib.itoa_neg u (by omega), List.length_cons] at h1
    omega
/-- How far the digits have come: v is left, acc is there. -/
def DG (u v : Nat) (acc : List UInt8) : Prop := (acc = [] ∧ v = u) ∨ (acc ≠ [] ∧ ((v = 0 ∧ acc = Lib.decDigits u) ∨ (v ≠ 0 ∧ Lib.decDigits u = Lib.decDigits v ++ acc)))
theorem DG.next {u v : Nat} {acc : List UInt8} (h : DG u v acc) (hg : acc = [] ∨ v ≠ 0) : DG u (v / 10) (UInt8.ofNat (48 + v % 10) :: acc) := by
  refine .inr ⟨by simp, ?_⟩
  have key : Lib.decDigits u = Lib.decDigits v ++ acc := by
    rcases h with ⟨rfl, rfl⟩ | ⟨h1, ⟨rfl, _⟩ | ⟨_, h3⟩⟩
    · simp
    · exact absurd rfl (hg.resolve_left h1)
    · exact h3
  by_cases hv : v < 10
  · refine .inl ⟨by omega, ?_⟩
    rw [key, dec_small hv, Nat.mod_eq_of_lt hv]
    rfl
  · refine .inr ⟨by omega, ?_⟩
    rw [key, dec_big hv, List.append_assoc]
    rfl
theorem DG.done {u : Nat} {acc : List UInt8} (h : DG u 0 acc) (hg : acc ≠ []) : acc = Lib.decDigits u := by
  rcases h with ⟨h1, _⟩ | ⟨_, ⟨_, h2⟩ | ⟨h2, _⟩⟩
  · exact absurd h1 hg
  · exact h2
  · exact absurd rfl h2
theorem DG.len {u v : Nat} {acc : List UInt8} (h : DG u v acc) (hu : u ≤ 9223372036854775808) : acc.length ≤ 21 := by
  have := dec_len hu
  rcases h with ⟨rfl, _⟩ | ⟨_, ⟨_, h2⟩ | ⟨_, h2⟩⟩
  · simp
  · rw [h2]; exact this
  · rw [h2, List.length_append] at this; omega
set_option maxHeartbeats 2000000 in
set_option maxRecDepth 100000 in
theorem refdigits_any (n : Int) (w : World) (h0 : -9223372036854775808 ≤ n) (h1 : n ≤ 9223372036854775807) :
    Calls Tryz.prog 50 #[.int .i64 n] w fun e w' => e = .returned (.string (S (Lib.itoa n))) ∧ Below w.heap.size w w' := by
  obtain ⟨u, hu⟩ : ∃ u, u = n.natAbs := ⟨_, rfl⟩
  have hul : u ≤ 9223372036854775808 := by omega
  have HIT : Hid (Lib.itoa n = if n < 0 then 45 :: Lib.decDigits u else Lib.decDigits u) := Lib.hid (by
    unfold Lib.itoa
    by_cases hn : n < 0
    · rw [if_pos hn, if_pos hn, hu]
    · rw [if_neg hn, if_neg hn, show n.toNat = u from by omega])
  have HU := Lib.hid hu
  clear hu
  by_cases hn : n < 0
  · have e1 : IntKind.u64.wrap n = 18446744073709551616 - (u : Int) := by rw [wu64]; have := HU.out; omega
    have e2 : IntKind.u64.wrap (-(18446744073709551616 - (u : Int))) = (u : Int) := by rw [wu64]; omega
    rw [if_pos hn] at HIT
    go_enter Tryz.func50, Tryz.ntmps50
    go_wp2
    clear e1 e2
    go_loopg [3, 4] (u + 2) (fun gk v3 v4 wr => ∃ (v : Nat) (acc : List UInt8), v3 = .int .u64 (v : Nat) ∧ v4 = .string (S acc) ∧ DG u v acc ∧ v ≤ 9223372036854775808 ∧ v + (if acc = [] then 1 else 0) < gk ∧ Below w.heap.size w wr)
    case atStart => exact ⟨u, [], rfl, rfl, .inl ⟨rfl, rfl⟩, hul, by simp, Below.refl _ _⟩
    case round =>
      obtain ⟨v, acc, rfl, rfl, hdg, hv, hgk, hb⟩ := hrel
      have HB := Lib.hid hb
      have hal := hdg.len hul
      clear hb
      have es := S_toList acc
      have hv0 : (0 : Int) ≤ (v : Int) := by omega
      have hv1 : (v : Int) ≤ 9223372036854775808 := by omega
      by_cases hg : acc = [] ∨ v ≠ 0
      · have hnx := hdg.next hg
        have HNX := Lib.hid hnx
        obtain ⟨c, hc⟩ : ∃ c, c = UInt8.ofNat (48 + v % 10) := ⟨_, rfl⟩
        rw [← hc] at HNX
        have hcn : c.toNat = 48 + v % 10 := by rw [hc]; simp; omega
        have hcv := conv_one wr c (48 + (v : Int) % 10) (by rw [hcn]; omega)
        have hcat : S [c] ++ S acc = S (c :: acc) := S_append [c] acc
        have hbd : ¬ (9223372036854775807 < (S [c]).size + (S acc).size) := by rw [S_size, S_size]; simp; omega
        have hm0 : (0 : Int) ≤ (v : Int) % 10 := by omega
        have hm1 : (v : Int) % 10 < 10 := by omega
        have HGK := Lib.hid hgk
        have HG := Lib.hid hg
        clear hdg hnx hc hgk hcn
        by_cases ha : acc = []
        · subst ha
          clear hg
          go_wp2
          go_roundg (v / 10 + 1)
          case measure => have := HGK.out; simp at this; omega
          case rel => exact ⟨v / 10, [c], by go_num, rfl, HNX.out, by omega, by simp, HB.out.alloc HB.out.size _⟩
        · have ha2 : (acc == []) = false := beq_eq_false_iff_ne.2 ha
          have ha3 : acc.isEmpty = false := by cases acc with | nil => exact absurd rfl ha | cons _ _ => rfl
          have hv2 : (0 : Int) < (v : Int) := by have := hg.resolve_left ha; omega
          have hv3 : 0 < v := by omega
          clear hg ha
          go_wp2
          go_roundg (v / 10 + 1)
          case measure => have := HGK.out; split at this <;> omega
          case rel => exact ⟨v / 10, c :: acc, by go_num, rfl, HNX.out, by omega, by simp, HB.out.alloc HB.out.size _⟩
      · obtain ⟨hz, hv2⟩ : acc ≠ [] ∧ v = 0 := ⟨fun e => hg (.inl e), Nat.eq_zero_of_not_pos (fun e => hg (.inr (by omega)))⟩
        subst hv2
        have ha2 : (acc == []) = false := beq_eq_false_iff_ne.2 hz
        have ha3 : acc.isEmpty = false := by cases acc with | nil => exact absurd rfl hz | cons _ _ => rfl
        have hd : acc = Lib.decDigits u := hdg.done hz
        have HD := Lib.hid hd
        clear hg hgk hd hdg
        have hcat : (⟨#[45]⟩ : ByteArray) ++ S acc = S (45 :: acc) := S_append [45] acc
        have hbd : ¬ (9223372036854775807 < 1 + (S acc).size) := by rw [S_size]; omega
        go_wp2
        go_ret
        exact ⟨by rw [HIT.out, ← HD.out]; rfl, HB.out⟩
  · have e1 : IntKind.u64.wrap n = (u : Int) := by rw [wu64]; have := HU.out; omega
    rw [if_neg hn] at HIT
    go_enter Tryz.func50, Tryz.ntmps50
    go_wp2
    clear e1
    go_loopg [3, 4] (u + 2) (fun gk v3 v4 wr => ∃ (v : Nat) (acc : List UInt8), v3 = .int .u64 (v : Nat) ∧ v4 = .string (S acc) ∧ DG u v acc ∧ v ≤ 9223372036854775808 ∧ v + (if acc = [] then 1 else 0) < gk ∧ Below w.heap.size w wr)
    case atStart => exact ⟨u, [], rfl, rfl, .inl ⟨rfl, rfl⟩, hul, by simp, Below.refl _ _⟩
    case round =>
      obtain ⟨v, acc, rfl, rfl, hdg, hv, hgk, hb⟩ := hrel
      have HB := Lib.hid hb
      have hal := hdg.len hul
      clear hb
      have es := S_toList acc
      have hv0 : (0 : Int) ≤ (v : Int) := by omega
      have hv1 : (v : Int) ≤ 9223372036854775808 := by omega
      by_cases hg : acc = [] ∨ v ≠ 0
      · have hnx := hdg.next hg
        have HNX := Lib.hid hnx
        obtain ⟨c, hc⟩ : ∃ c, c = UInt8.ofNat (48 + v % 10) := ⟨_, rfl⟩
        rw [← hc] at HNX
        have hcn : c.toNat = 48 + v % 10 := by rw [hc]; simp; omega
        have hcv := conv_one wr c (48 + (v : Int) % 10) (by rw [hcn]; omega)
        have hcat : S [c] ++ S acc = S (c :: acc) := S_append [c] acc
        have hbd : ¬ (9223372036854775807 < (S [c]).size + (S acc).size) := by rw [S_size, S_size]; simp; omega
        have hm0 : (0 : Int) ≤ (v : Int) % 10 := by omega
        have hm1 : (v : Int) % 10 < 10 := by omega
        have HGK := Lib.hid hgk
        have HG := Lib.hid hg
        clear hdg hnx hc hgk hcn
        by_cases ha : acc = []
        · subst ha
          clear hg
          go_wp2
          go_roundg (v / 10 + 1)
          case measure => have := HGK.out; simp at this; omega
          case rel => exact ⟨v / 10, [c], by go_num, rfl, HNX.out, by omega, by simp, HB.out.alloc HB.out.size _⟩
        · have ha2 : (acc == []) = false := beq_eq_false_iff_ne.2 ha
          have ha3 : acc.isEmpty = false := by cases acc with | nil => exact absurd rfl ha | cons _ _ => rfl
          have hv2 : (0 : Int) < (v : Int) := by have := hg.resolve_left ha; omega
          have hv3 : 0 < v := by omega
          clear hg ha
          go_wp2
          go_roundg (v / 10 + 1)
          case measure => have := HGK.out; split at this <;> omega
          case rel => exact ⟨v / 10, c :: acc, by go_num, rfl, HNX.out, by omega, by simp, HB.out.alloc HB.out.size _⟩
      · obtain ⟨hz, hv2⟩ : acc ≠ [] ∧ v = 0 := ⟨fun e => hg (.inl e), Nat.eq_zero_of_not_pos (fun e => hg (.inr (by omega)))⟩
        subst hv2
        have ha2 : (acc == []) = false := beq_eq_false_iff_ne.2 hz
        have ha3 : acc.isEmpty = false := by cases acc with | nil => exact absurd rfl hz | cons _ _ => rfl
        have hd : acc = Lib.decDigits u := hdg.done hz
        have HD := Lib.hid hd
        clear hg hgk hd hdg
        go_wp2
        go_ret
        exact ⟨by rw [HIT.out, ← HD.out]; rfl, HB.out⟩
/-- A text with a line feed behind. -/
theorem lf_cat (a : List UInt8) : S a ++ (⟨#[10]⟩ : ByteArray) = S (a ++ [10]) := S_append a [10]
theorem lf_fits (a : List UInt8) (h : a.length ≤ 1099511627776) : ¬ (9223372036854775807 < (S a).size + 1) := by rw [S_size]; omega
theorem sp_fits (a : List UInt8) (h : a.length ≤ 1099511627776) : ¬ (9223372036854775807 < 1 + (S a).size) := by rw [S_size]; omega
set_option maxHeartbeats 2000000 in
set_option maxRecDepth 100000 in
theorem refshow_any (l : List Ins) (sv : Value) (w : World) (hs : InsSrc w sv l) (hz : allE l = 0) (hok : ∀ x ∈ l, x.ok) (hlen : l.length ≤ 500000) :
    Calls Tryz.prog 22 #[sv] w fun e w' => e = .returned (.string (S (showL l))) ∧ Below w.heap.size w w' := by
  obtain ⟨n, hn⟩ : ∃ n, n = l.length := ⟨_, rfl⟩
  obtain ⟨so, sc, hsv⟩ : ∃ so sc, sv = .slice so n sc := by
    rcases hs with ⟨ao, cp0, rfl, rfl⟩ | ⟨b, o, cap, rfl, _⟩
    · exact ⟨_, _, by rw [hn]; rfl⟩
    · exact ⟨_, _, by rw [hn]⟩
  have hcell : 0 < n → ∃ b o, so = some ⟨b, o, none⟩ ∧ ∀ k x, l[k]? = some x → w.cell? ⟨b, o + k * 3, none⟩ = some (.string (S x.op)) ∧ w.cell? ⟨b, o + k * 3 + 1, none⟩ = some (.int .i64 x.n) ∧ w.cell? ⟨b, o + k * 3 + 2, none⟩ = some (.string (S x.s)) := by
    intro h0
    rcases hs with ⟨ao, cp0, rfl, rfl⟩ | ⟨b, o, cap, rfl, hc⟩
    · simp at hn; omega
    · cases hsv
      exact ⟨b, o, rfl, hc⟩
  subst hsv
  have HC := Lib.hid hcell
  have HN := Lib.hid hn
  have HOK := Lib.hid hok
  have HZ := Lib.hid hz
  rw [← hn] at hlen
  clear hs hcell hn hok hz
  go_enter Tryz.func22, Tryz.ntmps22
  go_wp2
  go_loopw [3, 4] (fun v3 v4 wr => ∃ k : Nat, k ≤ n ∧ v4 = .int .i64 k ∧ v3 = .string (S (showL (l.take k))) ∧ Below w.heap.size w wr) (fun _ v4 _ => n - (intOf v4).toNat)
  case atStart => exact ⟨0, Nat.zero_le _, rfl, by simp [showL, S], Below.refl _ _⟩
  case round =>
    obtain ⟨k, hk, rfl, rfl, hbl⟩ := hrel
    have HB := Lib.hid hbl
    clear hbl
    by_cases hlt : k < n
    · have hkl : k < l.length := by have := HN.out; omega
      obtain ⟨x, hx⟩ : ∃ x, l[k]? = some x := ⟨_, List.getElem?_eq_getElem hkl⟩
      obtain ⟨b, o, rfl, hcc⟩ := HC.out (by omega)
      have HCB : Hid (∀ W, Below w.heap.size w W → W.cell? ⟨b, o + k * 3, none⟩ = some (.string (S x.op)) ∧ W.cell? ⟨b, o + k * 3 + 1, none⟩ = some (.int .i64 x.n) ∧ W.cell? ⟨b, o + k * 3 + 2, none⟩ = some (.string (S x.s))) := Lib.hid (fun W hW => by
        obtain ⟨c0, c1, c2⟩ := hcc k x hx
        have ho := Only.ofBelow (S := fun _ => False) hW
        exact ⟨ho.cell c0 id, ho.cell c1 id, ho.cell c2 id⟩)
      have hxm := List.mem_of_getElem? hx
      have hxo := HOK.out x hxm
      have hxe := allE_mem l HZ.out x hxm
      obtain ⟨hi, hnm, hfn, _⟩ := ins_fine hxe
      have hsn := show_snoc l k x hx
      obtain ⟨A, hA⟩ : ∃ A, A = showL (l.take k) := ⟨_, rfl⟩
      have hAl : A.length ≤ 549755813888 := by
        have h1 := showL_le (l.take k) (fun y hy => HOK.out y (List.mem_of_mem_take hy))
        have h2 : (l.take k).length ≤ 500000 := by rw [List.length_take]; omega
        rw [hA]
        omega
      have hnx : showL (l.take (k + 1)) = A ++ (x.op ++ (argText (hasAt (idx x.op)) x.n x.s ++ [10])) := by rw [hsn, ← hA]; unfold Ins.text; rw [hnm]
      rw [← hA]
      have hopl : x.op.length ≤ 6 := by rw [← hnm]; exact nameAt_le _
      have hxs := hxo.2
      have hxn := hxo.1
      have HNX := Lib.hid hnx
      obtain ⟨hc1, hd1⟩ := cat_ok A x.op (by omega)
      have HTK : Hid (∀ W, Calls Tryz.prog 35 #[.string (S x.op)] W fun e w' => e = .returned (.int .i64 (refT x.op)) ∧ Below W.heap.size W w') := Lib.hid (fun W => reftakes_any x.op W)
      have hrt : refT x.op = if hasAt (idx x.op) = 1 then 1 else if 2 ≤ hasAt (idx x.op) then 2 else 0 := if_pos hi
      rw [hrt] at HTK
      have HDG := Lib.hid (fun W => refdigits_any x.n W hxn.1 hxn.2)
      have hil := Lib.itoa_length_le x.n hxn.1 hxn.2
      generalize hasAt (idx x.op) = h at HTK HNX
      clear hx hkl hcc hxm hxo hxe hi hfn hsn hA hnx hrt hnm
      have hk0 : (0 : Int) ≤ k := by omega
      have hkn : (k : Int) < (n : Int) := by omega
      obtain ⟨d0, d1, d2⟩ := HCB.out wr HB.out
      have hAL := Lib.hid hAl
      have HXS := Lib.hid hxs
      have HOL := Lib.hid hopl
      have HIL := Lib.hid hil
      clear hAl hxs hxn hopl d1 d2 hil
      go_wp2_with fail
      refine (HTK.out wr).mono ?_
      rintro e w4 ⟨rfl, hb4⟩
      have hbw4 : Below w.heap.size w w4 := HB.out.trans (hb4.mono HB.out.size)
      obtain ⟨f0, f1, f2⟩ := HCB.out w4 hbw4
      have HB4 := Lib.hid hbw4
      clear hbw4 hb4 d0 f0 hc1 hd1 HTK
      by_cases h1 : h = 1
      · subst h1
        rw [if_pos rfl]
        rw [show argText 1 x.n x.s = 32 :: Lib.itoa x.n from if_pos rfl] at HNX
        have g1 := ss_cat (Lib.itoa x.n)
        have g2 := sp_fits (Lib.itoa x.n) (by have := HIL.out; omega)
        obtain ⟨g3, g4⟩ := cat_ok (A ++ x.op) (32 :: Lib.itoa x.n) (by rw [List.length_append, List.length_cons]; have := hAL.out; have := HOL.out; have := HIL.out; omega)
        have g5 := lf_cat (A ++ (x.op ++ 32 :: Lib.itoa x.n))
        have g6 := lf_fits (A ++ (x.op ++ 32 :: Lib.itoa x.n)) (by rw [List.length_append, List.length_append, List.length_cons]; have := hAL.out; have := HOL.out; have := HIL.out; omega)
        clear f2
        generalize Lib.itoa x.n = dg at *
        go_wp2_with (go_at_call 50; refine (HDG.out _).mono ?_; rintro e w5 ⟨rfl, hb5⟩)
        have hbw5 : Below w.heap.size w w5 := HB4.out.trans (hb5.mono HB4.out.size)
        go_roundw
        case rel => exact ⟨k + 1, by omega, by go_num, by rw [HNX.out]; simp, hbw5⟩
        case measure => simp [intOf]; omega
      · rw [if_neg h1]
        by_cases h2 : 2 ≤ h
        · rw [if_pos h2]
          rw [show argText h x.n x.s = 32 :: x.s from (if_neg h1).trans (if_pos h2)] at HNX
          have g1 := ss_cat x.s
          have g2 := sp_fits x.s (by have := HXS.out; omega)
          obtain ⟨g3, g4⟩ := cat_ok (A ++ x.op) (32 :: x.s) (by rw [List.length_append, List.length_cons]; have := hAL.out; have := HOL.out; have := HXS.out; omega)
          have g5 := lf_cat (A ++ (x.op ++ 32 :: x.s))
          have g6 := lf_fits (A ++ (x.op ++ 32 :: x.s)) (by rw [List.length_append, List.length_append, List.length_cons]; have := hAL.out; have := HOL.out; have := HXS.out; omega)
          clear f1 h1 h2
          go_wp2
          go_roundw
          case rel => exact ⟨k + 1, by omega, by go_num, by rw [HNX.out]; simp, HB4.out⟩
          case measure => simp [intOf]; omega
        · rw [if_neg h2]
          rw [show argText h x.n x.s = [] from (if_neg h1).trans (if_neg h2)] at HNX
          have g5 := lf_cat (A ++ x.op)
          have g6 := lf_fits (A ++ x.op) (by rw [List.length_append]; have := hAL.out; have := HOL.out; omega)
          clear f1 f2 h1 h2
          go_wp2
          go_roundw
          case rel => exact ⟨k + 1, by omega, by go_num, by rw [HNX.out]; simp, HB4.out⟩
          case measure => simp [intOf]; omega
    · obtain rfl : k = n := by omega
      have hful : l.take k = l := List.take_of_length_le (by have := HN.out; omega)
      rw [hful]
      go_wp2
      go_ret
      exact ⟨rfl, HB.out⟩
end Go.Proofs.YtcoobdbfgiiejaaGreatDoor
