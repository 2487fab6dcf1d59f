/-
  The contract of package code's Get: the instructions whose bytes these are, or the error that there are none.
  Conditions: the tables hold what they hold at the start; the bytes lie in memory that was there before, at most 2^40 of them.
  The contracts of the document's All, Put and Same of layer 4.
  Conditions: the instructions lie in memory that was there before; texts have at most 2^20 bytes; at most 2^20 instructions.
  A copy of instructions: append([]api.Instr{}, l...).
  Conditions: the instructions lie in memory that was there before; at most 2^20 of them.
-/
import Derived.Test.YtcoobdbfgiiejaaGreatDoorCC
import Derived.Test.YtcoobdbfgiiejaaGreatDoorCRefCheck
import Derived.Test.YtcoobdbfgiiejaaGreatDoorCB
namespace Go.Proofs.YtcoobdbfgiiejaaGreatDoor
open Go.RowKit
/-- What is said of Get. -/
def GetG (l : List UInt8) (w : World) (e : Ending) (w' : World) : Prop :=
  Below w.heap.size w w' ∧ ((∃ vs m, e = .returned (.tuple #[vs, .int .i64 0]) ∧ IR w w' vs m ∧ allE m = 0 ∧ putL m = l ∧ m.length ≤ 200 ∧ (∀ x ∈ m, x.ok) ∧ (∀ y : List Ins, (∀ x ∈ y, x.ok) → allE y = 0 → y.length ≤ 200 → putL y = l → m = y)) ∨
    (e = .returned (.tuple #[.slice none 0 0, .int .i64 42]) ∧ ∀ y : List Ins, (∀ x ∈ y, x.ok) → allE y = 0 → y.length ≤ 200 → putL y ≠ l))
set_option maxHeartbeats 2000000 in
set_option maxRecDepth 100000 in
theorem get_any (sv : Value) (l : List UInt8) (w : World) (hs : SrcIs w sv l) (hT : CT w) (hlim : l.length ≤ 1099511627776) :
    Calls Tryz.prog 13 #[sv] w (GetG l w) := by
  have HT := Lib.hid hT
  have HS := Lib.hid hs
  have HL := Lib.hid hlim
  clear hT hs hlim
  go_enter Tryz.func13, Tryz.ntmps13
  go_wp2_with fail
  refine (rs_read (Below.refl w.heap.size w) sv l HS.out (by have := HL.out; omega)).mono ?_
  rintro e w1 ⟨b, v, rfl, r1, hb1⟩
  have R1 := Lib.hid r1
  clear r1 hb1
  go_wp2_with fail
  refine (take_any R1.out HT.out).mono ?_
  rintro e w2 ⟨vs, m, i2, err2, rfl, ir2, hm, hok, t2, g2⟩
  obtain ⟨ao, cp, rfl⟩ := ir2.shape
  have hlo : w.heap.size ≤ w1.heap.size := R1.out.bel.size
  have ir3 : IR w w2 (.slice ao m.length cp) m := ⟨ir2.row, fun g hg => Nat.le_trans hlo (ir2.own g hg)⟩
  have HG : Hid (∀ y : List Ins, (∀ x ∈ y, x.ok) → allE y = 0 → y.length ≤ 200 → putL y = l → m = y) := Lib.hid (fun y hy hz hl hp => (g2 y [] rfl hy hz hl (by rw [hp]; simp)).1)
  have IR3 := Lib.hid ir3
  have T2 := Lib.hid t2.rs.bel
  have HOK := Lib.hid hok
  have HM := Lib.hid hm
  clear ir2 ir3 hok t2 g2 hm R1 hlo
  go_wp2_with fail
  refine (put_any m _ w2 (HT.out.keep T2.out) IR3.out.src (by have := HM.out; omega) HOK.out).mono ?_
  rintro e w3 ⟨hy, hn⟩
  by_cases hz : allE m = 0
  · obtain ⟨v3, rfl, s3⟩ := hy hz
    obtain ⟨ao3, m3, c3, rfl⟩ := row_shape s3.row
    have c1 := conv_owned s3.row
    have hbw : Below w.heap.size w w3 := T2.out.trans (s3.bel.mono T2.out.size)
    have c2 := conv_src (HS.out.below hbw)
    have ir4 := IR3.out.keep s3.bel
    have IR4 := Lib.hid ir4
    have HBW := Lib.hid hbw
    have HZ := Lib.hid hz
    clear hy hn s3 hbw ir4 hz
    have e1 := S_toList (putL m)
    have e2 := S_toList l
    by_cases heq : putL m = l
    · have hb : (putL m == l) = true := beq_iff_eq.2 heq
      have HEQ := Lib.hid heq
      clear heq
      go_wp2
      go_ret2
      exact ⟨HBW.out, .inl ⟨_, m, rfl, IR4.out, HZ.out, HEQ.out, HM.out, HOK.out, HG.out⟩⟩
    · have hb : (putL m == l) = false := beq_eq_false_iff_ne.2 heq
      have HEQ := Lib.hid heq
      clear heq
      go_wp2
      go_ret2
      exact ⟨HBW.out, .inr ⟨rfl, fun y h1 h2 h3 h4 => HEQ.out (by rw [HG.out y h1 h2 h3 h4]; exact h4)⟩⟩
  · obtain ⟨rfl, hb3⟩ := hn hz
    have hbw : Below w.heap.size w w3 := T2.out.trans (hb3.mono T2.out.size)
    have HBW := Lib.hid hbw
    have HZ := Lib.hid hz
    have hzb : (((allE m : Nat) : Int) != 0) = true := by rw [bne_iff_ne]; omega
    clear hy hn hb3 hbw hz
    generalize hE : allE m = E at hzb HZ ⊢
    have HE := Lib.hid hE
    clear hE
    go_wp2
    go_ret2
    exact ⟨HBW.out, .inr ⟨rfl, fun y h1 h2 h3 h4 => HZ.out (by rw [← HE.out, HG.out y h1 h2 h3 h4]; exact h2)⟩⟩
end Go.Proofs.YtcoobdbfgiiejaaGreatDoor
namespace Go.Proofs.YtcoobdbfgiiejaaGreatDoor
open Go.RowKit
set_option maxHeartbeats 2000000 in
set_option maxRecDepth 100000 in
theorem refall_any (l : List Ins) (sv : Value) (w : World) (hs : InsSrc w sv l) (hlim : ∀ x ∈ l, x.s.length ≤ 1099511627776) (hlen : l.length ≤ 1099511627776) :
    Calls Tryz.prog 11 #[sv] w fun e w' => e = .returned (.int .i64 (allE l : Nat)) ∧ Below w.heap.size w w' := by
  have HL := Lib.hid hlim
  clear hlim
  rcases hs with ⟨ao, cp0, rfl, rfl⟩ | ⟨b, o, cap, rfl, hc⟩
  · go_enter Tryz.func11, Tryz.ntmps11
    go_wp2
    go_loopw [3] (fun v3 wr => v3 = .int .i64 0 ∧ wr = w) (fun _ _ => 0)
    case atStart => exact ⟨rfl, rfl⟩
    case round =>
      obtain ⟨rfl, rfl⟩ := hrel
      go_wp2
      go_ret
      exact ⟨rfl, Below.refl _ _⟩
  · have HC := Lib.hid hc
    obtain ⟨n, hn⟩ : ∃ n, n = l.length := ⟨_, rfl⟩
    rw [← hn] at hlen ⊢
    have HN := Lib.hid hn
    clear hc hn
    go_enter Tryz.func11, Tryz.ntmps11
    go_wp2
    go_loopw [3] (fun v3 wr => ∃ k : Nat, k ≤ n ∧ v3 = .int .i64 k ∧ Below w.heap.size w wr ∧ allE l = allE (l.drop k)) (fun v3 _ => n - (intOf v3).toNat)
    case atStart => exact ⟨0, Nat.zero_le _, rfl, Below.refl _ _, rfl⟩
    case round =>
      obtain ⟨k, hk, rfl, hb, hall⟩ := hrel
      have HA := Lib.hid hall
      have HB := Lib.hid hb
      clear hall hb
      by_cases hlt : k < n
      · have hkl : k < l.length := by have := HN.out; omega
        obtain ⟨x, hx⟩ : ∃ x, l[k]? = some x := ⟨_, List.getElem?_eq_getElem hkl⟩
        obtain ⟨c0, c1, c2⟩ := HC.out k x hx
        have ho := Only.ofBelow (S := fun _ => False) HB.out
        have d0 := ho.cell c0 id
        have d1 := ho.cell c1 id
        have d2 := ho.cell c2 id
        have hdr := allE_drop l k x hx
        have HXL := Lib.hid (HL.out x (List.mem_of_getElem? hx))
        obtain ⟨E, hE⟩ : ∃ E, E = x.e := ⟨_, rfl⟩
        rw [← hE] at hdr
        have HCK : Hid (Calls Tryz.prog 33 #[.agg #[.string (S x.op), .int .i64 x.n, .string (S x.s)]] wr (CheckRef E wr)) := Lib.hid (by rw [hE]; exact refcheck_any x.op x.n x.s wr HXL.out)
        have HDR := Lib.hid hdr
        clear c0 c1 c2 hx hkl ho hdr hE
        have hk0 : (0 : Int) ≤ k := by omega
        have hkn : (k : Int) < (n : Int) := by omega
        go_wp2_with fail
        refine HCK.out.mono ?_
        rintro e w1 ⟨rfl, hb1⟩
        have hbw : Below w.heap.size w w1 := HB.out.trans (hb1.mono HB.out.size)
        have HBW := Lib.hid hbw
        clear hb1 hbw d0 d1 d2 HCK
        by_cases hz : E = 0
        · subst hz
          go_wp2
          go_roundw
          case rel => exact ⟨k + 1, by omega, by go_num, HBW.out, by rw [HA.out]; exact HDR.out⟩
          case measure => simp [intOf]; omega
        · have hzb : ((E : Int) != 0) = true := by rw [bne_iff_ne]; omega
          have HZ := Lib.hid hz
          clear hz
          go_wp2
          go_ret
          refine ⟨?_, HBW.out⟩
          rw [HA.out, HDR.out, if_neg HZ.out]
          rfl
      · obtain rfl : k = n := by omega
        have hz : allE l = 0 := by rw [HA.out, List.drop_of_length_le (by rw [HN.out]; exact Nat.le_refl _)]; rfl
        have HZ := Lib.hid hz
        clear hz
        go_wp2
        go_ret
        exact ⟨by rw [HZ.out]; rfl, HB.out⟩
set_option maxHeartbeats 2000000 in
set_option maxRecDepth 100000 in
theorem refsame_any (l : List Ins) (sa sb : Value) (w : World) (ha : InsSrc w sa l) (hb : InsSrc w sb l) (hlen : l.length ≤ 1099511627776) :
    Calls Tryz.prog 14 #[sa, sb] w fun e w' => e = .returned (.bool true) ∧ Below w.heap.size w w' := by
  obtain ⟨n, hn⟩ : ∃ n, n = l.length := ⟨_, rfl⟩
  rw [← hn] at hlen
  have sha : ∃ ao ca, sa = .slice ao n ca := by
    rcases ha with ⟨ao, cp0, rfl, rfl⟩ | ⟨b, o, cap, rfl, _⟩
    · exact ⟨_, _, by rw [hn]; rfl⟩
    · exact ⟨_, _, by rw [hn]⟩
  have shb : ∃ ao ca, sb = .slice ao n ca := by
    rcases hb with ⟨ao, cp0, rfl, rfl⟩ | ⟨b, o, cap, rfl, _⟩
    · exact ⟨_, _, by rw [hn]; rfl⟩
    · exact ⟨_, _, by rw [hn]⟩
  by_cases h0 : n = 0
  · obtain ⟨a1, c1, rfl⟩ := sha
    obtain ⟨a2, c2, rfl⟩ := shb
    subst h0
    clear ha hb hn
    go_enter Tryz.func14, Tryz.ntmps14
    go_wp2
    go_loopw [5] (fun v5 wr => v5 = .int .i64 0 ∧ wr = w) (fun _ _ => 0)
    case atStart => exact ⟨rfl, rfl⟩
    case round =>
      obtain ⟨rfl, rfl⟩ := hrel
      go_wp2
      go_ret
      exact ⟨rfl, Below.refl _ _⟩
  · clear sha shb
    rcases ha with ⟨ao, cp0, rfl, rfl⟩ | ⟨b1, o1, cap1, rfl, hc1⟩
    · exact absurd hn h0
    rcases hb with ⟨ao, cp0, rfl, rfl⟩ | ⟨b2, o2, cap2, rfl, hc2⟩
    · exact absurd hn h0
    rw [← hn]
    have HC1 := Lib.hid hc1
    have HC2 := Lib.hid hc2
    have HN := Lib.hid hn
    clear hc1 hc2 hn h0
    go_enter Tryz.func14, Tryz.ntmps14
    go_wp2
    go_loopw [5] (fun v5 wr => ∃ k : Nat, k ≤ n ∧ v5 = .int .i64 k ∧ Below w.heap.size w wr) (fun v5 _ => n - (intOf v5).toNat)
    case atStart => exact ⟨0, Nat.zero_le _, rfl, Below.refl _ _⟩
    case round =>
      obtain ⟨k, hk, rfl, hbl⟩ := hrel
      have HB := Lib.hid hbl
      clear hbl
      by_cases hlt : k < n
      · have hkl : k < l.length := by have := HN.out; omega
        obtain ⟨x, hx⟩ : ∃ x, l[k]? = some x := ⟨_, List.getElem?_eq_getElem hkl⟩
        obtain ⟨c0, c1, c2⟩ := HC1.out k x hx
        obtain ⟨d0, d1, d2⟩ := HC2.out k x hx
        have ho := Only.ofBelow (S := fun _ => False) HB.out
        have a0 := ho.cell c0 id
        have a1 := ho.cell c1 id
        have a2 := ho.cell c2 id
        have f0 := ho.cell d0 id
        have f1 := ho.cell d1 id
        have f2 := ho.cell d2 id
        have hk0 : (0 : Int) ≤ k := by omega
        have hkn : (k : Int) < (n : Int) := by omega
        clear c0 c1 c2 d0 d1 d2 hx hkl ho
        go_wp2_with (go_quiet (fail))
        go_roundw
        case rel => exact ⟨k + 1, by omega, by go_num, HB.out.trans ((below_drewN wr _).mono HB.out.size)⟩
        case measure => simp [intOf]; omega
      · obtain rfl : k = n := by omega
        go_wp2
        go_ret
        exact ⟨rfl, HB.out⟩
/-- How a sum of two texts is spelled, and that it fits. -/
theorem cat_ok (a b : List UInt8) (h : a.length + b.length ≤ 1099511627776) : S a ++ S b = S (a ++ b) ∧ ¬ (9223372036854775807 < (S a).size + (S b).size) := by
  refine ⟨S_append a b, ?_⟩
  rw [S_size, S_size]
  omega
set_option maxHeartbeats 2000000 in
set_option maxRecDepth 100000 in
theorem refput_any (l : List Ins) (sv : Value) (w : World) (hs : InsSrc w sv l) (hz : allE l = 0) (hok : ∀ x ∈ l, x.ok) (hlen : l.length ≤ 500000) :
    Calls Tryz.prog 12 #[sv] w fun e w' => e = .returned (.string (S (putL l))) ∧ Below w.heap.size w w' := by
  obtain ⟨n, hn⟩ : ∃ n, n = l.length := ⟨_, rfl⟩
  obtain ⟨so, sc, hsv⟩ : ∃ so sc, sv = .slice so n sc := by
    rcases hs with ⟨ao, cp0, rfl, rfl⟩ | ⟨b, o, cap, rfl, _⟩
    · exact ⟨_, _, by rw [hn]; rfl⟩
    · exact ⟨_, _, by rw [hn]⟩
  have hcell : 0 < n → ∃ b o, so = some ⟨b, o, none⟩ ∧ ∀ k x, l[k]? = some x → w.cell? ⟨b, o + k * 3, none⟩ = some (.string (S x.op)) ∧ w.cell? ⟨b, o + k * 3 + 1, none⟩ = some (.int .i64 x.n) ∧ w.cell? ⟨b, o + k * 3 + 2, none⟩ = some (.string (S x.s)) := by
    intro h0
    rcases hs with ⟨ao, cp0, rfl, rfl⟩ | ⟨b, o, cap, rfl, hc⟩
    · simp at hn; omega
    · cases hsv
      exact ⟨b, o, rfl, hc⟩
  subst hsv
  have HC := Lib.hid hcell
  have HN := Lib.hid hn
  have HOK := Lib.hid hok
  have HZ := Lib.hid hz
  rw [← hn] at hlen
  have HV0 := Lib.hid (refvar_any n (by omega) w)
  clear hs hcell hn hok hz
  go_enter Tryz.func12, Tryz.ntmps12
  go_wp2_with (go_at_call 17; refine HV0.out.mono ?_; rintro e w1 ⟨rfl, hb1⟩)
  clear HV0
  go_loopw [3, 4] (fun v3 v4 wr => ∃ k : Nat, k ≤ n ∧ v4 = .int .i64 k ∧ v3 = .string (S (Lib.uvarint l.length ++ (l.take k).flatMap Ins.bytes)) ∧ Below w.heap.size w wr) (fun _ v4 _ => n - (intOf v4).toNat)
  case atStart => exact ⟨0, Nat.zero_le _, rfl, by rw [HN.out]; simp, hb1⟩
  case round =>
    obtain ⟨k, hk, rfl, rfl, hbl⟩ := hrel
    have HB := Lib.hid hbl
    clear hbl hb1
    by_cases hlt : k < n
    · have hkl : k < l.length := by have := HN.out; omega
      obtain ⟨x, hx⟩ : ∃ x, l[k]? = some x := ⟨_, List.getElem?_eq_getElem hkl⟩
      obtain ⟨b, o, rfl, hcc⟩ := HC.out (by omega)
      have HCB : Hid (∀ W, Below w.heap.size w W → W.cell? ⟨b, o + k * 3, none⟩ = some (.string (S x.op)) ∧ W.cell? ⟨b, o + k * 3 + 1, none⟩ = some (.int .i64 x.n) ∧ W.cell? ⟨b, o + k * 3 + 2, none⟩ = some (.string (S x.s))) := Lib.hid (fun W hW => by
        obtain ⟨c0, c1, c2⟩ := hcc k x hx
        have ho := Only.ofBelow (S := fun _ => False) hW
        exact ⟨ho.cell c0 id, ho.cell c1 id, ho.cell c2 id⟩)
      have hxm := List.mem_of_getElem? hx
      have hxo := HOK.out x hxm
      have hxe := allE_mem l HZ.out x hxm
      obtain ⟨hi, _, hfn, _⟩ := ins_fine hxe
      have hsn := ins_snoc l k x hx
      obtain ⟨A, hA⟩ : ∃ A, A = Lib.uvarint l.length ++ (l.take k).flatMap Ins.bytes := ⟨_, rfl⟩
      have hAl : A.length ≤ 549755813888 := by
        have h1 := insBytes_le (l.take k) (fun y hy => HOK.out y (List.mem_of_mem_take hy))
        have h2 : (l.take k).length ≤ 500000 := by rw [List.length_take]; omega
        have h3 : (Lib.uvarint l.length).length ≤ 10 := Lib.uvarint_length64 (by have := HN.out; omega)
        rw [hA, List.length_append]
        omega
      have hnx : Lib.uvarint l.length ++ (l.take (k + 1)).flatMap Ins.bytes = A ++ (Lib.uvarint (idx x.op) ++ argBytes (hasAt (idx x.op)) x.n x.s) := by rw [hsn, ← List.append_assoc, ← hA]; rfl
      rw [← hA]
      have hul : (Lib.uvarint (idx x.op)).length ≤ 10 := Lib.uvarint_length64 (by omega)
      have hxs := hxo.2
      have hxn := hxo.1
      have HNX := Lib.hid hnx
      obtain ⟨hc1, hd1⟩ := cat_ok A (Lib.uvarint (idx x.op)) (by omega)
      have HNB : Hid (∀ W, Calls Tryz.prog 34 #[.string (S x.op)] W fun e w' => e = .returned (.int .i64 (idx x.op : Nat)) ∧ Below W.heap.size W w') := Lib.hid (fun W => by
        have h := refnumber_any x.op W
        rw [if_pos hi] at h
        exact h)
      have HTK : Hid (∀ W, Calls Tryz.prog 35 #[.string (S x.op)] W fun e w' => e = .returned (.int .i64 (refT x.op)) ∧ Below W.heap.size W w') := Lib.hid (fun W => reftakes_any x.op W)
      have hrt : refT x.op = if hasAt (idx x.op) = 1 then 1 else if 2 ≤ hasAt (idx x.op) then 2 else 0 := if_pos hi
      rw [hrt] at HTK
      have HVR := Lib.hid (fun W => refvar_any (idx x.op) (by omega) W)
      have HIN := Lib.hid (fun W => refint_any x.n W hxn.1 hxn.2)
      have HTX := Lib.hid (fun W => reftext_any x.s W (by omega))
      have hq : idx x.op < 42 := hi
      generalize idx x.op = q at HNB HVR HNX hc1 hd1 hul hq HTK
      clear hx hkl hcc hxm hxo hxe hi hfn hsn hA hnx hrt
      generalize hasAt q = h at HTK HNX
      have hk0 : (0 : Int) ≤ k := by omega
      have hkn : (k : Int) < (n : Int) := by omega
      have hq0 : (0 : Int) ≤ q := by omega
      have hq1 : (q : Int) < 42 := by omega
      obtain ⟨d0, d1, d2⟩ := HCB.out wr HB.out
      have hAL := Lib.hid hAl
      have HXS := Lib.hid hxs
      have HXN := Lib.hid hxn
      have HUL := Lib.hid hul
      clear hAl hxs hxn hul d1 d2
      go_wp2_with fail
      refine (HNB.out wr).mono ?_
      rintro e w2 ⟨rfl, hb2⟩
      have hbw2 : Below w.heap.size w w2 := HB.out.trans (hb2.mono HB.out.size)
      clear hb2 d0
      go_wp2_with fail
      refine (HVR.out w2).mono ?_
      rintro e w3 ⟨rfl, hb3⟩
      have hbw3 : Below w.heap.size w w3 := hbw2.trans (hb3.mono hbw2.size)
      clear hb3 hbw2
      obtain ⟨d0, d1, d2⟩ := HCB.out w3 hbw3
      have HB3 := Lib.hid hbw3
      clear hbw3 d1 d2
      go_wp2_with fail
      refine (HTK.out w3).mono ?_
      rintro e w4 ⟨rfl, hb4⟩
      have hbw4 : Below w.heap.size w w4 := HB3.out.trans (hb4.mono HB3.out.size)
      obtain ⟨f0, f1, f2⟩ := HCB.out w4 hbw4
      have HB4 := Lib.hid hbw4
      clear hbw4 hb4 d0 f0 hc1 hd1 HTK HVR HNB
      by_cases h1 : h = 1
      · subst h1
        rw [if_pos rfl]
        rw [show argBytes 1 x.n x.s = Lib.uvarint (Lib.zigzag x.n) from if_pos rfl] at HNX
        have hzl : (Lib.uvarint (Lib.zigzag x.n)).length ≤ 10 := Lib.uvarint_length64 (Lib.zigzag_lt HXN.out.1 HXN.out.2)
        obtain ⟨hc2, hd2⟩ := cat_ok (A ++ Lib.uvarint q) (Lib.uvarint (Lib.zigzag x.n)) (by rw [List.length_append]; have := hAL.out; have := HUL.out; omega)
        clear hzl f2
        go_wp2_with (go_at_call 36; refine (HIN.out _).mono ?_; rintro e w5 ⟨rfl, hb5⟩)
        have hbw5 : Below w.heap.size w w5 := HB4.out.trans (hb5.mono HB4.out.size)
        go_roundw
        case rel => exact ⟨k + 1, by omega, by go_num, by first | rw [HNX.out] | rw [HNX.out, List.append_assoc], hbw5⟩
        case measure => simp [intOf]; omega
      · rw [if_neg h1]
        by_cases h2 : 2 ≤ h
        · rw [if_pos h2]
          rw [show argBytes h x.n x.s = textBytes x.s from (if_neg h1).trans (if_pos h2)] at HNX
          have htl : (textBytes x.s).length ≤ 1048590 := by
            have h3 : (Lib.uvarint x.s.length).length ≤ 10 := Lib.uvarint_length64 (by have := HXS.out; omega)
            have := HXS.out
            unfold textBytes
            rw [List.length_append]
            omega
          obtain ⟨hc2, hd2⟩ := cat_ok (A ++ Lib.uvarint q) (textBytes x.s) (by rw [List.length_append]; have := hAL.out; have := HUL.out; omega)
          clear htl f1 h1 h2
          go_wp2_with (go_at_call 37; refine (HTX.out _).mono ?_; rintro e w5 ⟨rfl, hb5⟩)
          have hbw5 : Below w.heap.size w w5 := HB4.out.trans (hb5.mono HB4.out.size)
          go_roundw
          case rel => exact ⟨k + 1, by omega, by go_num, by first | rw [HNX.out] | rw [HNX.out, List.append_assoc], hbw5⟩
          case measure => simp [intOf]; omega
        · rw [if_neg h2]
          rw [show argBytes h x.n x.s = [] from (if_neg h1).trans (if_neg h2)] at HNX
          clear f1 f2 h1 h2
          go_wp2
          go_roundw
          case rel => exact ⟨k + 1, by omega, by go_num, by rw [HNX.out, List.append_nil], HB4.out⟩
          case measure => simp [intOf]; omega
    · obtain rfl : k = n := by omega
      have hful : l.take k = l := List.take_of_length_le (by have := HN.out; omega)
      rw [hful]
      go_wp2
      go_ret
      exact ⟨rfl, HB.out⟩
end Go.Proofs.YtcoobdbfgiiejaaGreatDoor
namespace Go.Proofs.YtcoobdbfgiiejaaGreatDoor
open Go.RowKit
theorem run_append_none {P : Program} (w : World) (t ty e : TypeId) (i : TypeInfo) (size : Nat) (ht : P.underlying t = some (.slice e)) (hi : P.info? e = some i)
    (v : Value) (n : Nat) (xs : List Value) (hown : w.ownsRow 0 e size v n xs) (A : Option Addr) (c : Nat) : (Builtin.append_ #[t, t] ty #[v, .slice A 0 c]).run P w = .ok v w := by
  rcases hown.2 with ⟨rfl, rfl⟩ | ⟨g, cap, cur, rfl, _, hg, hnc, _, hcs, htake⟩
  · cases A <;> simp [Builtin.append_, run_underlying ht, sizeOf, typeInfo, hi, Builtin.lenOf, Builtin.firstCells, loadCells, loadCellsFrom]
  · cases A <;> simp [Builtin.append_, run_underlying ht, sizeOf, typeInfo, hi, Builtin.lenOf, Builtin.firstCells, hnc, storeCells, loadCells, loadCellsFrom]
theorem insCells_len (l : List Ins) : (insCells l).length = l.length * 3 := by
  induction l with
  | nil => rfl
  | cons x l ih =>
    unfold insCells at ih ⊢
    rw [List.flatMap_cons, List.length_append, ih, List.length_cons]
    simp
    omega
theorem insCells_one (l : List Ins) : ∀ u ∈ insCells l, u.oneCell' = true := by
  intro u hu
  unfold insCells at hu
  obtain ⟨x, _, hx⟩ := List.mem_flatMap.1 hu
  simp at hx
  rcases hx with rfl | rfl | rfl <;> rfl
theorem src_cells {w : World} {b o : Nat} {l : List Ins} (hc : ∀ k x, l[k]? = some x → w.cell? ⟨b, o + k * 3, none⟩ = some (.string (S x.op)) ∧ w.cell? ⟨b, o + k * 3 + 1, none⟩ = some (.int .i64 x.n) ∧ w.cell? ⟨b, o + k * 3 + 2, none⟩ = some (.string (S x.s))) :
    ∀ j u, (insCells l)[j]? = some u → w.cell? ((⟨b, o, none⟩ : Addr).add j) = some u := by
  intro j u hj
  have hjl : j < l.length * 3 := by
    rcases Nat.lt_or_ge j (l.length * 3) with h | h
    · exact h
    · rw [List.getElem?_eq_none (by rw [insCells_len]; exact h)] at hj; cases hj
  have hk : j / 3 < l.length := by omega
  have hx : l[j / 3]? = some l[j / 3] := List.getElem?_eq_getElem hk
  obtain ⟨c0, c1, c2⟩ := hc _ _ hx
  obtain ⟨i0, i1, i2⟩ := insCells_at l _ _ hx
  rw [Addr.add_mid]
  rcases (show j = j / 3 * 3 ∨ j = j / 3 * 3 + 1 ∨ j = j / 3 * 3 + 2 by omega) with h | h | h
  · rw [h] at hj ⊢
    rw [i0] at hj
    cases hj
    exact c0
  · rw [h] at hj ⊢
    rw [i1] at hj
    cases hj
    rw [← Nat.add_assoc]
    exact c1
  · rw [h] at hj ⊢
    rw [i2] at hj
    cases hj
    rw [← Nat.add_assoc]
    exact c2
theorem copy_ins (w : World) (ty : TypeId) (sv : Value) (l : List Ins) (hs : InsSrc w sv l) (hlen : l.length ≤ 1048576) :
    ∃ v' w', (Builtin.append_ #[22, 22] ty #[.slice (some ⟨w.heap.size, 0, none⟩) 0 0, sv]).run Tryz.prog (w.alloc (.cells #[] 50)) = .ok v' w' ∧ IR w w' v' l ∧ Below w.heap.size w w' := by
  obtain ⟨j0, hji, hz0, hz1, hz2⟩ := info_parts info_ins
  have hb0 : Below w.heap.size w (w.alloc (.cells #[] 50)) := (Below.refl _ w).alloc (Nat.le_refl _) _
  have hown : (w.alloc (.cells #[] 50)).ownsRow 0 50 3 (.slice (some ⟨w.heap.size, 0, none⟩) 0 0) 0 [] :=
    ⟨rfl, .inr ⟨w.heap.size, 0, #[], rfl, Nat.zero_le _, heap_alloc_new w _, Nat.le_refl _, Nat.zero_le _, rfl, rfl⟩⟩
  rcases hs with ⟨ao, cp, rfl, rfl⟩ | ⟨b, o, cap, rfl, hc⟩
  · refine ⟨_, _, run_append_none _ _ ty _ j0 3 Tryz.underlying22 hji _ 0 [] hown ao cp, ⟨hown, fun g hg => ?_⟩, hb0⟩
    simp [Value.ownBlock] at hg
    omega
  · have ho := Only.ofBelow (S := fun _ => False) hb0
    obtain ⟨v', w', hr, h2, h3⟩ := run_append_fine (P := Tryz.prog) (w.alloc (.cells #[] 50)) 22 ty 50 j0 (.agg #[.string ⟨#[]⟩, .int .i64 0, .string ⟨#[]⟩]) 3 40 Tryz.underlying22 hji hz0 hz1 hz2 rfl (by decide)
      _ 0 [] hown ⟨b, o, none⟩ l.length cap (insCells l) (insCells_len l) (src_cells (fun k x hx => by
        obtain ⟨c0, c1, c2⟩ := hc k x hx
        exact ⟨ho.cell c0 id, ho.cell c1 id, ho.cell c2 id⟩)) (insCells_one l) (by unfold maxLen; omega) (by omega)
    rw [Nat.zero_add, List.nil_append] at h2
    refine ⟨v', w', hr, ⟨h2, fun g hg => ?_⟩, hb0.trans (h3.only.below hb0.size (fun k hk => by simp [Value.ownBlock] at hk; omega))⟩
    rcases h3.came with e | e
    · rw [e] at hg
      simp [Value.ownBlock] at hg
      omega
    · have := e g hg
      simp at this
      omega
end Go.Proofs.YtcoobdbfgiiejaaGreatDoor
