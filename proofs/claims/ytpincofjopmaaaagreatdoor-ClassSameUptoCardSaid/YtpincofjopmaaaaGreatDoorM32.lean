/-
  The contracts of the document's All, Put and Same of layer 4.
  Conditions: the instructions lie in memory that was there before; texts have at most 2^20 bytes; at most 2^20 instructions.
  The contracts of package class's Sign and of the document's Sign of layer 5.
  Conditions: the method's parts lie in memory that was there before; what is signed has at most 2^46 bytes.
-/
import Derived.Test.YtpincofjopmaaaaGreatDoorM18
import Derived.Test.YtpincofjopmaaaaGreatDoorM31
import Derived.Test.YtpincofjopmaaaaGreatDoorM15
import Derived.Test.YtpincofjopmaaaaGreatDoorM29
import Derived.Test.YtpincofjopmaaaaGreatDoorM30
import Derived.Test.YtpincofjopmaaaaGreatDoorM22
import Derived.Deep.RegionHeld
import Derived.Deep.DrawnRows
namespace Go.Proofs.YtpincofjopmaaaaGreatDoor
open Go.RowKit
set_option maxHeartbeats 2000000 in
set_option maxRecDepth 100000 in
theorem refall_any (l : List Ins) (sv : Value) (w : World) (hs : InsSrc w sv l) (hlim : ∀ x ∈ l, x.s.length ≤ 9223372036854775807) (hlen : l.length ≤ 9223372036854775807) :
    Calls Tryz.prog 180 #[sv] w fun e w' => e = .returned (.int .i64 (allE l : Nat)) ∧ Below w.heap.size w w' := by
  have HL := Lib.hid hlim
  clear hlim
  rcases hs with ⟨ao, cp0, rfl, rfl⟩ | ⟨b, o, cap, rfl, hc⟩
  · go_enter Tryz.func180, Tryz.ntmps180
    go_wp2
    go_loopw [3] (fun v3 wr => v3 = .int .i64 0 ∧ wr = w) (fun _ _ => 0)
    case atStart => exact ⟨rfl, rfl⟩
    case round =>
      obtain ⟨rfl, rfl⟩ := hrel
      go_wp2
      go_ret
      exact ⟨rfl, Below.refl _ _⟩
  · have HC := Lib.hid hc
    obtain ⟨n, hn⟩ : ∃ n, n = l.length := ⟨_, rfl⟩
    rw [← hn] at hlen ⊢
    have HN := Lib.hid hn
    clear hc hn
    go_enter Tryz.func180, Tryz.ntmps180
    go_wp2
    go_loopw [3] (fun v3 wr => ∃ k : Nat, k ≤ n ∧ v3 = .int .i64 k ∧ Below w.heap.size w wr ∧ allE l = allE (l.drop k)) (fun v3 _ => n - (intOf v3).toNat)
    case atStart => exact ⟨0, Nat.zero_le _, rfl, Below.refl _ _, rfl⟩
    case round =>
      obtain ⟨k, hk, rfl, hb, hall⟩ := hrel
      have HA := Lib.hid hall
      have HB := Lib.hid hb
      clear hall hb
      by_cases hlt : k < n
      · have hkl : k < l.length := by have := HN.out; omega
        obtain ⟨x, hx⟩ : ∃ x, l[k]? = some x := ⟨_, List.getElem?_eq_getElem hkl⟩
        obtain ⟨c0, c1, c2⟩ := HC.out k x hx
        have ho := Only.ofBelow (S := fun _ => False) HB.out
        have d0 := ho.cell c0 id
        have d1 := ho.cell c1 id
        have d2 := ho.cell c2 id
        have hdr := allE_drop l k x hx
        have HXL := Lib.hid (HL.out x (List.mem_of_getElem? hx))
        obtain ⟨E, hE⟩ : ∃ E, E = x.e := ⟨_, rfl⟩
        rw [← hE] at hdr
        have HCK : Hid (Calls Tryz.prog 241 #[.agg #[.string (S x.op), .int .i64 x.n, .string (S x.s)]] wr (CheckRef E wr)) := Lib.hid (by rw [hE]; exact refcheck_any x.op x.n x.s wr HXL.out)
        have HDR := Lib.hid hdr
        clear c0 c1 c2 hx hkl ho hdr hE
        have hk0 : (0 : Int) ≤ k := by omega
        have hkn : (k : Int) < (n : Int) := by omega
        go_wp2_with fail
        refine HCK.out.mono ?_
        rintro e w1 ⟨rfl, hb1⟩
        have hbw : Below w.heap.size w w1 := HB.out.trans (hb1.mono HB.out.size)
        have HBW := Lib.hid hbw
        clear hb1 hbw d0 d1 d2 HCK
        by_cases hz : E = 0
        · subst hz
          go_wp2
          go_roundw
          case rel => exact ⟨k + 1, by omega, by go_num, HBW.out, by rw [HA.out]; exact HDR.out⟩
          case measure => simp [intOf]; omega
        · have hzb : ((E : Int) != 0) = true := by rw [bne_iff_ne]; omega
          have HZ := Lib.hid hz
          clear hz
          go_wp2
          go_ret
          refine ⟨?_, HBW.out⟩
          rw [HA.out, HDR.out, if_neg HZ.out]
          rfl
      · obtain rfl : k = n := by omega
        have hz : allE l = 0 := by rw [HA.out, List.drop_of_length_le (by rw [HN.out]; exact Nat.le_refl _)]; rfl
        have HZ := Lib.hid hz
        clear hz
        go_wp2
        go_ret
        exact ⟨by rw [HZ.out]; rfl, HB.out⟩
set_option maxHeartbeats 2000000 in
set_option maxRecDepth 100000 in
theorem refsame_any (l : List Ins) (sa sb : Value) (w : World) (ha : InsSrc w sa l) (hb : InsSrc w sb l) (hlen : l.length ≤ 9223372036854775807) :
    Calls Tryz.prog 110 #[sa, sb] w fun e w' => e = .returned (.bool true) ∧ Below w.heap.size w w' := by
  obtain ⟨n, hn⟩ : ∃ n, n = l.length := ⟨_, rfl⟩
  rw [← hn] at hlen
  have sha : ∃ ao ca, sa = .slice ao n ca := by
    rcases ha with ⟨ao, cp0, rfl, rfl⟩ | ⟨b, o, cap, rfl, _⟩
    · exact ⟨_, _, by rw [hn]; rfl⟩
    · exact ⟨_, _, by rw [hn]⟩
  have shb : ∃ ao ca, sb = .slice ao n ca := by
    rcases hb with ⟨ao, cp0, rfl, rfl⟩ | ⟨b, o, cap, rfl, _⟩
    · exact ⟨_, _, by rw [hn]; rfl⟩
    · exact ⟨_, _, by rw [hn]⟩
  by_cases h0 : n = 0
  · obtain ⟨a1, c1, rfl⟩ := sha
    obtain ⟨a2, c2, rfl⟩ := shb
    subst h0
    clear ha hb hn
    go_enter Tryz.func110, Tryz.ntmps110
    go_wp2
    go_loopw [5] (fun v5 wr => v5 = .int .i64 0 ∧ wr = w) (fun _ _ => 0)
    case atStart => exact ⟨rfl, rfl⟩
    case round =>
      obtain ⟨rfl, rfl⟩ := hrel
      go_wp2
      go_ret
      exact ⟨rfl, Below.refl _ _⟩
  · clear sha shb
    rcases ha with ⟨ao, cp0, rfl, rfl⟩ | ⟨b1, o1, cap1, rfl, hc1⟩
    · exact absurd hn h0
    rcases hb with ⟨ao, cp0, rfl, rfl⟩ | ⟨b2, o2, cap2, rfl, hc2⟩
    · exact absurd hn h0
    rw [← hn]
    have HC1 := Lib.hid hc1
    have HC2 := Lib.hid hc2
    have HN := Lib.hid hn
    clear hc1 hc2 hn h0
    go_enter Tryz.func110, Tryz.ntmps110
    go_wp2
    go_loopw [5] (fun v5 wr => ∃ k : Nat, k ≤ n ∧ v5 = .int .i64 k ∧ Below w.heap.size w wr) (fun v5 _ => n - (intOf v5).toNat)
    case atStart => exact ⟨0, Nat.zero_le _, rfl, Below.refl _ _⟩
    case round =>
      obtain ⟨k, hk, rfl, hbl⟩ := hrel
      have HB := Lib.hid hbl
      clear hbl
      by_cases hlt : k < n
      · have hkl : k < l.length := by have := HN.out; omega
        obtain ⟨x, hx⟩ : ∃ x, l[k]? = some x := ⟨_, List.getElem?_eq_getElem hkl⟩
        obtain ⟨c0, c1, c2⟩ := HC1.out k x hx
        obtain ⟨d0, d1, d2⟩ := HC2.out k x hx
        have ho := Only.ofBelow (S := fun _ => False) HB.out
        have a0 := ho.cell c0 id
        have a1 := ho.cell c1 id
        have a2 := ho.cell c2 id
        have f0 := ho.cell d0 id
        have f1 := ho.cell d1 id
        have f2 := ho.cell d2 id
        have hk0 : (0 : Int) ≤ k := by omega
        have hkn : (k : Int) < (n : Int) := by omega
        clear c0 c1 c2 d0 d1 d2 hx hkl ho
        go_wp2_with (go_quiet (fail))
        go_roundw
        case rel => exact ⟨k + 1, by omega, by go_num, HB.out.trans ((below_drewN wr _).mono HB.out.size)⟩
        case measure => simp [intOf]; omega
      · obtain rfl : k = n := by omega
        go_wp2
        go_ret
        exact ⟨rfl, HB.out⟩
/-- How a sum of two texts is spelled, and that it fits. -/
theorem cat_ok (a b : List UInt8) (h : a.length + b.length ≤ 9223372036854775807) : S a ++ S b = S (a ++ b) ∧ ¬ (9223372036854775807 < (S a).size + (S b).size) := by
  refine ⟨S_append a b, ?_⟩
  rw [S_size, S_size]
  omega
end Go.Proofs.YtpincofjopmaaaaGreatDoor
namespace Go.Proofs.YtpincofjopmaaaaGreatDoor
open Go.RowKit
def signB (m : Mth) : List UInt8 := [40] ++ (Lib.join m.params [44] ++ ([41] ++ m.res))
/-- What is signed is not too long. -/
def Mth.brief (m : Mth) : Prop := (Lib.join m.params [44]).length ≤ 70368744177664 ∧ m.res.length ≤ 70368744177664 ∧ m.params.length ≤ 70368744177664
theorem map_S (l : List (List UInt8)) : (l.map S).map (·.data.toList) = l := by
  rw [List.map_map]
  conv => rhs; rw [← List.map_id l]
  exact List.map_congr_left (fun x _ => rfl)
theorem join_any {A : Nat → Prop} {w : World} {po : Option Addr} {pc : Nat} (l : List (List UInt8)) (hs : Src 1 StrR A w (.slice po l.length pc) l) (hl : (Lib.join l [44]).length ≤ 70368744177664) (hn : l.length ≤ 70368744177664) :
    Calls Tryz.prog 47 #[.slice po l.length pc, .string ⟨#[44]⟩] w fun e w' => e = .returned (.string (S (Lib.join l [44]))) ∧ Below w.heap.size w w' := by
  rcases hs with ⟨ao, cp0, he, rfl⟩ | ⟨b, o, cap, he, ⟨_, hb, hc, _⟩, hcl⟩
  · exact (strings_Join_none po pc ⟨#[44]⟩ w).mono fun e w' ⟨h1, h2⟩ => ⟨h1, h2 ▸ Below.refl _ _⟩
  · simp at he
    obtain ⟨rfl, rfl⟩ := he
    have h := strings_Join b o pc (l.map S) ⟨#[44]⟩ w (fun j x hx => by
      rw [List.getElem?_map, Option.map_eq_some_iff] at hx
      obtain ⟨y, hy, rfl⟩ := hx
      obtain ⟨v, hv, _, hcv⟩ := hcl j y hy
      obtain rfl := hv
      have q := hcv 0 _ rfl
      rw [Nat.mul_one] at q
      exact q) hb (by rw [List.length_map]; omega) (by rw [List.length_map]; exact hc) (by rw [map_S]; show (Lib.join l [44]).length ≤ _; omega)
    rw [map_S, List.length_map] at h
    exact h
set_option maxHeartbeats 4000000 in
set_option maxRecDepth 100000 in
theorem csign_any {A : Nat → Prop} (m : Mth) (v : Value) (w : World) (hv : MthR A w m v) (hb : m.brief) :
    Calls Tryz.prog 16 #[v] w (SaidS (signB m) w) := by
  obtain ⟨pv, cv, kv, rfl, hp, hcd, hkt⟩ := hv
  obtain ⟨po, pc, rfl⟩ := hp.shape
  obtain ⟨co, cc, rfl⟩ := hcd.shape
  obtain ⟨ko, kc, rfl⟩ := hkt.shape
  have hb0 : Below w.heap.size w (w.alloc (.cells #[.string (S m.name), .slice po m.params.length pc, .string (S m.res), .bool m.abs, .int .i64 m.loc, .slice co m.code.length cc, .slice ko m.cats.length kc] 33)) := (Below.refl _ w).alloc (Nat.le_refl _) _
  have HB0 := Lib.hid hb0
  have HBX := Lib.hid (Box.new w #[.string (S m.name), .slice po m.params.length pc, .string (S m.res), .bool m.abs, .int .i64 m.loc, .slice co m.code.length cc, .slice ko m.cats.length kc] 33)
  have HJ : Hid (∀ W, Below (w.alloc (.cells #[.string (S m.name), .slice po m.params.length pc, .string (S m.res), .bool m.abs, .int .i64 m.loc, .slice co m.code.length cc, .slice ko m.cats.length kc] 33)).heap.size (w.alloc (.cells #[.string (S m.name), .slice po m.params.length pc, .string (S m.res), .bool m.abs, .int .i64 m.loc, .slice co m.code.length cc, .slice ko m.cats.length kc] 33)) W → Calls Tryz.prog 47 #[.slice po m.params.length pc, .string ⟨#[44]⟩] W fun e w' => e = .returned (.string (S (Lib.join m.params [44]))) ∧ Below W.heap.size W w') := Lib.hid (fun W hW => join_any m.params (StrR.st.below (StrR.st.below hp hb0) hW) hb.1 hb.2.2)
  have e1 : S (signB m) = S [40] ++ S (Lib.join m.params [44]) ++ S [41] ++ S m.res := by unfold signB; rw [S_append, S_append, S_append]; congr 1; simp
  have hj : (S (Lib.join m.params [44])).size ≤ 70368744177664 := by rw [S_size]; exact hb.1
  have hr : (S m.res).size ≤ 70368744177664 := by rw [S_size]; exact hb.2.1
  clear hp hcd hkt hb0 hb
  obtain ⟨R, hR⟩ : ∃ R, R = S (signB m) := ⟨_, rfl⟩
  unfold SaidS
  rw [← hR]
  rw [← hR] at e1
  generalize S (Lib.join m.params [44]) = uJ at HJ hj e1
  have HE := Lib.hid e1
  clear e1 hR
  obtain ⟨name, params, res, ab, loc, code, cats⟩ := m
  dsimp only at *
  generalize S res = uR at HB0 HBX HJ HE hr ⊢
  generalize params.length = n1 at *
  generalize code.length = n2 at *
  generalize cats.length = n3 at *
  go_enter Tryz.func16, Tryz.ntmps16
  go_upto_region 1 with fail
  generalize w.alloc (.cells #[.string (S name), .slice po n1 pc, .string uR, .bool ab, .int .i64 loc, .slice co n2 cc, .slice ko n3 kc] 33) = W0 at HB0 HBX HJ ⊢
  obtain ⟨B, hB⟩ : ∃ B, B = w.heap.size := ⟨_, rfl⟩
  rw [← hB] at HBX ⊢
  clear hB
  have HS : Hid (∀ W, Below W0.heap.size W0 W → W.cell? ⟨B, 1, none⟩ = some (.slice po n1 pc) ∧ W.cell? ⟨B, 2, none⟩ = some (.string uR)) := Lib.hid (fun W hW => ⟨(HBX.out.below hW).cell 1 rfl, (HBX.out.below hW).cell 2 rfl⟩)
  obtain ⟨g0, g1⟩ := HS.out _ (Below.refl _ W0)
  have k1 : ¬ (9223372036854775807 < 1 + uJ.size) := by omega
  have k2 : ¬ (9223372036854775807 < 1 + uJ.size + 1) := by omega
  have k3 : ¬ (9223372036854775807 < 1 + uJ.size + 1 + uR.size) := by omega
  first
  | (go_region_held (fun W => W.cell? ⟨B, 1, none⟩ = some (.slice po n1 pc) ∧ W.cell? ⟨B, 2, none⟩ = some (.string uR)) ((refine HS.out _ ?_; (repeat (first | (with_reducible exact Below.refl _ _) | (with_reducible (apply below_step; rotate_left; assumption)) | (with_reducible refine below_drew ?_)))))
      (first | ((with_reducible refine (HJ.out _ ?_).mono ?_); (focus ((repeat (first | (with_reducible exact Below.refl _ _) | (with_reducible (apply below_step; rotate_left; assumption)) | (with_reducible refine below_drew ?_))); done)); rintro e w1 ⟨rfl, b9⟩)))
  | fail
  have hbe : Below w.heap.size w w1 := HB0.out.trans (Below.mono (by (repeat (first | (with_reducible exact b9) | (with_reducible (apply below_step; rotate_left; assumption)) | (with_reducible exact Below.refl _ _) | (with_reducible refine below_drew ?_)))) HB0.out.size)
  go_wp2
  go_ret
  exact ⟨by rw [HE.out]; rfl, hbe⟩
theorem join_take (l : List (List UInt8)) (k : Nat) (x : List UInt8) (h : l[k]? = some x) : Lib.join (l.take (k + 1)) [44] = Lib.join (l.take k) [44] ++ ((if k = 0 then [] else [44]) ++ x) := by
  cases l with
  | nil => simp at h
  | cons y r =>
    cases k with
    | zero => simp at h; subst h; simp [Lib.join_one, Lib.join_nil]
    | succ k =>
      have h' : r[k]? = some x := by simpa using h
      rw [List.take_succ_cons, List.take_succ_cons, Lib.join_cons, Lib.join_cons, Lib.joinTail_take_succ _ _ _ _ h', if_neg (by omega)]
      simp
theorem join_take_le (l : List (List UInt8)) (k : Nat) : (Lib.join (l.take k) [44]).length ≤ (Lib.join l [44]).length := by
  cases l with
  | nil => simp [Lib.join_nil]
  | cons y r =>
    cases k with
    | zero => simp [Lib.join_nil]
    | succ k =>
      rw [List.take_succ_cons, Lib.join_cons, Lib.join_cons, List.length_append, List.length_append]
      have := Lib.joinTail_take_le [44] r k
      omega
set_option maxHeartbeats 4000000 in
set_option maxRecDepth 100000 in
theorem refsign_any {A : Nat → Prop} (m : Mth) (v : Value) (w : World) (hv : MthR A w m v) (hb : m.brief) :
    Calls Tryz.prog 17 #[v] w (SaidS (signB m) w) := by
  obtain ⟨pv, cv, kv, rfl, hp, hcd, hkt⟩ := hv
  obtain ⟨po, pc, rfl⟩ := hp.shape
  obtain ⟨co, cc, rfl⟩ := hcd.shape
  obtain ⟨ko, kc, rfl⟩ := hkt.shape
  have hb0 : Below w.heap.size w (w.alloc (.cells #[.string (S m.name), .slice po m.params.length pc, .string (S m.res), .bool m.abs, .int .i64 m.loc, .slice co m.code.length cc, .slice ko m.cats.length kc] 33)) := (Below.refl _ w).alloc (Nat.le_refl _) _
  have HB0 := Lib.hid hb0
  have HBX := Lib.hid (Box.new w #[.string (S m.name), .slice po m.params.length pc, .string (S m.res), .bool m.abs, .int .i64 m.loc, .slice co m.code.length cc, .slice ko m.cats.length kc] 33)
  have HC := Lib.hid (Src.elem (StrR.st.below hp hb0))
  have hn1 : m.params.length ≤ 70368744177664 := hb.2.2
  have HJ := Lib.hid hb.1
  have hr : (S m.res).size ≤ 70368744177664 := by rw [S_size]; exact hb.2.1
  have he : S (signB m) = S ([40] ++ Lib.join m.params [44]) ++ S [41] ++ S m.res := by unfold signB; rw [S_append, S_append]; congr 1; simp
  obtain ⟨R, hR⟩ : ∃ R, R = S (signB m) := ⟨_, rfl⟩
  unfold SaidS
  rw [← hR]
  rw [← hR] at he
  have HE := Lib.hid he
  clear he hR hp hcd hkt hb0 hb
  obtain ⟨n, hn⟩ : ∃ n, n = m.params.length := ⟨_, rfl⟩
  have HN := Lib.hid hn
  simp only [← hn] at HB0 HBX HC hn1 ⊢
  clear hn
  obtain ⟨name, params, res, ab, loc, code, cats⟩ := m
  dsimp only at *
  generalize S res = uR at HB0 HBX HC HE hr ⊢
  go_enter Tryz.func17, Tryz.ntmps17
  go_wp2
  generalize w.alloc (.cells #[.string (S name), .slice po n pc, .string uR, .bool ab, .int .i64 loc, .slice co code.length cc, .slice ko cats.length kc] 33) = W0 at HB0 HBX HC ⊢
  obtain ⟨B, hB⟩ : ∃ B, B = w.heap.size := ⟨_, rfl⟩
  rw [← hB] at HBX ⊢
  clear hB
  have c1 := HBX.out.cell 1 rfl
  go_loop [3, 4] (fun v3 v4 => ∃ k : Nat, k ≤ n ∧ v4 = .int .i64 k ∧ v3 = .string (S ([40] ++ Lib.join (params.take k) [44]))) (fun _ v4 => n - (intOf v4).toNat)
  case atStart => exact ⟨0, Nat.zero_le _, rfl, rfl⟩
  case round =>
    obtain ⟨k, hk, rfl, rfl⟩ := hrel
    by_cases hlt : k < n
    · have hkl : k < params.length := by have := HN.out; omega
      obtain ⟨x, hx⟩ : ∃ x, params[k]? = some x := ⟨_, List.getElem?_eq_getElem hkl⟩
      obtain ⟨b, o, v, rfl, hv, hsz, hcl⟩ := HC.out k x hx
      obtain rfl := hv
      have d0 : W0.cell? ⟨b, o + k, none⟩ = some (.string (S x)) := by have q := hcl 0 _ rfl; rw [Nat.mul_one] at q; exact q
      have hjt := join_take params k x hx
      have hl1 := join_take_le params k
      have hl2 := join_take_le params (k + 1)
      rw [hjt, List.length_append, List.length_append] at hl2
      have hl0 := HJ.out
      have hA : (S ([40] ++ Lib.join (params.take k) [44])).size ≤ 70368744177665 := by rw [S_size, List.length_append]; simp; omega
      have hX : (S x).size ≤ 70368744177664 := by rw [S_size]; omega
      have hk0 : (0 : Int) ≤ k := by omega
      have hkn : (k : Int) < (n : Int) := by omega
      by_cases hz : k = 0
      · subst hz
        have e1 : S ([40] ++ Lib.join (params.take (0 + 1)) [44]) = S ([40] ++ Lib.join (params.take 0) [44]) ++ S x := by rw [hjt, S_append]; exact congrArg S (by simp)
        have HE1 := Lib.hid e1
        clear hx hkl hcl hsz hjt hl1 hl2 hl0 e1
        generalize S ([40] ++ Lib.join (params.take 0) [44]) = uA at HE1 hA ⊢
        generalize S x = uX at HE1 hX d0
        rw [Nat.add_zero] at d0
        go_wp2
        go_round
        case rel => exact ⟨0 + 1, by omega, by go_num, by rw [HE1.out]⟩
        case measure => simp [intOf]; omega
      · have hkp : (0 : Int) < (k : Int) := by omega
        have e1 : S ([40] ++ Lib.join (params.take (k + 1)) [44]) = S ([40] ++ Lib.join (params.take k) [44]) ++ S [44] ++ S x := by rw [hjt, S_append, S_append, if_neg hz]; exact congrArg S (by simp)
        have HE1 := Lib.hid e1
        clear hx hkl hcl hsz hjt hl1 hl2 hl0 e1 hz
        generalize S ([40] ++ Lib.join (params.take k) [44]) = uA at HE1 hA ⊢
        generalize S x = uX at HE1 hX d0
        go_wp2
        go_round
        case rel => exact ⟨k + 1, by omega, by go_num, by rw [HE1.out]; rfl⟩
        case measure => simp [intOf]; omega
    · obtain rfl : n = k := by omega
      rw [HN.out, List.take_of_length_le (Nat.le_refl _)]
      have c2 := HBX.out.cell 2 rfl
      have hA : (S ([40] ++ Lib.join params [44])).size ≤ 70368744177665 := by have := HJ.out; rw [S_size, List.length_append]; simp; omega
      have hkn : ¬ ((n : Int) < (n : Int)) := by omega
      generalize S ([40] ++ Lib.join params [44]) = uA at HE hA ⊢
      rw [← HN.out]
      go_wp2
      go_ret
      exact ⟨by rw [HE.out]; rfl, HB0.out⟩
end Go.Proofs.YtpincofjopmaaaaGreatDoor
