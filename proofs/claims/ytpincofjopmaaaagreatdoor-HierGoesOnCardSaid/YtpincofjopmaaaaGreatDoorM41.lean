/-
  The walk of the law HierRoot.
  Conditions: as each text of it says.
-/
import Derived.Test.YtpincofjopmaaaaGreatDoorM38
import Derived.Test.YtpincofjopmaaaaGreatDoorM40
import Derived.Test.YtpincofjopmaaaaGreatDoorM37
import Derived.Test.YtpincofjopmaaaaGreatDoorM36
namespace Go.Proofs.YtpincofjopmaaaaGreatDoor
open Go.RowKit

set_option maxHeartbeats 8000000 in
set_option maxRecDepth 100000 in
theorem hierRoot_any {A : Nat → Prop} (cs : List Cls) (sv : Value) (w : World) (hs : Src 8 ClsR A w sv cs) (hT : HT6 w) (hfit : ∀ c ∈ cs, c.Fit) (hheld : ∀ c ∈ cs, c.held) (hlen : cs.length ≤ 9223372036854775807) :
    Calls Tryz.prog 12 #[sv] w (Said true w) := by
  have HA : Hid (∀ W, Below w.heap.size w W → Calls Tryz.prog 22 #[] W (Said true W)) := Lib.hid (fun W hW => awake6_any W (hT.ft.keep hW) (hT.ct.keep hW))
  have HF := Lib.hid (few6_any cs sv w hs hfit hlen)
  have HN : Hid (∀ W, Below w.heap.size w W → cs.length ≤ 12 → Calls Tryz.prog 23 #[sv] W (NewG cs W)) := Lib.hid (fun W hW hl => new_any cs sv W (ClsR.st.below hs hW) (hT.ft.keep hW) (hT.ct.keep hW) hfit hheld (by omega))
  have HS := Lib.hid hs
  unfold Few6G at HF
  unfold Said at HA
  obtain ⟨so, sc, rfl⟩ := hs.shape
  obtain ⟨n, hn⟩ : ∃ n, n = cs.length := ⟨_, rfl⟩
  rw [← hn] at HF HN HS ⊢
  have HNL := Lib.hid hn
  clear hs hT hfit hheld hlen hn
  unfold Said
  go_enter Tryz.func12, Tryz.ntmps12
  go_wp2_with fail
  with_reducible refine HF.out.mono ?_
  rintro e w1 ⟨b, rfl, hb12, hb1⟩
  have HB1 := Lib.hid hb1
  have H12 := Lib.hid hb12
  clear hb1 hb12 HF
  cases b with
  | false =>
    go_wp2_with fail
    with_reducible refine (HA.out w1 HB1.out).mono ?_
    rintro e wz0 ⟨rfl, hb⟩
    have HZ0 := Lib.hid (HB1.out.trans (hb.mono HB1.out.size))
    clear hb
    go_wp2
    go_ret
    exact ⟨rfl, HZ0.out⟩
  | true =>
    have HNW := Lib.hid (HN.out w1 HB1.out (H12.out rfl))
    have HN12 : Hid (n ≤ 12) := Lib.hid (H12.out rfl)
    clear HN H12
    go_wp2_with fail
    with_reducible refine HNW.out.mono ?_
    rintro e w2 h
    rcases h with ⟨i, z, hbad, rfl, hb2⟩ | ⟨hok, T, mb, B, rfl, htb, hb2⟩
    · have hz0 : (z : Int) ≠ 0 := by have := hbad.ne; omega
      have hz1 : ((z : Int) != 0) = true := by simpa using hz0
      have HB2 := Lib.hid (HB1.out.trans (hb2.mono HB1.out.size))
      clear hb2 hbad HNW
      go_wp2_with fail
      with_reducible refine (HA.out w2 HB2.out).mono ?_
      rintro e wz0 ⟨rfl, hb⟩
      have HZ0 := Lib.hid (HB2.out.trans (hb.mono HB2.out.size))
      clear hb
      go_wp2_with fail
      with_reducible refine (HA.out wz0 HZ0.out).mono ?_
      rintro e wz1 ⟨rfl, hb⟩
      have HZ1 := Lib.hid (HZ0.out.trans (hb.mono HZ0.out.size))
      clear hb
      go_wp2
      go_ret
      exact ⟨rfl, HZ1.out⟩
    · have HOK := Lib.hid hok
      have HT := Lib.hid htb.tab
      have HB2 := Lib.hid (HB1.out.trans (hb2.mono HB1.out.size))
      clear hb2 htb hok HNW
      go_wp2_with fail
      with_reducible refine (HA.out w2 HB2.out).mono ?_
      rintro e w3 ⟨rfl, hb⟩
      have HR : Hid (Below w2.heap.size w2 w3) := Lib.hid hb
      clear hb
      have HNM : Hid (∀ W, Below w2.heap.size w2 W → Calls Tryz.prog 25 #[.pointer (some ⟨T, 0, none⟩)] W (NamesG (newT cs) W)) := Lib.hid (fun W hW => names_any HT.out (fun i e he => HOK.out.wise.uq i e he) HOK.out.wise.sh.len W hW)
      unfold NamesG at HNM
      go_wp2_with fail
      with_reducible refine (HNM.out w3 HR.out).mono ?_
      rintro e w4 ⟨v, us, rfl, hv, hb⟩
      have HV := Lib.hid (hv.src StrR.st)
      have HR4 := Lib.hid (HR.out.trans (hb.mono HR.out.size))
      obtain ⟨vo, vc, rfl⟩ := hv.shape
      obtain ⟨m, hm⟩ : ∃ m, m = (nmsL (newT cs)).length := ⟨_, rfl⟩
      rw [← hm] at HV ⊢
      have hmn : m = 8 + n := by rw [hm, HNL.out]; unfold nmsL; rw [List.length_map, newT_len]
      have HM := Lib.hid hm
      have HMN := Lib.hid hmn
      clear hb hv hm HNM HA HS
      go_wp2
      go_loopw [7] (fun v7 wr => ∃ k : Nat, k ≤ m ∧ v7 = .int .i64 k ∧ Below w2.heap.size w2 wr ∧ Below w4.heap.size w4 wr) (fun v7 _ => m - (intOf v7).toNat)
      case atStart => exact ⟨0, Nat.zero_le _, rfl, HR4.out, Below.refl _ _⟩
      case round =>
        obtain ⟨k, hk, rfl, hbw0, hbw⟩ := hrel
        have HRW := Lib.hid hbw0
        have HBW := Lib.hid hbw
        clear hbw0 hbw
        have hm20 : m ≤ 20 := by have := HMN.out; have := HN12.out; omega
        by_cases hlt : k < m
        · have hkl : k < (newT cs).length := by have := HM.out; unfold nmsL at this; rw [List.length_map] at this; omega
          obtain ⟨x, hx⟩ : ∃ x, (newT cs)[k]? = some x := ⟨_, List.getElem?_eq_getElem hkl⟩
          have hxn : (nmsL (newT cs))[k]? = some x.cls.name := by unfold nmsL; rw [List.getElem?_map, hx]; rfl
          obtain ⟨b, o, u, rfl, hu, _, hcl⟩ := Src.elem (StrR.st.below HV.out HBW.out) k _ hxn
          obtain rfl := hu
          have c0 : wr.cell? ⟨b, o + k, none⟩ = some (.string (S x.cls.name)) := by have q := hcl 0 _ rfl; rw [Nat.mul_one] at q; exact q
          have HRF : Hid (RootF (newT cs) x.cls.name) := Lib.hid (by rw [← nmE_eq hx]; exact HOK.out.wise.rootF hkl)
          have HL := Lib.hid (HOK.out.wise.sh.nm k x hx)
          have HWH : Hid (subE (newT cs) x.cls.name faultL = true → placeF (newT cs) x.cls.name whatL = some 0) := Lib.hid (fun h => by rw [← nmE_eq hx] at h ⊢; exact HOK.out.wise.what hkl (fun d hd => (HOK.out.line_chk hkl d hd).1) h)
          generalize x.cls.name = nm at c0 HRF HL HWH
          clear hcl hxn hx hkl
          have hk0 : (0 : Int) ≤ (k : Int) := by omega
          have hkm : (k : Int) < (m : Int) := by omega
          have K1 : Hid (∀ W, Below w2.heap.size w2 W → Calls Tryz.prog 30 #[.pointer (some ⟨T, 0, none⟩), .string (S nm), .string ⟨#[79, 98, 106, 101, 99, 116]⟩] W (fun e w' => e = .returned (.bool true) ∧ Below W.heap.size W w')) := Lib.hid (fun W hW => by
            have h := sub_any HT.out HOK.out.shape nm objL W hW (by have := HL.out; first | omega | decide) (by have := HL.out; first | omega | decide)
            rw [HRF.out.k1] at h
            exact h)
          have K2 : Hid (∀ W, Below w2.heap.size w2 W → Calls Tryz.prog 30 #[.pointer (some ⟨T, 0, none⟩), .string (S nm), .string (S nm)] W (fun e w' => e = .returned (.bool true) ∧ Below W.heap.size W w')) := Lib.hid (fun W hW => by
            have h := sub_any HT.out HOK.out.shape nm nm W hW (by have := HL.out; first | omega | decide) (by have := HL.out; first | omega | decide)
            rw [HRF.out.k2] at h
            exact h)
          have K3 : Hid (∀ W, Below w2.heap.size w2 W → Calls Tryz.prog 30 #[.pointer (some ⟨T, 0, none⟩), .string ⟨#[110, 117, 108, 108]⟩, .string (S nm)] W (fun e w' => e = .returned (.bool true) ∧ Below W.heap.size W w')) := Lib.hid (fun W hW => by
            have h := sub_any HT.out HOK.out.shape nullL nm W hW (by have := HL.out; first | omega | decide) (by have := HL.out; first | omega | decide)
            rw [HRF.out.k3] at h
            exact h)
          have K4 : Hid (∀ W, Below w2.heap.size w2 W → Calls Tryz.prog 30 #[.pointer (some ⟨T, 0, none⟩), .string (S nm), .string ⟨#[110, 117, 108, 108]⟩] W (fun e w' => e = .returned (.bool false) ∧ Below W.heap.size W w')) := Lib.hid (fun W hW => by
            have h := sub_any HT.out HOK.out.shape nm nullL W hW (by have := HL.out; first | omega | decide) (by have := HL.out; first | omega | decide)
            rw [HRF.out.k4] at h
            exact h)
          have K5 : Hid (∀ W, Below w2.heap.size w2 W → Calls Tryz.prog 34 #[.pointer (some ⟨T, 0, none⟩), .string (S nm), .string ⟨#[79, 98, 106, 101, 99, 116]⟩] W (fun e w' => e = .returned (.string ⟨#[79, 98, 106, 101, 99, 116]⟩) ∧ Below W.heap.size W w')) := Lib.hid (fun W hW => by
            have h := joint_any HT.out HOK.out.shape nm objL W hW (by have := HL.out; first | omega | decide) (by have := HL.out; first | omega | decide)
            rw [HRF.out.k5] at h
            exact h)
          have K6 : Hid (∀ W, Below w2.heap.size w2 W → Calls Tryz.prog 34 #[.pointer (some ⟨T, 0, none⟩), .string (S nm), .string (S nm)] W (fun e w' => e = .returned (.string (S nm)) ∧ Below W.heap.size W w')) := Lib.hid (fun W hW => by
            have h := joint_any HT.out HOK.out.shape nm nm W hW (by have := HL.out; first | omega | decide) (by have := HL.out; first | omega | decide)
            rw [HRF.out.k6] at h
            exact h)
          have K7 : Hid (∀ W, Below w2.heap.size w2 W → Calls Tryz.prog 34 #[.pointer (some ⟨T, 0, none⟩), .string ⟨#[110, 117, 108, 108]⟩, .string (S nm)] W (fun e w' => e = .returned (.string (S nm)) ∧ Below W.heap.size W w')) := Lib.hid (fun W hW => by
            have h := joint_any HT.out HOK.out.shape nullL nm W hW (by have := HL.out; first | omega | decide) (by have := HL.out; first | omega | decide)
            rw [HRF.out.k7] at h
            exact h)
          have K8 : Hid (∀ W, Below w2.heap.size w2 W → Calls Tryz.prog 30 #[.pointer (some ⟨T, 0, none⟩), .string (S nm), .string ⟨#[105, 110, 116]⟩] W (fun e w' => e = .returned (.bool false) ∧ Below W.heap.size W w')) := Lib.hid (fun W hW => by
            have h := sub_any HT.out HOK.out.shape nm kInt W hW (by have := HL.out; first | omega | decide) (by have := HL.out; first | omega | decide)
            rw [HRF.out.k8] at h
            exact h)
          have K9 : Hid (∀ W, Below w2.heap.size w2 W → Calls Tryz.prog 30 #[.pointer (some ⟨T, 0, none⟩), .string (S nm ++ ⟨#[91, 93]⟩), .string ⟨#[79, 98, 106, 101, 99, 116]⟩] W (fun e w' => e = .returned (.bool true) ∧ Below W.heap.size W w')) := Lib.hid (fun W hW => by
            have h := sub_any HT.out HOK.out.shape (ofL nm) objL W hW (by have := HL.out; rw [ofL_length]; omega) (by decide)
            rw [HRF.out.k9] at h
            have e : S (ofL nm) = S nm ++ ⟨#[91, 93]⟩ := (S_append nm [91, 93]).symm
            rw [e] at h
            exact h)
          have K10 : Hid (∀ W, Below w2.heap.size w2 W → Calls Tryz.prog 30 #[.pointer (some ⟨T, 0, none⟩), .string (S nm), .string ⟨#[70, 97, 117, 108, 116]⟩] W (fun e w' => e = .returned (.bool (subE (newT cs) nm faultL)) ∧ Below W.heap.size W w')) := Lib.hid (fun W hW => sub_any HT.out HOK.out.shape nm faultL W hW (by have := HL.out; omega) (by decide))
          have K11 : Hid (∀ W, Below w2.heap.size w2 W → subE (newT cs) nm faultL = true → Calls Tryz.prog 38 #[.pointer (some ⟨T, 0, none⟩), .string (S nm), .string ⟨#[119, 104, 97, 116]⟩] W (fun e w' => e = .returned (.int .i64 0) ∧ Below W.heap.size W w')) := Lib.hid (fun W hW hf => by
            have h := placet_any HT.out HOK.out.shape nm whatL W hW (by have := HL.out; omega)
            rw [HWH.out hf] at h
            exact h)
          have hsum : (S nm).size + 2 ≤ 9223372036854775807 := by rw [S_size]; have := HL.out; omega
          clear HRF HWH
          go_wp2_with fail
          with_reducible refine (K1.out wr HRW.out).mono ?_
          rintro e y1 ⟨rfl, hb⟩
          have HX1 := Lib.hid (HBW.out.trans (hb.mono HBW.out.size))
          have HY1 := Lib.hid (HRW.out.trans (hb.mono HRW.out.size))
          clear hb K1
          go_wp2_with fail
          with_reducible refine (K2.out y1 HY1.out).mono ?_
          rintro e y2 ⟨rfl, hb⟩
          have HX2 := Lib.hid (HX1.out.trans (hb.mono HX1.out.size))
          have HY2 := Lib.hid (HY1.out.trans (hb.mono HY1.out.size))
          clear hb K2
          go_wp2_with fail
          with_reducible refine (K3.out y2 HY2.out).mono ?_
          rintro e y3 ⟨rfl, hb⟩
          have HX3 := Lib.hid (HX2.out.trans (hb.mono HX2.out.size))
          have HY3 := Lib.hid (HY2.out.trans (hb.mono HY2.out.size))
          clear hb K3
          go_wp2_with fail
          with_reducible refine (K4.out y3 HY3.out).mono ?_
          rintro e y4 ⟨rfl, hb⟩
          have HX4 := Lib.hid (HX3.out.trans (hb.mono HX3.out.size))
          have HY4 := Lib.hid (HY3.out.trans (hb.mono HY3.out.size))
          clear hb K4
          go_wp2_with fail
          with_reducible refine (K5.out y4 HY4.out).mono ?_
          rintro e y5 ⟨rfl, hb⟩
          have HX5 := Lib.hid (HX4.out.trans (hb.mono HX4.out.size))
          have HY5 := Lib.hid (HY4.out.trans (hb.mono HY4.out.size))
          clear hb K5
          go_wp2_with fail
          with_reducible refine (K6.out y5 HY5.out).mono ?_
          rintro e y6 ⟨rfl, hb⟩
          have HX6 := Lib.hid (HX5.out.trans (hb.mono HX5.out.size))
          have HY6 := Lib.hid (HY5.out.trans (hb.mono HY5.out.size))
          clear hb K6
          go_wp2_with fail
          with_reducible refine (K7.out y6 HY6.out).mono ?_
          rintro e y7 ⟨rfl, hb⟩
          have HX7 := Lib.hid (HX6.out.trans (hb.mono HX6.out.size))
          have HY7 := Lib.hid (HY6.out.trans (hb.mono HY6.out.size))
          clear hb K7
          go_wp2_with fail
          with_reducible refine (K8.out y7 HY7.out).mono ?_
          rintro e y8 ⟨rfl, hb⟩
          have HX8 := Lib.hid (HX7.out.trans (hb.mono HX7.out.size))
          have HY8 := Lib.hid (HY7.out.trans (hb.mono HY7.out.size))
          clear hb K8
          go_wp2_with fail
          with_reducible refine (K9.out y8 HY8.out).mono ?_
          rintro e y9 ⟨rfl, hb⟩
          have HX9 := Lib.hid (HX8.out.trans (hb.mono HX8.out.size))
          have HY9 := Lib.hid (HY8.out.trans (hb.mono HY8.out.size))
          clear hb K9
          go_wp2_with fail
          with_reducible refine (K10.out y9 HY9.out).mono ?_
          rintro e y10 ⟨rfl, hb⟩
          have HX10 := Lib.hid (HX9.out.trans (hb.mono HX9.out.size))
          have HY10 := Lib.hid (HY9.out.trans (hb.mono HY9.out.size))
          clear hb K10
          cases hq : subE (newT cs) nm faultL with
          | true =>
            have K12 := Lib.hid (K11.out y10 HY10.out hq)
            clear hq K11
            go_wp2_with fail
            with_reducible refine K12.out.mono ?_
            rintro e y11 ⟨rfl, hb⟩
            have HX11 := Lib.hid (HX10.out.trans (hb.mono HX10.out.size))
            have HY11 := Lib.hid (HY10.out.trans (hb.mono HY10.out.size))
            clear hb K12
            go_wp2
            go_roundw
            case rel => exact ⟨k + 1, by omega, by go_num, HY11.out, HX11.out⟩
            case measure => simp [intOf]; omega
          | false =>
            go_wp2
            go_roundw
            case rel => exact ⟨k + 1, by omega, by go_num, HY10.out, HX10.out⟩
            case measure => simp [intOf]; omega
        · obtain rfl : k = m := by omega
          have hmz : (k : Int) = 8 + (n : Int) := by have := HMN.out; omega
          have HE := Lib.hid (HB2.out.trans ((HR4.out.trans (HBW.out.mono HR4.out.size)).mono HB2.out.size))
          go_wp2
          go_ret
          exact ⟨rfl, HE.out⟩
end Go.Proofs.YtpincofjopmaaaaGreatDoor
