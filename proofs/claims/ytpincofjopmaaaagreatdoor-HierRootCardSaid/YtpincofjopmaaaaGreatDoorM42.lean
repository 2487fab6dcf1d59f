/-
  The walk of the law HierGoesOn.
  Conditions: as each text of it says.
-/
import Derived.Test.YtpincofjopmaaaaGreatDoorM38
import Derived.Test.YtpincofjopmaaaaGreatDoorM40
import Derived.Test.YtpincofjopmaaaaGreatDoorM37
import Derived.Test.YtpincofjopmaaaaGreatDoorM36
namespace Go.Proofs.YtpincofjopmaaaaGreatDoor
open Go.RowKit
theorem join_len {cs : List Cls} (h : NewOk cs) (a b : List UInt8) (ha : a.length ≤ 100) (hb : b.length ≤ 100) : (joinE (newT cs) a b).length ≤ 9223372036854775807 := by
  unfold joinE
  split
  · omega
  · split
    · omega
    · split
      · have := h.shape.nmE_le (es := newT cs)
        rename_i x _
        have := this x
        omega
      · simp

set_option maxHeartbeats 8000000 in
set_option maxRecDepth 100000 in
theorem hierGoesOn_any {A : Nat → Prop} (cs : List Cls) (sv : Value) (qa qb qc : List UInt8) (w : World) (hs : Src 8 ClsR A w sv cs) (hT : HT6 w) (hfit : ∀ c ∈ cs, c.Fit) (hheld : ∀ c ∈ cs, c.held) (hlen : cs.length ≤ 9223372036854775807) (hqa : qa.length ≤ 9223372036854775807) (hqb : qb.length ≤ 9223372036854775807) (hqc : qc.length ≤ 9223372036854775807) :
    Calls Tryz.prog 7 #[sv, .agg #[.string (S qa), .string (S qb), .string (S qc)]] w (Said true w) := by
  obtain ⟨W0, hW0⟩ : ∃ W0, W0 = w.alloc (.cells #[.string (S qa), .string (S qb), .string (S qc)] 55) := ⟨_, rfl⟩
  have hb0 : Below w.heap.size w W0 := by rw [hW0]; exact below_alloc (Below.refl _ _) _
  have hq := Box.new w #[.string (S qa), .string (S qb), .string (S qc)] 55
  rw [← hW0] at hq
  have HQ : Hid (∀ W, Below W0.heap.size W0 W → W.cell? ⟨w.heap.size, 0, none⟩ = some (.string (S qa)) ∧ W.cell? ⟨w.heap.size, 1, none⟩ = some (.string (S qb)) ∧ W.cell? ⟨w.heap.size, 2, none⟩ = some (.string (S qc))) := Lib.hid (fun W hW => ⟨(hq.below hW).cell 0 rfl, (hq.below hW).cell 1 rfl, (hq.below hW).cell 2 rfl⟩)
  have hs0 := ClsR.st.below hs hb0
  have HA : Hid (∀ W, Below W0.heap.size W0 W → Calls Tryz.prog 22 #[] W (Said true W)) := Lib.hid (fun W hW => awake6_any W (hT.ft.keep (hb0.trans (hW.mono hb0.size))) (hT.ct.keep (hb0.trans (hW.mono hb0.size))))
  have HF := Lib.hid (few6_any cs sv W0 hs0 hfit hlen)
  have HN : Hid (∀ W, Below W0.heap.size W0 W → cs.length ≤ 12 → Calls Tryz.prog 23 #[sv] W (NewG cs W)) := Lib.hid (fun W hW hl => new_any cs sv W (ClsR.st.below hs0 hW) (hT.ft.keep (hb0.trans (hW.mono hb0.size))) (hT.ct.keep (hb0.trans (hW.mono hb0.size))) hfit hheld (by omega))
  unfold Few6G at HF
  unfold Said at HA
  obtain ⟨so, sc, rfl⟩ := hs.shape
  have HB0 := Lib.hid hb0
  have HQA := Lib.hid hqa
  have HQB := Lib.hid hqb
  have HQC := Lib.hid hqc
  have za : ((S qa).size : Int) = (qa.length : Int) := by rw [S_size]
  have zb : ((S qb).size : Int) = (qb.length : Int) := by rw [S_size]
  have zc : ((S qc).size : Int) = (qc.length : Int) := by rw [S_size]
  clear hqa hqb hqc hs hs0 hT hfit hheld hlen hb0 hq
  unfold Said
  go_enter Tryz.func7, Tryz.ntmps7
  go_upto_region 1 with fail
  rw [← hW0]
  clear hW0
  obtain ⟨bq, hbq⟩ : ∃ bq, bq = w.heap.size := ⟨_, rfl⟩
  rw [← hbq] at HQ ⊢
  clear hbq
  go_wp2_with fail
  with_reducible refine HF.out.mono ?_
  rintro e w1 ⟨b, rfl, hb12, hb1⟩
  have HB1 := Lib.hid hb1
  have H12 := Lib.hid hb12
  obtain ⟨c0, c1, c2⟩ := HQ.out w1 hb1
  clear hb1 hb12 HF
  cases b with
  | false =>
    clear c0 c1 c2
    go_wp2_with fail
    with_reducible refine (HA.out w1 HB1.out).mono ?_
    rintro e wz0 ⟨rfl, hb⟩
    have HZ0 := Lib.hid (HB1.out.trans (hb.mono HB1.out.size))
    clear hb
    go_wp2
    go_ret
    exact ⟨rfl, HB0.out.trans (HZ0.out.mono HB0.out.size)⟩
  | true =>
    by_cases hg0 : 100 < qa.length
    · have ig0 : 100 < (qa.length : Int) := by omega
      clear hg0
      go_wp2_with fail
      with_reducible refine (HA.out w1 HB1.out).mono ?_
      rintro e wz0 ⟨rfl, hb⟩
      have HZ0 := Lib.hid (HB1.out.trans (hb.mono HB1.out.size))
      clear hb
      go_wp2
      go_ret
      exact ⟨rfl, HB0.out.trans (HZ0.out.mono HB0.out.size)⟩
    have ig0 : ¬ (100 < (qa.length : Int)) := by omega
    clear hg0
    by_cases hg1 : 100 < qb.length
    · have ig1 : 100 < (qb.length : Int) := by omega
      clear hg1
      go_wp2_with fail
      with_reducible refine (HA.out w1 HB1.out).mono ?_
      rintro e wz0 ⟨rfl, hb⟩
      have HZ0 := Lib.hid (HB1.out.trans (hb.mono HB1.out.size))
      clear hb
      go_wp2
      go_ret
      exact ⟨rfl, HB0.out.trans (HZ0.out.mono HB0.out.size)⟩
    have ig1 : ¬ (100 < (qb.length : Int)) := by omega
    clear hg1
    by_cases hg2 : 100 < qc.length
    · have ig2 : 100 < (qc.length : Int) := by omega
      clear hg2
      go_wp2_with fail
      with_reducible refine (HA.out w1 HB1.out).mono ?_
      rintro e wz0 ⟨rfl, hb⟩
      have HZ0 := Lib.hid (HB1.out.trans (hb.mono HB1.out.size))
      clear hb
      go_wp2
      go_ret
      exact ⟨rfl, HB0.out.trans (HZ0.out.mono HB0.out.size)⟩
    have ig2 : ¬ (100 < (qc.length : Int)) := by omega
    clear hg2
    have HQA1 : Hid (qa.length ≤ 100) := Lib.hid (by omega)
    have HQB1 : Hid (qb.length ≤ 100) := Lib.hid (by omega)
    have HNW := Lib.hid (HN.out w1 HB1.out (H12.out rfl))
    clear HN H12
    go_wp2_with fail
    clear c0 c1 c2 za zb zc ig0 ig1 ig2
    with_reducible refine HNW.out.mono ?_
    rintro e w2 h
    rcases h with ⟨i, z, hbad, rfl, hb2⟩ | ⟨hok, T, mb, B, rfl, htb, hb2⟩
    · have hz0 : (z : Int) ≠ 0 := by have := hbad.ne; omega
      have hz1 : ((z : Int) != 0) = true := by simpa using hz0
      have HB2 := Lib.hid (HB1.out.trans (hb2.mono HB1.out.size))
      clear hb2 hbad HNW
      go_wp2_with fail
      with_reducible refine (HA.out w2 HB2.out).mono ?_
      rintro e wz0 ⟨rfl, hb⟩
      have HZ0 := Lib.hid (HB2.out.trans (hb.mono HB2.out.size))
      clear hb
      go_wp2_with fail
      with_reducible refine (HA.out wz0 HZ0.out).mono ?_
      rintro e wz1 ⟨rfl, hb⟩
      have HZ1 := Lib.hid (HZ0.out.trans (hb.mono HZ0.out.size))
      clear hb
      go_wp2
      go_ret
      exact ⟨rfl, HB0.out.trans (HZ1.out.mono HB0.out.size)⟩
    · have HOK := Lib.hid hok
      have HB2 := Lib.hid (HB1.out.trans (hb2.mono HB1.out.size))
      have HSUB : Hid (∀ (x y : List UInt8) W, x.length ≤ 9223372036854775807 → y.length ≤ 9223372036854775807 → Below w2.heap.size w2 W → Calls Tryz.prog 30 #[.pointer (some ⟨T, 0, none⟩), .string (S x), .string (S y)] W (fun e w' => e = .returned (.bool (subE (newT cs) x y)) ∧ Below W.heap.size W w')) := Lib.hid (fun x y W hx hy hW => sub_any htb.tab hok.shape x y W hW hx hy)
      have HJOI : Hid (∀ W, Below w2.heap.size w2 W → Calls Tryz.prog 34 #[.pointer (some ⟨T, 0, none⟩), .string (S qa), .string (S qb)] W (fun e w' => e = .returned (.string (S (joinE (newT cs) qa qb))) ∧ Below W.heap.size W w')) := Lib.hid (fun W hW => joint_any htb.tab hok.shape qa qb W hW (by have := HQA1.out; omega) (by have := HQB1.out; omega))
      have HJU := Lib.hid (hok.wise.join_up qa qb)
      have HJL : Hid ((joinE (newT cs) qa qb).length ≤ 9223372036854775807) := Lib.hid (join_len hok qa qb (by have := HQA1.out; omega) (by have := HQB1.out; omega))
      clear hb2 htb hok HNW
      go_wp2_with fail
      with_reducible refine (HA.out w2 HB2.out).mono ?_
      rintro e w3 ⟨rfl, hb⟩
      have HR : Hid (Below w2.heap.size w2 w3) := Lib.hid hb
      obtain ⟨c0, c1, c2⟩ := HQ.out w3 (HB2.out.trans (hb.mono HB2.out.size))
      clear hb HA
      cases h01 : subE (newT cs) qa qb with
      | true =>
        go_wp2_with fail
        clear c0 c1 c2
        with_reducible refine (HSUB.out qa qb w3 HQA.out HQB.out HR.out).mono ?_
        rintro e y1 ⟨rfl, hb⟩
        have HY1 := Lib.hid (HR.out.trans (hb.mono HR.out.size))
        obtain ⟨c0, c1, c2⟩ := HQ.out y1 (HB2.out.trans (HY1.out.mono HB2.out.size))
        rw [h01]
        clear hb
        cases h12 : subE (newT cs) qb qc with
        | true =>
          go_wp2_with fail
          clear c0 c1 c2
          with_reducible refine (HSUB.out qb qc y1 HQB.out HQC.out HY1.out).mono ?_
          rintro e y2 ⟨rfl, hb⟩
          have HY2 := Lib.hid (HY1.out.trans (hb.mono HY1.out.size))
          obtain ⟨c0, c1, c2⟩ := HQ.out y2 (HB2.out.trans (HY2.out.mono HB2.out.size))
          rw [h12]
          clear hb
          have h02 := HOK.out.wise.sub_trans h01 h12
          go_wp2_with fail
          clear c0 c1 c2
          with_reducible refine (HSUB.out qa qc y2 HQA.out HQC.out HY2.out).mono ?_
          rintro e y3 ⟨rfl, hb⟩
          have HY3 := Lib.hid (HY2.out.trans (hb.mono HY2.out.size))
          obtain ⟨c0, c1, c2⟩ := HQ.out y3 (HB2.out.trans (HY3.out.mono HB2.out.size))
          rw [h02]
          clear hb
          go_wp2_with fail
          clear c0 c1 c2
          with_reducible refine (HSUB.out qa qb y3 HQA.out HQB.out HY3.out).mono ?_
          rintro e y4 ⟨rfl, hb⟩
          have HY4 := Lib.hid (HY3.out.trans (hb.mono HY3.out.size))
          obtain ⟨c0, c1, c2⟩ := HQ.out y4 (HB2.out.trans (HY4.out.mono HB2.out.size))
          rw [h01]
          clear hb
          cases h10 : subE (newT cs) qb qa with
          | true =>
            go_wp2_with fail
            clear c0 c1 c2
            with_reducible refine (HSUB.out qb qa y4 HQB.out HQA.out HY4.out).mono ?_
            rintro e y5 ⟨rfl, hb⟩
            have HY5 := Lib.hid (HY4.out.trans (hb.mono HY4.out.size))
            obtain ⟨c0, c1, c2⟩ := HQ.out y5 (HB2.out.trans (HY5.out.mono HB2.out.size))
            rw [h10]
            clear hb
            have heq : qa = qb := HOK.out.wise.sub_anti h01 h10
            subst heq
            have e1 := S_toList qa
            go_wp2_with fail
            clear c0 c1 c2
            with_reducible refine (HJOI.out y5 HY5.out).mono ?_
            rintro e y6 ⟨rfl, hb⟩
            have HY6 := Lib.hid (HY5.out.trans (hb.mono HY5.out.size))
            obtain ⟨c0, c1, c2⟩ := HQ.out y6 (HB2.out.trans (HY6.out.mono HB2.out.size))
            clear hb
            rcases HJU.out with hj | ⟨hj1, hj2⟩
            · rw [hj]
              have e0 : (S ([] : List UInt8)).toList = [] := S_toList _
              clear hj HJU HJL HJOI
              go_wp2
              go_ret
              exact ⟨rfl, HB0.out.trans ((HB2.out.trans (HY6.out.mono HB2.out.size)).mono HB0.out.size)⟩
            · have HJ1 := Lib.hid hj1
              have HJ2 := Lib.hid hj2
              clear hj1 hj2 HJU HJOI
              generalize joinE (newT cs) qa qa = j at HJ1 HJ2 HJL ⊢
              have e0 := S_toList j
              by_cases hj : j = []
              · subst hj
                clear HJ1 HJ2 HJL
                go_wp2
                go_ret
                exact ⟨rfl, HB0.out.trans ((HB2.out.trans (HY6.out.mono HB2.out.size)).mono HB0.out.size)⟩
              · have hj0 : (j == []) = false := by simpa using hj
                have hj1 : decide (j = []) = false := by simpa using hj
                go_wp2_with fail
                clear c0 c1 c2
                with_reducible refine (HSUB.out qa j y6 HQA.out HJL.out HY6.out).mono ?_
                rintro e y7 ⟨rfl, hb⟩
                have HY7 := Lib.hid (HY6.out.trans (hb.mono HY6.out.size))
                obtain ⟨c0, c1, c2⟩ := HQ.out y7 (HB2.out.trans (HY7.out.mono HB2.out.size))
                rw [HJ1.out]
                clear hb
                go_wp2_with fail
                clear c0 c1 c2
                with_reducible refine (HSUB.out qa j y7 HQA.out HJL.out HY7.out).mono ?_
                rintro e y8 ⟨rfl, hb⟩
                have HY8 := Lib.hid (HY7.out.trans (hb.mono HY7.out.size))
                obtain ⟨c0, c1, c2⟩ := HQ.out y8 (HB2.out.trans (HY8.out.mono HB2.out.size))
                rw [HJ2.out]
                clear hb
                go_wp2
                go_ret
                exact ⟨rfl, HB0.out.trans ((HB2.out.trans (HY8.out.mono HB2.out.size)).mono HB0.out.size)⟩
          | false =>
            go_wp2_with fail
            clear c0 c1 c2
            with_reducible refine (HSUB.out qb qa y4 HQB.out HQA.out HY4.out).mono ?_
            rintro e y9 ⟨rfl, hb⟩
            have HY9 := Lib.hid (HY4.out.trans (hb.mono HY4.out.size))
            obtain ⟨c0, c1, c2⟩ := HQ.out y9 (HB2.out.trans (HY9.out.mono HB2.out.size))
            rw [h10]
            clear hb
            go_wp2_with fail
            clear c0 c1 c2
            with_reducible refine (HJOI.out y9 HY9.out).mono ?_
            rintro e y10 ⟨rfl, hb⟩
            have HY10 := Lib.hid (HY9.out.trans (hb.mono HY9.out.size))
            obtain ⟨c0, c1, c2⟩ := HQ.out y10 (HB2.out.trans (HY10.out.mono HB2.out.size))
            clear hb
            rcases HJU.out with hj | ⟨hj1, hj2⟩
            · rw [hj]
              have e0 : (S ([] : List UInt8)).toList = [] := S_toList _
              clear hj HJU HJL HJOI
              go_wp2
              go_ret
              exact ⟨rfl, HB0.out.trans ((HB2.out.trans (HY10.out.mono HB2.out.size)).mono HB0.out.size)⟩
            · have HJ1 := Lib.hid hj1
              have HJ2 := Lib.hid hj2
              clear hj1 hj2 HJU HJOI
              generalize joinE (newT cs) qa qb = j at HJ1 HJ2 HJL ⊢
              have e0 := S_toList j
              by_cases hj : j = []
              · subst hj
                clear HJ1 HJ2 HJL
                go_wp2
                go_ret
                exact ⟨rfl, HB0.out.trans ((HB2.out.trans (HY10.out.mono HB2.out.size)).mono HB0.out.size)⟩
              · have hj0 : (j == []) = false := by simpa using hj
                have hj1 : decide (j = []) = false := by simpa using hj
                go_wp2_with fail
                clear c0 c1 c2
                with_reducible refine (HSUB.out qa j y10 HQA.out HJL.out HY10.out).mono ?_
                rintro e y11 ⟨rfl, hb⟩
                have HY11 := Lib.hid (HY10.out.trans (hb.mono HY10.out.size))
                obtain ⟨c0, c1, c2⟩ := HQ.out y11 (HB2.out.trans (HY11.out.mono HB2.out.size))
                rw [HJ1.out]
                clear hb
                go_wp2_with fail
                clear c0 c1 c2
                with_reducible refine (HSUB.out qb j y11 HQB.out HJL.out HY11.out).mono ?_
                rintro e y12 ⟨rfl, hb⟩
                have HY12 := Lib.hid (HY11.out.trans (hb.mono HY11.out.size))
                obtain ⟨c0, c1, c2⟩ := HQ.out y12 (HB2.out.trans (HY12.out.mono HB2.out.size))
                rw [HJ2.out]
                clear hb
                go_wp2
                go_ret
                exact ⟨rfl, HB0.out.trans ((HB2.out.trans (HY12.out.mono HB2.out.size)).mono HB0.out.size)⟩
        | false =>
          go_wp2_with fail
          clear c0 c1 c2
          with_reducible refine (HSUB.out qb qc y1 HQB.out HQC.out HY1.out).mono ?_
          rintro e y13 ⟨rfl, hb⟩
          have HY13 := Lib.hid (HY1.out.trans (hb.mono HY1.out.size))
          obtain ⟨c0, c1, c2⟩ := HQ.out y13 (HB2.out.trans (HY13.out.mono HB2.out.size))
          rw [h12]
          clear hb
          go_wp2_with fail
          clear c0 c1 c2
          with_reducible refine (HSUB.out qa qb y13 HQA.out HQB.out HY13.out).mono ?_
          rintro e y14 ⟨rfl, hb⟩
          have HY14 := Lib.hid (HY13.out.trans (hb.mono HY13.out.size))
          obtain ⟨c0, c1, c2⟩ := HQ.out y14 (HB2.out.trans (HY14.out.mono HB2.out.size))
          rw [h01]
          clear hb
          cases h10 : subE (newT cs) qb qa with
          | true =>
            go_wp2_with fail
            clear c0 c1 c2
            with_reducible refine (HSUB.out qb qa y14 HQB.out HQA.out HY14.out).mono ?_
            rintro e y15 ⟨rfl, hb⟩
            have HY15 := Lib.hid (HY14.out.trans (hb.mono HY14.out.size))
            obtain ⟨c0, c1, c2⟩ := HQ.out y15 (HB2.out.trans (HY15.out.mono HB2.out.size))
            rw [h10]
            clear hb
            have heq : qa = qb := HOK.out.wise.sub_anti h01 h10
            subst heq
            have e1 := S_toList qa
            go_wp2_with fail
            clear c0 c1 c2
            with_reducible refine (HJOI.out y15 HY15.out).mono ?_
            rintro e y16 ⟨rfl, hb⟩
            have HY16 := Lib.hid (HY15.out.trans (hb.mono HY15.out.size))
            obtain ⟨c0, c1, c2⟩ := HQ.out y16 (HB2.out.trans (HY16.out.mono HB2.out.size))
            clear hb
            rcases HJU.out with hj | ⟨hj1, hj2⟩
            · rw [hj]
              have e0 : (S ([] : List UInt8)).toList = [] := S_toList _
              clear hj HJU HJL HJOI
              go_wp2
              go_ret
              exact ⟨rfl, HB0.out.trans ((HB2.out.trans (HY16.out.mono HB2.out.size)).mono HB0.out.size)⟩
            · have HJ1 := Lib.hid hj1
              have HJ2 := Lib.hid hj2
              clear hj1 hj2 HJU HJOI
              generalize joinE (newT cs) qa qa = j at HJ1 HJ2 HJL ⊢
              have e0 := S_toList j
              by_cases hj : j = []
              · subst hj
                clear HJ1 HJ2 HJL
                go_wp2
                go_ret
                exact ⟨rfl, HB0.out.trans ((HB2.out.trans (HY16.out.mono HB2.out.size)).mono HB0.out.size)⟩
              · have hj0 : (j == []) = false := by simpa using hj
                have hj1 : decide (j = []) = false := by simpa using hj
                go_wp2_with fail
                clear c0 c1 c2
                with_reducible refine (HSUB.out qa j y16 HQA.out HJL.out HY16.out).mono ?_
                rintro e y17 ⟨rfl, hb⟩
                have HY17 := Lib.hid (HY16.out.trans (hb.mono HY16.out.size))
                obtain ⟨c0, c1, c2⟩ := HQ.out y17 (HB2.out.trans (HY17.out.mono HB2.out.size))
                rw [HJ1.out]
                clear hb
                go_wp2_with fail
                clear c0 c1 c2
                with_reducible refine (HSUB.out qa j y17 HQA.out HJL.out HY17.out).mono ?_
                rintro e y18 ⟨rfl, hb⟩
                have HY18 := Lib.hid (HY17.out.trans (hb.mono HY17.out.size))
                obtain ⟨c0, c1, c2⟩ := HQ.out y18 (HB2.out.trans (HY18.out.mono HB2.out.size))
                rw [HJ2.out]
                clear hb
                go_wp2
                go_ret
                exact ⟨rfl, HB0.out.trans ((HB2.out.trans (HY18.out.mono HB2.out.size)).mono HB0.out.size)⟩
          | false =>
            go_wp2_with fail
            clear c0 c1 c2
            with_reducible refine (HSUB.out qb qa y14 HQB.out HQA.out HY14.out).mono ?_
            rintro e y19 ⟨rfl, hb⟩
            have HY19 := Lib.hid (HY14.out.trans (hb.mono HY14.out.size))
            obtain ⟨c0, c1, c2⟩ := HQ.out y19 (HB2.out.trans (HY19.out.mono HB2.out.size))
            rw [h10]
            clear hb
            go_wp2_with fail
            clear c0 c1 c2
            with_reducible refine (HJOI.out y19 HY19.out).mono ?_
            rintro e y20 ⟨rfl, hb⟩
            have HY20 := Lib.hid (HY19.out.trans (hb.mono HY19.out.size))
            obtain ⟨c0, c1, c2⟩ := HQ.out y20 (HB2.out.trans (HY20.out.mono HB2.out.size))
            clear hb
            rcases HJU.out with hj | ⟨hj1, hj2⟩
            · rw [hj]
              have e0 : (S ([] : List UInt8)).toList = [] := S_toList _
              clear hj HJU HJL HJOI
              go_wp2
              go_ret
              exact ⟨rfl, HB0.out.trans ((HB2.out.trans (HY20.out.mono HB2.out.size)).mono HB0.out.size)⟩
            · have HJ1 := Lib.hid hj1
              have HJ2 := Lib.hid hj2
              clear hj1 hj2 HJU HJOI
              generalize joinE (newT cs) qa qb = j at HJ1 HJ2 HJL ⊢
              have e0 := S_toList j
              by_cases hj : j = []
              · subst hj
                clear HJ1 HJ2 HJL
                go_wp2
                go_ret
                exact ⟨rfl, HB0.out.trans ((HB2.out.trans (HY20.out.mono HB2.out.size)).mono HB0.out.size)⟩
              · have hj0 : (j == []) = false := by simpa using hj
                have hj1 : decide (j = []) = false := by simpa using hj
                go_wp2_with fail
                clear c0 c1 c2
                with_reducible refine (HSUB.out qa j y20 HQA.out HJL.out HY20.out).mono ?_
                rintro e y21 ⟨rfl, hb⟩
                have HY21 := Lib.hid (HY20.out.trans (hb.mono HY20.out.size))
                obtain ⟨c0, c1, c2⟩ := HQ.out y21 (HB2.out.trans (HY21.out.mono HB2.out.size))
                rw [HJ1.out]
                clear hb
                go_wp2_with fail
                clear c0 c1 c2
                with_reducible refine (HSUB.out qb j y21 HQB.out HJL.out HY21.out).mono ?_
                rintro e y22 ⟨rfl, hb⟩
                have HY22 := Lib.hid (HY21.out.trans (hb.mono HY21.out.size))
                obtain ⟨c0, c1, c2⟩ := HQ.out y22 (HB2.out.trans (HY22.out.mono HB2.out.size))
                rw [HJ2.out]
                clear hb
                go_wp2
                go_ret
                exact ⟨rfl, HB0.out.trans ((HB2.out.trans (HY22.out.mono HB2.out.size)).mono HB0.out.size)⟩
      | false =>
        go_wp2_with fail
        clear c0 c1 c2
        with_reducible refine (HSUB.out qa qb w3 HQA.out HQB.out HR.out).mono ?_
        rintro e y23 ⟨rfl, hb⟩
        have HY23 := Lib.hid (HR.out.trans (hb.mono HR.out.size))
        obtain ⟨c0, c1, c2⟩ := HQ.out y23 (HB2.out.trans (HY23.out.mono HB2.out.size))
        rw [h01]
        clear hb
        go_wp2_with fail
        clear c0 c1 c2
        with_reducible refine (HSUB.out qa qb y23 HQA.out HQB.out HY23.out).mono ?_
        rintro e y24 ⟨rfl, hb⟩
        have HY24 := Lib.hid (HY23.out.trans (hb.mono HY23.out.size))
        obtain ⟨c0, c1, c2⟩ := HQ.out y24 (HB2.out.trans (HY24.out.mono HB2.out.size))
        rw [h01]
        clear hb
        go_wp2_with fail
        clear c0 c1 c2
        with_reducible refine (HJOI.out y24 HY24.out).mono ?_
        rintro e y25 ⟨rfl, hb⟩
        have HY25 := Lib.hid (HY24.out.trans (hb.mono HY24.out.size))
        obtain ⟨c0, c1, c2⟩ := HQ.out y25 (HB2.out.trans (HY25.out.mono HB2.out.size))
        clear hb
        rcases HJU.out with hj | ⟨hj1, hj2⟩
        · rw [hj]
          have e0 : (S ([] : List UInt8)).toList = [] := S_toList _
          clear hj HJU HJL HJOI
          go_wp2
          go_ret
          exact ⟨rfl, HB0.out.trans ((HB2.out.trans (HY25.out.mono HB2.out.size)).mono HB0.out.size)⟩
        · have HJ1 := Lib.hid hj1
          have HJ2 := Lib.hid hj2
          clear hj1 hj2 HJU HJOI
          generalize joinE (newT cs) qa qb = j at HJ1 HJ2 HJL ⊢
          have e0 := S_toList j
          by_cases hj : j = []
          · subst hj
            clear HJ1 HJ2 HJL
            go_wp2
            go_ret
            exact ⟨rfl, HB0.out.trans ((HB2.out.trans (HY25.out.mono HB2.out.size)).mono HB0.out.size)⟩
          · have hj0 : (j == []) = false := by simpa using hj
            have hj1 : decide (j = []) = false := by simpa using hj
            go_wp2_with fail
            clear c0 c1 c2
            with_reducible refine (HSUB.out qa j y25 HQA.out HJL.out HY25.out).mono ?_
            rintro e y26 ⟨rfl, hb⟩
            have HY26 := Lib.hid (HY25.out.trans (hb.mono HY25.out.size))
            obtain ⟨c0, c1, c2⟩ := HQ.out y26 (HB2.out.trans (HY26.out.mono HB2.out.size))
            rw [HJ1.out]
            clear hb
            go_wp2_with fail
            clear c0 c1 c2
            with_reducible refine (HSUB.out qb j y26 HQB.out HJL.out HY26.out).mono ?_
            rintro e y27 ⟨rfl, hb⟩
            have HY27 := Lib.hid (HY26.out.trans (hb.mono HY26.out.size))
            obtain ⟨c0, c1, c2⟩ := HQ.out y27 (HB2.out.trans (HY27.out.mono HB2.out.size))
            rw [HJ2.out]
            clear hb
            go_wp2
            go_ret
            exact ⟨rfl, HB0.out.trans ((HB2.out.trans (HY27.out.mono HB2.out.size)).mono HB0.out.size)⟩
end Go.Proofs.YtpincofjopmaaaaGreatDoor
