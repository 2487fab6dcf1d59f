/-
  The walk of the law HierKeeps.
  Conditions: as each text of it says.
-/
import Derived.Test.YtpincofjopmaaaaGreatDoorM38
import Derived.Test.YtpincofjopmaaaaGreatDoorM40
import Derived.Test.YtpincofjopmaaaaGreatDoorM37
import Derived.Test.YtpincofjopmaaaaGreatDoorM36
import Derived.Test.YtpincofjopmaaaaGreatDoorM44
namespace Go.Proofs.YtpincofjopmaaaaGreatDoor
open Go.RowKit

set_option maxHeartbeats 2000000 in
set_option maxRecDepth 100000 in
theorem hierKeeps_any {A : Nat → Prop} (cs : List Cls) (sv : Value) (qa qb : List UInt8) (w : World) (hs : Src 8 ClsR A w sv cs) (hT : HT6 w) (hfit : ∀ c ∈ cs, c.Fit) (hheld : ∀ c ∈ cs, c.held) (hlen : cs.length ≤ 9223372036854775807) (hqa : qa.length ≤ 9223372036854775807) (hqb : qb.length ≤ 9223372036854775807) :
    Calls Tryz.prog 9 #[sv, .string (S qa), .string (S qb)] w (Said true w) := by
  have HA : Hid (∀ W, Below w.heap.size w W → Calls Tryz.prog 22 #[] W (Said true W)) := Lib.hid (fun W hW => awake6_any W (hT.ft.keep hW) (hT.ct.keep hW))
  have HF := Lib.hid (few6_any cs sv w hs hfit hlen)
  have HN : Hid (∀ W, Below w.heap.size w W → cs.length ≤ 12 → Calls Tryz.prog 23 #[sv] W (NewG cs W)) := Lib.hid (fun W hW hl => new_any cs sv W (ClsR.st.below hs hW) (hT.ft.keep hW) (hT.ct.keep hW) hfit hheld (by omega))
  have HS := Lib.hid hs
  unfold Few6G at HF
  unfold Said at HA
  obtain ⟨so, sc, rfl⟩ := hs.shape
  obtain ⟨n, hn⟩ : ∃ n, n = cs.length := ⟨_, rfl⟩
  rw [← hn] at HF HN HS ⊢
  have HNL := Lib.hid hn
  have za : ((S qa).size : Int) = (qa.length : Int) := by rw [S_size]
  have zb : ((S qb).size : Int) = (qb.length : Int) := by rw [S_size]
  have HQA := Lib.hid hqa
  have HQB := Lib.hid hqb
  clear hqa hqb
  clear hs hT hfit hheld hlen hn
  unfold Said
  go_enter Tryz.func9, Tryz.ntmps9
  go_wp2_with fail
  with_reducible refine HF.out.mono ?_
  rintro e w1 ⟨b, rfl, hb12, hb1⟩
  have HB1 := Lib.hid hb1
  have H12 := Lib.hid hb12
  clear hb1 hb12 HF
  cases b with
  | false =>
    go_wp2_with fail
    with_reducible refine (HA.out w1 HB1.out).mono ?_
    rintro e wz0 ⟨rfl, hb⟩
    have HZ0 := Lib.hid (HB1.out.trans (hb.mono HB1.out.size))
    clear hb
    go_wp2
    go_ret
    exact ⟨rfl, HZ0.out⟩
  | true =>
    by_cases hg0 : 100 < qa.length
    · have ig0 : 100 < (qa.length : Int) := by omega
      clear hg0
      go_wp2_with fail
      with_reducible refine (HA.out w1 HB1.out).mono ?_
      rintro e wz0 ⟨rfl, hb⟩
      have HZ0 := Lib.hid (HB1.out.trans (hb.mono HB1.out.size))
      clear hb
      go_wp2
      go_ret
      exact ⟨rfl, HZ0.out⟩
    have ig0 : ¬ (100 < (qa.length : Int)) := by omega
    clear hg0
    by_cases hg1 : 100 < qb.length
    · have ig1 : 100 < (qb.length : Int) := by omega
      clear hg1
      go_wp2_with fail
      with_reducible refine (HA.out w1 HB1.out).mono ?_
      rintro e wz0 ⟨rfl, hb⟩
      have HZ0 := Lib.hid (HB1.out.trans (hb.mono HB1.out.size))
      clear hb
      go_wp2
      go_ret
      exact ⟨rfl, HZ0.out⟩
    have ig1 : ¬ (100 < (qb.length : Int)) := by omega
    clear hg1
    have HNW := Lib.hid (HN.out w1 HB1.out (H12.out rfl))
    have HN12 : Hid (n ≤ 12) := Lib.hid (H12.out rfl)
    clear HN H12
    go_wp2_with fail
    with_reducible refine HNW.out.mono ?_
    rintro e w2 h
    rcases h with ⟨i, z, hbad, rfl, hb2⟩ | ⟨hok, T, mb, B, rfl, htb, hb2⟩
    · have hz0 : (z : Int) ≠ 0 := by have := hbad.ne; omega
      have hz1 : ((z : Int) != 0) = true := by simpa using hz0
      have HB2 := Lib.hid (HB1.out.trans (hb2.mono HB1.out.size))
      clear hb2 hbad HNW
      go_wp2_with fail
      with_reducible refine (HA.out w2 HB2.out).mono ?_
      rintro e wz0 ⟨rfl, hb⟩
      have HZ0 := Lib.hid (HB2.out.trans (hb.mono HB2.out.size))
      clear hb
      go_wp2_with fail
      with_reducible refine (HA.out wz0 HZ0.out).mono ?_
      rintro e wz1 ⟨rfl, hb⟩
      have HZ1 := Lib.hid (HZ0.out.trans (hb.mono HZ0.out.size))
      clear hb
      go_wp2
      go_ret
      exact ⟨rfl, HZ1.out⟩
    · have HOK := Lib.hid hok
      have HT := Lib.hid htb.tab
      have HB2 := Lib.hid (HB1.out.trans (hb2.mono HB1.out.size))
      clear hb2 htb hok HNW
      go_wp2_with fail
      with_reducible refine (HA.out w2 HB2.out).mono ?_
      rintro e w3 ⟨rfl, hb⟩
      have HR : Hid (Below w2.heap.size w2 w3) := Lib.hid hb
      clear hb
      have HGE : Hid (∀ (x : List UInt8) W, x.length ≤ 9223372036854775807 → Below w2.heap.size w2 W → Calls Tryz.prog 26 #[.pointer (some ⟨T, 0, none⟩), .string (S x)] W (GetG6 (newT cs) (placeE (newT cs) x) W)) := Lib.hid (fun x W hx hW => gett_any HT.out HOK.out.clsSmall x hx W hW)
      unfold GetG6 at HGE
      clear HA HN12 HS
      go_wp2_with fail
      with_reducible refine (HGE.out qb w3 HQB.out HR.out).mono ?_
      rintro e w4 ⟨hb4, hres⟩
      have HR4 := Lib.hid (HR.out.trans (hb4.mono HR.out.size))
      have HB43 := Lib.hid hb4
      clear hb4
      rcases hres with ⟨hpb, rfl⟩ | ⟨ib, ec, v, hpb, hec, rfl, hv⟩
      · have HR5 := Lib.hid (below_alloc HR4.out (.cells #[.string ⟨#[]⟩, .string ⟨#[]⟩, .slice none 0 0, .bool false, .bool false, .bool false, .slice none 0 0, .slice none 0 0] 26))
        unfold clsZ
        clear hpb
        go_wp2_with fail
        with_reducible refine (HGE.out qa _ HQA.out HR5.out).mono ?_
        rintro e w6 ⟨hb6, hres⟩
        have HR6 := Lib.hid (HR5.out.trans (hb6.mono HR5.out.size))
        clear hb6
        rcases hres with ⟨hpa, rfl⟩ | ⟨ia, ea, v, hpa, hea, rfl, hv⟩
        · have HR7 := Lib.hid (below_alloc HR6.out (.cells #[.string ⟨#[]⟩, .string ⟨#[]⟩, .slice none 0 0, .bool false, .bool false, .bool false, .slice none 0 0, .slice none 0 0] 26))
          unfold clsZ
          clear hpa
          go_wp2
          go_ret
          exact ⟨rfl, HB2.out.trans (HR7.out.mono HB2.out.size)⟩
        · obtain ⟨l6, f6, m6, rfl, hl6, hf6, hm6⟩ := hv
          have HR7 := Lib.hid (fun u => below_alloc HR6.out (.cells u 26))
          obtain ⟨lo, lc, rfl⟩ := hl6.shape
          obtain ⟨fo, fc, rfl⟩ := hf6.shape
          obtain ⟨mo, mc, rfl⟩ := hm6.shape
          clear hl6 hf6 hm6 hpa hea
          go_wp2
          go_ret
          exact ⟨rfl, HB2.out.trans ((HR7.out _).mono HB2.out.size)⟩
      · obtain ⟨l6, f6, m6, rfl, hl6, hf6, hm6⟩ := hv
        obtain ⟨lo, lc, rfl⟩ := hl6.shape
        obtain ⟨fo, fc, rfl⟩ := hf6.shape
        obtain ⟨mo, mc, rfl⟩ := hm6.shape
        obtain ⟨q, hq⟩ : ∃ q, q = ec.cls.mths.length := ⟨_, rfl⟩
        rw [← hq] at hm6 ⊢
        have HQL := Lib.hid hq
        have hbC : Below w4.heap.size w4 (w4.alloc (.cells #[.string (S ec.cls.name), .string (S ec.cls.sup), .slice lo ec.cls.like.length lc, .bool ec.cls.itf, .bool ec.cls.abs, .bool ec.cls.fin, .slice fo ec.cls.flds.length fc, .slice mo q mc] 26)) := below_alloc (Below.refl _ _) _
        have HCX := Lib.hid (Box.new w4 #[.string (S ec.cls.name), .string (S ec.cls.sup), .slice lo ec.cls.like.length lc, .bool ec.cls.itf, .bool ec.cls.abs, .bool ec.cls.fin, .slice fo ec.cls.flds.length fc, .slice mo q mc] 26)
        have HCM := Lib.hid (MthR.st.below hm6 hbC)
        have HR5 := Lib.hid (HR4.out.trans (hbC.mono HR4.out.size))
        have HIB := Lib.hid (And.intro hpb hec)
        clear hbC hl6 hf6 hm6 hq hpb hec
        go_upto_region 7 with fail
        obtain ⟨cx, hcx⟩ : ∃ cx, cx = w4.heap.size := ⟨_, rfl⟩
        rw [← hcx] at HCX ⊢
        generalize hW5 : w4.alloc (.cells #[.string (S ec.cls.name), .string (S ec.cls.sup), .slice lo ec.cls.like.length lc, .bool ec.cls.itf, .bool ec.cls.abs, .bool ec.cls.fin, .slice fo ec.cls.flds.length fc, .slice mo q mc] 26) = w5 at HCX HCM HR5 ⊢
        clear hW5 hcx
        go_wp2_with fail
        with_reducible refine (HGE.out qa w5 HQA.out HR5.out).mono ?_
        rintro e w6 ⟨hb6, hres⟩
        have HR6 := Lib.hid (HR5.out.trans (hb6.mono HR5.out.size))
        have HB65 := Lib.hid hb6
        clear hb6 HGE
        rcases hres with ⟨hpa, rfl⟩ | ⟨ia, ea, v, hpa, hea, rfl, hv⟩
        · have HR7 := Lib.hid (below_alloc HR6.out (.cells #[.string ⟨#[]⟩, .string ⟨#[]⟩, .slice none 0 0, .bool false, .bool false, .bool false, .slice none 0 0, .slice none 0 0] 26))
          unfold clsZ
          clear hpa
          go_wp2
          go_ret
          exact ⟨rfl, HB2.out.trans (HR7.out.mono HB2.out.size)⟩
        · obtain ⟨l7, f7, m7, rfl, hl7, hf7, hm7⟩ := hv
          obtain ⟨lo2, lc2, rfl⟩ := hl7.shape
          obtain ⟨fo2, fc2, rfl⟩ := hf7.shape
          obtain ⟨mo2, mc2, rfl⟩ := hm7.shape
          have hbD := fun u => below_alloc (Below.refl w6.heap.size w6) (.cells u 26)
          have HB75 := Lib.hid (fun u => HB65.out.trans ((hbD u).mono HB65.out.size))
          have HR7 := Lib.hid (fun u => HR6.out.trans ((hbD u).mono HR6.out.size))
          have HIA := Lib.hid (And.intro hpa hea)
          clear hl7 hf7 hm7 hbD hpa hea
          go_upto_region 8 with fail
          refine wp_forget (fun W => Below w5.heap.size w5 W ∧ Below w2.heap.size w2 W) ⟨HB75.out _, HR7.out _⟩ ?_
          rintro w7 ⟨b75, b72⟩
          have HB7 := Lib.hid b75
          have HR8 := Lib.hid b72
          clear b75 b72 HB75 HR7
          have hial : ia < (newT cs).length := placeE_lt HIA.out.1
          have hibl : ib < (newT cs).length := placeE_lt HIB.out.1
          have HLN := Lib.hid (And.intro hial hibl)
          have HSUB : Hid (Calls Tryz.prog 30 #[.pointer (some ⟨T, 0, none⟩), .string (S qa), .string (S qb)] w7 (fun e w' => e = .returned (.bool (subE (newT cs) qa qb)) ∧ Below w7.heap.size w7 w')) := Lib.hid (sub_any HT.out HOK.out.shape qa qb w7 HR8.out HQA.out HQB.out)
          have HUP : Hid (subE (newT cs) qa qb = true → Up (newT cs) ia ib) := Lib.hid (fun h => by
            obtain ⟨_, _, hc⟩ := HOK.out.wise.sub_case.1 h
            have h1 := HIA.out.1
            have h2 := HIB.out.1
            have k1 : ∀ i j, placeE (newT cs) qa = some i → placeE (newT cs) qb = some j → ia = i ∧ ib = j := fun i j p q => by rw [h1] at p; rw [h2] at q; exact ⟨Option.some.inj p, Option.some.inj q⟩
            obtain ⟨_, _, _, _, ca, _⟩ := HOK.out.wise.place h1
            clear HSUB
            generalize hA : placeE (newT cs) qa = pa at h1 k1
            cases hc with
            | same => rw [hA] at h2; rw [h1] at h2; rw [Option.some.inj h2]; exact .refl _
            | null => rw [null_class] at ca; cases ca
            | arr _ _ hd => rw [class_dep ca] at hd; omega
            | cls _ _ i j p q r => obtain ⟨e1, e2⟩ := k1 i j (by rw [← hA]; exact p) q; rw [e1, e2]; exact r)
          clear hial hibl
          go_wp2_with fail
          with_reducible refine HSUB.out.mono ?_
          rintro e w8 ⟨rfl, hb8⟩
          have HB8 := Lib.hid (HB7.out.trans (hb8.mono HB7.out.size))
          have HR9 := Lib.hid (HR8.out.trans (hb8.mono HR8.out.size))
          clear hb8 HSUB
          cases hsub : subE (newT cs) qa qb with
          | false =>
            clear hsub
            go_wp2
            go_ret
            exact ⟨rfl, HB2.out.trans (HR9.out.mono HB2.out.size)⟩
          | true =>
            have HU := Lib.hid (HUP.out hsub)
            clear hsub HUP
            have HFL : Hid (∀ (x : List UInt8) (i : Nat) W, placeE (newT cs) x = some i → x.length ≤ 9223372036854775807 → Below w2.heap.size w2 W → Calls Tryz.prog 36 #[.pointer (some ⟨T, 0, none⟩), .string (S x)] W (FldsG (fldsL (newT cs) (lineE (newT cs) (some i))) W)) := Lib.hid (fun x i W hp hx hW => by
              have h := fieldst_any HT.out HOK.out.shape x W hW hx
              unfold fldsO at h
              rw [hp] at h
              exact h)
            unfold FldsG at HFL
            have HPK : Hid (∀ k f, (fldsL (newT cs) (lineE (newT cs) (some ib)))[k]? = some f → (fldsL (newT cs) (lineE (newT cs) (some ia)))[k]? = some f ∧ placeF (newT cs) qa f.name = some k) := Lib.hid (fun k f hk => by
              have h := HOK.out.wise.place_keep HLN.out.1 (fun d hd => (HOK.out.line_chk HLN.out.1 d hd).1) HU.out hk
              refine ⟨h.1, ?_⟩
              unfold placeF fldsO
              rw [HIA.out.1]
              exact h.2)
            have HLF : Hid (∀ i, i < (newT cs).length → (fldsL (newT cs) (lineE (newT cs) (some i))).length ≤ 33554432) := Lib.hid (fun i _ => by
              have h1 := fldsL_le HOK.out.shape.fl (lineE (newT cs) (some i))
              have h2 := lineF_len (newT cs) (newT cs).length (some i)
              have h3 := HOK.out.shape.len
              unfold lineE at h1 ⊢
              omega)
            go_wp2_with fail
            with_reducible refine (HFL.out qb ib w8 HIB.out.1 HQB.out HR9.out).mono ?_
            rintro e w9 ⟨vf, rfl, htf, hb9⟩
            have HBA := Lib.hid (HB8.out.trans (hb9.mono HB8.out.size))
            have HRA := Lib.hid (HR9.out.trans (hb9.mono HR9.out.size))
            have HTF := Lib.hid (htf.src FldR.st)
            obtain ⟨ao, ac, rfl⟩ := htf.shape
            clear htf hb9
            go_wp2_with fail
            with_reducible refine (HFL.out qa ia w9 HIA.out.1 HQA.out HRA.out).mono ?_
            rintro e wA ⟨vg, rfl, htg, hbA⟩
            have HBB := Lib.hid (HBA.out.trans (hbA.mono HBA.out.size))
            have HRB := Lib.hid (HRA.out.trans (hbA.mono HRA.out.size))
            have HF := Lib.hid (FldR.st.below HTF.out hbA)
            have HG := Lib.hid (htg.src FldR.st)
            obtain ⟨bo, bc, rfl⟩ := htg.shape
            have hlf := HLF.out ib HLN.out.2
            have hlg := HLF.out ia HLN.out.1
            generalize hfl : fldsL (newT cs) (lineE (newT cs) (some ib)) = fs at HPK HF hlf ⊢
            generalize hgl : fldsL (newT cs) (lineE (newT cs) (some ia)) = gs at HPK HG hlg ⊢
            obtain ⟨nf, hnf⟩ : ∃ nf, nf = fs.length := ⟨_, rfl⟩
            obtain ⟨ng, hng⟩ : ∃ ng, ng = gs.length := ⟨_, rfl⟩
            rw [← hnf] at HF hlf ⊢
            rw [← hng] at HG hlg ⊢
            have HNF := Lib.hid hnf
            have HNG := Lib.hid hng
            clear htg hbA HTF HFL HLF hfl hgl hnf hng
            go_wp2
            go_loopw [16] (fun v16 wr => ∃ k : Nat, k ≤ nf ∧ v16 = .int .i64 k ∧ Below wA.heap.size wA wr) (fun v16 _ => nf - (intOf v16).toNat)
            case atStart => exact ⟨0, Nat.zero_le _, rfl, Below.refl _ _⟩
            case round =>
              obtain ⟨k, hk, rfl, hbw⟩ := hrel
              have HW := Lib.hid hbw
              clear hbw
              by_cases hlt : k < nf
              · obtain ⟨f, hf⟩ : ∃ f, fs[k]? = some f := ⟨_, List.getElem?_eq_getElem (by rw [← HNF.out]; exact hlt)⟩
                obtain ⟨hgf, hpf⟩ := HPK.out k f hf
                have hkg : k < ng := by rw [HNG.out]; exact (List.getElem?_eq_some_iff.1 hgf).1
                obtain ⟨b1, o1, u1, rfl, hu1, _, hc1⟩ := Src.elem (FldR.st.below HF.out HW.out) k f hf
                obtain ⟨b2, o2, u2, rfl, hu2, _, hc2⟩ := Src.elem (FldR.st.below HG.out HW.out) k f hgf
                obtain rfl := hu1
                obtain rfl := hu2
                have HPL : Hid (∀ W, Below wr.heap.size wr W → Calls Tryz.prog 38 #[.pointer (some ⟨T, 0, none⟩), .string (S qa), .string (S f.name)] W (fun e w' => e = .returned (.int .i64 (k : Nat)) ∧ Below W.heap.size W w')) := Lib.hid (fun W hW => by
                  have h := placet_any HT.out HOK.out.shape qa f.name W (HRB.out.trans ((HW.out.trans (hW.mono HW.out.size)).mono HRB.out.size)) HQA.out
                  rw [hpf] at h
                  exact h)
                have HS2 : Hid (∀ W, Below wr.heap.size wr W → W.cell? ⟨b1, o1 + k * 3, none⟩ = some (.string (S f.name)) ∧ W.cell? ⟨b1, o1 + k * 3 + 1, none⟩ = some (.string (S f.kind)) ∧ W.cell? ⟨b1, o1 + k * 3 + 2, none⟩ = some (.bool f.tr) ∧ W.cell? ⟨b2, o2 + k * 3, none⟩ = some (.string (S f.name)) ∧ W.cell? ⟨b2, o2 + k * 3 + 1, none⟩ = some (.string (S f.kind)) ∧ W.cell? ⟨b2, o2 + k * 3 + 2, none⟩ = some (.bool f.tr)) := Lib.hid (fun W hW => by
                  have ho := Only.ofBelow (S := fun _ => False) hW
                  exact ⟨ho.cell (a := ⟨b1, o1 + k * 3, none⟩) (hc1 0 _ rfl) id, ho.cell (a := ⟨b1, o1 + k * 3 + 1, none⟩) (hc1 1 _ rfl) id, ho.cell (a := ⟨b1, o1 + k * 3 + 2, none⟩) (hc1 2 _ rfl) id, ho.cell (a := ⟨b2, o2 + k * 3, none⟩) (hc2 0 _ rfl) id, ho.cell (a := ⟨b2, o2 + k * 3 + 1, none⟩) (hc2 1 _ rfl) id, ho.cell (a := ⟨b2, o2 + k * 3 + 2, none⟩) (hc2 2 _ rfl) id⟩)
                have hk0 : (0 : Int) ≤ (k : Int) := by omega
                have hkn : (k : Int) < (nf : Int) := by omega
                have hkm : (k : Int) < (ng : Int) := by omega
                have hkg2 : ¬ ((ng : Int) ≤ (k : Int)) := by omega
                have e1 := S_toList f.name
                have e2 := S_toList f.kind
                generalize f.name = fn at HPL HS2 e1
                generalize f.kind = fk at HS2 e2
                generalize f.tr = ft at HS2
                have hB := Below.refl wr.heap.size wr
                obtain ⟨g0, g1, g2, g3, g4, g5⟩ := HS2.out wr hB
                clear hf hgf hpf hkg hc1 hc2
                go_upto_region 14 with fail
                first
                | (go_region_held3 (fun W => W.cell? ⟨b1, o1 + k * 3, none⟩ = some (.string (S fn)) ∧ W.cell? ⟨b1, o1 + k * 3 + 1, none⟩ = some (.string (S fk)) ∧ W.cell? ⟨b1, o1 + k * 3 + 2, none⟩ = some (.bool ft) ∧ W.cell? ⟨b2, o2 + k * 3, none⟩ = some (.string (S fn)) ∧ W.cell? ⟨b2, o2 + k * 3 + 1, none⟩ = some (.string (S fk)) ∧ W.cell? ⟨b2, o2 + k * 3 + 2, none⟩ = some (.bool ft)) ((refine HS2.out _ ?_; (repeat (first | (with_reducible exact hB) | (with_reducible (apply below_step; rotate_left; assumption)) | (with_reducible refine below_drew ?_)))))
                    (first | ((go_at_call 38; (with_reducible refine (HPL.out _ ?_).mono ?_); (focus ((repeat (first | (with_reducible exact hB) | (with_reducible (apply below_step; rotate_left; assumption)) | (with_reducible refine below_drew ?_))); done)); rintro e ws1 ⟨rfl, bs1⟩))))
                | fail
                all_goals
                  go_wp2
                  go_roundw
                  case rel => exact ⟨k + 1, by omega, by go_num, HW.out.trans (Below.mono (by first | exact below_drewN _ _ | (repeat (first | (with_reducible exact hB) | (with_reducible (apply below_step; rotate_left; assumption)) | (with_reducible refine below_drew ?_)))) HW.out.size)⟩
                  case measure => simp [intOf]; omega
              · obtain rfl : k = nf := by omega
                have HWE := Lib.hid (HRB.out.trans (HW.out.mono HRB.out.size))
                clear HPK HF HG
                obtain ⟨wZ, rfl⟩ : ∃ wZ, wZ = wr := ⟨_, rfl⟩
                have HZ := Lib.hid (HBB.out.trans (HW.out.mono HBB.out.size))
                have HXC : Hid (∀ W, Below wZ.heap.size wZ W → W.cell? ⟨cx, 7, none⟩ = some (.slice mo q mc)) := Lib.hid (fun W hW => ((HCX.out.below HZ.out).below hW).cell 7 rfl)
                have HOB : Hid (∀ W, Below w2.heap.size w2 W → absAt (newT cs) ia = true → Calls Tryz.prog 27 #[.pointer (some ⟨T, 0, none⟩), .string (S qa)] W (fun e w' => e = .returned (.bool false) ∧ Below W.heap.size W w')) := Lib.hid (fun W hW ha => by
                  have h := objects_any HT.out qa W hW HQA.out
                  have h0 : objE (newT cs) qa = false := by
                    unfold objE
                    rw [HIA.out.1]
                    dsimp only
                    rw [HIA.out.2]
                    rw [absAt_eq HIA.out.2] at ha
                    show (!ea.cls.abs) = false
                    rw [ha]
                    rfl
                  rw [h0] at h
                  exact h)
                have HMT : Hid (∀ (x : List UInt8) W, Below w2.heap.size w2 W → Calls Tryz.prog 40 #[.pointer (some ⟨T, 0, none⟩), .string (S qa), .string (S x)] W (MethT (newT cs) (findM (newT cs) (some ia) x) W)) := Lib.hid (fun x W hW => by
                  have h := methodt_any HT.out HOK.out.shape (fun i => by have := HOK.out.few i; omega) HOK.out.small qa x HQA.out W hW
                  rw [HIA.out.1] at h
                  exact h)
                unfold MethT at HMT
                have hq32 : q ≤ 32 := by have := HOK.out.few ib; rw [mthsAt_eq HIB.out.2] at this; rw [HQL.out]; exact this
                have c7 := HXC.out wZ (Below.refl _ _)
                clear HW
                go_wp2
                go_loopw [17] (fun v17 wr => ∃ k : Nat, k ≤ q ∧ v17 = .int .i64 k ∧ Below wZ.heap.size wZ wr) (fun v17 _ => q - (intOf v17).toNat)
                case atStart => exact ⟨0, Nat.zero_le _, rfl, Below.refl _ _⟩
                case round =>
                  obtain ⟨k, hk, rfl, hbw⟩ := hrel
                  have HW := Lib.hid hbw
                  have c7 := HXC.out wr hbw
                  clear hbw
                  by_cases hlt : k < q
                  · obtain ⟨mk, hmk⟩ : ∃ mk, ec.cls.mths[k]? = some mk := ⟨_, List.getElem?_eq_getElem (by rw [← HQL.out]; exact hlt)⟩
                    have hmm : mk ∈ mthsAt (newT cs) ib := by rw [mthsAt_eq HIB.out.2]; exact List.mem_of_getElem? hmk
                    have hchk := HOK.out.line_chk HLN.out.1
                    obtain ⟨r, hr, hsg, hab⟩ := HOK.out.wise.mths_keep HLN.out.1 (fun d hd => (hchk d hd).2.1) (fun d hd => (hchk d hd).2.2) HU.out hmm
                    have hgk : mk.Good := HOK.out.wise.good ib mk hmm
                    have hgr : r.2.Good := HOK.out.wise.good r.1 r.2 (HOK.out.wise.owner (x := r.1) (m := r.2) HLN.out.1 hr).2.2.1
                    obtain ⟨b2, o2, v2, rfl, hv2, _, hcl2⟩ := Src.elem (MthR.st.below (MthR.st.below HCM.out HZ.out) HW.out) k mk hmk
                    have HMC := Lib.hid (HMT.out mk.name wr (HWE.out.trans (HW.out.mono HWE.out.size)))
                    rw [hr] at HMC
                    have hv3 := hv2
                    obtain ⟨_, _, _, rfl, ⟨po2, pc2, rfl⟩, ⟨co2, cc2, rfl⟩, ⟨ko2, kc2, rfl⟩⟩ := mth_shape hv3
                    have hk0 : (0 : Int) ≤ (k : Int) := by omega
                    have hkn : (k : Int) < (q : Int) := by omega
                    have d0 : wr.cell? ⟨b2, o2 + k * 7, none⟩ = some (.string (S mk.name)) := hcl2 0 _ rfl
                    have HCL := Lib.hid hcl2
                    have HV2 := Lib.hid hv2
                    have HGK := Lib.hid hgk
                    have HGR := Lib.hid hgr
                    have HSG := Lib.hid hsg
                    have HAB := Lib.hid hab
                    clear hmk hmm hchk hr hgk hgr hsg hab hv2 hv3 hcl2
                    go_wp2_with fail
                    clear d0 c7
                    with_reducible refine HMC.out.mono ?_
                    rintro e y4 ⟨hb4, hres⟩
                    rcases hres with ⟨hr, _⟩ | ⟨y, m, v, hr, rfl, hv⟩
                    · cases hr
                    · obtain rfl : r = (y, m) := Option.some.inj hr
                      obtain ⟨_, _, _, rfl, ⟨po, pc, rfl⟩, ⟨co, cc, rfl⟩, ⟨ko, kc, rfl⟩⟩ := mth_shape hv
                      have hbA : Below y4.heap.size y4 (y4.alloc (.cells #[.string (S m.name), .slice po m.params.length pc, .string (S m.res), .bool m.abs, .int .i64 m.loc, .slice co m.code.length cc, .slice ko m.cats.length kc] 33)) := below_alloc (Below.refl _ _) _
                      have HMV := Lib.hid (MthR.st.keep hv (Only.ofBelow (S := fun _ => False) hbA) (fun _ _ => id))
                      have HMX := Lib.hid (Box.new y4 #[.string (S m.name), .slice po m.params.length pc, .string (S m.res), .bool m.abs, .int .i64 m.loc, .slice co m.code.length cc, .slice ko m.cats.length kc] 33)
                      have HB5 := Lib.hid (hb4.trans (hbA.mono hb4.size))
                      clear hr hv hbA HMC
                      go_upto_region 20 with fail
                      obtain ⟨mx, hmx⟩ : ∃ mx, mx = y4.heap.size := ⟨_, rfl⟩
                      rw [← hmx] at HMX ⊢
                      generalize hW5 : y4.alloc (.cells #[.string (S m.name), .slice po m.params.length pc, .string (S m.res), .bool m.abs, .int .i64 m.loc, .slice co m.code.length cc, .slice ko m.cats.length kc] 33) = y5 at HMV HMX HB5 ⊢
                      clear hW5 hmx hb4
                      have HBZ := Lib.hid (HW.out.trans (HB5.out.mono HW.out.size))
                      have HAT : Hid (m.abs = true → absAt (newT cs) ia = true) := Lib.hid (fun h => by
                        cases hq : absAt (newT cs) ia with
                        | true => rfl
                        | false => rw [HAB.out hq] at h; cases h)
                      have HS2 : Hid (∀ W, Below y5.heap.size y5 W → W.cell? ⟨mx, 0, none⟩ = some (.string (S m.name)) ∧ W.cell? ⟨mx, 1, none⟩ = some (.slice po m.params.length pc) ∧ W.cell? ⟨mx, 2, none⟩ = some (.string (S m.res)) ∧ W.cell? ⟨mx, 3, none⟩ = some (.bool m.abs) ∧ W.cell? ⟨mx, 4, none⟩ = some (.int .i64 m.loc) ∧ W.cell? ⟨mx, 5, none⟩ = some (.slice co m.code.length cc) ∧ W.cell? ⟨mx, 6, none⟩ = some (.slice ko m.cats.length kc) ∧ W.cell? ⟨cx, 7, none⟩ = some (.slice (some ⟨b2, o2, none⟩) q mc) ∧ W.cell? ⟨b2, o2 + k * 7, none⟩ = some (.string (S mk.name)) ∧ W.cell? ⟨b2, o2 + k * 7 + 1, none⟩ = some (.slice po2 mk.params.length pc2) ∧ W.cell? ⟨b2, o2 + k * 7 + 2, none⟩ = some (.string (S mk.res)) ∧ W.cell? ⟨b2, o2 + k * 7 + 3, none⟩ = some (.bool mk.abs) ∧ W.cell? ⟨b2, o2 + k * 7 + 4, none⟩ = some (.int .i64 mk.loc) ∧ W.cell? ⟨b2, o2 + k * 7 + 5, none⟩ = some (.slice co2 mk.code.length cc2) ∧ W.cell? ⟨b2, o2 + k * 7 + 6, none⟩ = some (.slice ko2 mk.cats.length kc2)) := Lib.hid (fun W hW => by
                        have x1 := HMX.out.below hW
                        have ho := Only.ofBelow (S := fun _ => False) (HB5.out.trans (hW.mono HB5.out.size))
                        refine ⟨x1.cell 0 rfl, x1.cell 1 rfl, x1.cell 2 rfl, x1.cell 3 rfl, x1.cell 4 rfl, x1.cell 5 rfl, x1.cell 6 rfl, HXC.out W (HBZ.out.trans (hW.mono HBZ.out.size)), ?_⟩
                        exact ⟨ho.cell (a := ⟨b2, o2 + k * 7, none⟩) (HCL.out 0 _ rfl) id, ho.cell (a := ⟨b2, o2 + k * 7 + 1, none⟩) (HCL.out 1 _ rfl) id, ho.cell (a := ⟨b2, o2 + k * 7 + 2, none⟩) (HCL.out 2 _ rfl) id, ho.cell (a := ⟨b2, o2 + k * 7 + 3, none⟩) (HCL.out 3 _ rfl) id, ho.cell (a := ⟨b2, o2 + k * 7 + 4, none⟩) (HCL.out 4 _ rfl) id, ho.cell (a := ⟨b2, o2 + k * 7 + 5, none⟩) (HCL.out 5 _ rfl) id, ho.cell (a := ⟨b2, o2 + k * 7 + 6, none⟩) (HCL.out 6 _ rfl) id⟩)
                      have HS3 : Hid (∀ W, Below y5.heap.size y5 W → Calls Tryz.prog 16 #[.agg #[.string (S m.name), .slice po m.params.length pc, .string (S m.res), .bool m.abs, .int .i64 m.loc, .slice co m.code.length cc, .slice ko m.cats.length kc]] W (fun e w' => e = .returned (.string (S (signB mk))) ∧ Below W.heap.size W w')) := Lib.hid (fun W hW => by
                        have h := csign_any m _ W (MthR.st.keep HMV.out (Only.ofBelow (S := fun _ => False) hW) (fun _ _ => id)) HGR.out.brief
                        unfold SaidS at h
                        rw [show signB m = signB mk from HSG.out] at h
                        exact h)
                      have HS4 : Hid (∀ W, Below y5.heap.size y5 W → Calls Tryz.prog 16 #[.agg #[.string (S mk.name), .slice po2 mk.params.length pc2, .string (S mk.res), .bool mk.abs, .int .i64 mk.loc, .slice co2 mk.code.length cc2, .slice ko2 mk.cats.length kc2]] W (fun e w' => e = .returned (.string (S (signB mk))) ∧ Below W.heap.size W w')) := Lib.hid (fun W hW => csign_any mk _ W (MthR.st.keep HV2.out (Only.ofBelow (S := fun _ => False) (HB5.out.trans (hW.mono HB5.out.size))) (fun _ _ => id)) HGK.out.brief)
                      have HO2 : Hid (∀ W, Below y5.heap.size y5 W → m.abs = true → Calls Tryz.prog 27 #[.pointer (some ⟨T, 0, none⟩), .string (S qa)] W (fun e w' => e = .returned (.bool false) ∧ Below W.heap.size W w')) := Lib.hid (fun W hW ha => HOB.out W (HWE.out.trans ((HBZ.out.trans (hW.mono HBZ.out.size)).mono HWE.out.size)) (HAT.out ha))
                      have e3 := S_toList (signB mk)
                      generalize signB mk = sg at HS3 HS4 e3
                      have hB := Below.refl y5.heap.size y5
                      clear HAB HAT HSG HGK HGR HV2 HCL
                      cases hma : m.abs with
                      | true =>
                        have HO3 := Lib.hid (fun W hW => HO2.out W hW hma)
                        rw [hma] at HS2 HS3
                        clear hma HO2
                        obtain ⟨g0, g1, g2, g3, g4, g5, g6, g7, h0, h1, h2, h3, h4, h5, h6⟩ := HS2.out y5 hB
                        first
                        | (go_region_held (fun W => W.cell? ⟨mx, 0, none⟩ = some (.string (S m.name)) ∧ W.cell? ⟨mx, 1, none⟩ = some (.slice po m.params.length pc) ∧ W.cell? ⟨mx, 2, none⟩ = some (.string (S m.res)) ∧ W.cell? ⟨mx, 3, none⟩ = some (.bool true) ∧ W.cell? ⟨mx, 4, none⟩ = some (.int .i64 m.loc) ∧ W.cell? ⟨mx, 5, none⟩ = some (.slice co m.code.length cc) ∧ W.cell? ⟨mx, 6, none⟩ = some (.slice ko m.cats.length kc) ∧ W.cell? ⟨cx, 7, none⟩ = some (.slice (some ⟨b2, o2, none⟩) q mc) ∧ W.cell? ⟨b2, o2 + k * 7, none⟩ = some (.string (S mk.name)) ∧ W.cell? ⟨b2, o2 + k * 7 + 1, none⟩ = some (.slice po2 mk.params.length pc2) ∧ W.cell? ⟨b2, o2 + k * 7 + 2, none⟩ = some (.string (S mk.res)) ∧ W.cell? ⟨b2, o2 + k * 7 + 3, none⟩ = some (.bool mk.abs) ∧ W.cell? ⟨b2, o2 + k * 7 + 4, none⟩ = some (.int .i64 mk.loc) ∧ W.cell? ⟨b2, o2 + k * 7 + 5, none⟩ = some (.slice co2 mk.code.length cc2) ∧ W.cell? ⟨b2, o2 + k * 7 + 6, none⟩ = some (.slice ko2 mk.cats.length kc2)) ((refine HS2.out _ ?_; (repeat (first | (with_reducible exact hB) | (with_reducible (apply below_step; rotate_left; assumption)) | (with_reducible refine below_drew ?_)))))
                            (first | ((go_at_call 16; (with_reducible refine (HS3.out _ ?_).mono ?_); (focus ((repeat (first | (with_reducible exact hB) | (with_reducible (apply below_step; rotate_left; assumption)) | (with_reducible refine below_drew ?_))); done)); rintro e ws1 ⟨rfl, bs1⟩))
                                   | ((go_at_call 16; (with_reducible refine (HS4.out _ ?_).mono ?_); (focus ((repeat (first | (with_reducible exact hB) | (with_reducible (apply below_step; rotate_left; assumption)) | (with_reducible refine below_drew ?_))); done)); rintro e ws2 ⟨rfl, bs2⟩))
                                   | ((go_at_call 27; (with_reducible refine (HO3.out _ ?_).mono ?_); (focus ((repeat (first | (with_reducible exact hB) | (with_reducible (apply below_step; rotate_left; assumption)) | (with_reducible refine below_drew ?_))); done)); rintro e ws3 ⟨rfl, bs3⟩))))
                        | fail
                        all_goals
                          go_wp2
                          go_roundw
                          case rel => exact ⟨k + 1, by omega, by go_num, HBZ.out.trans (Below.mono (by first | exact below_drewN _ _ | (repeat (first | (with_reducible exact hB) | (with_reducible (apply below_step; rotate_left; assumption)) | (with_reducible refine below_drew ?_)))) HBZ.out.size)⟩
                          case measure => simp [intOf]; omega
                      | false =>
                        rw [hma] at HS2 HS3
                        clear hma HO2
                        obtain ⟨g0, g1, g2, g3, g4, g5, g6, g7, h0, h1, h2, h3, h4, h5, h6⟩ := HS2.out y5 hB
                        first
                        | (go_region_held (fun W => W.cell? ⟨mx, 0, none⟩ = some (.string (S m.name)) ∧ W.cell? ⟨mx, 1, none⟩ = some (.slice po m.params.length pc) ∧ W.cell? ⟨mx, 2, none⟩ = some (.string (S m.res)) ∧ W.cell? ⟨mx, 3, none⟩ = some (.bool false) ∧ W.cell? ⟨mx, 4, none⟩ = some (.int .i64 m.loc) ∧ W.cell? ⟨mx, 5, none⟩ = some (.slice co m.code.length cc) ∧ W.cell? ⟨mx, 6, none⟩ = some (.slice ko m.cats.length kc) ∧ W.cell? ⟨cx, 7, none⟩ = some (.slice (some ⟨b2, o2, none⟩) q mc) ∧ W.cell? ⟨b2, o2 + k * 7, none⟩ = some (.string (S mk.name)) ∧ W.cell? ⟨b2, o2 + k * 7 + 1, none⟩ = some (.slice po2 mk.params.length pc2) ∧ W.cell? ⟨b2, o2 + k * 7 + 2, none⟩ = some (.string (S mk.res)) ∧ W.cell? ⟨b2, o2 + k * 7 + 3, none⟩ = some (.bool mk.abs) ∧ W.cell? ⟨b2, o2 + k * 7 + 4, none⟩ = some (.int .i64 mk.loc) ∧ W.cell? ⟨b2, o2 + k * 7 + 5, none⟩ = some (.slice co2 mk.code.length cc2) ∧ W.cell? ⟨b2, o2 + k * 7 + 6, none⟩ = some (.slice ko2 mk.cats.length kc2)) ((refine HS2.out _ ?_; (repeat (first | (with_reducible exact hB) | (with_reducible (apply below_step; rotate_left; assumption)) | (with_reducible refine below_drew ?_)))))
                            (first | ((go_at_call 16; (with_reducible refine (HS3.out _ ?_).mono ?_); (focus ((repeat (first | (with_reducible exact hB) | (with_reducible (apply below_step; rotate_left; assumption)) | (with_reducible refine below_drew ?_))); done)); rintro e ws1 ⟨rfl, bs1⟩))
                                   | ((go_at_call 16; (with_reducible refine (HS4.out _ ?_).mono ?_); (focus ((repeat (first | (with_reducible exact hB) | (with_reducible (apply below_step; rotate_left; assumption)) | (with_reducible refine below_drew ?_))); done)); rintro e ws2 ⟨rfl, bs2⟩))))
                        | fail
                        all_goals
                          go_wp2
                          go_roundw
                          case rel => exact ⟨k + 1, by omega, by go_num, HBZ.out.trans (Below.mono (by first | exact below_drewN _ _ | (repeat (first | (with_reducible exact hB) | (with_reducible (apply below_step; rotate_left; assumption)) | (with_reducible refine below_drew ?_)))) HBZ.out.size)⟩
                          case measure => simp [intOf]; omega
                  · obtain rfl : k = q := by omega
                    have HE := Lib.hid (HB2.out.trans ((HWE.out.trans (HW.out.mono HWE.out.size)).mono HB2.out.size))
                    go_wp2
                    go_ret
                    exact ⟨rfl, HE.out⟩
end Go.Proofs.YtpincofjopmaaaaGreatDoor
