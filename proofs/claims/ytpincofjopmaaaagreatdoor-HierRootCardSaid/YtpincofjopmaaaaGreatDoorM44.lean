/-
  The walk of the law HierOwners.
  Conditions: as each text of it says.
-/
import Derived.Test.YtpincofjopmaaaaGreatDoorM38
import Derived.Test.YtpincofjopmaaaaGreatDoorM40
import Derived.Test.YtpincofjopmaaaaGreatDoorM37
import Derived.Test.YtpincofjopmaaaaGreatDoorM36
import Derived.Test.YtpincofjopmaaaaGreatDoorM43
import Derived.Test.YtpincofjopmaaaaGreatDoorM28
import Derived.Deep.RegionHeld
import Derived.Deep.DrawnRows
import Derived.Deep.QuietTactic
import Derived.BigQuiet
namespace Go.Proofs.YtpincofjopmaaaaGreatDoor
open Go.RowKit

def asM (m k : Mth) : Bool := k.name == m.name && (signB k == signB m && k.abs == m.abs)
theorem asM_self (m : Mth) : asM m m = true := by unfold asM; simp
theorem name_only {l : List Mth} (hd : (l.map Mth.name).Nodup) {a b : Mth} (ha : a ∈ l) (hb : b ∈ l) (h : a.name = b.name) : a = b := by
  obtain ⟨i, hi, rfl⟩ := List.mem_iff_getElem.1 ha
  obtain ⟨j, hj, rfl⟩ := List.mem_iff_getElem.1 hb
  rw [List.nodup_iff_pairwise_ne, List.pairwise_iff_getElem] at hd
  rcases Nat.lt_trichotomy i j with h1 | h1 | h1
  · exact absurd (by rw [List.getElem_map, List.getElem_map, h]) (hd i j (by rw [List.length_map]; exact hi) (by rw [List.length_map]; exact hj) h1)
  · subst h1; rfl
  · exact absurd (by rw [List.getElem_map, List.getElem_map, h]) (hd j i (by rw [List.length_map]; exact hj) (by rw [List.length_map]; exact hi) h1)
theorem NewOk.small {cs : List Cls} (h : NewOk cs) (i : Nat) (m : Mth) (hm : m ∈ mthsAt (newT cs) i) : m.Small := (h.wise.good i m hm).small
theorem NewOk.clsSmall {cs : List Cls} (h : NewOk cs) (i : Nat) (e : Ent) (he : (newT cs)[i]? = some e) : e.cls.Small := by
  rcases newT_at he with ⟨h1, h2⟩ | ⟨h1, c, h2, rfl⟩
  · have h3 : startL.all (fun e => decide (e.cls.name.length ≤ 32 ∧ e.cls.sup.length ≤ 32 ∧ e.cls.like = [] ∧ e.cls.flds.length ≤ 32 ∧ e.cls.flds.all (fun f => decide (f.name.length ≤ 32 ∧ f.kind.length ≤ 32)) = true) && e.cls.mths.isEmpty) = true := by decide
    have h4 := List.all_eq_true.1 h3 e (List.mem_of_getElem? h2)
    rw [Bool.and_eq_true, List.isEmpty_iff] at h4
    obtain ⟨h5, h6⟩ := h4
    obtain ⟨a1, a2, a3, a4, a5⟩ := of_decide_eq_true h5
    refine ⟨by omega, by omega, by rw [a3]; simp, by omega, by rw [h6]; simp, fun x hx => ?_, fun f hf => ?_, fun m hm => ?_⟩
    · rw [a3] at hx; cases hx
    · have := of_decide_eq_true (List.all_eq_true.1 a5 f hf); omega
    · rw [h6] at hm; cases hm
  · exact (h.lined.good c (List.mem_of_getElem? h2)).small
theorem NewOk.few {cs : List Cls} (h : NewOk cs) (i : Nat) : (mthsAt (newT cs) i).length ≤ 32 := by
  unfold mthsAt
  cases he : (newT cs)[i]? with
  | none => simp
  | some e => exact (h.lined.small i e he).2.2.1
set_option maxHeartbeats 2000000 in
set_option maxRecDepth 100000 in
theorem hierOwners_any {A : Nat → Prop} (cs : List Cls) (sv : Value) (mem : List UInt8) (w : World) (hs : Src 8 ClsR A w sv cs) (hT : HT6 w) (hfit : ∀ c ∈ cs, c.Fit) (hheld : ∀ c ∈ cs, c.held) (hlen : cs.length ≤ 9223372036854775807) (hmem : mem.length ≤ 9223372036854775807) :
    Calls Tryz.prog 13 #[sv, .string (S mem)] w (Said true w) := by
  have HA : Hid (∀ W, Below w.heap.size w W → Calls Tryz.prog 22 #[] W (Said true W)) := Lib.hid (fun W hW => awake6_any W (hT.ft.keep hW) (hT.ct.keep hW))
  have HF := Lib.hid (few6_any cs sv w hs hfit hlen)
  have HN : Hid (∀ W, Below w.heap.size w W → cs.length ≤ 12 → Calls Tryz.prog 23 #[sv] W (NewG cs W)) := Lib.hid (fun W hW hl => new_any cs sv W (ClsR.st.below hs hW) (hT.ft.keep hW) (hT.ct.keep hW) hfit hheld (by omega))
  have HS := Lib.hid hs
  unfold Few6G at HF
  unfold Said at HA
  obtain ⟨so, sc, rfl⟩ := hs.shape
  obtain ⟨n, hn⟩ : ∃ n, n = cs.length := ⟨_, rfl⟩
  rw [← hn] at HF HN HS ⊢
  have HNL := Lib.hid hn
  have zm : ((S mem).size : Int) = (mem.length : Int) := by rw [S_size]
  have HME := Lib.hid hmem
  clear hmem
  clear hs hT hfit hheld hlen hn
  unfold Said
  go_enter Tryz.func13, Tryz.ntmps13
  go_wp2_with fail
  with_reducible refine HF.out.mono ?_
  rintro e w1 ⟨b, rfl, hb12, hb1⟩
  have HB1 := Lib.hid hb1
  have H12 := Lib.hid hb12
  clear hb1 hb12 HF
  cases b with
  | false =>
    go_wp2_with fail
    with_reducible refine (HA.out w1 HB1.out).mono ?_
    rintro e wz0 ⟨rfl, hb⟩
    have HZ0 := Lib.hid (HB1.out.trans (hb.mono HB1.out.size))
    clear hb
    go_wp2
    go_ret
    exact ⟨rfl, HZ0.out⟩
  | true =>
    by_cases hg0 : 100 < mem.length
    · have ig0 : 100 < (mem.length : Int) := by omega
      clear hg0
      go_wp2_with fail
      with_reducible refine (HA.out w1 HB1.out).mono ?_
      rintro e wz0 ⟨rfl, hb⟩
      have HZ0 := Lib.hid (HB1.out.trans (hb.mono HB1.out.size))
      clear hb
      go_wp2
      go_ret
      exact ⟨rfl, HZ0.out⟩
    have ig0 : ¬ (100 < (mem.length : Int)) := by omega
    clear hg0
    have HNW := Lib.hid (HN.out w1 HB1.out (H12.out rfl))
    have HN12 : Hid (n ≤ 12) := Lib.hid (H12.out rfl)
    clear HN H12
    go_wp2_with fail
    with_reducible refine HNW.out.mono ?_
    rintro e w2 h
    rcases h with ⟨i, z, hbad, rfl, hb2⟩ | ⟨hok, T, mb, B, rfl, htb, hb2⟩
    · have hz0 : (z : Int) ≠ 0 := by have := hbad.ne; omega
      have hz1 : ((z : Int) != 0) = true := by simpa using hz0
      have HB2 := Lib.hid (HB1.out.trans (hb2.mono HB1.out.size))
      clear hb2 hbad HNW
      go_wp2_with fail
      with_reducible refine (HA.out w2 HB2.out).mono ?_
      rintro e wz0 ⟨rfl, hb⟩
      have HZ0 := Lib.hid (HB2.out.trans (hb.mono HB2.out.size))
      clear hb
      go_wp2_with fail
      with_reducible refine (HA.out wz0 HZ0.out).mono ?_
      rintro e wz1 ⟨rfl, hb⟩
      have HZ1 := Lib.hid (HZ0.out.trans (hb.mono HZ0.out.size))
      clear hb
      go_wp2
      go_ret
      exact ⟨rfl, HZ1.out⟩
    · have HOK := Lib.hid hok
      have HT := Lib.hid htb.tab
      have HB2 := Lib.hid (HB1.out.trans (hb2.mono HB1.out.size))
      clear hb2 htb hok HNW
      go_wp2_with fail
      with_reducible refine (HA.out w2 HB2.out).mono ?_
      rintro e w3 ⟨rfl, hb⟩
      have HR : Hid (Below w2.heap.size w2 w3) := Lib.hid hb
      clear hb
      have hn12 := HN12.out
      clear HA HN12
      go_wp2
      go_loopw [8] (fun v8 wr => ∃ k : Nat, k ≤ n ∧ v8 = .int .i64 k ∧ Below w2.heap.size w2 wr) (fun v8 _ => n - (intOf v8).toNat)
      case atStart => exact ⟨0, Nat.zero_le _, rfl, HR.out⟩
      case round =>
        obtain ⟨k, hk, rfl, hbw⟩ := hrel
        have HBW := Lib.hid hbw
        clear hbw
        by_cases hlt : k < n
        · obtain ⟨x, hx⟩ : ∃ x, cs[k]? = some x := ⟨_, List.getElem?_eq_getElem (by rw [← HNL.out]; exact hlt)⟩
          obtain ⟨b, o, v, rfl, hv, _, hcl⟩ := Src.elem (ClsR.st.below HS.out HB2.out) k x hx
          obtain ⟨_, _, _, rfl, _⟩ := hv
          have HD : Hid (∀ W, Below w2.heap.size w2 W → W.cell? ⟨b, o + k * 8, none⟩ = some (.string (S x.name))) := Lib.hid (fun W hW => (Only.ofBelow (S := fun _ => False) hW).cell (a := ⟨b, o + k * 8, none⟩) (hcl 0 _ rfl) id)
          have hxt : (newT cs)[8 + k]? = some (linkOne cs x) := by
            unfold newT
            rw [List.getElem?_append_right (by rw [startL_len]; omega), startL_len, show 8 + k - 8 = k by omega, List.getElem?_map, hx]
            rfl
          have hkl : 8 + k < (newT cs).length := (List.getElem?_eq_some_iff.1 hxt).1
          have hpl : placeE (newT cs) x.name = some (8 + k) := HOK.out.wise.uq (8 + k) _ hxt
          have hnm : nmE (newT cs) (8 + k) = x.name := nmE_eq hxt
          have hxl : x.name.length ≤ 32 := HOK.out.wise.sh.nm (8 + k) _ hxt
          have HMT : Hid (∀ W, Below w2.heap.size w2 W → Calls Tryz.prog 40 #[.pointer (some ⟨T, 0, none⟩), .string (S x.name), .string (S mem)] W (MethT (newT cs) (findM (newT cs) (some (8 + k)) mem) W)) := Lib.hid (fun W hW => by
            have h := methodt_any HT.out HOK.out.shape (fun i => by have := HOK.out.few i; omega) HOK.out.small x.name mem (by omega) W hW
            rw [hpl] at h
            exact h)
          unfold MethT at HMT
          have HSB : Hid (∀ (y : Nat) W, y < (newT cs).length → Up (newT cs) (8 + k) y → Below w2.heap.size w2 W → Calls Tryz.prog 30 #[.pointer (some ⟨T, 0, none⟩), .string (S x.name), .string (S (nmE (newT cs) y))] W (fun e w' => e = .returned (.bool true) ∧ Below W.heap.size W w')) := Lib.hid (fun y W hy hu hW => by
            have h := sub_any HT.out HOK.out.shape x.name (nmE (newT cs) y) W hW (by omega) (by have := HOK.out.shape.nmE_le y; omega)
            have q := HOK.out.wise.sub_cls hkl hu hy
            rw [hnm] at q
            rw [q] at h
            exact h)
          have HKL := Lib.hid hkl
          have hk0 : (0 : Int) ≤ (k : Int) := by omega
          have hkn : (k : Int) < (n : Int) := by omega
          generalize x.name = nx at HD HMT HSB
          clear hcl hx hxt hkl hpl hnm hxl
          have d0 := HD.out wr HBW.out
          go_wp2_with fail
          clear d0
          with_reducible refine (HMT.out wr HBW.out).mono ?_
          rintro e w4 ⟨hb4, hres⟩
          have HB4 := Lib.hid (HBW.out.trans (hb4.mono HBW.out.size))
          clear hb4
          rcases hres with ⟨hr, rfl⟩ | ⟨y, m, v, hr, rfl, hv⟩
          · have HB5 := Lib.hid (below_alloc HB4.out (.cells #[.string ⟨#[]⟩, .slice none 0 0, .string ⟨#[]⟩, .bool false, .int .i64 0, .slice none 0 0, .slice none 0 0] 33))
            clear hr HMT HSB
            unfold mthZ
            go_wp2
            go_roundw
            case rel => exact ⟨k + 1, by omega, by go_num, HB5.out⟩
            case measure => simp [intOf]; omega
          · obtain ⟨hyl, hup, hmy, hmn⟩ := HOK.out.wise.owner HKL.out hr
            obtain ⟨ey, hey⟩ : ∃ ey, (newT cs)[y]? = some ey := ⟨_, List.getElem?_eq_getElem hyl⟩
            have hmy2 : m ∈ ey.cls.mths := by rw [mthsAt_eq hey] at hmy; exact hmy
            have hgood : m.Good := HOK.out.wise.good y m hmy
            have HSY := Lib.hid (fun W hW => HSB.out y W hyl hup hW)
            have HGT : Hid (∀ W, Below w2.heap.size w2 W → Calls Tryz.prog 26 #[.pointer (some ⟨T, 0, none⟩), .string (S (nmE (newT cs) y))] W (fun e w' => ∃ v, e = .returned (.tuple #[v, .bool true]) ∧ ClsR (fun k => W.heap.size ≤ k) w' ey.cls v ∧ Below W.heap.size W w')) := Lib.hid (fun W hW => by
              have h := gett_any HT.out HOK.out.clsSmall (nmE (newT cs) y) (by have := HOK.out.shape.nmE_le y; omega) W hW
              rw [(HOK.out.wise.at hyl).1] at h
              refine h.mono ?_
              rintro e w' ⟨hb, hq⟩
              rcases hq with ⟨q, _⟩ | ⟨i, x', v, q, hx', he, hc⟩
              · cases q
              · obtain rfl := Option.some.inj q
                rw [hey] at hx'
                obtain rfl := Option.some.inj hx'
                exact ⟨v, he, hc, hb⟩)
            have HND := Lib.hid (HOK.out.wise.mth y ey hey)
            have HM2 := Lib.hid hmy2
            have HMN := Lib.hid hmn
            have HGD := Lib.hid hgood
            have HGM : Hid (∀ q ∈ ey.cls.mths, q.Good) := Lib.hid (fun q hq => HOK.out.wise.good y q (by rw [mthsAt_eq hey]; exact hq))
            have HMF : Hid (ey.cls.mths.length ≤ 32) := Lib.hid (by have := HOK.out.few y; rw [mthsAt_eq hey] at this; exact this)
            generalize nmE (newT cs) y = ny at HSY HGT
            obtain ⟨_, _, _, rfl, ⟨po, pc, rfl⟩, ⟨co, cc, rfl⟩, ⟨ko, kc, rfl⟩⟩ := mth_shape hv
            have hbA : Below w4.heap.size w4 (w4.alloc (.cells #[.string (S m.name), .slice po m.params.length pc, .string (S m.res), .bool m.abs, .int .i64 m.loc, .slice co m.code.length cc, .slice ko m.cats.length kc] 33)) := below_alloc (Below.refl _ _) _
            have HMV := Lib.hid (MthR.st.keep hv (Only.ofBelow (S := fun _ => False) hbA) (fun _ _ => id))
            have HMX := Lib.hid (Box.new w4 #[.string (S m.name), .slice po m.params.length pc, .string (S m.res), .bool m.abs, .int .i64 m.loc, .slice co m.code.length cc, .slice ko m.cats.length kc] 33)
            have HB5 := Lib.hid (HB4.out.trans (hbA.mono HB4.out.size))
            have HBA := Lib.hid hbA
            clear hr hyl hup hmy hmn hey hmy2 hgood hv HMT HSB hbA
            go_upto_region 10 with fail
            obtain ⟨mx, hmx⟩ : ∃ mx, mx = w4.heap.size := ⟨_, rfl⟩
            rw [← hmx] at HMX ⊢
            generalize hW5 : w4.alloc (.cells #[.string (S m.name), .slice po m.params.length pc, .string (S m.res), .bool m.abs, .int .i64 m.loc, .slice co m.code.length cc, .slice ko m.cats.length kc] 33) = w5 at HMV HMX HB5 HBA ⊢
            clear hW5 hmx
            go_wp2_with fail
            with_reducible refine (HGT.out w5 HB5.out).mono ?_
            rintro e w6 ⟨v6, rfl, hv6, hb6⟩
            obtain ⟨l6, f6, m6, rfl, hl6, hf6, hm6⟩ := hv6
            obtain ⟨lo, lc, rfl⟩ := hl6.shape
            obtain ⟨fo, fc, rfl⟩ := hf6.shape
            obtain ⟨mo, mc, rfl⟩ := hm6.shape
            have hbC : Below w6.heap.size w6 (w6.alloc (.cells #[.string (S ey.cls.name), .string (S ey.cls.sup), .slice lo ey.cls.like.length lc, .bool ey.cls.itf, .bool ey.cls.abs, .bool ey.cls.fin, .slice fo ey.cls.flds.length fc, .slice mo ey.cls.mths.length mc] 26)) := below_alloc (Below.refl _ _) _
            have HCX := Lib.hid (Box.new w6 #[.string (S ey.cls.name), .string (S ey.cls.sup), .slice lo ey.cls.like.length lc, .bool ey.cls.itf, .bool ey.cls.abs, .bool ey.cls.fin, .slice fo ey.cls.flds.length fc, .slice mo ey.cls.mths.length mc] 26)
            have HCM := Lib.hid (MthR.st.below hm6 hbC)
            have HB65 := Lib.hid (hb6.trans (hbC.mono hb6.size))
            have HB7 := Lib.hid (HB5.out.trans ((hb6.trans (hbC.mono hb6.size)).mono HB5.out.size))
            clear hb6 hbC hl6 hf6 hm6 HGT
            go_upto_region 14 with fail
            obtain ⟨cx, hcx⟩ : ∃ cx, cx = w6.heap.size := ⟨_, rfl⟩
            rw [← hcx] at HCX ⊢
            generalize hW7 : w6.alloc (.cells #[.string (S ey.cls.name), .string (S ey.cls.sup), .slice lo ey.cls.like.length lc, .bool ey.cls.itf, .bool ey.cls.abs, .bool ey.cls.fin, .slice fo ey.cls.flds.length fc, .slice mo ey.cls.mths.length mc] 26) = w7 at HCX HCM HB65 HB7 ⊢
            clear hW7 hcx
            have HX7 : Hid (∀ W, Below w7.heap.size w7 W → W.cell? ⟨mx, 0, none⟩ = some (.string (S m.name)) ∧ W.cell? ⟨mx, 1, none⟩ = some (.slice po m.params.length pc) ∧ W.cell? ⟨mx, 2, none⟩ = some (.string (S m.res)) ∧ W.cell? ⟨mx, 3, none⟩ = some (.bool m.abs) ∧ W.cell? ⟨mx, 4, none⟩ = some (.int .i64 m.loc) ∧ W.cell? ⟨mx, 5, none⟩ = some (.slice co m.code.length cc) ∧ W.cell? ⟨mx, 6, none⟩ = some (.slice ko m.cats.length kc) ∧ W.cell? ⟨cx, 7, none⟩ = some (.slice mo ey.cls.mths.length mc)) := Lib.hid (fun W hW => by
              have x1 := (HMX.out.below HB65.out).below hW
              have x2 := HCX.out.below hW
              exact ⟨x1.cell 0 rfl, x1.cell 1 rfl, x1.cell 2 rfl, x1.cell 3 rfl, x1.cell 4 rfl, x1.cell 5 rfl, x1.cell 6 rfl, x2.cell 7 rfl⟩)
            have d0 := HD.out w7 HB7.out
            go_wp2_with fail
            clear d0
            with_reducible refine (HSY.out w7 HB7.out).mono ?_
            rintro e w8 ⟨rfl, hb8⟩
            have HB87 := Lib.hid hb8
            have HB8 := Lib.hid (HB7.out.trans (hb8.mono HB7.out.size))
            obtain ⟨c0, c1, c2, c3, c4, c5, c6, c7⟩ := HX7.out w8 hb8
            have e1 := S_toList m.name
            have e2 := S_toList mem
            have hmn := HMN.out
            rw [hmn] at c0 e1
            clear hb8 hmn HSY
            go_upto_region 16 with fail
            clear c0 c1 c2 c3 c4 c5 c6 e1
            obtain ⟨q, hq⟩ : ∃ q, q = ey.cls.mths.length := ⟨_, rfl⟩
            rw [← hq] at HX7 HCX HCM HMF c7
            have HQ := Lib.hid hq
            have hq32 := HMF.out
            clear hq
            go_wp2
            go_loopw [14, 15] (fun v14 v15 wr => ∃ j : Nat, j ≤ q ∧ v15 = .int .i64 j ∧ v14 = .bool ((ey.cls.mths.take j).any (asM m)) ∧ Below w7.heap.size w7 wr) (fun _ v15 _ => q - (intOf v15).toNat)
            case atStart => exact ⟨0, Nat.zero_le _, rfl, by simp, HB87.out⟩
            case round =>
              obtain ⟨j, hj, rfl, rfl, hb2⟩ := hrel
              have HB := Lib.hid hb2
              obtain ⟨c0, c1, c2, c3, c4, c5, c6, c7⟩ := HX7.out wr hb2
              clear hb2 c0 c1 c2 c3 c4 c5 c6
              by_cases hjl : j < q
              · obtain ⟨mj, hmj⟩ : ∃ mj, ey.cls.mths[j]? = some mj := ⟨_, List.getElem?_eq_getElem (by rw [← HQ.out]; exact hjl)⟩
                have hts := take_any_succ (asM m) ey.cls.mths j mj hmj
                have HMJ := Lib.hid (List.mem_of_getElem? hmj)
                obtain ⟨b2, o2, v2, rfl, hv2, _, hcl2⟩ := Src.elem (MthR.st.below HCM.out HB.out) j mj hmj
                have hj0 : (0 : Int) ≤ (j : Int) := by omega
                have hjn : (j : Int) < (q : Int) := by omega
                have HTS := Lib.hid hts
                clear hts hmj
                have hv3 := hv2
                obtain ⟨_, _, _, rfl, ⟨po2, pc2, rfl⟩, ⟨co2, cc2, rfl⟩, ⟨ko2, kc2, rfl⟩⟩ := mth_shape hv3
                have HS2 : Hid (∀ W, Below wr.heap.size wr W → W.cell? ⟨mx, 0, none⟩ = some (.string (S m.name)) ∧ W.cell? ⟨mx, 1, none⟩ = some (.slice po m.params.length pc) ∧ W.cell? ⟨mx, 2, none⟩ = some (.string (S m.res)) ∧ W.cell? ⟨mx, 3, none⟩ = some (.bool m.abs) ∧ W.cell? ⟨mx, 4, none⟩ = some (.int .i64 m.loc) ∧ W.cell? ⟨mx, 5, none⟩ = some (.slice co m.code.length cc) ∧ W.cell? ⟨mx, 6, none⟩ = some (.slice ko m.cats.length kc) ∧ W.cell? ⟨cx, 7, none⟩ = some (.slice (some ⟨b2, o2, none⟩) q mc) ∧ W.cell? ⟨b2, o2 + j * 7, none⟩ = some (.string (S mj.name)) ∧ W.cell? ⟨b2, o2 + j * 7 + 1, none⟩ = some (.slice po2 mj.params.length pc2) ∧ W.cell? ⟨b2, o2 + j * 7 + 2, none⟩ = some (.string (S mj.res)) ∧ W.cell? ⟨b2, o2 + j * 7 + 3, none⟩ = some (.bool mj.abs) ∧ W.cell? ⟨b2, o2 + j * 7 + 4, none⟩ = some (.int .i64 mj.loc) ∧ W.cell? ⟨b2, o2 + j * 7 + 5, none⟩ = some (.slice co2 mj.code.length cc2) ∧ W.cell? ⟨b2, o2 + j * 7 + 6, none⟩ = some (.slice ko2 mj.cats.length kc2)) := Lib.hid (fun W hW => by
                  obtain ⟨c0, c1, c2, c3, c4, c5, c6, c7⟩ := HX7.out W (HB.out.trans (hW.mono HB.out.size))
                  have ho := Only.ofBelow (S := fun _ => False) hW
                  exact ⟨c0, c1, c2, c3, c4, c5, c6, c7, ho.cell (a := ⟨b2, o2 + j * 7, none⟩) (hcl2 0 _ rfl) id, ho.cell (a := ⟨b2, o2 + j * 7 + 1, none⟩) (hcl2 1 _ rfl) id, ho.cell (a := ⟨b2, o2 + j * 7 + 2, none⟩) (hcl2 2 _ rfl) id, ho.cell (a := ⟨b2, o2 + j * 7 + 3, none⟩) (hcl2 3 _ rfl) id, ho.cell (a := ⟨b2, o2 + j * 7 + 4, none⟩) (hcl2 4 _ rfl) id, ho.cell (a := ⟨b2, o2 + j * 7 + 5, none⟩) (hcl2 5 _ rfl) id, ho.cell (a := ⟨b2, o2 + j * 7 + 6, none⟩) (hcl2 6 _ rfl) id⟩)
                have hB := Below.refl wr.heap.size wr
                have g := HS2.out wr hB
                cases hany : (ey.cls.mths.take j).any (asM m) with
                | true =>
                  rw [hany, Bool.true_or] at HTS
                  clear hany hcl2 hv2 hv3 c7
                  obtain ⟨g0, g1, g2, g3, g4, g5, g6, g7, h0, h1, h2, h3, h4, h5, h6⟩ := g
                  go_upto_region 20 with fail
                  go_quiet (fail)
                  all_goals
                    go_wp2
                    go_roundw
                    case rel => exact ⟨j + 1, by omega, by go_num, by rw [HTS.out], HB.out.trans (Below.mono (by first | exact below_drewN _ _ | (repeat (first | (with_reducible exact hB) | (with_reducible (apply below_step; rotate_left; assumption)) | (with_reducible refine below_drew ?_)))) HB.out.size)⟩
                    case measure => simp [intOf]; omega
                | false =>
                  rw [hany, Bool.false_or] at HTS
                  clear hany
                  by_cases hnm : mj.name = mem
                  · have hmm : mj = m := name_only HND.out HMJ.out HM2.out (by rw [hnm, HMN.out])
                    subst hmm
                    rw [asM_self] at HTS
                    have HSG : Hid (∀ W, Below wr.heap.size wr W → Calls Tryz.prog 16 #[.agg #[.string (S mj.name), .slice po2 mj.params.length pc2, .string (S mj.res), .bool mj.abs, .int .i64 mj.loc, .slice co2 mj.code.length cc2, .slice ko2 mj.cats.length kc2]] W (SaidS (signB mj) W)) := Lib.hid (fun W hW => csign_any mj _ W (MthR.st.keep hv2 (Only.ofBelow (S := fun _ => False) hW) (fun _ _ => id)) HGD.out.brief)
                    have HSM : Hid (∀ W, Below wr.heap.size wr W → Calls Tryz.prog 16 #[.agg #[.string (S mj.name), .slice po mj.params.length pc, .string (S mj.res), .bool mj.abs, .int .i64 mj.loc, .slice co mj.code.length cc, .slice ko mj.cats.length kc]] W (SaidS (signB mj) W)) := Lib.hid (fun W hW => csign_any mj _ W (MthR.st.keep (MthR.st.keep HMV.out (Only.ofBelow (S := fun _ => False) HB65.out) (fun _ _ => id)) (Only.ofBelow (S := fun _ => False) (HB.out.trans (hW.mono HB.out.size))) (fun _ _ => id)) HGD.out.brief)
                    unfold SaidS at HSG HSM
                    have e1 := S_toList mj.name
                    have e3 := S_toList (signB mj)
                    have e4 : (mj.name == mem) = true := by rw [hnm]; exact beq_self_eq_true _
                    have e5 : decide (mj.name = mem) = true := decide_eq_true hnm
                    clear hv2 hv3 hcl2 c7 hnm
                    generalize signB mj = sg at HSG HSM e3
                    obtain ⟨g0, g1, g2, g3, g4, g5, g6, g7, h0, h1, h2, h3, h4, h5, h6⟩ := g
                    go_upto_region 20 with fail
                    first
                    | (go_region_held3 (fun W => W.cell? ⟨mx, 0, none⟩ = some (.string (S mj.name)) ∧ W.cell? ⟨mx, 1, none⟩ = some (.slice po mj.params.length pc) ∧ W.cell? ⟨mx, 2, none⟩ = some (.string (S mj.res)) ∧ W.cell? ⟨mx, 3, none⟩ = some (.bool mj.abs) ∧ W.cell? ⟨mx, 4, none⟩ = some (.int .i64 mj.loc) ∧ W.cell? ⟨mx, 5, none⟩ = some (.slice co mj.code.length cc) ∧ W.cell? ⟨mx, 6, none⟩ = some (.slice ko mj.cats.length kc) ∧ W.cell? ⟨cx, 7, none⟩ = some (.slice (some ⟨b2, o2, none⟩) q mc) ∧ W.cell? ⟨b2, o2 + j * 7, none⟩ = some (.string (S mj.name)) ∧ W.cell? ⟨b2, o2 + j * 7 + 1, none⟩ = some (.slice po2 mj.params.length pc2) ∧ W.cell? ⟨b2, o2 + j * 7 + 2, none⟩ = some (.string (S mj.res)) ∧ W.cell? ⟨b2, o2 + j * 7 + 3, none⟩ = some (.bool mj.abs) ∧ W.cell? ⟨b2, o2 + j * 7 + 4, none⟩ = some (.int .i64 mj.loc) ∧ W.cell? ⟨b2, o2 + j * 7 + 5, none⟩ = some (.slice co2 mj.code.length cc2) ∧ W.cell? ⟨b2, o2 + j * 7 + 6, none⟩ = some (.slice ko2 mj.cats.length kc2)) ((refine HS2.out _ ?_; (repeat (first | (with_reducible exact hB) | (with_reducible (apply below_step; rotate_left; assumption)) | (with_reducible refine below_drew ?_)))))
                        (first | ((go_at_call 16; (with_reducible refine (HSG.out _ ?_).mono ?_); (focus ((repeat (first | (with_reducible exact hB) | (with_reducible (apply below_step; rotate_left; assumption)) | (with_reducible refine below_drew ?_))); done)); rintro e ws1 ⟨rfl, bs1⟩))
                               | ((go_at_call 16; (with_reducible refine (HSM.out _ ?_).mono ?_); (focus ((repeat (first | (with_reducible exact hB) | (with_reducible (apply below_step; rotate_left; assumption)) | (with_reducible refine below_drew ?_))); done)); rintro e ws2 ⟨rfl, bs2⟩))))
                    | fail
                    all_goals
                      go_wp2
                      go_roundw
                      case rel => exact ⟨j + 1, by omega, by go_num, by rw [HTS.out], HB.out.trans (Below.mono (by first | exact below_drewN _ _ | (repeat (first | (with_reducible exact hB) | (with_reducible (apply below_step; rotate_left; assumption)) | (with_reducible refine below_drew ?_)))) HB.out.size)⟩
                      case measure => simp [intOf]; omega
                  · have hno : asM m mj = false := by unfold asM; rw [HMN.out, beq_eq_false_iff_ne.2 hnm]; rfl
                    rw [hno] at HTS
                    have e1 := S_toList mj.name
                    have e4 : (mj.name == mem) = false := beq_eq_false_iff_ne.2 hnm
                    have e5 : decide (mj.name = mem) = false := decide_eq_false hnm
                    clear hv2 hv3 hcl2 c7 hnm hno
                    obtain ⟨g0, g1, g2, g3, g4, g5, g6, g7, h0, h1, h2, h3, h4, h5, h6⟩ := g
                    go_upto_region 20 with fail
                    go_quiet (fail)
                    all_goals
                      go_wp2
                      go_roundw
                      case rel => exact ⟨j + 1, by omega, by go_num, by rw [HTS.out], HB.out.trans (Below.mono (by first | exact below_drewN _ _ | (repeat (first | (with_reducible exact hB) | (with_reducible (apply below_step; rotate_left; assumption)) | (with_reducible refine below_drew ?_)))) HB.out.size)⟩
                      case measure => simp [intOf]; omega
              · obtain rfl : j = q := by omega
                have hall : (ey.cls.mths.take j).any (asM m) = true := by
                  rw [HQ.out, List.take_length]
                  exact List.any_eq_true.2 ⟨m, HM2.out, asM_self m⟩
                rw [hall]
                have HBZ := Lib.hid (HB7.out.trans (HB.out.mono HB7.out.size))
                clear hall
                go_wp2
                go_roundw
                case rel => exact ⟨k + 1, by omega, by go_num, HBZ.out⟩
                case measure => simp [intOf]; omega
        · obtain rfl : k = n := by omega
          have HE := Lib.hid (HB2.out.trans (HBW.out.mono HB2.out.size))
          go_wp2
          go_ret
          exact ⟨rfl, HE.out⟩
end Go.Proofs.YtpincofjopmaaaaGreatDoor
